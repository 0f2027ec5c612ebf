import PyProof.Rows.All
import Wide.All
import OpenK.AllK
import Wide.FinOn
import Lean
import PyProof.EqAt
import PyProof.EqKinds
import PyProof.TupleCall
import KE.LcSums
import KE.KUnpack
import PyProof.P3In
import PyProof.Rows.SortRuns
import PyProof.Rows.SortShell
import PyProof.TupleOfSeq
import PyProof.SetKind
import PyProof.Rows.SetFrom
import PyProof.WalksMore
import PyProof.DictIter
import PyProof.SetRoads
import KE.KDictSum
import KE.KSortedM
import KE.KIntText
import PyProof.StrWalks
import PyProof.EnumMake
import PyProof.EnumStmt
import PyProof.SliceStr2
import PyProof.StrLawsTight
import PyProof.StrLawsChain
import PyProof.ZipIter
import KE.KPairComp
import PyProof.DictItems
import PyProof.DictWalks
import PyProof.SumAny
import PySem.Challenge.RW_midwindow_k05_window_cells
set_option Elab.async false
set_option linter.all false
set_option maxRecDepth 100000
set_option maxHeartbeats 4000000
namespace L2
open PySem PySem.Spec PyProof.Rows

/-- a key: an int or a str -/
abbrev Key := Sum Int Str
def keyIs : Key → Value → Bool
  | .inl k, v => Value.isInt k v
  | .inr x, v => Value.isStrOf x v
def keyH (w : World) : Key → Int
  | .inl k => hashInt k
  | .inr x => hashStr w x
theorem keyIs_shape : ∀ {k : Key} {v : Value}, keyIs k v = true → (∃ i t, k = Sum.inl i ∧ v = Value.int i t) ∨ (∃ x t, k = Sum.inr x ∧ v = Value.str x t)
  | .inl i, v, h => by
    obtain ⟨t, e⟩ := Value.isInt_shape (k := i) (v := v) h
    exact .inl ⟨i, t, rfl, e⟩
  | .inr x, v, h => by
    obtain ⟨t, e⟩ := Value.isStrOf_shape (x := x) (v := v) h
    exact .inr ⟨x, t, rfl, e⟩
theorem key_ll (a b : Int) : decide ((Sum.inl a : Key) = Sum.inl b) = (a == b) := by
  by_cases e : a = b
  · subst e; simp
  · have h : ¬ (Sum.inl a : Key) = Sum.inl b := fun q => e (Sum.inl.inj q)
    rw [decide_eq_false h]
    exact (beq_eq_false_iff_ne.mpr e).symm
theorem key_rr (a b : Str) : decide ((Sum.inr a : Key) = Sum.inr b) = decide (a = b) := by
  by_cases e : a = b
  · subst e; simp
  · have h : ¬ (Sum.inr a : Key) = Sum.inr b := fun q => e (Sum.inr.inj q)
    rw [decide_eq_false h, decide_eq_false e]
theorem key_lr (a : Int) (b : Str) : decide ((Sum.inl a : Key) = Sum.inr b) = false := decide_eq_false (fun q => nomatch q)
theorem key_rl (a : Str) (b : Int) : decide ((Sum.inr a : Key) = Sum.inl b) = false := decide_eq_false (fun q => nomatch q)

def mixKind (prog : Program) (w : World) : PySem.KeyKind prog w Key where
  is := keyIs
  hash := keyH w
  inj := fun v a b ha hb => by
    rcases keyIs_shape ha with ⟨i, t, rfl, rfl⟩ | ⟨x, t, rfl, rfl⟩
    · rcases keyIs_shape hb with ⟨j, u, rfl, e⟩ | ⟨y, u, rfl, e⟩
      · injection e with e1 _; rw [e1]
      · exact nomatch e
    · rcases keyIs_shape hb with ⟨j, u, rfl, e⟩ | ⟨y, u, rfl, e⟩
      · exact nomatch e
      · injection e with e1 _; rw [e1]
  byValue := fun k v h => by
    rcases keyIs_shape h with ⟨i, t, rfl, rfl⟩ | ⟨x, t, rfl, rfl⟩ <;> rfl
  pyHash := fun hv h => by
    rcases keyIs_shape hv with ⟨i, t, rfl, rfl⟩ | ⟨x, t, rfl, rfl⟩
    · exact wpAny_pyHash_int h
    · exact wpAny_pyHash_str h
  eqBool := fun hu hv h => by
    rcases keyIs_shape hu with ⟨i, t, rfl, rfl⟩ | ⟨x, t, rfl, rfl⟩
    · rcases keyIs_shape hv with ⟨j, u, rfl, rfl⟩ | ⟨y, u, rfl, rfl⟩
      · rw [key_ll] at h; exact wpAny_eqBool_int h
      · rw [key_lr] at h; exact SeqAt.EqAt.int_str i t y u _ _ _ _ h
    · rcases keyIs_shape hv with ⟨j, u, rfl, rfl⟩ | ⟨y, u, rfl, rfl⟩
      · rw [key_rl] at h; exact SeqAt.EqAt.str_int x t j u _ _ _ _ h
      · rw [key_rr] at h; exact wpAny_eqBool_str h
  «strs» := fun k x t v h => by
    rcases keyIs_shape h with ⟨i, u, rfl, e⟩ | ⟨y, u, rfl, e⟩
    · exact nomatch e
    · injection e with e1 _
      subst e1
      cases v <;> rfl

end L2

namespace L2
open PySem PySem.Spec PyProof.Rows

/-- a value, without the heap -/
inductive V where
  | non | bl (b : Bool) | int (i : Int) | str (x : Str) | byt (b : Array UInt8) | flt (b : UInt64) | ref (a : Addr) | ty (n : String)
  deriving DecidableEq

def RelV : V → Value → Prop
  | .non, u => u = Value.none
  | .bl b, u => u = Value.bool b
  | .int i, u => ∃ t, u = Value.int i t
  | .str x, u => ∃ t, u = Value.str x t
  | .byt b, u => ∃ t, u = Value.bytes b t
  | .flt b, u => ∃ t, u = Value.float b t
  | .ref a, u => u = Value.ref a
  | .ty n, u => u = Value.type n

abbrev Vals : List V → List Value → Prop := Paired RelV
theorem Vals.length {xs : List V} {us : List Value} (r : Vals xs us) : xs.length = us.length := Paired.length r
theorem Vals.get : ∀ {xs : List V} {us : List Value} {i : Nat} {x : V}, Vals xs us → xs[i]? = some x → ∃ u, us[i]? = some u ∧ RelV x u
  | _, _, _, _, .nil, e => by simp at e
  | _, _, 0, _, .cons r _, e => by simp at e; subst e; exact ⟨_, rfl, r⟩
  | _, _, i + 1, x, .cons _ t, e => by
    obtain ⟨u, h1, h2⟩ := Vals.get (i := i) (x := x) t (by simpa using e)
    exact ⟨u, by simpa using h1, h2⟩
theorem Vals.set {x : V} {u : Value} (r : RelV x u) : ∀ {xs : List V} {us : List Value} (i : Nat), Vals xs us → Vals (xs.set i x) (us.set i u)
  | _, _, _, .nil => .nil
  | _, _, 0, .cons _ t => .cons r t
  | _, _, i + 1, .cons q t => .cons q (Vals.set r i t)
theorem Vals.append : ∀ {xs ys : List V} {us ws : List Value}, Vals xs us → Vals ys ws → Vals (xs ++ ys) (us ++ ws)
  | _, _, _, _, .nil, s => s
  | _, _, _, _, .cons r t, s => .cons r (Vals.append t s)
theorem Vals.take : ∀ {xs : List V} {us : List Value} (n : Nat), Vals xs us → Vals (xs.take n) (us.take n)
  | _, _, 0, _ => .nil
  | _, _, _ + 1, .nil => .nil
  | _, _, n + 1, .cons r t => .cons r (Vals.take n t)
theorem Vals.drop : ∀ {xs : List V} {us : List Value} (n : Nat), Vals xs us → Vals (xs.drop n) (us.drop n)
  | _, _, 0, r => r
  | _, _, _ + 1, .nil => .nil
  | _, _, n + 1, .cons _ t => Vals.drop n t
def RelO : Option V → Option Value → Prop
  | some v, some u => RelV v u
  | none, none => True
  | _, _ => False
def KV {κ : Type} : List (κ × V) → List (κ × Value) → Prop := Paired fun (p : κ × V) (q : κ × Value) => p.1 = q.1 ∧ RelV p.2 q.2

/-- a key of a dict (00_mix): an int or a text -/
def kV : Key → V
  | .inl i => .int i
  | .inr x => .str x

/-- what stands at a tracked address -/
inductive HO where
  /-- a list -/
  | lst (xs : List V)
  /-- a tuple (never changes) -/
  | tup (xs : List V)
  /-- a dict whose keys are ints and texts; one whose keys are tuples of ints and texts (the empty one is both) -/
  | dK (kvs : List (Key × V)) | dT (kvs : List (List Key × V))
  /-- a set of ints: its members, its size -/
  | set (S : Int → Bool) (n : Nat)
  /-- an instance of the class at C, its dict at dx, its attributes -/
  | ins (C dx : Addr) (fs : List (Str × V))
  /-- the dict of the instance at x -/
  | own (x : Addr)
  /-- the dict of an exception -/
  | xd (fs : List (Str × V))
  /-- a bound method, f of x -/
  | met (f x : Addr)
  /-- a range object lo, lo + 1, .. below hi -/
  | rng (lo hi : Int)
  /-- a thing that is known to the object (the script; a dict while a loop walks it): read, never written while it is so -/
  | frz (o : Obj) (u : HO)
  /-- a code object's table -/
  | tbl (ps : Array Value)
  /-- any other thing, by what is true of its one object (a def of one's own: SetO a S n := HO.ext fun h => ..) -/
  | ext (φ : Heap → Prop)

abbrev Hp := Addr → Option HO
def upd (H : Hp) (a : Addr) (o : HO) : Hp := fun b => if b = a then some o else H b
theorem upd_same {H : Hp} {a : Addr} {o : HO} : upd H a o a = some o := by unfold upd; rw [if_pos rfl]
theorem upd_ne {H : Hp} {a b : Addr} {o : HO} (h : b ≠ a) : upd H a o b = H b := by unfold upd; rw [if_neg h]
/-- two objects of different content stand apart -/
theorem ne_of {H : Hp} {a b : Addr} {o u : HO} (h : H a = some o) (h' : H b = some u) (d : o ≠ u) : a ≠ b := by
  intro e; subst e; rw [h] at h'; exact d (Option.some.inj h')
theorem ne_of_none {H : Hp} {a b : Addr} {o : HO} (h : H a = some o) (h' : H b = none) : a ≠ b := by
  intro e; subst e; rw [h] at h'; cases h'

section
variable (P : Program) (w : World)
def ObjOk (H : Hp) (h : Heap) (a : Addr) : HO → Prop
  | .lst xs => xs.length ≤ sizeLine ∧ ∃ (its : List Value) (n : Nat), Vals xs its ∧ h.get? a = some { cls := .type "list", data := .seq its.toArray n }
  | .tup xs => xs.length ≤ sizeLine ∧ ∃ its : List Value, Vals xs its ∧ IsTup h a its.toArray
  | .dK kvs => kvs.length ≤ sizeLine ∧ (a == sysModules) = false ∧ ∃ vs, KV kvs vs ∧ h.DictOf (mixKind P w) a vs
  | .dT kvs => kvs.length ≤ sizeLine ∧ (a == sysModules) = false ∧ ∃ xs : List (List Key × Addr × Value),
      Paired (fun (p : List Key × V) (q : List Key × Addr × Value) => p.1 = q.1 ∧ H q.2.1 = some (.tup (p.1.map kV)) ∧ RelV p.2 q.2.2) kvs xs ∧
      ∃ o es ep, h.get? a = some o ∧ o.ExactDict ∧ o.data = .dict es ep ∧ es.toList = xs.map (entryOfKey (tupleKind (mixKind P w))) ∧ (xs.map (·.1)).Nodup
  | .set S n => h.SetOf (intKind P w) a S n
  | .ins C dx fs => H dx = some (.own a) ∧ fs.length ≤ 1000 ∧ dx ≠ a ∧ h.get? a = some (PySem.W.instObj C dx) ∧
      ∃ mA, h.Ns1 dx mA ∧ (∀ f, RelO (fs.lookup f) (mA f)) ∧ PySem.Within mA (fs.map (·.1))
  | .own _ => ∃ o, h.get? a = some o
  | .xd fs => ∃ mA, h.Ns1 a mA ∧ ∀ f, RelO (fs.lookup f) (mA f)
  | .rng lo hi => ∃ t u v, h.get? a = some { cls := .type "range", data := .fields #[.int lo t, .int hi u, .int 1 v] }
  | .frz o u => h.get? a = some o ∧ ObjOk H h a u
  | .tbl ps => h.get? a = some { cls := .none, data := .fields ps }
  | .met f x => h.get? a = some (PySem.W.methodObj (.ref f) (.ref x))
  | .ext φ => φ h ∧ (∃ o, h.get? a = some o) ∧ ∀ h1 h2 : Heap, φ h1 → (∀ o, h1.get? a = some o → h2.get? a = some o) → φ h2
/-- the abstract heap is held -/
def HOk (H : Hp) (h : Heap) : Prop := ∀ a o, H a = some o → ObjOk P w H h a o
end

section
variable {P : Program} {w : World} {H H' : Hp} {h h' : Heap} {a : Addr} {o : HO}
theorem ObjOk.lt (x : ObjOk P w H h a o) : a < h.objs.size := by
  cases o with
  | lst xs => obtain ⟨_, _, _, _, e⟩ := x; exact Heap.lt_size e
  | tup xs => obtain ⟨_, _, _, p⟩ := x; exact p.lt
  | dK kvs => obtain ⟨_, _, _, _, o, _, _, e, _⟩ := x; exact Heap.lt_size e
  | dT kvs => obtain ⟨_, _, _, _, o, _, _, e, _⟩ := x; exact Heap.lt_size e
  | set S n => obtain ⟨o, _, _, _, e, _⟩ := x; exact Heap.lt_size e
  | ins C dx fs => obtain ⟨_, _, _, e, _⟩ := x; exact Heap.lt_size e
  | own y => obtain ⟨_, e⟩ := x; exact Heap.lt_size e
  | xd fs => obtain ⟨_, ⟨_, _, _, e, _⟩, _⟩ := x; exact Heap.lt_size e
  | rng lo hi => obtain ⟨_, _, _, e⟩ := x; exact Heap.lt_size e
  | frz ob u => obtain ⟨e, _⟩ := x; exact Heap.lt_size e
  | tbl ps => exact Heap.lt_size (show h.get? a = some _ from x)
  | met f y => exact Heap.lt_size (show h.get? a = some _ from x)
  | ext φ => obtain ⟨_, ⟨_, e⟩, _⟩ := x; exact Heap.lt_size e
theorem Paired.mapP {α β : Type} {F G : α → β → Prop} : ∀ {l₁ : List α} {l₂ : List β}, Paired F l₁ l₂ → (∀ a b, F a b → G a b) → Paired G l₁ l₂
  | _, _, .nil, _ => .nil
  | _, _, .cons r t, f => .cons (f _ _ r) (Paired.mapP t f)
/-- what an object's description leans on: its own object, its own dict, the tuples -/
theorem ObjOk.stay (x : ObjOk P w H h a o) (k : ∀ b u, (b = a ∨ H b = some (.own a)) → h.get? b = some u → h'.get? b = some u)
    (ho : ∀ b, H b = some (.own a) → H' b = some (.own a)) (ht : ∀ b xs, H b = some (.tup xs) → H' b = some (.tup xs)) : ObjOk P w H' h' a o := by
  induction o with
  | lst xs => obtain ⟨z, its, n, r, e⟩ := x; exact ⟨z, its, n, r, k _ _ (.inl rfl) e⟩
  | tup xs => obtain ⟨z, its, r, ob, e, c⟩ := x; exact ⟨z, its, r, ob, k _ _ (.inl rfl) e, c⟩
  | dK kvs => obtain ⟨z, y, vs, r, ob, es, ep, e, c⟩ := x; exact ⟨z, y, vs, r, ob, es, ep, k _ _ (.inl rfl) e, c⟩
  | dT kvs =>
    obtain ⟨z, y, xs, r, ob, es, ep, e, c⟩ := x
    exact ⟨z, y, xs, Paired.mapP r fun p q z => ⟨z.1, ht _ _ z.2.1, z.2.2⟩, ob, es, ep, k _ _ (.inl rfl) e, c⟩
  | set S n => obtain ⟨ob, es, ep, t, e, c⟩ := x; exact ⟨ob, es, ep, t, k _ _ (.inl rfl) e, c⟩
  | ins C dx fs =>
    obtain ⟨d, z, ne, e, mA, ⟨od, es, ep, e2, c⟩, r⟩ := x
    exact ⟨ho _ d, z, ne, k _ _ (.inl rfl) e, mA, ⟨od, es, ep, k _ _ (.inr d) e2, c⟩, r⟩
  | own y => obtain ⟨ob, e⟩ := x; exact ⟨ob, k _ _ (.inl rfl) e⟩
  | xd fs => obtain ⟨mA, ⟨od, es, ep, e, c⟩, r⟩ := x; exact ⟨mA, ⟨od, es, ep, k _ _ (.inl rfl) e, c⟩, r⟩
  | rng lo hi => obtain ⟨t, u, v, e⟩ := x; exact ⟨t, u, v, k _ _ (.inl rfl) e⟩
  | frz ob u ih => obtain ⟨e, q⟩ := x; exact ⟨k _ _ (.inl rfl) e, ih q⟩
  | tbl ps =>
    have e : h.get? a = some { cls := .none, data := .fields ps } := x
    show h'.get? a = some { cls := .none, data := .fields ps }
    exact k a _ (.inl rfl) e
  | met f y =>
    have e : h.get? a = some (PySem.W.methodObj (.ref f) (.ref y)) := x
    show h'.get? a = some (PySem.W.methodObj (.ref f) (.ref y))
    exact k a _ (.inl rfl) e
  | ext φ => obtain ⟨p, ⟨o, e⟩, st⟩ := x; exact ⟨st _ _ p fun o q => k _ _ (.inl rfl) q, ⟨o, k _ _ (.inl rfl) e⟩, st⟩
theorem HOk.lt (x : HOk P w H h) (e : H a = some o) : a < h.objs.size := (x a o e).lt
theorem HOk.fresh (x : HOk P w H h) (e : h.objs.size ≤ a) : H a = none := by
  cases q : H a with
  | none => rfl
  | some u => exact absurd (Nat.lt_of_lt_of_le (x.lt q) e) (Nat.lt_irrefl _)
/-- every object of the heap is kept -/
theorem HOk.kept (x : HOk P w H h) (k : ∀ b u, h.get? b = some u → h'.get? b = some u) : HOk P w H h' := fun a o e =>
  (x a o e).stay (fun b u _ q => k b u q) (fun _ q => q) fun _ _ q => q
/-- a new object is laid and tracked -/
theorem HOk.laid (x : HOk P w H h) (k : ∀ b u, h.get? b = some u → h'.get? b = some u) (hp : h.objs.size ≤ a) (new : ObjOk P w (upd H a o) h' a o) : HOk P w (upd H a o) h' := fun b u e => by
  have hn := x.fresh hp
  by_cases hb : b = a
  · subst hb; rw [upd_same] at e; cases e; exact new
  · rw [upd_ne hb] at e
    exact (x b u e).stay (fun c v _ q => k c v q) (fun c q => by rw [upd_ne (ne_of_none q hn)]; exact q) fun c xs q => by rw [upd_ne (ne_of_none q hn)]; exact q
end

/-- what may be read as u: it is u, or a known u -/
def Rd (H : Hp) (a : Addr) (u : HO) : Prop := H a = some u ∨ ∃ o, H a = some (.frz o u)
theorem Rd.of {H : Hp} {a : Addr} {u : HO} (h : H a = some u) : Rd H a u := .inl h
theorem Rd.ok {P : Program} {w : World} {H : Hp} {h : Heap} {a : Addr} {u : HO} (r : Rd H a u) (x : HOk P w H h) : ObjOk P w H h a u := by
  rcases r with r | ⟨o, r⟩
  · exact x a u r
  · obtain ⟨_, q⟩ := x a _ r
    exact q
/-- what may be written -/
def Mut : Option HO → Prop
  | some (.lst _) => True
  | some (.dK _) => True
  | some (.dT _) => True
  | some (.set _ _) => True
  | some (.ins _ _ _) => True
  | some (.ext _) => True
  | _ => False
section
variable {P : Program} {w : World} {H : Hp} {h h' : Heap} {x e : Addr} {o' : HO}
/-- the object at e is changed: x itself, or the dict of the instance x -/
theorem HOk.write (ok : HOk P w H h) (mu : Mut (H x)) (he : e = x ∨ H e = some (.own x)) (k : ∀ b u, b ≠ e → h.get? b = some u → h'.get? b = some u) (heo : ∃ u, h'.get? e = some u)
    (new : ObjOk P w (upd H x o') h' x o') : HOk P w (upd H x o') h' := fun b u q => by
  have nown : ∀ c y, H c = some (.own y) → c ≠ x := fun c y r z => by subst z; rw [r] at mu; exact mu
  have ntup : ∀ c xs, H c = some (.tup xs) → c ≠ x := fun c xs r z => by subst z; rw [r] at mu; exact mu
  by_cases hb : b = x
  · subst hb; rw [upd_same] at q; cases q; exact new
  · rw [upd_ne hb] at q
    by_cases hbe : b = e
    · have q' : H b = some (.own x) := by
        rcases he with z | z
        · exact absurd (hbe.trans z) hb
        · rw [hbe]; exact z
      rw [q] at q'; cases q'
      obtain ⟨v, hv⟩ := heo
      exact ⟨v, by rw [hbe]; exact hv⟩
    · refine (ok b u q).stay (fun c v hc r => k c v ?_ r) (fun c r => by rw [upd_ne (nown c b r)]; exact r) fun c xs r => by rw [upd_ne (ntup c xs r)]; exact r
      rcases hc with rfl | hc
      · exact hbe
      · rintro rfl
        rcases he with z | z
        · exact nown c b hc z
        · rw [hc] at z; cases z; exact hb rfl
end

structure Un (fs ex : List Addr) (H H' : Hp) (h h' : Heap) : Prop where
  keep : ∀ b o, h.get? b = some o → H b = none → b ∉ fs → b ∉ ex → h'.get? b = some o
  slot : ∀ b o, h.get? b = some o → H b = none → b ∈ fs → b ∉ ex → ∃ sl, h'.get? b = some { o with slots := sl }
  free : ∀ b o, h.get? b = some o → H b = none → b ∉ ex → H' b = none
  there : ∀ b o, h.get? b = some o → b ∉ ex → ∃ o', h'.get? b = some o'
  tups : ∀ b xs, H b = some (.tup xs) → H' b = some (.tup xs)
  frzs : ∀ b o u, H b = some (.frz o u) → H' b = some (.frz o u)
  tbls : ∀ b ps, H b = some (.tbl ps) → ∃ more, H' b = some (.tbl (ps ++ more))
section
variable {fs fs' ex ex' : List Addr} {H H1 H2 : Hp} {h h1 h2 h' : Heap} {a x e : Addr} {o : HO}
theorem Un.any (u : Un fs ex H H1 h h1) {b : Addr} {ob : Obj} (q : h.get? b = some ob) (n : H b = none) (hx : b ∉ ex) : ∃ sl, h1.get? b = some { ob with slots := sl } := by
  by_cases hb : b ∈ fs
  · exact u.slot b ob q n hb hx
  · exact ⟨ob.slots, u.keep b ob q n hb hx⟩
theorem Un.trans (a : Un fs ex H H1 h h1) (b : Un fs ex H1 H2 h1 h2) : Un fs ex H H2 h h2 where
  keep := fun c ob q n hc hx => b.keep c ob (a.keep c ob q n hc hx) (a.free c ob q n hx) hc hx
  slot := fun c ob q n hc hx => by
    obtain ⟨sl, e1⟩ := a.slot c ob q n hc hx
    obtain ⟨sl', e2⟩ := b.slot c _ e1 (a.free c ob q n hx) hc hx
    exact ⟨sl', e2⟩
  free := fun c ob q n hx => by
    obtain ⟨o', e1⟩ := a.there c ob q hx
    exact b.free c o' e1 (a.free c ob q n hx) hx
  there := fun c ob q hx => by
    obtain ⟨o', e1⟩ := a.there c ob q hx
    exact b.there c o' e1 hx
  tups := fun c xs q => b.tups c xs (a.tups c xs q)
  frzs := fun c ob xs q => b.frzs c ob xs (a.frzs c ob xs q)
  tbls := fun c ps q => by
    obtain ⟨m1, e1⟩ := a.tbls c ps q
    obtain ⟨m2, e2⟩ := b.tbls c _ e1
    exact ⟨m1 ++ m2, by rw [e2, Array.append_assoc]⟩
theorem Un.kept (k : ∀ b u, h.get? b = some u → h'.get? b = some u) : Un fs ex H H h h' :=
  ⟨fun b ob q _ _ _ => k b ob q, fun b ob q _ _ _ => ⟨ob.slots, k b ob q⟩, fun _ _ _ n _ => n, fun b ob q _ => ⟨ob, k b ob q⟩, fun _ _ q => q, fun _ _ _ q => q, fun _ ps q => ⟨#[], by rw [q]; simp⟩⟩
theorem Un.refl : Un fs ex H H h h := Un.kept fun _ _ q => q
theorem Un.laid (k : ∀ b u, h.get? b = some u → h'.get? b = some u) (hp : h.objs.size ≤ a) (hn : H a = none) : Un fs ex H (upd H a o) h h' where
  keep := fun b u q _ _ _ => k b u q
  slot := fun b u q _ _ _ => ⟨u.slots, k b u q⟩
  free := fun b u q n _ => by rw [upd_ne (Nat.ne_of_lt (Nat.lt_of_lt_of_le (Heap.lt_size q) hp))]; exact n
  there := fun b u q _ => ⟨u, k b u q⟩
  tups := fun b xs q => by rw [upd_ne (ne_of_none q hn)]; exact q
  frzs := fun b u xs q => by rw [upd_ne (ne_of_none q hn)]; exact q
  tbls := fun b ps q => ⟨#[], by rw [upd_ne (ne_of_none q hn), q]; simp⟩
theorem Un.write (mu : Mut (H x)) (he : e = x ∨ H e = some (.own x)) (k : ∀ b u, b ≠ e → h.get? b = some u → h'.get? b = some u) (heo : ∃ u, h'.get? e = some u) : Un fs ex H (upd H x o) h h' := by
  have hx : ∀ b, H b = none → b ≠ x := fun b n z => by subst z; rw [n] at mu; exact mu
  have hb : ∀ b, H b = none → b ≠ e := fun b n z => by
    subst z
    rcases he with r | r
    · exact hx b n r
    · rw [n] at r; cases r
  have hm : ∀ b u, H b = some u → ¬ Mut (some u) → b ≠ x := fun b u q nm z => by subst z; rw [q] at mu; exact nm mu
  refine ⟨fun b u q n _ _ => k b u (hb b n) q, fun b u q n _ _ => ⟨u.slots, k b u (hb b n) q⟩, fun b u q n _ => by rw [upd_ne (hx b n)]; exact n, fun b u q _ => ?_,
    fun b xs q => by rw [upd_ne (hm b _ q fun z => z)]; exact q, fun b u xs q => by rw [upd_ne (hm b _ q fun z => z)]; exact q, fun b ps q => ⟨#[], by rw [upd_ne (hm b _ q fun z => z), q]; simp⟩⟩
  by_cases hbe : b = e
  · subst hbe; exact heo
  · exact ⟨u, k b u hbe q⟩
theorem Un.mono (u : Un fs ex H H1 h h1) (hs : ∀ b ∈ fs, b ∈ fs') (hx : ∀ b ∈ ex, b ∈ ex') : Un fs' ex' H H1 h h1 :=
  ⟨fun b ob q n hb he => u.keep b ob q n (fun z => hb (hs b z)) fun z => he (hx b z), fun _ _ q n _ he => u.any q n fun z => he (hx _ z), fun b ob q n he => u.free b ob q n fun z => he (hx b z), fun b ob q he => u.there b ob q fun z => he (hx b z), u.tups, u.frzs, u.tbls⟩
end

def trk (h : Heap) (H : Hp) : List Addr := (List.range h.objs.size).filter fun a => (H a).isSome
def hidT (h : Heap) (H : Hp) : Heap := PySem.W.hideAll h (trk h H)
theorem hidT_size (h : Heap) (H : Hp) : (hidT h H).objs.size = h.objs.size := PySem.W.hideAll_size _ _
theorem hidT_get {h : Heap} {H : Hp} {b : Addr} {o : Obj} (e : h.get? b = some o) (n : H b = none) : (hidT h H).get? b = some o :=
  PySem.W.hideAll_get _ e fun hm => by
    have q : (H b).isSome = true := (List.mem_filter.mp hm).2
    rw [n] at q; simp at q
theorem of_hidT {h : Heap} {H : Hp} {b : Addr} {o : Obj} (e : (hidT h H).get? b = some o) : h.get? b = some o ∧ H b = none := by
  have e' : h.get? b = some o := PySem.W.of_hideAll (trk h H) e
  refine ⟨e', ?_⟩
  cases q : H b with
  | none => rfl
  | some x =>
    have hm : b ∈ trk h H := List.mem_filter.mpr ⟨List.mem_range.mpr (Heap.lt_size e'), by simp [q]⟩
    have z : (hidT h H).get? b = none := PySem.W.hideAll_none (trk h H) hm
    rw [z] at e; cases e

def allNews (g h : Heap) (L : Addr) : List (Addr × Obj) := (List.range h.objs.size).filterMap fun a => if a = L ∨ (g.get? a).isSome = true then none else (h.get? a).map fun o => (a, o)
def rest (g h : Heap) (L d : Addr) : List (Addr × Obj) := (allNews g h L).filter fun p => decide (p.1 ≠ d)
end L2

namespace L2
open PySem PySem.Spec PyProof.Rows

/-- the module's facts, over the base: the heap at the law's entry without what is tracked there -/
structure Mod (K : PySem.W.Frag) (mg : Str → Option Value) (base : Heap) : Prop where
  kin : K.In base
  glob : base.Ns mainGlobals mg
  blt : ∃ mb, base.Ns builtinsNs mb ∧ ∀ x : Str, x ≠ "__name__" → mb x = bootBuiltins x
  nolimit : base.NoLimit

/-- the context: a def's body (or a comprehension's block) running. base: fixed through the whole law; sZ, HZ: the entry; outer: the frames whose slots others may change (a def's callers); stack: all frames that run;
   ex: iterators that were made ahead of the entry and are walked here (a comprehension's); fn: the names whose cells were made at the entry (a def: all; a comprehension's block: its own); calm: not within an except suite; pn: pins that every state bears; xe: what is wanted of an exception that leaves the code -/
structure Cx where
  prog : Program
  w : World
  K : PySem.W.Frag
  mg : Str → Option Value
  base : Heap
  A : Around
  N : List Str
  sZ : Shared
  HZ : Hp
  env : Env
  outer : List Env
  stack : List Env
  ex : List Addr
  fn : Str → Bool
  calm : Bool
  pn : List (Addr × Obj)
  xe : Value → Shared → Prop
/-- the callers' frames -/
def frs (l : List Env) : List Addr := l.filterMap (·.frame)
abbrev Cx.fs (X : Cx) : List Addr := frs X.outer

def Vis (sc : Scope) (x : Str) : Prop := sc.names.lookup x = some .local ∨ sc.names.lookup x = some .cell ∨ sc.names.lookup x = some .free
def Loc (sc : Scope) (x : Str) : Prop := sc.names.lookup x = some .local ∨ sc.names.lookup x = some .cell
def Look (env : Env) (h : Heap) (m : Str → Option Value) (x : Str) (u : Value) : Prop :=
  (env.kindOf x = some .local ∧ m x = some u) ∨ ((env.kindOf x = some .cell ∨ env.kindOf x = some .free) ∧ ∃ c, env.cells.lookup x = some c ∧ h.IsCell c (some u))

structure Cx.Ok (X : Cx) : Prop where
  mod : Mod X.K X.mg X.base
  kind : X.env.scope.kind = .function
  glob : X.env.globals = mainGlobals
  blt : X.env.builtins = builtinsNs
  above : X.sZ.heap.objs.size ≤ X.env.locals
  inj : ∀ x y c, X.env.cells.lookup x = some c → X.env.cells.lookup y = some c → x = y
  has : ∀ x, (X.env.kindOf x = some .cell ∨ X.env.kindOf x = some .free) → ∃ c, X.env.cells.lookup x = some c
  cab : ∀ x c, X.fn x = true → X.env.cells.lookup x = some c → X.sZ.heap.objs.size ≤ c
  hd : X.calm = true → X.A.handled = none
  frames : X.A.frames = some X.stack
  stk : X.stack = X.outer ∨ (X.stack = X.env :: X.outer ∧ X.env.frame = some X.env.locals)
  exf : ∀ b ∈ X.ex, b ≠ X.env.locals ∧ ∀ x c, X.env.cells.lookup x = some c → c ≠ b
  bs : ∀ b o, X.base.get? b = some o → X.sZ.heap.get? b = some o ∧ X.HZ b = none
  bsz : X.base.objs.size ≤ X.sZ.heap.objs.size
  noex : ∀ b o, X.base.get? b = some o → b ∉ X.ex
  exfs : ∀ b ∈ X.ex, b ∉ X.fs
  funs : X.sZ.heap.FunFrames X.base X.outer
  frf : ∀ b ∈ X.fs, X.HZ b = none

structure Inv (X : Cx) (pins : List (Addr × Obj)) (σ : List (Option V)) (H : Hp) (s : Shared) : Prop where
  ok : X.Ok
  os : s.os = X.sZ.os
  bare : AllBare s.gens
  base : Un X.fs X.ex X.HZ H X.sZ.heap s.heap
  loc : ∃ m, s.heap.Ns X.env.locals m ∧ ∀ (i : Nat) (x : Str) (v : V), X.N[i]? = some x → σ[i]? = some (some v) → Vis X.env.scope x → ∃ u, RelV v u ∧ Look X.env s.heap m x u
  cell : ∀ x c, X.env.cells.lookup x = some c → ∃ v, s.heap.IsCell c v
  free : H X.env.locals = none
  freeC : ∀ x c, X.env.cells.lookup x = some c → H c = none
  pin : ∀ p ∈ X.pn ++ pins, s.heap.get? p.1 = some p.2 ∧ H p.1 = none ∧ p.1 ≠ X.env.locals ∧ p.1 ∉ X.fs ∧ ∀ v, p.2.data ≠ .cell v
  hok : HOk X.prog X.w H s.heap
  len : σ.length = X.N.length

section
variable {X : Cx} {pins : List (Addr × Obj)} {σ : List (Option V)} {H H' : Hp} {s : Shared} {h' : Heap}

theorem Cx.Ok.nofr (ok : X.Ok) {b : Addr} {o : Obj} (e : X.base.get? b = some o) : b ∉ X.fs := fun hb => by
  have := (ok.funs.mem hb).1
  rw [e] at this; cases this
theorem Inv.bs (I : Inv X pins σ H s) : ∀ b o, X.base.get? b = some o → s.heap.get? b = some o ∧ H b = none := fun b o e =>
  ⟨I.base.keep b o (I.ok.bs b o e).1 (I.ok.bs b o e).2 (I.ok.nofr e) (I.ok.noex b o e), I.base.free b o (I.ok.bs b o e).1 (I.ok.bs b o e).2 (I.ok.noex b o e)⟩
theorem Inv.bk (I : Inv X pins σ H s) : ∀ b o, X.base.get? b = some o → s.heap.get? b = some o := fun b o e => (I.bs b o e).1
theorem Inv.mod (I : Inv X pins σ H s) : Mod X.K X.mg X.base := I.ok.mod
theorem Inv.kIn (I : Inv X pins σ H s) : X.K.In s.heap := I.ok.mod.kin.keeps I.bk
theorem Inv.nolimit (I : Inv X pins σ H s) : s.heap.NoLimit := I.ok.mod.nolimit.keeps I.bk
theorem Inv.lt (I : Inv X pins σ H s) : X.env.locals < s.heap.objs.size := let ⟨_, hn, _⟩ := I.loc; hn.lt
theorem Inv.sz (I : Inv X pins σ H s) : X.sZ.heap.objs.size ≤ s.heap.objs.size := Nat.le_trans I.ok.above (Nat.le_of_lt I.lt)
theorem Inv.nofs (I : Inv X pins σ H s) {a : Addr} (h : s.heap.objs.size ≤ a) : a ∉ X.fs := fun hb => by
  obtain ⟨_, o, ho, _⟩ := I.ok.funs.mem hb
  exact absurd (Nat.lt_of_lt_of_le (Heap.lt_size ho) (Nat.le_trans I.sz h)) (Nat.lt_irrefl _)
theorem Inv.cne (I : Inv X pins σ H s) : ∀ x c, X.env.cells.lookup x = some c → c ≠ X.env.locals := fun x c e z => by
  obtain ⟨v, o, ho, hd⟩ := I.cell x c e
  obtain ⟨m, ⟨o', es, ep, ho', hd', _⟩, _⟩ := I.loc
  rw [z, ho'] at ho; cases ho; rw [hd'] at hd; cases hd
theorem Inv.funs (I : Inv X pins σ H s) : s.heap.FunFrames X.base X.outer := by
  have all : ∀ (l : List Env), (∀ b ∈ frs l, b ∈ X.fs) → X.sZ.heap.FunFrames X.base l → s.heap.FunFrames X.base l := by
    intro l
    induction l with
    | nil => intro _ _; trivial
    | cons env r ih =>
      intro hs hl
      obtain ⟨hk, ⟨L, o, hf, hn, ho, hd⟩, hr⟩ := hl
      have hL : L ∈ X.fs := hs L (by unfold frs; rw [List.filterMap_cons, hf]; exact List.mem_cons_self)
      obtain ⟨sl, e⟩ := I.base.slot L o ho (I.ok.frf L hL) hL fun z => I.ok.exfs L z hL
      exact ⟨hk, ⟨L, _, hf, hn, e, hd⟩, ih (fun b hb => hs b (by unfold frs; rw [List.filterMap_cons, hf]; exact List.mem_cons_of_mem _ hb)) hr⟩
  exact all X.outer (fun _ hb => hb) I.ok.funs

/-- the frames that run, for a call -/
theorem Inv.stack (I : Inv X pins σ H s) : s.heap.FunFrames X.base X.stack := by
  rcases I.ok.stk with e | ⟨e, hf⟩
  · rw [e]; exact I.funs
  · rw [e]
    obtain ⟨m, hn, _⟩ := I.loc
    refine .cons (by rw [I.ok.kind]; decide) hf hn ?_ I.funs
    exact Heap.get?_none_of_le (Nat.le_trans I.ok.bsz I.ok.above)
theorem Inv.stkSub (I : Inv X pins σ H s) : ∀ b ∈ frs X.stack, b ∈ X.env.locals :: X.fs := fun b hb => by
  rcases I.ok.stk with e | ⟨e, hf⟩
  · rw [e] at hb; exact List.mem_cons_of_mem _ hb
  · rw [e] at hb
    unfold frs at hb
    rw [List.filterMap_cons, hf] at hb
    exact hb
theorem Inv.stkFree (I : Inv X pins σ H s) : ∀ b ∈ frs X.stack, H b = none := fun b hb => by
  rcases List.mem_cons.mp (I.stkSub b hb) with e | hb
  · rw [e]; exact I.free
  · obtain ⟨_, o, ho, _⟩ := I.ok.funs.mem hb
    exact I.base.free b o ho (I.ok.frf b hb) fun z => I.ok.exfs b z hb

/-- THE STEP: the untracked objects but the frame and the records at ch are kept (the callers' frames up to slots), the frame's map is kept, the new abstract heap is held -/
theorem Inv.step {g' : Array GenState} {t' : Nat} {d' : Drawn} {ch : List Addr} (I : Inv X pins σ H s)
    (hch : ∀ b ∈ ch, (b ∈ X.ex ∨ X.sZ.heap.objs.size ≤ b) ∧ b ≠ X.env.locals ∧ (∀ x c, X.env.cells.lookup x = some c → c ≠ b) ∧ ∀ p ∈ X.pn ++ pins, p.1 ≠ b)
    (keep : ∀ b o, b ≠ X.env.locals → b ∉ X.fs → b ∉ ch → s.heap.get? b = some o → H b = none → h'.get? b = some o)
    (slot : ∀ b o, b ≠ X.env.locals → b ∈ X.fs → b ∉ ch → s.heap.get? b = some o → H b = none → ∃ sl, h'.get? b = some { o with slots := sl }) (free : ∀ b o, b ∉ ch → s.heap.get? b = some o → H b = none → H' b = none)
    (there : ∀ b o, b ∉ ch → s.heap.get? b = some o → ∃ o', h'.get? b = some o')
    (tups : ∀ b xs, H b = some (.tup xs) → H' b = some (.tup xs)) (frzs : ∀ b o u, H b = some (.frz o u) → H' b = some (.frz o u)) (tbls : ∀ b ps, H b = some (.tbl ps) → ∃ more, H' b = some (.tbl (ps ++ more)))
    (ns : ∀ m, s.heap.Ns X.env.locals m → h'.Ns X.env.locals m) (hok : HOk X.prog X.w H' h') (hg : AllBare g') :
    Inv X pins σ H' { s with heap := h', gens := g', drawn := d', toks := t' } := by
  have neL : ∀ b o, X.sZ.heap.get? b = some o → b ≠ X.env.locals := fun b o e => Nat.ne_of_lt (Nat.lt_of_lt_of_le (Heap.lt_size e) I.ok.above)
  have neC : ∀ b o, X.sZ.heap.get? b = some o → b ∉ X.ex → b ∉ ch := fun b o e hx hb => by
    rcases (hch b hb).1 with z | z
    · exact hx z
    · exact absurd (Nat.lt_of_lt_of_le (Heap.lt_size e) z) (Nat.lt_irrefl _)
  have cellK : ∀ x c, X.env.cells.lookup x = some c → ∀ v, s.heap.IsCell c v → h'.IsCell c v := fun x c e v ⟨o, ho, hd⟩ => by
    have nch : c ∉ ch := fun z => (hch c z).2.2.1 x c e rfl
    by_cases hc : c ∈ X.fs
    · obtain ⟨sl, q⟩ := slot c o (I.cne x c e) hc nch ho (I.freeC x c e)
      exact ⟨_, q, hd⟩
    · exact ⟨o, keep c o (I.cne x c e) hc nch ho (I.freeC x c e), hd⟩
  refine ⟨I.ok, I.os, hg, ⟨fun b o e n hb hx => ?_, fun b o e n hb hx => ?_, fun b o e n hx => ?_, fun b o e hx => ?_, fun b xs e => tups b xs (I.base.tups b xs e), fun b o xs e => frzs b o xs (I.base.frzs b o xs e), fun b ps e => ?_⟩, ?_, fun x c e => ?_, ?_, fun x c e => ?_, fun p hp => ?_, hok, I.len⟩
  · exact keep b o (neL b o e) hb (neC b o e hx) (I.base.keep b o e n hb hx) (I.base.free b o e n hx)
  · obtain ⟨sl, e1⟩ := I.base.slot b o e n hb hx
    obtain ⟨sl', e2⟩ := slot b _ (neL b o e) hb (neC b o e hx) e1 (I.base.free b o e n hx)
    exact ⟨sl', e2⟩
  · obtain ⟨o', e1⟩ := I.base.there b o e hx
    exact free b o' (neC b o e hx) e1 (I.base.free b o e n hx)
  · obtain ⟨o', e1⟩ := I.base.there b o e hx
    exact there b o' (neC b o e hx) e1
  · obtain ⟨m1, e1⟩ := I.base.tbls b ps e
    obtain ⟨m2, e2⟩ := tbls b _ e1
    exact ⟨m1 ++ m2, by rw [e2, Array.append_assoc]⟩
  · obtain ⟨m, hn, hl⟩ := I.loc
    refine ⟨m, ns m hn, fun i x v e1 e2 e3 => ?_⟩
    obtain ⟨u, r, l⟩ := hl i x v e1 e2 e3
    refine ⟨u, r, ?_⟩
    rcases l with l | ⟨k, c, e, z⟩
    · exact .inl l
    · exact .inr ⟨k, c, e, cellK x c e _ z⟩
  · obtain ⟨v, z⟩ := I.cell x c e
    exact ⟨v, cellK x c e v z⟩
  · obtain ⟨m, ⟨o, _, _, ho, _⟩, _⟩ := I.loc
    exact free _ o (fun z => (hch _ z).2.1 rfl) ho I.free
  · obtain ⟨v, o, ho, hd⟩ := I.cell x c e
    exact free c o (fun z => (hch c z).2.2.1 x c e rfl) ho (I.freeC x c e)
  · obtain ⟨e, n, ne, nf, d⟩ := I.pin p hp
    have nch : p.1 ∉ ch := fun z => (hch p.1 z).2.2.2 p hp rfl
    exact ⟨keep p.1 p.2 ne nf nch e n, free p.1 p.2 nch e n, ne, nf, d⟩
/-- .. where the frame's own object is kept too -/
theorem Inv.un {t' : Nat} (I : Inv X pins σ H s) (u : Un X.fs [] H H' s.heap h') (hok : HOk X.prog X.w H' h') : Inv X pins σ H' { s with heap := h', toks := t' } := by
  obtain ⟨m, ⟨o, es, ep, ho, r⟩, _⟩ := id I.loc
  obtain ⟨sl, hL⟩ := u.any ho I.free (by simp)
  exact I.step (g' := s.gens) (d' := s.drawn) (ch := []) (fun _ z => nomatch z) (fun b o _ hb _ e n => u.keep b o e n hb (by simp)) (fun b o _ hb _ e n => u.slot b o e n hb (by simp)) (fun b o _ e n => u.free b o e n (by simp)) (fun b o _ e => u.there b o e (by simp)) u.tups u.frzs u.tbls (fun m' hm => by
    obtain ⟨o', es', ep', ho', r'⟩ := hm
    rw [ho] at ho'; cases ho'
    exact ⟨_, es', ep', hL, r'⟩) hok I.bare
/-- behind a call (or a comprehension's block): the slots of this frame may have changed too, the records at ch may have turned -/
theorem Inv.call {g' : Array GenState} {t' : Nat} {d' : Drawn} {ch : List Addr} (I : Inv X pins σ H s) (u : Un (frs X.stack) ch H H' s.heap h') (hok : HOk X.prog X.w H' h') (hg : AllBare g')
    (hch : ∀ b ∈ ch, (b ∈ X.ex ∨ X.sZ.heap.objs.size ≤ b) ∧ b ≠ X.env.locals ∧ (∀ x c, X.env.cells.lookup x = some c → c ≠ b) ∧ ∀ p ∈ X.pn ++ pins, p.1 ≠ b) :
    Inv X pins σ H' { s with heap := h', gens := g', drawn := d', toks := t' } := by
  obtain ⟨m, ⟨o, es, ep, ho, r⟩, _⟩ := id I.loc
  obtain ⟨sl, hL⟩ := u.any ho I.free fun z => (hch _ z).2.1 rfl
  exact I.step (ch := ch) hch (fun b o hL hb hc e n => u.keep b o e n (fun z => (List.mem_cons.mp (I.stkSub b z)).elim hL hb) hc) (fun b o _ _ hc e n => u.any e n hc) (fun b o hc e n => u.free b o e n hc) (fun b o hc e => u.there b o e hc) u.tups u.frzs u.tbls (fun m' hm => by
    obtain ⟨o', es', ep', ho', r'⟩ := hm
    rw [ho] at ho'; cases ho'
    exact ⟨_, es', ep', hL, r'⟩) hok hg
/-- an untracked record of ours (an iterator) has turned -/
theorem Inv.turned {t' : Nat} {it : Addr} (I : Inv X pins σ H s) (k : ∀ b o, b ≠ it → s.heap.get? b = some o → h'.get? b = some o) (hn : H it = none) (hL : it ≠ X.env.locals)
    (h1 : it ∈ X.ex ∨ X.sZ.heap.objs.size ≤ it) (h2 : ∀ x c, X.env.cells.lookup x = some c → c ≠ it) (h3 : ∀ p ∈ X.pn ++ pins, p.1 ≠ it) : Inv X pins σ H { s with heap := h', toks := t' } := by
  have nit : ∀ b u, H b = some u → b ≠ it := fun b u e z => by rw [z, hn] at e; cases e
  refine I.step (g' := s.gens) (d' := s.drawn) (ch := [it]) (fun b hb => ?_) (fun b o _ _ hc e _ => k b o (fun z => hc (by simp [z])) e) (fun b o _ _ hc e _ => ⟨o.slots, k b o (fun z => hc (by simp [z])) e⟩) (fun _ _ _ _ n => n)
    (fun b o hc e => ⟨o, k b o (fun z => hc (by simp [z])) e⟩) (fun _ _ e => e) (fun _ _ _ e => e) (fun b ps e => ⟨#[], by rw [e]; simp⟩) (fun m hm => ?_) (fun b u e => ?_) I.bare
  · have e : b = it := by simpa using hb
    subst e
    exact ⟨h1, hL, h2, h3⟩
  · obtain ⟨o, es, ep, ho, r⟩ := hm
    exact ⟨o, es, ep, k _ o (Ne.symm hL) ho, r⟩
  · refine (I.hok b u e).stay (fun c v hc q => k c v ?_ q) (fun _ q => q) fun _ _ q => q
    rcases hc with z | z
    · rw [z]; exact nit b u e
    · exact nit c _ z
theorem Inv.tok (I : Inv X pins σ H s) (t : Nat) : Inv X pins σ H { s with toks := t } := I.un (h' := s.heap) (t' := t) Un.refl I.hok
/-- all objects kept -/
theorem Inv.kept {t' : Nat} (I : Inv X pins σ H s) (k : ∀ b u, s.heap.get? b = some u → h'.get? b = some u) : Inv X pins σ H { s with heap := h', toks := t' } := I.un (Un.kept k) (I.hok.kept k)
/-- a new object laid and tracked -/
theorem Inv.laid {a : Addr} {o : HO} {t' : Nat} (I : Inv X pins σ H s) (k : ∀ b u, s.heap.get? b = some u → h'.get? b = some u) (hp : s.heap.objs.size ≤ a) (new : ObjOk X.prog X.w (upd H a o) h' a o) :
    Inv X pins σ (upd H a o) { s with heap := h', toks := t' } := I.un (Un.laid k hp (I.hok.fresh hp)) (I.hok.laid k hp new)
/-- an object written -/
theorem Inv.write {x e : Addr} {o : HO} {t' : Nat} (I : Inv X pins σ H s) (mu : Mut (H x)) (he : e = x ∨ H e = some (.own x)) (k : ∀ b u, b ≠ e → s.heap.get? b = some u → h'.get? b = some u) (heo : ∃ u, h'.get? e = some u)
    (new : ObjOk X.prog X.w (upd H x o) h' x o) : Inv X pins σ (upd H x o) { s with heap := h', toks := t' } := I.un (Un.write mu he k heo) (I.hok.write mu he k heo new)
/-- forgetting slots, pins -/
theorem Inv.weak {σ' : List (Option V)} (I : Inv X pins σ H s) (hl : σ'.length = σ.length) (w : ∀ (i : Nat) v, σ'[i]? = some (some v) → σ[i]? = some (some v)) : Inv X pins σ' H s :=
  ⟨I.ok, I.os, I.bare, I.base, let ⟨m, hn, hl'⟩ := I.loc; ⟨m, hn, fun i x v e1 e2 e3 => hl' i x v e1 (w i v e2) e3⟩, I.cell, I.free, I.freeC, I.pin, I.hok, hl.trans I.len⟩
theorem Inv.pins_of {pins' : List (Addr × Obj)} (I : Inv X pins σ H s) (h : ∀ p ∈ pins', s.heap.get? p.1 = some p.2 ∧ H p.1 = none ∧ p.1 ≠ X.env.locals ∧ p.1 ∉ X.fs ∧ ∀ v, p.2.data ≠ .cell v) : Inv X pins' σ H s :=
  ⟨I.ok, I.os, I.bare, I.base, I.loc, I.cell, I.free, I.freeC, fun p hp => (List.mem_append.mp hp).elim (fun z => I.pin p (List.mem_append_left _ z)) (h p), I.hok, I.len⟩

theorem nodup_ix {N : List Str} (hN : N.Nodup) {i j : Nat} {x : Str} (a : N[i]? = some x) (b : N[j]? = some x) : i = j := by
  obtain ⟨h1, e1⟩ := List.getElem?_eq_some_iff.mp a
  obtain ⟨h2, e2⟩ := List.getElem?_eq_some_iff.mp b
  exact (List.getElem_inj hN).mp (e1.trans e2.symm)

/-- a name is stored; what changed -/
theorem store_ok2 {M : Model} {A : Around} {E : Value → Shared → Prop} {i : Nat} {x : Str} {v : V} {u : Value} {Q : Unit → Shared → Prop} (I : Inv X pins σ H s) (hN : X.N.Nodup) (hi : X.N[i]? = some x) (hx : Loc X.env.scope x) (r : RelV v u)
    (h : ∀ s', Inv X pins (σ.set i (some v)) H s' → (∃ a, Heap.SameBut a s.heap s'.heap ∧ (a = X.env.locals ∨ X.env.cells.lookup x = some a)) → Q () s') (hf : X.fn x = true ∨ X.env.scope.names.lookup x = some .local := by first | exact .inl rfl | exact .inr rfl | assumption) : wpAny M A (storeName X.env x u) Q E s := by
  obtain ⟨m, hn, hl⟩ := id I.loc
  have hcls : (X.env.scope.kind == .class || (X.env.scope.kind == .module && X.env.locals != X.env.globals)) = false := by rw [I.ok.kind]; rfl
  have hiσ : i < σ.length := by rw [I.len]; exact (List.getElem?_eq_some_iff.mp hi).1
  have cne := I.cne
  have tracked : ∀ {a : Addr} {h' : Heap}, (∃ o, s.heap.get? a = some o ∧ H a = none) → Heap.SameBut a s.heap h' → HOk X.prog X.w H h' := fun {a h'} ha hs b ob e => by
    obtain ⟨_, _, hfree⟩ := ha
    refine (I.hok b ob e).stay (fun c w' hc q => (hs.2 c ?_).trans q) (fun _ q => q) fun _ _ q => q
    rintro rfl
    rcases hc with rfl | hc
    · rw [hfree] at e; cases e
    · rw [hfree] at hc; cases hc
  rcases hx with hk | hk
  · refine wpAny_storeName_local hk hn (fun h' hn' hs => ?_) hcls
    obtain ⟨oL, _, _, hoL, _⟩ := id hn
    refine h _ ⟨I.ok, I.os, I.bare, ⟨fun b o e n hb hx => ?_, fun b o e n hb hx => ?_, I.base.free, fun b o e hx => ?_, I.base.tups, I.base.frzs, I.base.tbls⟩, ⟨_, hn', fun j y v' e1 e2 e3 => ?_⟩, fun y c e => ?_, I.free, I.freeC, fun p hp => ?_, tracked ⟨oL, hoL, I.free⟩ hs, by simpa using I.len⟩ ⟨_, hs, .inl rfl⟩
    · exact (hs.2 b (Nat.ne_of_lt (Nat.lt_of_lt_of_le (Heap.lt_size e) I.ok.above))).trans (I.base.keep b o e n hb hx)
    · obtain ⟨sl, e1⟩ := I.base.slot b o e n hb hx
      exact ⟨sl, (hs.2 b (Nat.ne_of_lt (Nat.lt_of_lt_of_le (Heap.lt_size e) I.ok.above))).trans e1⟩
    · obtain ⟨o', e1⟩ := I.base.there b o e hx
      exact ⟨o', (hs.2 b (Nat.ne_of_lt (Nat.lt_of_lt_of_le (Heap.lt_size e) I.ok.above))).trans e1⟩
    · by_cases hj : j = i
      · subst hj
        rw [hi] at e1; cases e1
        rw [List.getElem?_set_self hiσ] at e2
        cases e2
        exact ⟨u, r, .inl ⟨hk, by simp⟩⟩
      · rw [List.getElem?_set_ne (Ne.symm hj)] at e2
        obtain ⟨u', r', q⟩ := hl j y v' e1 e2 e3
        refine ⟨u', r', ?_⟩
        rcases q with ⟨k, e⟩ | ⟨k, c, e, z⟩
        · refine .inl ⟨k, ?_⟩
          have : y ≠ x := fun e => hj (nodup_ix hN e1 (e ▸ hi))
          simp [this, e]
        · exact .inr ⟨k, c, e, z.sameBut hs (cne y c e)⟩
    · obtain ⟨w', z⟩ := I.cell y c e
      exact ⟨w', z.sameBut hs (cne y c e)⟩
    · obtain ⟨e, n, ne, nf, d⟩ := I.pin p hp
      exact ⟨(hs.2 p.1 ne).trans e, n, ne, nf, d⟩
  · have hfn : X.fn x = true := by
      rcases hf with z | z
      · exact z
      · rw [z] at hk; cases hk
    obtain ⟨c, hc⟩ := I.ok.has x (.inl hk)
    obtain ⟨w', z⟩ := I.cell x c hc
    refine wpAny_storeName_cell I.ok.kind hk hc z (fun h' hc' hs => ?_)
    obtain ⟨oc, hoc, hocd⟩ := id z
    refine h { s with heap := h' } ⟨I.ok, I.os, I.bare, ⟨fun b o e n hb hx => ?_, fun b o e n hb hx => ?_, I.base.free, fun b o e hx => ?_, I.base.tups, I.base.frzs, I.base.tbls⟩, ⟨m, hn.sameBut hs (Ne.symm (cne x c hc)), fun j y v' e1 e2 e3 => ?_⟩, fun y c' e => ?_, I.free, I.freeC, fun p hp => ?_, tracked ⟨oc, hoc, I.freeC x c hc⟩ hs, by simpa using I.len⟩ ⟨c, hs, .inr hc⟩
    · exact (hs.2 b (Nat.ne_of_lt (Nat.lt_of_lt_of_le (Heap.lt_size e) (I.ok.cab x c hfn hc)))).trans (I.base.keep b o e n hb hx)
    · obtain ⟨sl, e1⟩ := I.base.slot b o e n hb hx
      exact ⟨sl, (hs.2 b (Nat.ne_of_lt (Nat.lt_of_lt_of_le (Heap.lt_size e) (I.ok.cab x c hfn hc)))).trans e1⟩
    · obtain ⟨o', e1⟩ := I.base.there b o e hx
      exact ⟨o', (hs.2 b (Nat.ne_of_lt (Nat.lt_of_lt_of_le (Heap.lt_size e) (I.ok.cab x c hfn hc)))).trans e1⟩
    · by_cases hj : j = i
      · subst hj
        rw [hi] at e1; cases e1
        rw [List.getElem?_set_self hiσ] at e2
        cases e2
        exact ⟨u, r, .inr ⟨.inl hk, c, hc, hc'⟩⟩
      · rw [List.getElem?_set_ne (Ne.symm hj)] at e2
        obtain ⟨u', r', q⟩ := hl j y v' e1 e2 e3
        refine ⟨u', r', ?_⟩
        rcases q with q | ⟨k, c', e, z'⟩
        · exact .inl q
        · refine .inr ⟨k, c', e, z'.sameBut hs ?_⟩
          rintro rfl
          exact hj (nodup_ix hN e1 (I.ok.inj _ _ _ e hc ▸ hi))
    · by_cases hcc : c' = c
      · subst hcc; exact ⟨_, hc'⟩
      · obtain ⟨w2, z2⟩ := I.cell y c' e
        exact ⟨w2, z2.sameBut hs hcc⟩
    · obtain ⟨e, n, ne, nf, d⟩ := I.pin p hp
      refine ⟨(hs.2 p.1 ?_).trans e, n, ne, nf, d⟩
      intro q
      rw [q, hoc] at e
      have q' : oc = p.2 := Option.some.inj e
      exact d w' (by rw [← q']; exact hocd)
theorem store_ok {M : Model} {A : Around} {E : Value → Shared → Prop} {i : Nat} {x : Str} {v : V} {u : Value} {Q : Unit → Shared → Prop} (I : Inv X pins σ H s) (hN : X.N.Nodup) (hi : X.N[i]? = some x) (hx : Loc X.env.scope x) (r : RelV v u)
    (h : ∀ s', Inv X pins (σ.set i (some v)) H s' → Q () s') (hf : X.fn x = true ∨ X.env.scope.names.lookup x = some .local := by first | exact .inl rfl | exact .inr rfl | assumption) : wpAny M A (storeName X.env x u) Q E s :=
  store_ok2 I hN hi hx r (fun s' I' _ => h s' I') hf
/-- behind a call or a block, the state as it is -/
theorem Inv.call' {s' : Shared} {ch : List Addr} (I : Inv X pins σ H s) (ho : s'.os = s.os) (u : Un (frs X.stack) ch H H' s.heap s'.heap) (hok : HOk X.prog X.w H' s'.heap) (hg : AllBare s'.gens)
    (hch : ∀ b ∈ ch, (b ∈ X.ex ∨ X.sZ.heap.objs.size ≤ b) ∧ b ≠ X.env.locals ∧ (∀ x c, X.env.cells.lookup x = some c → c ≠ b) ∧ ∀ p ∈ X.pn ++ pins, p.1 ≠ b) : Inv X pins σ H' s' := by
  obtain ⟨h', g', d', t', o'⟩ := s'
  have e : o' = s.os := ho
  subst e
  exact I.call (g' := g') (t' := t') (d' := d') u hok hg hch
end

/-- an exception: its class, its own dict's address (where it has one), the abstract heap behind it -/
abbrev XK := Value → Option Addr → Hp → Prop
abbrev St := List (Option V)
abbrev VK := V → Hp → Prop
/-- an expression's reading; a test's; an argument list's -/
abbrev TE := St → Hp → VK → Prop
abbrev TT := St → Hp → (Bool → Hp → Prop) → Prop
abbrev TA := St → Hp → (List V → Hp → Prop) → Prop
/-- what is wanted behind a statement -/
structure Ends where
  nx : St → Hp → Prop
  rt : VK
  bk : St → Hp → Prop := fun _ _ => False
  ct : St → Hp → Prop := fun _ _ => False
abbrev TS := Ends → St → Hp → Prop

def EP (X : Cx) (pins : List (Addr × Obj)) (σ : St) (Q : VK) (u : Value) (s' : Shared) : Prop := ∃ v H', Inv X pins σ H' s' ∧ RelV v u ∧ Q v H'
def TP (X : Cx) (pins : List (Addr × Obj)) (σ : St) (Q : Bool → Hp → Prop) (b : Bool) (s' : Shared) : Prop := ∃ H', Inv X pins σ H' s' ∧ Q b H'
def AP (X : Cx) (pins : List (Addr × Obj)) (σ : St) (Q : List V → Hp → Prop) (us : List Value) (s' : Shared) : Prop := ∃ vs H', Inv X pins σ H' s' ∧ Vals vs us ∧ Q vs H'
def SP (X : Cx) (pins : List (Addr × Obj)) (D : Ends) (f : Flow) (s' : Shared) : Prop :=
  match f with
  | .next => ∃ σ' H', Inv X pins σ' H' s' ∧ D.nx σ' H'
  | .brk => ∃ σ' H', Inv X pins σ' H' s' ∧ D.bk σ' H'
  | .cont => ∃ σ' H', Inv X pins σ' H' s' ∧ D.ct σ' H'
  | .ret u => ∃ v σ' H', Inv X pins σ' H' s' ∧ RelV v u ∧ D.rt v H'

def PE (X : Cx) (e : Expr) (t : TE) : Prop :=
  ∀ (pins : List (Addr × Obj)) (s : Shared) (σ : St) (H : Hp) (Q : VK), Inv X pins σ H s → t σ H Q → wpAny (model X.prog X.w) X.A (eval e X.env) (EP X pins σ Q) X.xe s
def PT (X : Cx) (e : Expr) (t : TT) : Prop :=
  ∀ (pins : List (Addr × Obj)) (s : Shared) (σ : St) (H : Hp) (Q : Bool → Hp → Prop), Inv X pins σ H s → t σ H Q → wpAny (model X.prog X.w) X.A (isTrue e X.env (eval e X.env)) (TP X pins σ Q) X.xe s
/-- a test whatever its 'whole' is (and, or) -/
def PW (X : Cx) (e : Expr) (t : TT) : Prop :=
  ∀ (whole : Sem Value) (pins : List (Addr × Obj)) (s : Shared) (σ : St) (H : Hp) (Q : Bool → Hp → Prop), Inv X pins σ H s → t σ H Q → wpAny (model X.prog X.w) X.A (isTrue e X.env whole) (TP X pins σ Q) X.xe s
theorem PW.pt {X : Cx} {e : Expr} {t : TT} (h : PW X e t) : PT X e t := h _
/-- an argument list (no star), from the left -/
def PA (X : Cx) (es : List Expr) (t : TA) : Prop :=
  ∀ (pos : Pos) (pins : List (Addr × Obj)) (s : Shared) (σ : St) (H : Hp) (Q : List V → Hp → Prop), Inv X pins σ H s → t σ H Q → wpAny (model X.prog X.w) X.A (spliced (backTo pos (starEach es X.env))) (AP X pins σ Q) X.xe s
def PS (X : Cx) (st : Stmt) (t : TS) : Prop :=
  ∀ (pins : List (Addr × Obj)) (s : Shared) (σ : St) (H : Hp) (D : Ends), Inv X pins σ H s → t D σ H → wpAny (model X.prog X.w) X.A (exec st X.env) (SP X pins D) X.xe s
def PSs (X : Cx) (st : List Stmt) (t : TS) : Prop :=
  ∀ (pins : List (Addr × Obj)) (s : Shared) (σ : St) (H : Hp) (D : Ends), Inv X pins σ H s → t D σ H → wpAny (model X.prog X.w) X.A (execs st X.env) (SP X pins D) X.xe s
/-- weaken the end -/
theorem thn {α : Type} {t : Sem α} {Q Q' : α → Shared → Prop} {M : Model} {A : Around} {E : Value → Shared → Prop} {s : Shared} (h : wpAny M A t Q E s) (hQ : ∀ a s, Q a s → Q' a s) : wpAny M A t Q' E s := wpAny_mono h hQ fun _ _ x => x
end L2

namespace L2
open PySem PySem.Spec PyProof.Rows
section
variable {X : Cx}

def tVar (i : Nat) : TE := fun σ H Q => ∃ v, σ[i]? = some (some v) ∧ Q v H
def tC (v : V) : TE := fun _ H Q => Q v H
theorem pe_var {i : Nat} {x : Str} {pos : Pos} (hN : X.N[i]? = some x) (hv : Vis X.env.scope x) (hd : (x == ("__debug__" : Str)) = false := by decide) (hcd : (x == ("__classdict__" : Str)) = false := by decide) : PE X (.Name x pos) (tVar i) := by
  intro pins s σ H Q I h
  obtain ⟨v, e, h⟩ := h
  obtain ⟨m, hn, hl⟩ := I.loc
  obtain ⟨u, r, l⟩ := hl i x v hN e hv
  have fin : EP X pins σ Q u s := ⟨v, H, I, r, h⟩
  rcases l with ⟨hk, hm⟩ | ⟨hk, c, hc, hcell⟩
  · exact wpAny_Name (wpAny_loadName_local I.ok.kind hk hn hm fin) hd
  · rcases hk with hk | hk
    · exact wpAny_Name (wpAny_loadName_cell I.ok.kind hk hc hcell fin) hd
    · exact wpAny_Name (wpAny_loadName_free I.ok.kind hk hc hcell fin hcd) hd
theorem pe_int {i j pos} : PE X (.Constant (.int i) j pos) (tC (.int i)) := fun _ _ _ H _ I h => wpAny_Constant_int ⟨.int i, H, I.tok _, ⟨_, rfl⟩, h⟩
theorem pe_bl {b j pos} : PE X (.Constant (.bool b) j pos) (tC (.bl b)) := fun _ _ _ H _ I h => Constant_bool ⟨.bl b, H, I, rfl, h⟩
theorem pe_non {j pos} : PE X (.Constant .none j pos) (tC .non) := fun _ _ _ H _ I h => Constant_none ⟨.non, H, I, rfl, h⟩
theorem pe_str {x j pos} : PE X (.Constant (.str x) j pos) (tC (.str x)) := fun _ _ _ H _ I h => Calls.Constant_str ⟨.str x, H, I.tok _, ⟨_, rfl⟩, h⟩

/-- a global name of the def -/
def Gl (X : Cx) (x : Str) : Prop := X.env.kindOf x = some .globalImplicit
theorem ld_glob {E : Value → Shared → Prop} {pins : List (Addr × Obj)} {s : Shared} {σ : St} {H : Hp} {x : Str} {u : Value} {pos : Pos} {Q : Value → Shared → Prop} (I : Inv X pins σ H s) (hg : Gl X x) (hm : X.mg x = some u) (h : Q u s)
    (hd : (x == ("__debug__" : Str)) = false := by decide) : wpAny (model X.prog X.w) X.A (eval (.Name x pos) X.env) Q E s :=
  Calls.Name_function_global I.ok.kind hg (Calls.loadGlobal_global (by rw [I.ok.glob]; exact I.mod.glob.keeps I.bk) hm h) hd
theorem ld_blt {E : Value → Shared → Prop} {pins : List (Addr × Obj)} {s : Shared} {σ : St} {H : Hp} {x : Str} {u : Value} {pos : Pos} {Q : Value → Shared → Prop} (I : Inv X pins σ H s) (hg : Gl X x) (hm : X.mg x = none) (hv : bootBuiltins x = some u) (h : Q u s)
    (hn : x ≠ "__name__" := by decide) (hd : (x == ("__debug__" : Str)) = false := by decide) : wpAny (model X.prog X.w) X.A (eval (.Name x pos) X.env) Q E s := by
  obtain ⟨mb, h1, h2⟩ := I.mod.blt
  exact Calls.Name_function_global I.ok.kind hg (Calls.loadGlobal_builtin (by rw [I.ok.glob]; exact I.mod.glob.keeps I.bk) hm (by rw [I.ok.blt]; exact h1.keeps I.bk) ((h2 x hn).trans hv) h) hd
theorem pe_bltn {x : Str} {v : V} {u : Value} {pos : Pos} (hg : Gl X x) (hm : X.mg x = none) (hv : bootBuiltins x = some u) (r : RelV v u) (hn : x ≠ "__name__" := by decide) (hd : (x == ("__debug__" : Str)) = false := by decide) : PE X (.Name x pos) (tC v) :=
  fun _ _ _ H _ I h => ld_blt I hg hm hv ⟨v, H, I, r, h⟩ hn hd

variable {a b : Expr} {ta tb : TE} {pos : Pos}
/-- a comparison as a value, as a test -/
def tB (t : TE) : TT := fun σ H Q => t σ H fun x H1 => ∃ c, x = .bl c ∧ Q c H1
/-- an expression whose value is a bool, as a test -/
theorem pt_val {e : Expr} {t : TE} (h : PE X e t) (he : ∀ whole, isTrue e X.env whole = (do let v ← whole; standAt e.pos; holding [v] (truthy v)) := by intro _; rfl) : PT X e (tB t) := by
  intro pins s σ H Q I hw
  refine isTrue_plain (thn (h pins s σ H _ I hw) fun v s1 ⟨x, H1, I1, r1, q1⟩ => ?_) (he _)
  obtain ⟨d, rfl, q⟩ := q1
  cases r1
  exact wpAny_truthy_bool ⟨H1, I1, q⟩

variable {tA tB' : TT} {rest : List Expr}
def tAnd (t u : TT) : TT := fun σ H Q => t σ H fun c H1 => if c = true then u σ H1 Q else Q false H1
def tOr (t u : TT) : TT := fun σ H Q => t σ H fun c H1 => if c = true then Q true H1 else u σ H1 Q
def tNot (t : TT) : TT := fun σ H Q => t σ H fun c H1 => Q (!c) H1
theorem pw_and1 (ha : PT X a tA) : PW X (.BoolOp .And [a] pos) tA := by
  intro wh pins s σ H Q I h
  refine isTrue_and (thn (ha pins s σ H Q I h) fun c s1 e => ?_)
  cases c with
  | true => exact isTrue_and_nil e
  | false => exact e
theorem pw_or1 (ha : PT X a tA) : PW X (.BoolOp .Or [a] pos) tA := by
  intro wh pins s σ H Q I h
  refine isTrue_or (thn (ha pins s σ H Q I h) fun c s1 e => ?_)
  cases c with
  | false => exact isTrue_or_nil e
  | true => exact e
theorem pw_and (ha : PT X a tA) (hb : PW X (.BoolOp .And (b :: rest) pos) tB') : PW X (.BoolOp .And (a :: b :: rest) pos) (tAnd tA tB') := by
  intro wh pins s σ H Q I h
  refine isTrue_and (thn (ha pins s σ H _ I h) fun c s1 ⟨H1, I1, q1⟩ => ?_)
  cases c with
  | true => exact hb wh pins s1 σ H1 Q I1 q1
  | false => exact ⟨H1, I1, q1⟩
theorem pw_or (ha : PT X a tA) (hb : PW X (.BoolOp .Or (b :: rest) pos) tB') : PW X (.BoolOp .Or (a :: b :: rest) pos) (tOr tA tB') := by
  intro wh pins s σ H Q I h
  refine isTrue_or (thn (ha pins s σ H _ I h) fun c s1 ⟨H1, I1, q1⟩ => ?_)
  cases c with
  | true => exact ⟨H1, I1, q1⟩
  | false => exact hb wh pins s1 σ H1 Q I1 q1
theorem pt_not (ha : PT X a tA) : PT X (.UnaryOp .Not a pos) (tNot tA) := by
  intro pins s σ H Q I h
  exact isTrue_not (ha pins s σ H (fun c H1 => Q (!c) H1) I h)
/-- .. as values (bools) -/
def tAndV (ta tb : TE) : TE := fun σ H Q => ta σ H fun x H1 => ∃ c, x = .bl c ∧ if c = true then tb σ H1 Q else Q (.bl false) H1
def tNotV (ta : TE) : TE := fun σ H Q => ta σ H fun x H1 => ∃ c, x = .bl c ∧ Q (.bl (!c)) H1
theorem pe_one {op} {t : TE} (h : PE X a t) : PE X (.BoolOp op [a] pos) t := fun pins s σ H Q I hw => BoolOp_one (h pins s σ H Q I hw)
theorem pe_and (ha : PE X a ta) (hb : PE X (.BoolOp .And (b :: rest) pos) tb) : PE X (.BoolOp .And (a :: b :: rest) pos) (tAndV ta tb) := by
  intro pins s σ H Q I h
  refine BoolOp_and (thn (ha pins s σ H _ I h) fun v s1 ⟨x, H1, I1, r1, q1⟩ => ?_)
  obtain ⟨c, rfl, q1⟩ := q1
  cases r1
  refine wpAny_truthy_bool ?_
  cases c with
  | true => exact hb pins s1 σ H1 Q I1 q1
  | false => exact ⟨.bl false, H1, I1, rfl, q1⟩
theorem pe_not (ha : PE X a ta) : PE X (.UnaryOp .Not a pos) (tNotV ta) := by
  intro pins s σ H Q I h
  refine UnaryOp_ (thn (ha pins s σ H _ I h) fun v s1 ⟨x, H1, I1, r1, q1⟩ => ?_)
  obtain ⟨c, rfl, q1⟩ := q1
  cases r1
  exact not_of (wpAny_truthy_bool ⟨.bl (!c), H1, I1, rfl, q1⟩)
end
end L2

namespace L2
open PySem PySem.Spec PyProof.Rows

def SqL (K : PySem.W.Frag) (H : Hp) (a : Addr) (xs : List V) : Prop :=
  Rd H a (.lst xs) ∨
    ∃ (o : Obj) (its : Array Value) (n : Nat), K.lookup a = some o ∧ o.cls = .type "list" ∧ o.dict = none ∧ o.data = .seq its n ∧ its.size ≤ sizeLine ∧ Vals xs its.toList
def SqT (K : PySem.W.Frag) (H : Hp) (a : Addr) (xs : List V) : Prop :=
  Rd H a (.tup xs) ∨
    ∃ (o : Obj) (its : Array Value) (n : Nat), K.lookup a = some o ∧ o.cls = .type "tuple" ∧ o.data = .seq its n ∧ its.size ≤ sizeLine ∧ Vals xs its.toList
def absV : Value → Option V
  | .none => some .non
  | .bool b => some (.bl b)
  | .int i _ => some (.int i)
  | .str x _ => some (.str x)
  | .bytes b _ => some (.byt b)
  | .float b _ => some (.flt b)
  | .ref a => some (.ref a)
  | .type n => some (.ty n)
  | _ => none
theorem RelV.abs {x : V} {u : Value} (r : RelV x u) : absV u = some x := by
  cases x with
  | non => cases r; rfl
  | bl _ => cases r; rfl
  | int _ => obtain ⟨t, rfl⟩ := r; rfl
  | str _ => obtain ⟨t, rfl⟩ := r; rfl
  | byt _ => obtain ⟨t, rfl⟩ := r; rfl
  | flt _ => obtain ⟨t, rfl⟩ := r; rfl
  | ref _ => cases r; rfl
  | ty _ => cases r; rfl
theorem RelV.inj {x y : V} {u : Value} (r : RelV x u) (q : RelV y u) : x = y := Option.some.inj (r.abs.symm.trans q.abs)
theorem Vals.inj : ∀ {xs ys : List V} {us : List Value}, Vals xs us → Vals ys us → xs = ys
  | _, _, _, .nil, .nil => rfl
  | _, _, _, .cons r t, .cons r' t' => by rw [r.inj r', Vals.inj t t']
section
variable {X : Cx} {pins : List (Addr × Obj)} {σ : St} {H : Hp} {s : Shared} {a : Addr} {xs ys : List V}
theorem SqL.of {K : PySem.W.Frag} (h : H a = some (.lst xs)) : SqL K H a xs := .inl (.inl h)
theorem SqT.of {K : PySem.W.Frag} (h : H a = some (.tup xs)) : SqT K H a xs := .inl (.inl h)
theorem Inv.list (I : Inv X pins σ H s) (h : SqL X.K H a xs) : ∃ its : List Value, Vals xs its ∧ PlainL s.heap a its.toArray ∧ xs.length ≤ sizeLine := by
  rcases h with h | ⟨o, its, n, hk, hc, hd, hs, hz, r⟩
  · obtain ⟨z, its, n, r, e⟩ := h.ok I.hok
    exact ⟨its, r, ⟨_, n, e, rfl, rfl, rfl⟩, z⟩
  · refine ⟨its.toList, r, ⟨o, n, I.kIn a o hk, hc, hd, by simpa using hs⟩, ?_⟩
    have e := r.length
    simp only [Array.length_toList] at e
    omega
theorem Inv.tuple (I : Inv X pins σ H s) (h : SqT X.K H a xs) : ∃ its : List Value, Vals xs its ∧ IsTup s.heap a its.toArray ∧ xs.length ≤ sizeLine := by
  rcases h with h | ⟨o, its, n, hk, hc, hs, hz, r⟩
  · obtain ⟨z, its, r, p⟩ := h.ok I.hok
    exact ⟨its, r, p, z⟩
  · refine ⟨its.toList, r, ⟨o, I.kIn a o hk, hc, n, by simpa using hs⟩, ?_⟩
    have e := r.length
    simp only [Array.length_toList] at e
    omega
theorem Inv.list_inj (I : Inv X pins σ H s) (h : SqL X.K H a xs) (h' : SqL X.K H a ys) : xs = ys := by
  obtain ⟨its, r, ⟨o, n, e, _, _, d⟩, _⟩ := I.list h
  obtain ⟨its', r', ⟨o', n', e', _, _, d'⟩, _⟩ := I.list h'
  rw [e] at e'; cases e'
  rw [d] at d'
  injection d' with d1 _
  have : its = its' := by simpa using congrArg Array.toList d1
  subst this
  exact r.inj r'
theorem Inv.tuple_inj (I : Inv X pins σ H s) (h : SqT X.K H a xs) (h' : SqT X.K H a ys) : xs = ys := by
  obtain ⟨its, r, ⟨o, e, _, n, d⟩, _⟩ := I.tuple h
  obtain ⟨its', r', ⟨o', e', _, n', d'⟩, _⟩ := I.tuple h'
  rw [e] at e'; cases e'
  rw [d] at d'
  injection d' with d1 _
  have : its = its' := by simpa using congrArg Array.toList d1
  subst this
  exact r.inj r'
end

abbrev Cx.wish (X : Cx) (E : Value → Shared → Prop) : Cx := { X with xe := E }
/-- no exception leaves -/
abbrev Cx.nox (X : Cx) : Cx := X.wish fun _ _ => False
theorem Cx.Ok.wish {X : Cx} (ok : X.Ok) (E : Value → Shared → Prop) : (X.wish E).Ok :=
  ⟨ok.mod, ok.kind, ok.glob, ok.blt, ok.above, ok.inj, ok.has, ok.cab, ok.hd, ok.frames, ok.stk, ok.exf, ok.bs, ok.bsz, ok.noex, ok.exfs, ok.funs, ok.frf⟩
theorem Cx.Ok.unwish {X : Cx} {E : Value → Shared → Prop} (ok : (X.wish E).Ok) : X.Ok :=
  ⟨ok.mod, ok.kind, ok.glob, ok.blt, ok.above, ok.inj, ok.has, ok.cab, ok.hd, ok.frames, ok.stk, ok.exf, ok.bs, ok.bsz, ok.noex, ok.exfs, ok.funs, ok.frf⟩
section
variable {X : Cx} {pins : List (Addr × Obj)} {σ : St} {H : Hp} {s : Shared} {E : Value → Shared → Prop}
theorem Inv.wish (I : Inv X pins σ H s) (E : Value → Shared → Prop) : Inv (X.wish E) pins σ H s := ⟨I.ok.wish E, I.os, I.bare, I.base, I.loc, I.cell, I.free, I.freeC, I.pin, I.hok, I.len⟩
theorem Inv.unwish (I : Inv (X.wish E) pins σ H s) : Inv X pins σ H s := ⟨I.ok.unwish, I.os, I.bare, I.base, I.loc, I.cell, I.free, I.freeC, I.pin, I.hok, I.len⟩
theorem SP.unwish {D : Ends} {f : Flow} {s' : Shared} (h : SP (X.wish E) pins D f s') : SP X pins D f s' := by
  cases f with
  | next => obtain ⟨σ', H', I, q⟩ := h; exact ⟨σ', H', I.unwish, q⟩
  | brk => obtain ⟨σ', H', I, q⟩ := h; exact ⟨σ', H', I.unwish, q⟩
  | cont => obtain ⟨σ', H', I, q⟩ := h; exact ⟨σ', H', I.unwish, q⟩
  | ret u => obtain ⟨v, σ', H', I, r, q⟩ := h; exact ⟨v, σ', H', I.unwish, r, q⟩
theorem PE.nox {e : Expr} {t : TE} (h : PE X.nox e t) : PE X e t := fun pins s σ H Q I hw =>
  wpAny_mono (h pins s σ H Q (I.wish _) hw) (fun _ _ ⟨v, H', I', r, q⟩ => ⟨v, H', I'.unwish, r, q⟩) fun _ _ z => False.elim z
theorem PT.nox {e : Expr} {t : TT} (h : PT X.nox e t) : PT X e t := fun pins s σ H Q I hw =>
  wpAny_mono (h pins s σ H Q (I.wish _) hw) (fun _ _ ⟨H', I', q⟩ => ⟨H', I'.unwish, q⟩) fun _ _ z => False.elim z
theorem PSs.nox {st : List Stmt} {t : TS} (h : PSs X.nox st t) : PSs X st t := fun pins s σ H D I hw =>
  wpAny_mono (h pins s σ H D (I.wish _) hw) (fun _ _ q => q.unwish) fun _ _ z => False.elim z
end

section
variable {X : Cx} {st : Stmt} {rest : List Stmt} {t u : TS} {e : Expr} {te : TE} {pos : Pos}
def tNext : TS := fun D σ H => D.nx σ H
def tSeq (t u : TS) : TS := fun D σ H => t { D with nx := u D } σ H
theorem pss_nil : PSs X [] tNext := fun _ _ σ H _ I h => wpAny_execs_nil ⟨σ, H, I, h⟩
theorem pss_cons (h1 : PS X st t) (h2 : PSs X rest u) : PSs X (st :: rest) (tSeq t u) := by
  intro pins s σ H D I h
  refine wpAny_execs_cons (thn (h1 pins s σ H { D with nx := u D } I h) fun f s1 q => ?_)
  cases f with
  | next =>
    obtain ⟨σ', H', I', q⟩ := q
    exact h2 pins s1 σ' H' D I' q
  | ret v => exact q
  | brk => exact q
  | cont => exact q
theorem pss_one (h1 : PS X st t) : PSs X [st] t := by
  intro pins s σ H D I h
  refine wpAny_execs_cons (thn (h1 pins s σ H D I h) fun f s1 q => ?_)
  cases f with
  | next => exact wpAny_execs_nil q
  | ret v => exact q
  | brk => exact q
  | cont => exact q
/-- in a def's body nothing is shown -/
theorem Inv.quiet {pins : List (Addr × Obj)} {σ : St} {H : Hp} {s : Shared} (I : Inv X pins σ H s) : interactive X.env = false := by simp [interactive, I.ok.kind]
/-- an expression whose value is dropped -/
def tDrop (te : TE) : TS := fun D σ H => te σ H fun _ H1 => D.nx σ H1
theorem ps_expr (he : PE X e te) (hs : swapsWith e none pos.line X.env = pure false := by rfl) : PS X (.Expr e pos) (tDrop te) := by
  intro pins s σ H D I h
  exact wpAny_Expr_any (thn (he pins s σ H _ I h) fun v s1 ⟨x, H1, I1, r1, q1⟩ => ⟨σ, H1, I1, q1⟩) I.quiet hs
def tRet (te : TE) : TS := fun D σ H => te σ H D.rt
theorem ps_ret (he : PE X e te) : PS X (.Return (some e) pos) (tRet te) := by
  intro pins s σ H D I h
  exact wpAny_Return_some (thn (he pins s σ H _ I h) fun v s1 ⟨x, H1, I1, r1, q1⟩ => ⟨x, σ, H1, I1, r1, q1⟩)
def tIfS (c : TT) (t u : TS) : TS := fun D σ H => c σ H fun b H1 => if b = true then t D σ H1 else u D σ H1
theorem ps_if {c : Expr} {a b : List Stmt} {tc : TT} (hc : PT X c tc) (ha : PSs X a t) (hb : PSs X b u) : PS X (.If c a b pos) (tIfS tc t u) := by
  intro pins s σ H D I h
  refine wpAny_If (thn (hc pins s σ H _ I h) fun d s1 ⟨H1, I1, q1⟩ => ?_)
  cases d with
  | true => exact ha pins s1 σ H1 D I1 q1
  | false => exact hb pins s1 σ H1 D I1 q1
end

abbrev TG := V → St → Hp → (St → Hp → Prop) → Prop
abbrev TGs := List V → St → Hp → (St → Hp → Prop) → Prop
def PG (X : Cx) (target : Expr) (t : TG) : Prop :=
  ∀ (pins : List (Addr × Obj)) (s : Shared) (σ : St) (H : Hp) (v : V) (u : Value) (Q : St → Hp → Prop), Inv X pins σ H s → RelV v u → t v σ H Q →
    wpAny (model X.prog X.w) X.A (assign target X.env u) (fun _ s' => ∃ σ' H', Inv X pins σ' H' s' ∧ Q σ' H') X.xe s
/-- several targets, one after another -/
def PGs (X : Cx) (ts : List Expr) (t : TGs) : Prop :=
  ∀ (pins : List (Addr × Obj)) (s : Shared) (σ : St) (H : Hp) (vs : List V) (us : List Value) (Q : St → Hp → Prop), Inv X pins σ H s → Vals vs us → t vs σ H Q →
    wpAny (model X.prog X.w) X.A (assignInOrder ((assignEach ts X.env).map (·.2)) us) (fun _ s' => ∃ σ' H', Inv X pins σ' H' s' ∧ Q σ' H') X.xe s
/-- o[i] = v, by values -/
abbrev TSet := V → V → V → Hp → (Hp → Prop) → Prop
def PSet (X : Cx) (t : TSet) : Prop :=
  ∀ (pins : List (Addr × Obj)) (s : Shared) (σ : St) (H : Hp) (o i v : V) (ov iv u : Value) (Q : Hp → Prop), Inv X pins σ H s → RelV o ov → RelV i iv → RelV v u → t o i v H Q →
    wpAny (model X.prog X.w) X.A (setItem ov iv u) (fun _ s' => ∃ H', Inv X pins σ H' s' ∧ Q H') X.xe s
section
variable {X : Cx} {pos : Pos}
def gName (i : Nat) : TG := fun v σ H Q => Q (σ.set i (some v)) H
theorem pg_name {i : Nat} {x : Str} (hN : X.N.Nodup) (hi : X.N[i]? = some x) (hx : Loc X.env.scope x) (hf : X.fn x = true ∨ X.env.scope.names.lookup x = some .local := by first | exact .inl rfl | exact .inr rfl | assumption) : PG X (.Name x pos) (gName i) := by
  intro pins s σ H v u Q I r h
  exact wpAny_assign_Name (store_ok I hN hi hx r (fun s' I' => ⟨_, H, I', h⟩) hf)
def gNil : TGs := fun vs σ H Q => vs = [] ∧ Q σ H
def gCons (t : TG) (u : TGs) : TGs := fun vs σ H Q => ∃ v r, vs = v :: r ∧ t v σ H fun σ' H' => u r σ' H' Q
theorem pgs_nil : PGs X [] gNil := by
  intro pins s σ H vs us Q I r h
  obtain ⟨e, h⟩ := h
  subst e
  cases r
  exact assignInOrder_nil ⟨σ, H, I, h⟩
theorem pgs_cons {e : Expr} {es : List Expr} {t : TG} {u : TGs} (h1 : PG X e t) (h2 : PGs X es u)
    (hs : (assignEach (e :: es) X.env).map (·.2) = assign e X.env :: (assignEach es X.env).map (·.2) := by rfl) : PGs X (e :: es) (gCons t u) := by
  intro pins s σ H vs us Q I r h
  obtain ⟨v, vr, e1, h⟩ := h
  subst e1
  cases r with
  | cons r rr =>
    rw [hs]
    refine assignInOrder_cons (thn (h1 pins s σ H _ _ _ I r h) fun _ s1 ⟨σ1, H1, I1, q1⟩ => ?_)
    exact h2 pins s1 σ1 H1 _ _ Q I1 rr q1
/-- (a, b, ..) = a tuple of that length -/
def gTup (K : PySem.W.Frag) (n : Nat) (t : TGs) : TG := fun v σ H Q => ∃ a xs, v = .ref a ∧ SqT K H a xs ∧ xs.length = n ∧ t xs σ H Q
theorem pg_tup {es : List Expr} {k : Nat} {t : TGs} {n : Nat} (hc : X.calm = true) (h : PGs X es t)
    (hn : (assignEach es X.env).length = n := by rfl) (hst : (assignEach es X.env).findIdx? (·.1) = none := by rfl) : PG X (.Tuple es k pos) (gTup X.K n t) := by
  intro pins s σ H v u Q I r hw
  obtain ⟨a, xs, e1, hq, hl, hw⟩ := hw
  subst e1
  cases r
  obtain ⟨its, rv, ht, hz⟩ := I.tuple hq
  refine assign_Tuple_tuple (I.ok.hd hc) ht (by simp [hn, ← hl, rv.length]) hst fun h' hx => ?_
  have I1 : Inv X pins σ H { s with heap := h' } := I.kept (t' := s.toks) fun b o e => hx b o (Nat.ne_of_lt (Heap.lt_size e)) e
  exact h pins _ σ H xs _ Q I1 (by simpa using rv) hw
/-- o[i] = .. -/
def gSub (to ti : TE) (t : TSet) : TG := fun v σ H Q => to σ H fun o H1 => ti σ H1 fun i H2 => t o i v H2 fun H3 => Q σ H3
theorem pg_sub {o i : Expr} {to ti : TE} {t : TSet} (ho : PE X o to) (hi : PE X i ti) (hs : PSet X t)
    (ha : ∀ v, assign (.Subscript o i pos) X.env v = (do
      let ov ← holding [v] (eval o X.env)
      let iv ← holding [v, ov] (eval i X.env)
      standAt pos
      holding [v, ov, iv] (setItem ov iv v)
      release [v, ov, iv] []) := by intro _; rfl) : PG X (.Subscript o i pos) (gSub to ti t) := by
  intro pins s σ H v u Q I r h
  rw [ha]
  refine wpAny_bind (wpAny_holding (thn (ho pins s σ H _ I h) fun ov s1 ⟨x, H1, I1, r1, q1⟩ => ?_))
  refine wpAny_bind (wpAny_holding (thn (hi pins s1 σ H1 _ I1 q1) fun iv s2 ⟨y, H2, I2, r2, q2⟩ => ?_))
  refine wpAny_bind (wpAny_standAt (wpAny_bind (wpAny_holding (thn (hs pins s2 σ H2 x y v ov iv u _ I2 r1 r2 r q2) fun _ s3 ⟨H3, I3, q3⟩ => ?_))))
  exact wpAny_release ⟨σ, H3, I3, q3⟩
/-- target = value -/
def tAsg (te : TE) (g : TG) : TS := fun D σ H => te σ H fun x H1 => g x σ H1 D.nx
theorem ps_asg {tg e : Expr} {te : TE} {g : TG} (he : PE X e te) (hg : PG X tg g) (hs : swapsWithSole [tg] e pos.line X.env = pure false := by rfl) (hw : swappedStores [tg] e X.env = pure none := by rfl)
    (h1 : (assignEach [tg] X.env).map (·.2) = [assign tg X.env] := by rfl) : PS X (.Assign [tg] e pos) (tAsg te g) := by
  intro pins s σ H D I h
  refine wpAny_Assign_stores (thn (he pins s σ H _ I h) fun v s1 ⟨x, H1, I1, r1, q1⟩ => ?_) hs hw
  rw [h1]
  exact thn (hg pins s1 σ H1 x v _ I1 r1 q1) fun _ s2 q => q
/-- name = value -/
theorem ps_set {i : Nat} {x : Str} {e : Expr} {te : TE} {pos' : Pos} (hN : X.N.Nodup) (hi : X.N[i]? = some x) (hx : Loc X.env.scope x) (he : PE X e te) (hs : swapsWith e (some (.Name x pos')) pos.line X.env = pure false := by rfl) (hf : X.fn x = true ∨ X.env.scope.names.lookup x = some .local := by first | exact .inl rfl | exact .inr rfl | assumption) :
    PS X (.Assign [.Name x pos'] e pos) (tAsg te (gName i)) := by
  intro pins s σ H D I h
  refine wpAny_Assign_Name (thn (he pins s σ H _ I h) fun v s1 ⟨y, H1, I1, r1, q1⟩ => ?_) hs
  exact store_ok I1 hN hi hx r1 (fun s2 I2 => ⟨_, H1, I2, q1⟩) hf
end

section
variable {X : Cx} {pos : Pos}
/-- the invariant W with its measure -/
def tWhile (c : TT) (tb : TS) : TS := fun D σ H => ∃ W : Nat → St → Hp → Prop, (∃ m, W m σ H) ∧ ∀ m σ H, W m σ H →
  c σ H fun b H1 => if b = true then ∃ N : St → Hp → Prop, (∀ σ' H', N σ' H' → ∃ m', m' < m ∧ W m' σ' H') ∧ tb { D with nx := N, ct := N, bk := D.nx } σ H1 else D.nx σ H1
theorem ps_while {c : Expr} {body : List Stmt} {tc : TT} {tb : TS} (hp : PassesOwn (model X.prog X.w) X.A X.env X.xe) (hc : PT X c tc) (hb : PSs X body tb) : PS X (.While c body [] pos) (tWhile tc tb) := by
  intro pins s σ H D I h
  obtain ⟨W, ⟨m0, w0⟩, turn⟩ := h
  refine wpAny_While (codeAny_whileLoop (fun n s' => ∃ σ' H', Inv X pins σ' H' s' ∧ W n σ' H') ?_ m0 ⟨σ, H, I, w0⟩)
  rintro n s1 ⟨σ1, H1, I1, w1⟩
  refine wpAny_passesOwn hp (thn (hc pins s1 σ1 H1 _ I1 (turn n σ1 H1 w1)) fun b s2 ⟨H2, I2, q2⟩ => ?_)
  cases b with
  | true =>
    obtain ⟨N, hN, q2⟩ := q2
    rw [if_pos rfl]
    refine wpAny_passesOwn hp (thn (hb pins s2 σ1 H2 _ I2 q2) fun f s3 q3 => ?_)
    cases f with
    | next =>
      obtain ⟨σ3, H3, I3, n3⟩ := q3
      obtain ⟨m', hm, w3⟩ := hN σ3 H3 n3
      exact ⟨m', hm, σ3, H3, I3, w3⟩
    | cont =>
      obtain ⟨σ3, H3, I3, n3⟩ := q3
      obtain ⟨m', hm, w3⟩ := hN σ3 H3 n3
      exact ⟨m', hm, σ3, H3, I3, w3⟩
    | brk => exact q3
    | ret v => exact q3
  | false =>
    rw [if_neg Bool.false_ne_true]
    exact wpAny_execs_nil ⟨σ1, H2, I2, q2⟩
end

/-- at turn i: it yields x (the heap may grow), or it stops -/
structure It where
  go : Nat → Hp → Prop
  yld : Nat → Hp → V → Hp → Prop
  stop : Nat → Hp → Prop
/-- the iterator's own objects may turn: they are not the frame's, not pinned, younger than the entry (or a comprehension's own) -/
def FpOk (X : Cx) (pins : List (Addr × Obj)) (H : Hp) (b : Addr) : Prop :=
  H b = none ∧ b ≠ X.env.locals ∧ b ∉ X.fs ∧ (b ∈ X.ex ∨ X.sZ.heap.objs.size ≤ b) ∧ (∀ x c, X.env.cells.lookup x = some c → c ≠ b) ∧ ∀ p ∈ X.pn ++ pins, p.1 ≠ b
theorem Inv.fpOk {X : Cx} {pins : List (Addr × Obj)} {σ : St} {H H' : Hp} {s : Shared} {b : Addr} (I : Inv X pins σ H s) (hb : s.heap.objs.size ≤ b) (hn : H' b = none) : FpOk X pins H' b := by
  refine ⟨hn, Nat.ne_of_gt (Nat.lt_of_lt_of_le I.lt hb), I.nofs hb, .inr (Nat.le_trans I.sz hb), fun x c e z => ?_, fun p hp z => ?_⟩
  · obtain ⟨v, q⟩ := I.cell x c e
    exact absurd (Nat.lt_of_lt_of_le q.lt (by rw [z]; exact hb)) (Nat.lt_irrefl _)
  · exact absurd (Nat.lt_of_lt_of_le (Heap.lt_size (I.pin p hp).1) (by rw [z]; exact hb)) (Nat.lt_irrefl _)
structure Turn (P : Program) (w : World) (K : PySem.W.Frag) (tg : Expr) (J : It) (fp : List Addr) (it : Addr) (tn : Nat → Heap → Prop) : Prop where
  mem : it ∈ fp
  obj : ∀ i h, tn i h → ∀ b ∈ fp, ∃ o, h.get? b = some o ∧ ∀ v, o.data ≠ .cell v
  keep : ∀ i h h', tn i h → (∀ b ∈ fp, ∀ o, h.get? b = some o → h'.get? b = some o) → tn i h'
  item : ∀ (X : Cx), X.prog = P → X.w = w → X.K = K → X.calm = true → ∀ (i : Nat) (pins : List (Addr × Obj)) (s : Shared) (σ : St) (H : Hp) (E : Value → Shared → Prop), Inv X pins σ H s → (∀ b ∈ fp, FpOk X pins H b) → tn i s.heap → J.go i H →
    wpAny (model P w) X.A (pyNext (.ref it)) (fun r s1 => ∃ u, r = some u ∧
      wpAny (model P w) X.A (letOwnedTupleGo tg (.ref it) u) (fun _ s2 => ∃ x H', Inv X pins σ H' s2 ∧ RelV x u ∧ J.yld i H x H' ∧ tn (i + 1) s2.heap ∧ ∀ b ∈ fp, H' b = none) E s1) E s
  done : ∀ (X : Cx), X.prog = P → X.w = w → X.K = K → X.calm = true → ∀ (i : Nat) (pins : List (Addr × Obj)) (s : Shared) (σ : St) (H : Hp) (E : Value → Shared → Prop), Inv X pins σ H s → (∀ b ∈ fp, FpOk X pins H b) → tn i s.heap → J.stop i H →
    wpAny (model P w) X.A (pyNext (.ref it)) (fun r s1 => r = none ∧ Inv X pins σ H s1) E s
  self : ∀ (A : Around) (i : Nat) (s : Shared) (Q : Value → Shared → Prop) (E : Value → Shared → Prop), tn i s.heap → Q (.ref it) s → wpAny (model P w) A (pyIter (.ref it)) Q E s
abbrev TI := St → Hp → (It → Hp → Prop) → Prop
/-- an iterator has come -/
def PIE (X : Cx) (pins : List (Addr × Obj)) (σ : St) (tg : Expr) (R : It → Hp → Prop) (itv : Value) (s2 : Shared) : Prop :=
  ∃ (it : Addr) (fp : List Addr) (tn : Nat → Heap → Prop) (J : It) (H' : Hp), itv = .ref it ∧ Inv X pins σ H' s2 ∧ Turn X.prog X.w X.K tg J fp it tn ∧ tn 0 s2.heap ∧ (∀ b ∈ fp, FpOk X pins H' b) ∧ R J H'
def PI (X : Cx) (tg iter : Expr) (wi : TI) : Prop :=
  ∀ (pins : List (Addr × Obj)) (s : Shared) (σ : St) (H : Hp) (R : It → Hp → Prop), Inv X pins σ H s → wi σ H R →
    wpAny (model X.prog X.w) X.A (eval iter X.env) (fun v s1 => wpAny (model X.prog X.w) X.A (pyIter v) (PIE X pins σ tg R) X.xe s1) X.xe s

/-- the step ahead of the store is nothing for an iterator that keeps no tuple -/
theorem go_of {M : Model} {A : Around} {E : Value → Shared → Prop} {s : Shared} {tg : Expr} {it : Addr} {u : Value} {o : Obj} {n : String} {vs : Array Value} {Q : Unit → Shared → Prop} (ho : s.heap.get? it = some o) (hc : o.cls = .type n) (hd : o.data = .fields vs)
    (hn : ["enumerate", "zip", "dict_itemiterator", "dict_reverseitemiterator", "odict_iterator", "itertools.zip_longest", "itertools.pairwise"].contains n = false) (hQ : Q () s) : wpAny M A (letOwnedTupleGo tg (.ref it) u) Q E s := by
  unfold letOwnedTupleGo
  cases tg <;> first
    | exact wpAny_pure hQ
    | (cases u <;> first
        | exact wpAny_pure hQ
        | (refine wpAny_bind (wpAny_load ho ?_)
           rw [hc, hd]
           show wpAny M A (if (["enumerate", "zip", "dict_itemiterator", "dict_reverseitemiterator", "odict_iterator", "itertools.zip_longest", "itertools.pairwise"].contains n && vs[0]? == some (rawInt _)) = true then _ else _) Q E s
           rw [if_neg (by intro h; rw [hn, Bool.false_and] at h; cases h)]
           exact wpAny_pure hQ))

/-- the list at a, as it stands at each turn (a loop may append to it) -/
def Itl (K : PySem.W.Frag) (a : Addr) : It :=
  ⟨fun i H => ∃ xs x, SqL K H a xs ∧ xs[i]? = some x, fun i H x H' => H' = H ∧ ∀ xs, SqL K H a xs → xs[i]? = some x, fun i H => ∃ xs, SqL K H a xs ∧ xs.length ≤ i⟩
def Itt (K : PySem.W.Frag) (a : Addr) : It :=
  ⟨fun i H => ∃ xs x, SqT K H a xs ∧ xs[i]? = some x, fun i H x H' => H' = H ∧ ∀ xs, SqT K H a xs → xs[i]? = some x, fun i H => ∃ xs, SqT K H a xs ∧ xs.length ≤ i⟩
/-- lo, lo + 1, .. (n of them) -/
def Itr (lo : Int) (n : Nat) : It := ⟨fun i _ => i < n, fun i H x H' => H' = H ∧ x = .int (lo + i), fun i _ => n ≤ i⟩
theorem turn_list {P : Program} {w : World} {K : PySem.W.Frag} {tg : Expr} (a it : Addr) : Turn P w K tg (Itl K a) [it] it (fun i h => h.IsListIter it a i) where
  mem := by simp
  obj := fun i h st b hb => by
    have e : b = it := by simpa using hb
    subst e
    obtain ⟨o, e, c, d⟩ := st
    exact ⟨o, e, fun v z => by rw [d] at z; cases z⟩
  keep := fun i h h' st k => st.at fun o e => k it (by simp) o e
  item := by
    intro X hP hw hK hc i pins s σ H E I hf st hg
    subst hP hw hK
    obtain ⟨xs, x, hq, hx⟩ := hg
    obtain ⟨its, rv, p, hz⟩ := I.list hq
    obtain ⟨u, hu, ru⟩ := rv.get hx
    obtain ⟨f0, f1, f2, f3, f4, f5⟩ := hf it (by simp)
    refine wpAny_pyNext_list_item st p.isList (x := u) (by simpa using hu) fun h' st' sb => ?_
    have I1 : Inv X pins σ H { s with heap := h' } := I.turned (t' := s.toks) (fun b o hb e => (sb.2 b hb).trans e) f0 f1 f3 f4 f5
    obtain ⟨o, e, c, d⟩ := id st'
    exact ⟨u, rfl, go_of (s := { s with heap := h' }) e c d (by decide) ⟨x, H, I1, ru, ⟨rfl, fun ys hy => by rw [I.list_inj hy hq]; exact hx⟩, st', fun b hb => (hf b hb).1⟩⟩
  done := by
    intro X hP hw hK hc i pins s σ H E I hf st hg
    subst hP hw hK
    obtain ⟨xs, hq, hx⟩ := hg
    obtain ⟨its, rv, p, hz⟩ := I.list hq
    obtain ⟨f0, f1, f2, f3, f4, f5⟩ := hf it (by simp)
    have hl := rv.length
    exact wpAny_pyNext_list_end (I.ok.hd hc) st p.isList (by simp; omega) fun h' eb => ⟨rfl, I.turned (t' := s.toks) (fun b o hb e => eb b o hb e) f0 f1 f3 f4 f5⟩
  self := fun _ _ _ _ _ st h => wpAny_pyIter_listiter st h
theorem turn_tuple {P : Program} {w : World} {K : PySem.W.Frag} {tg : Expr} (a it : Addr) : Turn P w K tg (Itt K a) [it] it (fun i h => h.IsTupleIter it a i) where
  mem := by simp
  obj := fun i h st b hb => by
    have e : b = it := by simpa using hb
    subst e
    obtain ⟨o, e, c, d⟩ := st
    exact ⟨o, e, fun v z => by rw [d] at z; cases z⟩
  keep := fun i h h' st k => st.at fun o e => k it (by simp) o e
  item := by
    intro X hP hw hK hc i pins s σ H E I hf st hg
    subst hP hw hK
    obtain ⟨xs, x, hq, hx⟩ := hg
    obtain ⟨its, rv, p, hz⟩ := I.tuple hq
    obtain ⟨u, hu, ru⟩ := rv.get hx
    obtain ⟨f0, f1, f2, f3, f4, f5⟩ := hf it (by simp)
    refine wpAny_pyNext_tuple_item st (show s.heap.IsTuple a its.toArray from p) (x := u) (by simpa using hu) fun h' st' sb => ?_
    have I1 : Inv X pins σ H { s with heap := h' } := I.turned (t' := s.toks) (fun b o hb e => (sb.2 b hb).trans e) f0 f1 f3 f4 f5
    obtain ⟨o, e, c, d⟩ := id st'
    exact ⟨u, rfl, go_of (s := { s with heap := h' }) e c d (by decide) ⟨x, H, I1, ru, ⟨rfl, fun ys hy => by rw [I.tuple_inj hy hq]; exact hx⟩, st', fun b hb => (hf b hb).1⟩⟩
  done := by
    intro X hP hw hK hc i pins s σ H E I hf st hg
    subst hP hw hK
    obtain ⟨xs, hq, hx⟩ := hg
    obtain ⟨its, rv, p, hz⟩ := I.tuple hq
    obtain ⟨f0, f1, f2, f3, f4, f5⟩ := hf it (by simp)
    have hl := rv.length
    exact wpAny_pyNext_tuple_end (I.ok.hd hc) st (show s.heap.IsTuple a its.toArray from p) (by simp; omega) fun h' eb => ⟨rfl, I.turned (t' := s.toks) (fun b o hb e => eb b o hb e) f0 f1 f3 f4 f5⟩
  self := fun _ _ _ _ _ st h => wpAny_pyIter_tupleiter st h
theorem turn_range {P : Program} {w : World} {K : PySem.W.Frag} {tg : Expr} (it : Addr) (lo : Int) (n : Nat) : Turn P w K tg (Itr lo n) [it] it (fun i h => IsRangeIter h it (lo + (i : Nat) * 1) ((n : Int) - (i : Nat)) 1) where
  mem := by simp
  obj := fun i h st b hb => by
    have e : b = it := by simpa using hb
    subst e
    exact ⟨_, st, fun v z => by
      have z' : Data.fields _ = Data.cell v := z
      cases z'⟩
  keep := fun i h h' st k => k it (by simp) _ st
  item := by
    intro X hP hw hK hc i pins s σ H E I hf st hg
    subst hP hw hK
    obtain ⟨f0, f1, f2, f3, f4, f5⟩ := hf it (by simp)
    have W := Walks.range (prog := X.prog) (w := X.w) (I.ok.hd hc) it lo 1 n
    refine W.item i s _ _ hg st fun v h' tk hv st' kk => ?_
    obtain ⟨t, rfl⟩ := hv
    have I1 : Inv X pins σ H { s with heap := h', toks := tk } := I.turned (fun b o hb e => kk b o (by simpa using hb) e) f0 f1 f3 f4 f5
    refine ⟨_, rfl, go_of (s := { s with heap := h', toks := tk }) (n := "range_iterator") st' rfl rfl (by decide) ⟨.int (lo + i), H, I1, ⟨t, ?_⟩, ⟨rfl, rfl⟩, st', fun b hb => (hf b hb).1⟩⟩
    rw [Int.mul_one]
  done := by
    intro X hP hw hK hc i pins s σ H E I hf st hg
    subst hP hw hK
    obtain ⟨f0, f1, f2, f3, f4, f5⟩ := hf it (by simp)
    exact wpAny_pyNext_range_end (I.ok.hd hc) st (by have : n ≤ i := hg; omega) fun h' eb => ⟨rfl, I.turned (t' := s.toks) (fun b o hb e => eb b o hb e) f0 f1 f3 f4 f5⟩
  self := fun _ _ _ _ _ st h => wpAny_pyIter_rangeiter st h
end L2

namespace L2
open PySem PySem.Spec PyProof.Rows
section
variable {X : Cx} {tg : Expr}
def iList (K : PySem.W.Frag) (tl : TE) : TI := fun σ H R => tl σ H fun x H1 => ∃ a, x = .ref a ∧ (∃ xs, SqL K H1 a xs) ∧ R (Itl K a) H1
def iTup (K : PySem.W.Frag) (tl : TE) : TI := fun σ H R => tl σ H fun x H1 => ∃ a, x = .ref a ∧ (∃ xs, SqT K H1 a xs) ∧ R (Itt K a) H1
theorem pi_list {l : Expr} {tl : TE} (hl : PE X l tl) : PI X tg l (iList X.K tl) := by
  intro pins s σ H R I h
  refine thn (hl pins s σ H _ I h) fun v s1 ⟨x, H1, I1, r1, q1⟩ => ?_
  obtain ⟨a, e, ⟨xs, hq⟩, q⟩ := q1
  subst e
  cases r1
  obtain ⟨its, rv, p, hz⟩ := I1.list hq
  refine wpAny_pyIter_list p.isList ?_
  refine ⟨s1.heap.objs.size, [s1.heap.objs.size], _, _, H1, rfl, I1.kept (t' := s1.toks) fun b o e => Heap.get?_push_of_some _ e, turn_list a _, ⟨_, Heap.get?_push_size _ rfl, rfl, rfl⟩, fun b hb => ?_, q⟩
  have e : b = s1.heap.objs.size := by simpa using hb
  subst e
  exact I1.fpOk (Nat.le_refl _) (I1.hok.fresh (Nat.le_refl _))
theorem pi_tup {l : Expr} {tl : TE} (hl : PE X l tl) : PI X tg l (iTup X.K tl) := by
  intro pins s σ H R I h
  refine thn (hl pins s σ H _ I h) fun v s1 ⟨x, H1, I1, r1, q1⟩ => ?_
  obtain ⟨a, e, ⟨xs, hq⟩, q⟩ := q1
  subst e
  cases r1
  obtain ⟨its, rv, p, hz⟩ := I1.tuple hq
  refine wpAny_pyIter_tuple (show s1.heap.IsTuple a its.toArray from p) ?_
  refine ⟨s1.heap.objs.size, [s1.heap.objs.size], _, _, H1, rfl, I1.kept (t' := s1.toks) fun b o e => Heap.get?_push_of_some _ e, turn_tuple a _, ⟨_, Heap.get?_push_size _ rfl, rfl, rfl⟩, fun b hb => ?_, q⟩
  have e : b = s1.heap.objs.size := by simpa using hb
  subst e
  exact I1.fpOk (Nat.le_refl _) (I1.hok.fresh (Nat.le_refl _))
/-- a range object just made, walked -/
theorem range_it {pins : List (Addr × Obj)} {σ : St} {H : Hp} {s : Shared} {R : It → Hp → Prop} {E : Value → Shared → Prop} {lo hi : Int} {t u v : Tok} {tk : Nat} (I : Inv X pins σ H s) (h1 : -(2 ^ 62) ≤ lo) (h2 : lo < 2 ^ 62) (h3 : -(2 ^ 62) ≤ hi) (h4 : hi < 2 ^ 62)
    (q : R (Itr lo (hi - lo).toNat) H) : wpAny (model X.prog X.w) X.A (pyIter (.ref s.heap.objs.size)) (PIE X pins σ tg R) E { s with heap := s.heap.push { cls := .type "range", data := .fields #[.int lo t, .int hi u, .int 1 v] }, toks := tk } := by
  refine wpAny_pyIter_range (IsRange.new ..) (small_one h1 h2 h3 h4) ?_
  have I1 : Inv X pins σ H { s with heap := s.heap.push { cls := .type "range", data := .fields #[.int lo t, .int hi u, .int 1 v] }, toks := tk } := I.kept fun b o e => Heap.get?_push_of_some _ e
  refine ⟨(s.heap.push { cls := .type "range", data := .fields #[.int lo t, .int hi u, .int 1 v] }).objs.size, [(s.heap.push { cls := .type "range", data := .fields #[.int lo t, .int hi u, .int 1 v] }).objs.size], _, _, H, rfl,
    I1.kept (t' := tk) fun b o e => Heap.get?_push_of_some _ e, turn_range _ lo (hi - lo).toNat, ?_, fun b hb => ?_, q⟩
  · have e1 : lo + ((0 : Nat) : Int) * 1 = lo := by simp
    have e2 : (((hi - lo).toNat : Nat) : Int) - ((0 : Nat) : Int) = Builtin.Range.rangeSize lo hi 1 := by rw [rangeSize_one]; split <;> omega
    show IsRangeIter _ _ (lo + ((0 : Nat) : Int) * 1) ((((hi - lo).toNat : Nat) : Int) - ((0 : Nat) : Int)) 1
    rw [e1, e2]
    exact Heap.get?_push_size _ rfl
  · have e : b = (s.heap.push { cls := .type "range", data := .fields #[.int lo t, .int hi u, .int 1 v] }).objs.size := by simpa using hb
    subst e
    exact I1.fpOk (Nat.le_refl _) (I1.hok.fresh (Nat.le_refl _))
def iRng1 (ta : TA) : TI := fun σ H R => ta σ H fun vs H1 => ∃ j : Int, vs = [.int j] ∧ -(2 ^ 62) ≤ j ∧ j < 2 ^ 62 ∧ R (Itr 0 j.toNat) H1
theorem pi_range1 {a : Expr} {ta : TA} {p pos : Pos} (hg : Gl X "range") (hm : X.mg "range" = none) (ha : PA X [a] ta) (hs : starEach [a] X.env = [(false, eval a X.env)] := by rfl) : PI X tg (.Call (.Name "range" p) [a] [] pos) (iRng1 ta) := by
  intro pins s σ H R I h
  refine Call_ (ld_blt I hg hm boot_range (PyProof.Rows.callWith_type1 (thn (ha pos pins s σ H _ I h) fun us s1 ⟨vs, H1, I1, r1, q1⟩ => ?_) hs rfl))
  obtain ⟨j, e, q1, q2, q⟩ := q1
  subst e
  cases r1 with
  | cons r rr =>
    cases rr
    obtain ⟨t, rfl⟩ := r
    exact call_range_1 (range_it I1 (by omega) (by omega) q1 q2 (by simpa using q))
/-- W: the invariant by the turn and a measure; N: what the body is to reach -/
def tFor (wi : TI) (g : TG) (tb : TS) : TS := fun D σ H => wi σ H fun J H1 => ∃ W : Nat → Nat → St → Hp → Prop, (∃ m, W 0 m σ H1) ∧ ∀ i m σ H, W i m σ H →
  (J.stop i H ∧ D.nx σ H) ∨ (J.go i H ∧ ∃ N : St → Hp → Prop, (∀ σ' H', N σ' H' → ∃ m', m' < m ∧ W (i + 1) m' σ' H') ∧ ∀ x H', J.yld i H x H' → g x σ H' fun σ2 H2 => tb { D with nx := N, ct := N, bk := D.nx } σ2 H2)
/-- the records at fp as they stand -/
def pinsAt (fp : List Addr) (h : Heap) : List (Addr × Obj) := fp.filterMap fun b => (h.get? b).map fun o => (b, o)
theorem mem_pinsAt {fp : List Addr} {h : Heap} {b : Addr} {o : Obj} (hb : b ∈ fp) (e : h.get? b = some o) : (b, o) ∈ pinsAt fp h := List.mem_filterMap.mpr ⟨b, hb, by rw [e]; rfl⟩
theorem of_pinsAt {fp : List Addr} {h : Heap} {p : Addr × Obj} (hp : p ∈ pinsAt fp h) : p.1 ∈ fp ∧ h.get? p.1 = some p.2 := by
  obtain ⟨b, hb, e⟩ := List.mem_filterMap.mp hp
  cases q : h.get? b with
  | none => rw [q] at e; cases e
  | some o =>
    rw [q] at e
    have e' : (b, o) = p := Option.some.inj e
    subst e'
    exact ⟨hb, q⟩
theorem Inv.pinned {pins : List (Addr × Obj)} {σ : St} {H : Hp} {s : Shared} {fp : List Addr} (I : Inv X pins σ H s) (hf : ∀ b ∈ fp, FpOk X pins H b) (ho : ∀ b ∈ fp, ∃ o, s.heap.get? b = some o ∧ ∀ v, o.data ≠ .cell v) : Inv X (pins ++ pinsAt fp s.heap) σ H s :=
  I.pins_of fun p hp => (List.mem_append.mp hp).elim (fun z => I.pin p (List.mem_append_right _ z)) fun z => by
    obtain ⟨hb, e⟩ := of_pinsAt z
    obtain ⟨f0, f1, f2, _⟩ := hf p.1 hb
    obtain ⟨o, e', d⟩ := ho p.1 hb
    rw [e] at e'; cases e'
    exact ⟨e, f0, f1, f2, d⟩
theorem Inv.unpinned {pins pl : List (Addr × Obj)} {σ : St} {H : Hp} {s : Shared} (I : Inv X (pins ++ pl) σ H s) : Inv X pins σ H s := I.pins_of fun p hp => I.pin p (List.mem_append_right _ (List.mem_append_left _ hp))
theorem ps_for {iter : Expr} {body : List Stmt} {wi : TI} {g : TG} {tb : TS} {pos : Pos} (hp : PassesOwn (model X.prog X.w) X.A X.env X.xe) (hc : X.calm = true) (hi : PI X tg iter wi) (hg : PG X tg g) (hb : PSs X body tb)
    (hs : ∀ x, foldedSetIterable iter X.env x = pure x := by intro _; rfl) : PS X (.For tg iter body [] pos) (tFor wi g tb) := by
  intro pins s σ H D I h
  refine wpAny_For (thn (hi pins s σ H _ I h) fun v s1 h1 => thn h1 fun itv s2 h2 => ?_) hs
  obtain ⟨it, fp, tn, J, H2, e, I2, T, st2, f2, W, ⟨m0, w0⟩, turn⟩ := h2
  subst e
  -- what stays true of the iterator's objects through the loop
  have stat : ∀ {H' : Hp}, (∀ b ∈ fp, H' b = none) → ∀ b ∈ fp, FpOk X pins H' b := fun hn b hb => ⟨hn b hb, (f2 b hb).2⟩
  refine codeAny_forLoop_any (fun n s' => ∃ i σ' H', Inv X pins σ' H' s' ∧ tn i s'.heap ∧ (∀ b ∈ fp, H' b = none) ∧ W i n σ' H') ?_ m0 ⟨0, σ, H2, I2, st2, fun b hb => (f2 b hb).1, w0⟩
  rintro n s3 ⟨i, σ3, H3, I3, st3, fr3, w3⟩
  rcases turn i n σ3 H3 w3 with ⟨stop, qn⟩ | ⟨go, N, hN, step⟩
  · refine wpAny_passesOwn hp (thn (T.done X rfl rfl rfl hc i pins s3 σ3 H3 X.xe I3 (stat fr3) st3 stop) fun r s4 ⟨hr, I4⟩ => ?_)
    subst hr
    exact wpAny_execs_nil ⟨σ3, H3, I4, qn⟩
  · refine wpAny_passesOwn hp (thn (T.item X rfl rfl rfl hc i pins s3 σ3 H3 X.xe I3 (stat fr3) st3 go) fun r s4 ⟨u, hr, h4⟩ => ?_)
    subst hr
    refine wpAny_passesOwn hp (thn h4 fun _ s5 ⟨x, H5, I5, r5, y5, st5, fr5⟩ => ?_)
    have I5' := I5.pinned (stat fr5) (T.obj _ _ st5)
    refine wpAny_passesOwn hp (thn (hg _ s5 σ3 H5 x u _ I5' r5 (step x H5 y5)) fun _ s6 ⟨σ6, H6, I6, q6⟩ => ?_)
    refine wpAny_passesOwn hp (thn (hb _ s6 σ6 H6 _ I6 q6) fun f s7 q7 => ?_)
    have again : ∀ {σ7 : St} {H7 : Hp}, Inv X (pins ++ pinsAt fp s5.heap) σ7 H7 s7 → N σ7 H7 → ∃ m, m < n ∧ ∃ i σ' H', Inv X pins σ' H' s7 ∧ tn i s7.heap ∧ (∀ b ∈ fp, H' b = none) ∧ W i m σ' H' := fun {σ7 H7} I7 n7 => by
      obtain ⟨m', hm, w7⟩ := hN σ7 H7 n7
      refine ⟨m', hm, i + 1, σ7, H7, I7.unpinned, T.keep _ _ _ st5 fun b hb o e => (I7.pin (b, o) (List.mem_append_right _ (List.mem_append_right _ (mem_pinsAt hb e)))).1, fun b hb => ?_, w7⟩
      obtain ⟨o, e, d⟩ := T.obj _ _ st5 b hb
      exact (I7.pin (b, o) (List.mem_append_right _ (List.mem_append_right _ (mem_pinsAt hb e)))).2.1
    cases f with
    | next => obtain ⟨σ7, H7, I7, n7⟩ := q7; exact again I7 n7
    | cont => obtain ⟨σ7, H7, I7, n7⟩ := q7; exact again I7 n7
    | brk => obtain ⟨σ7, H7, I7, q7⟩ := q7; exact ⟨σ7, H7, I7.unpinned, q7⟩
    | ret v => obtain ⟨x7, σ7, H7, I7, r7, q7⟩ := q7; exact ⟨x7, σ7, H7, I7.unpinned, r7, q7⟩
end

/-- over a list that the body leaves as it is -/
theorem for_list {K : PySem.W.Frag} {a : Addr} {xs : List V} {g : TG} {tb : TS} {D : Ends} {σ : St} {H : Hp} (Pv : Nat → St → Hp → Prop) (h0 : Pv 0 σ H) (hl : ∀ i σ H, i ≤ xs.length → Pv i σ H → SqL K H a xs)
    (hs : ∀ i x σ H, xs[i]? = some x → Pv i σ H → g x σ H fun σ2 H2 => tb { D with nx := Pv (i + 1), ct := Pv (i + 1), bk := D.nx } σ2 H2) (hd : ∀ σ H, Pv xs.length σ H → D.nx σ H) :
    ∃ W : Nat → Nat → St → Hp → Prop, (∃ m, W 0 m σ H) ∧ ∀ i m σ H, W i m σ H →
      ((Itl K a).stop i H ∧ D.nx σ H) ∨ ((Itl K a).go i H ∧ ∃ N : St → Hp → Prop, (∀ σ' H', N σ' H' → ∃ m', m' < m ∧ W (i + 1) m' σ' H') ∧ ∀ x H', (Itl K a).yld i H x H' → g x σ H' fun σ2 H2 => tb { D with nx := N, ct := N, bk := D.nx } σ2 H2) := by
  refine ⟨fun i m σ H => m = xs.length - i ∧ i ≤ xs.length ∧ Pv i σ H, ⟨xs.length, by simp, Nat.zero_le _, h0⟩, ?_⟩
  rintro i m σ H ⟨rfl, hi, p⟩
  have q := hl i σ H hi p
  by_cases hlt : i < xs.length
  · refine .inr ⟨⟨xs, xs[i], q, by simp [hlt]⟩, Pv (i + 1), fun σ' H' p' => ⟨xs.length - (i + 1), by omega, rfl, hlt, p'⟩, fun x H' y => ?_⟩
    obtain ⟨e, y⟩ := y
    subst e
    exact hs i x σ _ (y xs q) p
  · have e : i = xs.length := by omega
    subst e
    exact .inl ⟨⟨xs, q, Nat.le_refl _⟩, hd σ H p⟩
theorem for_range {lo : Int} {n : Nat} {g : TG} {tb : TS} {D : Ends} {σ : St} {H : Hp} (Pv : Nat → St → Hp → Prop) (h0 : Pv 0 σ H)
    (hs : ∀ i σ H, i < n → Pv i σ H → g (.int (lo + i)) σ H fun σ2 H2 => tb { D with nx := Pv (i + 1), ct := Pv (i + 1), bk := D.nx } σ2 H2) (hd : ∀ σ H, Pv n σ H → D.nx σ H) :
    ∃ W : Nat → Nat → St → Hp → Prop, (∃ m, W 0 m σ H) ∧ ∀ i m σ H, W i m σ H →
      ((Itr lo n).stop i H ∧ D.nx σ H) ∨ ((Itr lo n).go i H ∧ ∃ N : St → Hp → Prop, (∀ σ' H', N σ' H' → ∃ m', m' < m ∧ W (i + 1) m' σ' H') ∧ ∀ x H', (Itr lo n).yld i H x H' → g x σ H' fun σ2 H2 => tb { D with nx := N, ct := N, bk := D.nx } σ2 H2) := by
  refine ⟨fun i m σ H => m = n - i ∧ i ≤ n ∧ Pv i σ H, ⟨n, by simp, Nat.zero_le _, h0⟩, ?_⟩
  rintro i m σ H ⟨rfl, hi, p⟩
  by_cases hlt : i < n
  · refine .inr ⟨hlt, Pv (i + 1), fun σ' H' p' => ⟨n - (i + 1), by omega, rfl, hlt, p'⟩, fun x H' y => ?_⟩
    obtain ⟨e, y⟩ := y
    subst e y
    exact hs i σ _ hlt p
  · have e : i = n := by omega
    subst e
    exact .inl ⟨Nat.le_refl _, hd σ H p⟩
end L2

namespace L2
open PySem PySem.Spec PyProof.Rows

abbrev R2 := V → V → Hp → VK → Prop
/-- a two-place operation on values: f is binaryOp op, inplaceOp op or compareOp op -/
def OpR (X : Cx) (f : Value → Value → Sem Value) (r : R2) : Prop :=
  ∀ (pins : List (Addr × Obj)) (s : Shared) (σ : St) (H : Hp) (x y : V) (v u : Value) (Q : VK), Inv X pins σ H s → RelV x v → RelV y u → r x y H Q →
    wpAny (model X.prog X.w) X.A (f v u) (EP X pins σ Q) X.xe s
/-- a one-place operation -/
def UnR (X : Cx) (f : Value → Sem Value) (r : V → Hp → VK → Prop) : Prop :=
  ∀ (pins : List (Addr × Obj)) (s : Shared) (σ : St) (H : Hp) (x : V) (v : Value) (Q : VK), Inv X pins σ H s → RelV x v → r x H Q →
    wpAny (model X.prog X.w) X.A (f v) (EP X pins σ Q) X.xe s
/-- a call of a value that is known (a builtin, a type) with values -/
def CallR (X : Cx) (f : Value) (r : List V → Hp → VK → Prop) : Prop :=
  ∀ (pins : List (Addr × Obj)) (s : Shared) (σ : St) (H : Hp) (xs : List V) (us : List Value) (Q : VK), Inv X pins σ H s → Vals xs us → r xs H Q →
    wpAny (model X.prog X.w) X.A (call f us) (EP X pins σ Q) X.xe s
def tOp (r : R2) (ta tb : TE) : TE := fun σ H Q => ta σ H fun x H1 => tb σ H1 fun y H2 => r x y H2 Q
def tUn (r : V → Hp → VK → Prop) (ta : TE) : TE := fun σ H Q => ta σ H fun x H1 => r x H1 Q
/-- ints in, under C, and a value out -/
def rI (C : Int → Int → Prop) (g : Int → Int → V) : R2 := fun x y H Q => ∃ i j, x = .int i ∧ y = .int j ∧ C i j ∧ Q (g i j) H
def rI0 (g : Int → Int → V) : R2 := fun x y H Q => ∃ i j, x = .int i ∧ y = .int j ∧ Q (g i j) H
def rU (g : Int → V) : V → Hp → VK → Prop := fun x H Q => ∃ i, x = .int i ∧ Q (g i) H

section
variable {X : Cx} {a b c : Expr} {ta tb tc : TE} {pos : Pos}

theorem binT (ha : PE X a ta) (hb : PE X b tb) {pins : List (Addr × Obj)} {s : Shared} {σ : St} {H : Hp} {R : V → V → Hp → Prop} (I : Inv X pins σ H s)
    (h : ta σ H fun x H1 => tb σ H1 fun y H2 => R x y H2) {Q : Value → Shared → Prop} {f : Value → Value → Sem Value}
    (hf : ∀ v u s2 x y H2, Inv X pins σ H2 s2 → RelV x v → RelV y u → R x y H2 → wpAny (model X.prog X.w) X.A (f v u) Q X.xe s2) :
    wpAny (model X.prog X.w) X.A (eval a X.env) (fun v s₁ => wpAny (model X.prog X.w) X.A (eval b X.env) (fun u s₂ => wpAny (model X.prog X.w) X.A (f v u) Q X.xe s₂) X.xe s₁) X.xe s := by
  refine thn (ha pins s σ H _ I h) fun v s1 ⟨x, H1, I1, r1, q1⟩ => ?_
  refine thn (hb pins s1 σ H1 _ I1 q1) fun u s2 ⟨y, H2, I2, r2, q2⟩ => ?_
  exact hf v u s2 x y H2 I2 r1 r2 q2

theorem pe_op {op : Operator} {r : R2} (ho : OpR X (binaryOp op) r) (ha : PE X a ta) (hb : PE X b tb) : PE X (.BinOp a op b pos) (tOp r ta tb) := by
  intro pins s σ H Q I h
  exact wpAny_BinOp (binT ha hb I h fun v u s2 x y H2 I2 rx ry q => ho pins s2 σ H2 x y v u Q I2 rx ry q)
theorem pe_un {op : UnaryOp} {r : V → Hp → VK → Prop} (ho : UnR X (unaryOp op) r) (ha : PE X a ta) : PE X (.UnaryOp op a pos) (tUn r ta) := by
  intro pins s σ H Q I h
  exact UnaryOp_ (thn (ha pins s σ H _ I h) fun v s1 ⟨x, H1, I1, r1, q1⟩ => ho pins s1 σ H1 x v Q I1 r1 q1)
theorem opI {f : Value → Value → Sem Value} {C : Int → Int → Prop} {g : Int → Int → Int}
    (rule : ∀ (i j : Int) (t u : Tok) (s : Shared) (Q : Value → Shared → Prop) (E : Value → Shared → Prop), C i j → Q (.int (g i j) s.toks) { s with toks := s.toks + 1 } → wpAny (model X.prog X.w) X.A (f (.int i t) (.int j u)) Q E s) :
    OpR X f (rI C fun i j => .int (g i j)) := by
  intro pins s σ H x y v u Q I rx ry h
  obtain ⟨i, j, rfl, rfl, hc, q⟩ := h
  obtain ⟨t, rfl⟩ := rx
  obtain ⟨t', rfl⟩ := ry
  exact rule i j t t' s _ _ hc ⟨.int (g i j), H, I.tok _, ⟨_, rfl⟩, q⟩
theorem opI0 {f : Value → Value → Sem Value} {g : Int → Int → Int}
    (rule : ∀ (i j : Int) (t u : Tok) (s : Shared) (Q : Value → Shared → Prop) (E : Value → Shared → Prop), Q (.int (g i j) s.toks) { s with toks := s.toks + 1 } → wpAny (model X.prog X.w) X.A (f (.int i t) (.int j u)) Q E s) :
    OpR X f (rI0 fun i j => .int (g i j)) := by
  intro pins s σ H x y v u Q I rx ry h
  obtain ⟨i, j, rfl, rfl, q⟩ := h
  obtain ⟨t, rfl⟩ := rx
  obtain ⟨t', rfl⟩ := ry
  exact rule i j t t' s _ _ ⟨.int (g i j), H, I.tok _, ⟨_, rfl⟩, q⟩
theorem opB0 {f : Value → Value → Sem Value} {g : Int → Int → Bool}
    (rule : ∀ (i j : Int) (t u : Tok) (s : Shared) (Q : Value → Shared → Prop) (E : Value → Shared → Prop), Q (.bool (g i j)) s → wpAny (model X.prog X.w) X.A (f (.int i t) (.int j u)) Q E s) :
    OpR X f (rI0 fun i j => .bl (g i j)) := by
  intro pins s σ H x y v u Q I rx ry h
  obtain ⟨i, j, rfl, rfl, q⟩ := h
  obtain ⟨t, rfl⟩ := rx
  obtain ⟨t', rfl⟩ := ry
  exact rule i j t t' s _ _ ⟨.bl (g i j), H, I, rfl, q⟩

def CPow (i j : Int) : Prop := 0 ≤ j ∧ j ≤ 1000000 ∧ i.natAbs < 2 ^ 64
def CMul (i j : Int) : Prop := (-(2 ^ 64) < i ∧ i < 2 ^ 64) ∨ (-(2 ^ 64) < j ∧ j < 2 ^ 64)
theorem CMul.ok {i j : Int} (h : CMul i j) : IntMulOk i j := by
  rcases h with ⟨h1, h2⟩ | ⟨h1, h2⟩
  · exact .of_left (intBits_le_64 h1 h2)
  · exact .of_right (intBits_le_64 h1 h2)
theorem op_add : OpR X (binaryOp .Add) (rI0 fun i j => .int (i + j)) := opI0 fun _ _ _ _ _ _ _ q => add_int q
theorem op_sub : OpR X (binaryOp .Sub) (rI0 fun i j => .int (i - j)) := opI0 fun _ _ _ _ _ _ _ q => sub_int q
theorem op_mul : OpR X (binaryOp .Mult) (rI CMul fun i j => .int (i * j)) := opI fun _ _ _ _ _ _ _ hc q => mul_int q hc.ok
/-- % by a positive divisor of any size -/
theorem op_mod : OpR X (binaryOp .Mod) (rI (fun _ j => 0 < j) fun i j => .int (i % j)) := opI fun i j _ _ _ _ _ hc q => by
  have h1 : (0 : Int) < j := hc
  exact mod_int' (by omega) (by rw [Int.fmod_eq_emod_of_nonneg i (by omega)]; exact q)
theorem op_pow : OpR X (binaryOp .Pow) (rI CPow fun i j => .int (i ^ j.toNat)) := opI fun _ _ _ _ _ _ _ hc q => pow_int_small hc.1 hc.2.1 hc.2.2 q
theorem unI {f : Value → Sem Value} {g : Int → Int}
    (rule : ∀ (i : Int) (t : Tok) (s : Shared) (Q : Value → Shared → Prop) (E : Value → Shared → Prop), Q (.int (g i) s.toks) { s with toks := s.toks + 1 } → wpAny (model X.prog X.w) X.A (f (.int i t)) Q E s) :
    UnR X f (rU fun i => .int (g i)) := by
  intro pins s σ H x v Q I rx h
  obtain ⟨i, rfl, q⟩ := h
  obtain ⟨t, rfl⟩ := rx
  exact rule i t s _ _ ⟨.int (g i), H, I.tok _, ⟨_, rfl⟩, q⟩
theorem un_neg : UnR X (unaryOp .USub) (rU fun i => .int (-i)) := unI fun _ _ _ _ _ q => neg_int q
end

/-- the scalars that == tells apart as data does -/
def scal : V → V → Bool
  | .non, .non => true | .non, .int _ => true | .int _, .non => true | .non, .bl _ => true | .bl _, .non => true | .non, .str _ => true | .str _, .non => true
  | .int _, .int _ => true | .bl _, .bl _ => true | .str _, .str _ => true | .byt _, .byt _ => true
  | .int _, .str _ => true | .str _, .int _ => true | .bl _, .str _ => true | .str _, .bl _ => true
  | _, _ => false
def rEq : R2 := fun x y H Q => scal x y = true ∧ Q (.bl (decide (x = y))) H
def rNe : R2 := fun x y H Q => scal x y = true ∧ Q (.bl (!decide (x = y))) H

theorem dec_int {i j : Int} : decide (V.int i = V.int j) = (i == j) := by
  rw [Bool.eq_iff_iff]
  simp
theorem dec_bl {i j : Bool} : decide (V.bl i = V.bl j) = (i == j) := by
  rw [Bool.eq_iff_iff]
  simp
theorem dec_str {i j : Str} : decide (V.str i = V.str j) = (i == j) := by
  rw [Bool.eq_iff_iff]
  simp
theorem dec_byt {i j : Array UInt8} : decide (V.byt i = V.byt j) = (i.toList == j.toList) := by
  rw [Bool.eq_iff_iff]
  cases i
  cases j
  simp

section
variable {X : Cx} {a b c : Expr} {ta tb tc : TE} {pos : Pos}
theorem fin_bl {pins : List (Addr × Obj)} {σ : St} {H : Hp} {s : Shared} {Q : VK} {k k' : Bool} (I : Inv X pins σ H s) (q : Q (.bl k) H) (e : k = k') : EP X pins σ Q (.bool k') s := by
  subst e
  exact ⟨.bl k, H, I, rfl, q⟩
theorem op_eq : OpR X (compareOp .Eq) rEq := by
  intro pins s σ H x y v u Q I rx ry h
  obtain ⟨hs, q⟩ := h
  cases x with
  | non =>
    cases rx
    cases y with
    | non => cases ry; exact PySem.EqNone.eq_none_none (fin_bl I q (by simp))
    | bl j => cases ry; exact PySem.EqNone.eq_none_bool (fin_bl I q (by simp))
    | int j => obtain ⟨t', rfl⟩ := ry; exact PySem.EqNone.eq_none_int (fin_bl I q (by simp))
    | str j => obtain ⟨t', rfl⟩ := ry; exact PySem.EqNone.eq_none_str (fin_bl I q (by simp))
    | _ => exact absurd (show false = true from hs) Bool.false_ne_true
  | bl i =>
    cases rx
    cases y with
    | non => cases ry; exact PySem.EqNone.eq_bool_none (fin_bl I q (by simp))
    | bl j => cases ry; exact eq_bool (fin_bl I q dec_bl)
    | str j => obtain ⟨t', rfl⟩ := ry; exact PySem.EqMixed.eq_bool_str (fin_bl I q (by simp))
    | _ => exact absurd (show false = true from hs) Bool.false_ne_true
  | int i =>
    obtain ⟨t, rfl⟩ := rx
    cases y with
    | non => cases ry; exact PySem.EqNone.eq_int_none (fin_bl I q (by simp))
    | int j => obtain ⟨t', rfl⟩ := ry; exact eq_int (fin_bl I q dec_int)
    | str j => obtain ⟨t', rfl⟩ := ry; exact PySem.EqMixed.eq_int_str (fin_bl I q (by simp))
    | _ => exact absurd (show false = true from hs) Bool.false_ne_true
  | str i =>
    obtain ⟨t, rfl⟩ := rx
    cases y with
    | non => cases ry; exact PySem.EqNone.eq_str_none (fin_bl I q (by simp))
    | bl j => cases ry; exact PySem.EqMixed.eq_str_bool (fin_bl I q (by simp))
    | int j => obtain ⟨t', rfl⟩ := ry; exact PySem.EqMixed.eq_str_int (fin_bl I q (by simp))
    | str j => obtain ⟨t', rfl⟩ := ry; exact eq_str (fin_bl I q dec_str)
    | _ => exact absurd (show false = true from hs) Bool.false_ne_true
  | byt i =>
    obtain ⟨t, rfl⟩ := rx
    cases y with
    | byt j => obtain ⟨t', rfl⟩ := ry; exact PySem.W.eq_bytes (fin_bl I q dec_byt)
    | _ => exact absurd (show false = true from hs) Bool.false_ne_true
  | _ => cases y <;> exact absurd (show false = true from hs) Bool.false_ne_true
theorem op_ne : OpR X (compareOp .NotEq) rNe := by
  intro pins s σ H x y v u Q I rx ry h
  obtain ⟨hs, q⟩ := h
  cases x with
  | non =>
    cases rx
    cases y with
    | non => cases ry; exact PySem.EqNone.ne_none_none (fin_bl I q (by simp))
    | bl j => cases ry; exact PySem.EqNone.ne_none_bool (fin_bl I q (by simp))
    | int j => obtain ⟨t', rfl⟩ := ry; exact PySem.EqNone.ne_none_int (fin_bl I q (by simp))
    | str j => obtain ⟨t', rfl⟩ := ry; exact PySem.EqNone.ne_none_str (fin_bl I q (by simp))
    | _ => exact absurd (show false = true from hs) Bool.false_ne_true
  | bl i =>
    cases rx
    cases y with
    | non => cases ry; exact PySem.EqNone.ne_bool_none (fin_bl I q (by simp))
    | bl j => cases ry; exact ne_bool (fin_bl I q (congrArg not dec_bl))
    | str j => obtain ⟨t', rfl⟩ := ry; exact PySem.EqMixed.ne_bool_str (fin_bl I q (by simp))
    | _ => exact absurd (show false = true from hs) Bool.false_ne_true
  | int i =>
    obtain ⟨t, rfl⟩ := rx
    cases y with
    | non => cases ry; exact PySem.EqNone.ne_int_none (fin_bl I q (by simp))
    | int j => obtain ⟨t', rfl⟩ := ry; exact ne_int (fin_bl I q (congrArg not dec_int))
    | str j => obtain ⟨t', rfl⟩ := ry; exact PySem.EqMixed.ne_int_str (fin_bl I q (by simp))
    | _ => exact absurd (show false = true from hs) Bool.false_ne_true
  | str i =>
    obtain ⟨t, rfl⟩ := rx
    cases y with
    | non => cases ry; exact PySem.EqNone.ne_str_none (fin_bl I q (by simp))
    | bl j => cases ry; exact PySem.EqMixed.ne_str_bool (fin_bl I q (by simp))
    | int j => obtain ⟨t', rfl⟩ := ry; exact PySem.EqMixed.ne_str_int (fin_bl I q (by simp))
    | str j => obtain ⟨t', rfl⟩ := ry; exact ne_str (fin_bl I q (congrArg not dec_str))
    | _ => exact absurd (show false = true from hs) Bool.false_ne_true
  | byt i =>
    obtain ⟨t, rfl⟩ := rx
    cases y with
    | byt j => obtain ⟨t', rfl⟩ := ry; exact PySem.W.ne_bytes (fin_bl I q (congrArg not dec_byt))
    | _ => exact absurd (show false = true from hs) Bool.false_ne_true
  | _ => cases y <;> exact absurd (show false = true from hs) Bool.false_ne_true

theorem op_lt : OpR X (compareOp .Lt) (rI0 fun i j => .bl (decide (i < j))) := opB0 fun _ _ _ _ _ _ _ q => lt_int q
theorem op_le : OpR X (compareOp .LtE) (rI0 fun i j => .bl (decide (i ≤ j))) := opB0 fun _ _ _ _ _ _ _ q => le_int q
theorem op_gt : OpR X (compareOp .Gt) (rI0 fun i j => .bl (decide (j < i))) := opB0 fun _ _ _ _ _ _ _ q => gt_int q
theorem op_ge : OpR X (compareOp .GtE) (rI0 fun i j => .bl (decide (j ≤ i))) := opB0 fun _ _ _ _ _ _ _ q => ge_int q
/-- is None, is not None: the right side a value none -/
theorem op_isN : OpR X (compareOp .Is) (fun x y H Q => y = .non ∧ Q (.bl (decide (x = .non))) H) := by
  intro pins s σ H x y v u Q I rx ry h
  obtain ⟨rfl, q⟩ := h
  cases ry
  refine is_none_gen (fin_bl I q ?_)
  cases x <;> first
    | (cases rx; rfl)
    | (obtain ⟨t, rfl⟩ := rx; rfl)
/-- two rules for one operation: by cases -/
theorem OpR.or {f : Value → Value → Sem Value} {r r' : R2} (h : OpR X f r) (h' : OpR X f r') : OpR X f (fun x y H Q => r x y H Q ∨ r' x y H Q) := by
  intro pins s σ H x y v u Q I rx ry q
  rcases q with q | q
  · exact h pins s σ H x y v u Q I rx ry q
  · exact h' pins s σ H x y v u Q I rx ry q

theorem nomark (b : Expr) {op : CmpOp} (h : op ≠ .In := by decide) (h2 : op ≠ .NotIn := by decide) : behindInMarks op b = false := by
  have e1 : (op == CmpOp.In) = false := by cases op <;> first | rfl | exact absurd rfl h
  have e2 : (op == CmpOp.NotIn) = false := by cases op <;> first | rfl | exact absurd rfl h2
  cases b <;> simp [behindInMarks, e1, e2]
/-- a comparison as a value; hm: nomark b, or (for in, not in) by with_unfolding_all rfl -/
theorem pe_cmpR {op : CmpOp} {r : R2} (ho : OpR X (compareOp op) r) (ha : PE X a ta) (hb : PE X b tb) (hm : behindInMarks op b = false) : PE X (.Compare a [op] [b] pos) (tOp r ta tb) := by
  intro pins s σ H Q I h
  exact wpAny_Compare1 (binT ha hb I h fun v u s2 x y H2 I2 rx ry q => ho pins s2 σ H2 x y v u Q I2 rx ry q) hm
/-- a reading of a value as a test -/
def tTest (t : TE) : TT := fun σ H Q => t σ H fun x H' => ∃ k, x = .bl k ∧ Q k H'
theorem pt_cmpR {op : CmpOp} {r : R2} (ho : OpR X (compareOp op) r) (ha : PE X a ta) (hb : PE X b tb) (hm : behindInMarks op b = false) : PT X (.Compare a [op] [b] pos) (tTest (tOp r ta tb)) := by
  intro pins s σ H Q I h
  refine wpAny_isTrue_Compare1 (thn (ha pins s σ H _ I h) fun v s1 ⟨x, H1, I1, r1, q1⟩ => thn (hb pins s1 σ H1 _ I1 q1) fun u s2 ⟨y, H2, I2, r2, q2⟩ =>
    thn (ho pins s2 σ H2 x y v u _ I2 r1 r2 q2) fun c s3 ⟨z, H3, I3, r3, k, e, q3⟩ => ?_) hm
  subst e
  cases r3
  exact wpAny_truthy_bool ⟨H3, I3, q3⟩
/-- a op1 b op2 c -/
def tChain (r r' : R2) (ta tb tc : TE) : TE := fun σ H Q => ta σ H fun x H1 => tb σ H1 fun y H2 => r x y H2 fun z H3 => ∃ k, z = .bl k ∧
  (if k = true then tc σ H3 fun w' H4 => r' y w' H4 Q else Q (.bl false) H3)
theorem pe_chain {op op' : CmpOp} {r r' : R2} (ho : OpR X (compareOp op) r) (ho' : OpR X (compareOp op') r') (ha : PE X a ta) (hb : PE X b tb) (hc : PE X c tc)
    (hm : lastMarks [op, op'] [b, c] = false := by with_unfolding_all rfl) : PE X (.Compare a [op, op'] [b, c] pos) (tChain r r' ta tb tc) := by
  intro pins s σ H Q I h
  refine Compare_chain (thn (ha pins s σ H _ I h) fun v s1 ⟨x, H1, I1, r1, q1⟩ => chain_link (thn (hb pins s1 σ H1 _ I1 q1) fun u s2 ⟨y, H2, I2, r2, q2⟩ =>
    thn (ho pins s2 σ H2 x y v u _ I2 r1 r2 q2) fun d s3 ⟨z, H3, I3, r3, k, e, q3⟩ => ?_)) hm
  subst e
  cases r3
  refine wpAny_truthy_bool ?_
  cases k with
  | false => exact ite_ff ⟨.bl false, H3, I3, rfl, q3⟩
  | true => exact ite_tt (chain_last (thn (hc pins s3 σ H3 _ I3 q3) fun w' s4 ⟨z', H4, I4, r4, q4⟩ => ho' pins s4 σ H4 y z' u w' Q I4 r2 r4 q4))
theorem pt_chain {op op' : CmpOp} {r r' : R2} (ho : OpR X (compareOp op) r) (ho' : OpR X (compareOp op') r') (ha : PE X a ta) (hb : PE X b tb) (hc : PE X c tc)
    (hm : lastMarks [op, op'] [b, c] = false := by with_unfolding_all rfl) : PT X (.Compare a [op, op'] [b, c] pos) (tTest (tChain r r' ta tb tc)) := by
  intro pins s σ H Q I h
  refine isTrue_chain (thn (ha pins s σ H _ I h) fun v s1 ⟨x, H1, I1, r1, q1⟩ => test_link (thn (hb pins s1 σ H1 _ I1 q1) fun u s2 ⟨y, H2, I2, r2, q2⟩ =>
    thn (ho pins s2 σ H2 x y v u _ I2 r1 r2 q2) fun d s3 ⟨z, H3, I3, r3, k, e, q3⟩ => ?_)) hm
  subst e
  cases r3
  refine wpAny_truthy_bool ?_
  cases k with
  | false =>
    obtain ⟨k', e', q'⟩ := q3
    cases e'
    exact ite_ff ⟨H3, I3, q'⟩
  | true =>
    refine ite_tt (test_last (thn (hc pins s3 σ H3 _ I3 q3) fun w' s4 ⟨z', H4, I4, r4, q4⟩ => thn (ho' pins s4 σ H4 y z' u w' _ I4 r2 r4 q4) fun d' s5 ⟨z2, H5, I5, r5, k2, e2, q5⟩ => ?_))
    subst e2
    cases r5
    exact wpAny_truthy_bool ⟨H5, I5, q5⟩

theorem line63 : (sizeLine : Nat) < 2 ^ 63 := by rw [sizeLine_eq]; decide
theorem vals1 {x : V} {us : List Value} (r : Vals [x] us) : ∃ u, us = [u] ∧ RelV x u := by
  cases r with
  | cons r1 r2 => cases r2; exact ⟨_, rfl, r1⟩
theorem vals2 {x y : V} {us : List Value} (r : Vals [x, y] us) : ∃ u w', us = [u, w'] ∧ RelV x u ∧ RelV y w' := by
  cases r with
  | cons r1 r2 =>
    cases r2 with
    | cons r3 r4 => cases r4; exact ⟨_, _, rfl, r1, r3⟩
theorem call_max2 (hc : X.calm = true) : CallR X (.builtin "max") (fun xs H Q => ∃ i j, xs = [.int i, .int j] ∧ Q (.int (if j > i then j else i)) H) := by
  intro pins s σ H xs us Q I r h
  obtain ⟨i, j, rfl, q⟩ := h
  obtain ⟨u, w', rfl, ⟨t, rfl⟩, ⟨t', rfl⟩⟩ := vals2 r
  refine max_two_ints (I.ok.hd hc) fun h' tk k => ⟨_, H, I.kept k, ?_, q⟩
  by_cases hj : j > i
  · rw [if_pos hj, if_pos hj]; exact ⟨_, rfl⟩
  · rw [if_neg hj, if_neg hj]; exact ⟨_, rfl⟩
theorem call_min2 (hc : X.calm = true) : CallR X (.builtin "min") (fun xs H Q => ∃ i j, xs = [.int i, .int j] ∧ Q (.int (if j < i then j else i)) H) := by
  intro pins s σ H xs us Q I r h
  obtain ⟨i, j, rfl, q⟩ := h
  obtain ⟨u, w', rfl, ⟨t, rfl⟩, ⟨t', rfl⟩⟩ := vals2 r
  refine min_two_ints (I.ok.hd hc) fun h' tk k => ⟨_, H, I.kept k, ?_, q⟩
  by_cases hj : j < i
  · rw [if_pos hj, if_pos hj]; exact ⟨_, rfl⟩
  · rw [if_neg hj, if_neg hj]; exact ⟨_, rfl⟩
theorem call_int1 : CallR X (.type "int") (fun xs H Q => (∃ i, xs = [.int i] ∧ Q (.int i) H) ∨ ∃ k, xs = [.bl k] ∧ Q (.int (if k then 1 else 0)) H) := by
  intro pins s σ H xs us Q I r h
  rcases h with ⟨i, rfl, q⟩ | ⟨k, rfl, q⟩
  · obtain ⟨u, rfl, t, rfl⟩ := vals1 r
    exact call_int_int ⟨.int i, H, I, ⟨_, rfl⟩, q⟩
  · obtain ⟨u, rfl, r1⟩ := vals1 r
    cases r1
    exact call_int_bool ⟨.int (if k then 1 else 0), H, I.tok _, ⟨_, rfl⟩, q⟩
/-- len of a str, a bytes, a list, a tuple -/
def LenV (K : PySem.W.Frag) (x : V) (H : Hp) (n : Nat) : Prop :=
  match x with
  | .str y => y.length ≤ sizeLine ∧ n = y.length
  | .byt y => y.size ≤ sizeLine ∧ n = y.size
  | .ref p => (∃ xs, SqL K H p xs ∧ n = xs.length) ∨ ∃ xs, SqT K H p xs ∧ n = xs.length
  | _ => False
theorem call_len : CallR X (.builtin "len") (fun xs H Q => ∃ x n, xs = [x] ∧ LenV X.K x H n ∧ Q (.int n) H) := by
  intro pins s σ H xs us Q I r h
  obtain ⟨x, n, rfl, e, q⟩ := h
  obtain ⟨u, rfl, rx⟩ := vals1 r
  have hl := line63
  have hs : sizeLine = 16777216 := sizeLine_eq
  cases x with
  | str y =>
    obtain ⟨t, rfl⟩ := rx
    obtain ⟨hy, e'⟩ : y.length ≤ sizeLine ∧ n = y.length := e
    subst e'
    exact len_str (by omega) ⟨.int _, H, I.tok _, ⟨_, rfl⟩, q⟩
  | byt y =>
    obtain ⟨t, rfl⟩ := rx
    obtain ⟨hy, e'⟩ : y.size ≤ sizeLine ∧ n = y.size := e
    subst e'
    exact PySem.W.len_bytes (by omega) ⟨.int _, H, I.tok _, ⟨_, rfl⟩, q⟩
  | ref p =>
    cases rx
    have e' : (∃ xs, SqL X.K H p xs ∧ n = xs.length) ∨ ∃ xs, SqT X.K H p xs ∧ n = xs.length := e
    rcases e' with ⟨xs, hx, e'⟩ | ⟨xs, hx, e'⟩
    · subst e'
      obtain ⟨its, r', pl, hz⟩ := I.list hx
      have hlen := r'.length
      exact Calls.call_len_list pl.isList (by simp only [List.size_toArray]; omega) ⟨.int xs.length, H, I.tok _, ⟨_, by simp only [List.size_toArray]; rw [hlen]⟩, q⟩
    · subst e'
      obtain ⟨its, r', pl, hz⟩ := I.tuple hx
      have hlen := r'.length
      exact len_tuple pl (by simp only [List.size_toArray]; omega) ⟨.int xs.length, H, I.tok _, ⟨_, by simp only [List.size_toArray]; rw [hlen]⟩, q⟩
  | _ => exact (show False from e).elim
end
end L2

namespace L2
open PySem PySem.Spec PyProof.Rows

structure ObjM (h : Heap) (x dx C : Addr) (mA : Str → Option Value) : Prop where
  obj : h.get? x = some (PySem.W.instObj C dx)
  ns : h.Ns1 dx mA
  ne : dx ≠ x

theorem lookIn_ns {h : Heap} {dx : Addr} {mA : Str → Option Value} (n : h.Ns1 dx mA) : ∃ od, h.get? dx = some od ∧ ∀ name, PySem.W.lookIn name od = some (mA name) := by
  obtain ⟨o, es, ep, ho, hd, hk, _, hm⟩ := n
  refine ⟨o, ho, fun name => ?_⟩
  have e := hm name
  unfold nsFind findBy at e
  rw [← Array.find?_toList] at e
  unfold PySem.W.lookIn
  rw [hd]
  dsimp only
  split
  · rename_i y q
    rw [q] at e
    exact congrArg some e
  · rename_i q
    rw [q] at e
    have a : es.toList.any (·.refKey) = false := by
      rw [List.any_eq_false]
      intro y hy
      obtain ⟨z, t, hkey⟩ := hk y (Array.mem_toList_iff.mp hy)
      simp [DictEntry.refKey, hkey]
    have a' : ¬ es.toList.any (·.refKey) = true := by rw [a]; exact Bool.false_ne_true
    rw [if_neg a']
    exact congrArg some e

theorem ObjM.look {h : Heap} {x dx C : Addr} {mA : Str → Option Value} (I : ObjM h x dx C mA) : ∃ od, PySem.W.InstAt h x (PySem.W.instObj C dx) C (some od) ∧ ∀ name, PySem.W.lookIn name od = some (mA name) :=
  let ⟨od, ho, hl⟩ := lookIn_ns I.ns
  ⟨od, ⟨I.obj, rfl, rfl, ho⟩, hl⟩

section
variable {prog : Program} {w : World} {A : Around} {E : Value → Shared → Prop} {s : Shared} {K : PySem.W.Frag} {x dx C f : Addr} {mA : Str → Option Value} {name : Str} {v : Value}

end

section
variable {P : Program} {w : World} {H H' : Hp} {h h' : Heap} {a C dx : Addr} {fs fs' : List (Str × V)}
theorem ins_get (hok : HOk P w H h) (e : H a = some (.ins C dx fs)) : ∃ mA, ObjM h a dx C mA ∧ (∀ f, RelO (fs.lookup f) (mA f)) ∧ PySem.Within mA (fs.map (·.1)) ∧ fs.length ≤ 1000 ∧ H dx = some (.own a) := by
  obtain ⟨d, z, ne, ob, mA, n, r, q⟩ := (show ObjOk P w H h a (.ins C dx fs) from hok a _ e)
  exact ⟨mA, ⟨ob, n, ne⟩, r, q, z, d⟩
end

structure Cls (K : PySem.W.Frag) (C : Addr) : Prop where
  pg : PySem.W.plainGet K C Str.empty = true
  hd : PySem.W.hasDictIn K C = true
  po : PySem.W.plainOver K C = true
  sa : PySem.W.findIn K (.ref C) "__setattr__" = some (some (.builtin "object.__setattr__"))
theorem Cls.get {K : PySem.W.Frag} {C : Addr} (c : Cls K C) (f : Str) : PySem.W.plainGet K C f = true := c.pg
/-- a method: a plain def of the class or of one above it -/
structure Meth (K : PySem.W.Frag) (C : Addr) (m : Str) (f : Addr) : Prop where
  at_ : PySem.W.findIn K (.ref C) m = some (some (.ref f))
  fn : PySem.W.isFn K (.ref f) = true
  kp : PySem.W.keepIn K (.ref f) = true

section
variable {X : Cx} {pins : List (Addr × Obj)} {σ : St} {H : Hp} {s : Shared} {a C dx : Addr} {fs : List (Str × V)} {f : Str} {v : V} {A : Around} {E : Value → Shared → Prop}

/-- a new instance, tracked, without attributes -/
theorem Inv.made (I : Inv X pins σ H s) : Inv X pins σ (upd (upd H s.heap.objs.size (.own (s.heap.objs.size + 1))) (s.heap.objs.size + 1) (.ins C s.heap.objs.size []))
    { s with heap := (s.heap.push PySem.W.emptyDict).push (PySem.W.instObj C s.heap.objs.size) } := by
  have e1 : (s.heap.push PySem.W.emptyDict).get? s.heap.objs.size = some PySem.W.emptyDict := Heap.get?_push_size s.heap rfl
  have e2 : ((s.heap.push PySem.W.emptyDict).push (PySem.W.instObj C s.heap.objs.size)).get? (s.heap.objs.size + 1) = some (PySem.W.instObj C s.heap.objs.size) := by
    have := Heap.get?_push_size (s.heap.push PySem.W.emptyDict) (o := PySem.W.instObj C s.heap.objs.size) rfl
    rwa [Heap.size_push] at this
  have e3 : (s.heap.push PySem.W.emptyDict).Ns s.heap.objs.size (fun _ => none) := ⟨PySem.W.emptyDict, #[], _, e1, rfl, (fun e he => absurd he (by simp)), fun _ => rfl⟩
  have I1 := I.laid (a := s.heap.objs.size) (o := .own (s.heap.objs.size + 1)) (h' := s.heap.push PySem.W.emptyDict) (t' := s.toks) (fun b u q => Heap.get?_push_of_some _ q) (Nat.le_refl _) ⟨_, e1⟩
  refine I1.laid (a := s.heap.objs.size + 1) (o := .ins C s.heap.objs.size []) (t' := s.toks) (fun b u q => Heap.get?_push_of_some _ q) (Nat.le_of_eq (Heap.size_push _ _)) ?_
  have ne : s.heap.objs.size ≠ s.heap.objs.size + 1 := Nat.ne_of_lt (Nat.lt_succ_self _)
  refine ⟨by rw [upd_ne ne, upd_same], Nat.zero_le _, ne, e2, fun _ => none, (Heap.Ns1.of_empty e3).at fun o q => Heap.get?_push_of_some _ q, fun _ => True.intro, fun y hy => absurd rfl hy⟩

end


section
variable {X : Cx} {pins : List (Addr × Obj)} {σ : St} {H : Hp} {s : Shared} {A : Around} {E : Value → Shared → Prop} {Q : Value → Shared → Prop} {c : Value} {b : Bool}
/-- the type of a value, as the fragment's deciders take it; for an instance its class -/
inductive TyOf (K : PySem.W.Frag) (H : Hp) : V → Value → Prop where
  | non : TyOf K H .non (.type "NoneType")
  | bl (x : Bool) : TyOf K H (.bl x) (.type "bool")
  | int (i : Int) : TyOf K H (.int i) (.type "int")
  | str (x : Str) : TyOf K H (.str x) (.type "str")
  | flt (x : UInt64) : TyOf K H (.flt x) (.type "float")
  | lst {a : Addr} {xs : List V} (e : H a = some (.lst xs)) : TyOf K H (.ref a) (.type "list")
  | frz {a : Addr} {o : Obj} {xs : List V} (e : H a = some (.frz o (.lst xs))) : TyOf K H (.ref a) (.type "list")
  | tup {a : Addr} {xs : List V} (e : H a = some (.tup xs)) : TyOf K H (.ref a) (.type "tuple")
  | dK {a : Addr} {kvs : List (Key × V)} (e : H a = some (.dK kvs)) : TyOf K H (.ref a) (.type "dict")
  | dT {a : Addr} {kvs : List (List Key × V)} (e : H a = some (.dT kvs)) : TyOf K H (.ref a) (.type "dict")
  | ins {a C dx : Addr} {fs : List (Str × V)} (e : H a = some (.ins C dx fs)) (cl : Cls K C) (ha : PySem.W.findIn K (.ref C) "__class__" = some (some (.builtin "object.__class__")))
      (hn : PySem.W.specialIn K (.builtin "object.__class__") "__get__" = some (some (.builtin "getset_descriptor.__get__"))) (htk : PySem.W.takesIn K (.builtin "object.__class__") = some true)
      (hm : PySem.W.mroIn K C (.type "object") = some true) : TyOf K H (.ref a) (.ref C)
/-- isinstance(x, c) for one class c, a built-in or an own one: kitOne's answer -/
theorem isinst_ok {x : V} {u t : Value} (I : Inv X pins σ H s) (rx : RelV x u) (ty : TyOf X.K H x t) (e : PySem.W.kitOne X.K t c = some b) (h : ∀ tk, Q (.bool b) { s with toks := tk }) :
    wpAny (model X.prog X.w) A (call (.builtin "isinstance") [u, c]) Q E s := by
  cases ty with
  | non => cases (show u = Value.none from rx); exact PySem.W.kia_one PySem.W.kitx_none I.kIn True.intro e (fun z => nomatch z) h
  | bl y => cases (show u = Value.bool y from rx); exact PySem.W.kia_one PySem.W.kitx_bool I.kIn True.intro e (fun z => nomatch z) h
  | int i => obtain ⟨t, q⟩ := (show ∃ t, u = Value.int i t from rx); cases q; exact PySem.W.kia_one PySem.W.kitx_int I.kIn True.intro e (fun z => nomatch z) h
  | str y => obtain ⟨t, q⟩ := (show ∃ t, u = Value.str y t from rx); cases q; exact PySem.W.kia_one PySem.W.kitx_str I.kIn True.intro e (fun z => nomatch z) h
  | flt y => obtain ⟨t, q⟩ := (show ∃ t, u = Value.float y t from rx); cases q; exact PySem.W.kia_one PySem.W.kitx_float I.kIn True.intro e (fun z => nomatch z) h
  | @lst a xs ea =>
    cases (show u = Value.ref a from rx)
    obtain ⟨_, _, n, _, h1⟩ := (show ObjOk X.prog X.w H s.heap a (.lst xs) from I.hok a _ ea)
    exact PySem.W.kia_one PySem.W.kitx_list I.kIn ⟨_, h1, rfl⟩ e (fun z => nomatch z) h
  | @frz a ob xs ea =>
    cases (show u = Value.ref a from rx)
    obtain ⟨_, _, _, n, _, h1⟩ := (show ObjOk X.prog X.w H s.heap a (.frz ob (.lst xs)) from I.hok a _ ea)
    exact PySem.W.kia_one PySem.W.kitx_list I.kIn ⟨_, h1, rfl⟩ e (fun z => nomatch z) h
  | @tup a xs ea =>
    cases (show u = Value.ref a from rx)
    obtain ⟨_, _, _, p⟩ := (show ObjOk X.prog X.w H s.heap a (.tup xs) from I.hok a _ ea)
    obtain ⟨o, h1, h2, _⟩ := p
    exact PySem.W.kia_one PySem.W.kitx_tuple I.kIn ⟨o, h1, h2⟩ e (fun z => nomatch z) h
  | @dK a kvs ea =>
    cases (show u = Value.ref a from rx)
    obtain ⟨_, _, vs, _, p⟩ := (show ObjOk X.prog X.w H s.heap a (.dK kvs) from I.hok a _ ea)
    obtain ⟨o, es, ep, h1, h2, _⟩ := p
    exact PySem.W.kia_one PySem.W.kitx_dict I.kIn ⟨o, h1, h2.1⟩ e (fun z => nomatch z) h
  | @dT a kvs ea =>
    cases (show u = Value.ref a from rx)
    obtain ⟨_, _, xs, _, o, es, ep, h1, h2, _⟩ := (show ObjOk X.prog X.w H s.heap a (.dT kvs) from I.hok a _ ea)
    exact PySem.W.kia_one PySem.W.kitx_dict I.kIn ⟨o, h1, h2.1⟩ e (fun z => nomatch z) h
  | @ins a C dx fs ea cl ha hn htk hm =>
    cases (show u = Value.ref a from rx)
    obtain ⟨mA, O, _⟩ := ins_get I.hok ea
    obtain ⟨od, J, _⟩ := O.look
    exact PySem.W.kia_one (PySem.W.kitx_own (cl.get _) cl.hd ha hn htk hm) I.kIn J e (fun z => nomatch z) h
end
end L2

namespace L2
open PySem PySem.Spec PyProof.Rows

structure Room (k : Nat) (A : Around) : Prop where
  hd : A.handled = none
  dp : A.depth + 3 * k + 5 < recursionLimit
  un : A.units + 16 * k + 200 < cLine
theorem Room.mono {j k : Nat} {A : Around} (r : Room k A) (h : j ≤ k) : Room j A := ⟨r.hd, by have := r.dp; omega, by have := r.un; omega⟩
theorem Room.deeper {k : Nat} {A : Around} (r : Room (k + 1) A) (env : Env) : Room k (A.deeper env) :=
  ⟨r.hd, by have := r.dp; show A.depth + 1 + 3 * k + 5 < _; omega, by have := r.un; show A.units + 3 + 16 * k + 200 < _; omega⟩
theorem Room.in1 {k : Nat} {A : Around} (r : Room (k + 1) A) : Room k A.in1 :=
  ⟨r.hd, by have := r.dp; show A.depth + 3 * k + 5 < _; omega, by have := r.un; show A.units + 1 + 16 * k + 200 < _; omega⟩
theorem Room.depth {k : Nat} {A : Around} (r : Room k A) : A.depth < recursionLimit := by have := r.dp; omega
theorem Room.units {k : Nat} {A : Around} (r : Room k A) : A.units + 64 < cLine := by have := r.un; omega
def tNil : TA := fun _ H Q => Q [] H
def tCons (ta : TE) (tr : TA) : TA := fun σ H Q => ta σ H fun x H1 => tr σ H1 fun xs H2 => Q (x :: xs) H2
section
variable {X : Cx} {e : Expr} {es : List Expr} {te : TE} {t : TA} {pos : Pos}
theorem pa_nil : PA X [] tNil := fun _ _ _ _ H Q I h => Calls.spliced_nil ⟨[], H, I, .nil, h⟩
theorem pa_cons (ha : PE X e te) (hr : PA X es t) (hs : starEach (e :: es) X.env = (false, eval e X.env) :: starEach es X.env := by rfl) : PA X (e :: es) (tCons te t) := by
  intro pos pins s σ H Q I h
  rw [hs]
  show wpAny _ _ (spliced ((false, eval e X.env) :: backTo pos (starEach es X.env))) _ _ s
  refine Calls.spliced_cons (thn (ha pins s σ H _ I h) fun u s1 ⟨x, H1, I1, r1, q1⟩ => ?_)
  exact thn (hr pos pins s1 σ H1 _ I1 q1) fun us s2 ⟨xs, H2, I2, r2, q2⟩ => ⟨x :: xs, H2, I2, .cons r1 r2, q2⟩

/-- a tuple, a list of written items -/
def tTup (t : TA) : TE := fun σ H Q => t σ H fun xs H1 => xs.length ≤ sizeLine ∧ ∀ p, H1 p = none → Q (.ref p) (upd H1 p (.tup xs))
def tLst (t : TA) : TE := fun σ H Q => t σ H fun xs H1 => xs.length ≤ sizeLine ∧ ∀ p, H1 p = none → Q (.ref p) (upd H1 p (.lst xs))
theorem pe_tup {x1} (h : PA X es t) : PE X (.Tuple es x1 pos) (tTup t) := by
  intro pins s σ H Q I hq
  refine wpAny_Tuple_spliced (thn (h pos pins s σ H _ I hq) fun us s1 ⟨xs, H1, I1, r, z, q⟩ => ⟨by rw [← r.length]; exact z, ?_⟩)
  have hf : H1 s1.heap.objs.size = none := I1.hok.fresh (Nat.le_refl _)
  refine ⟨.ref s1.heap.objs.size, upd H1 s1.heap.objs.size (.tup xs), I1.laid (t' := s1.toks) (fun b u e => Heap.get?_push_of_some _ e) (Nat.le_refl _) ?_, rfl, q _ hf⟩
  exact ⟨z, us, r, ⟨_, Heap.get?_push_size _ rfl, rfl, _, rfl⟩⟩
theorem pe_lst (h : PA X es t) : PE X (.List es pos) (tLst t) := by
  intro pins s σ H Q I hq
  refine wpAny_List_spliced (thn (h pos pins s σ H _ I hq) fun us s1 ⟨xs, H1, I1, r, z, q⟩ => ⟨by rw [← r.length]; exact z, ?_⟩)
  have hf : H1 s1.heap.objs.size = none := I1.hok.fresh (Nat.le_refl _)
  refine ⟨.ref s1.heap.objs.size, upd H1 s1.heap.objs.size (.lst xs), I1.laid (t' := s1.toks) (fun b u e => Heap.get?_push_of_some _ e) (Nat.le_refl _) ?_, rfl, q _ hf⟩
  exact ⟨z, us, 0, r, Heap.get?_push_size _ rfl⟩
end

/-- a def's promise: the bound arguments in the parameters' order, the heap, the wanted end, the wanted exception -/
abbrev Sp := List V → Hp → VK → XK → Prop
/-- how an exception lies behind a call (file 08 gives it): the callers' frames, abstract heap and state ahead of the call, the wish, the exception, the state -/
abbrev CXT := List Env → Hp → Shared → XK → Value → Shared → Prop

/-- the state at a call -/
structure Env0 (P : Program) (w : World) (K : PySem.W.Frag) (mg : Str → Option Value) (base : Heap) (A : Around) (outer : List Env) (s : Shared) (H : Hp) : Prop where
  frames : A.frames = some outer
  mod : Mod K mg base
  bs : ∀ b o, base.get? b = some o → s.heap.get? b = some o ∧ H b = none
  bsz : base.objs.size ≤ s.heap.objs.size
  funs : s.heap.FunFrames base outer
  frf : ∀ b ∈ frs outer, H b = none
  hok : HOk P w H s.heap
  bare : AllBare s.gens
/-- a call's end -/
def CE (outer : List Env) (P : Program) (w : World) (H : Hp) (s : Shared) (Q : VK) (u : Value) (s' : Shared) : Prop :=
  ∃ v H', s'.os = s.os ∧ AllBare s'.gens ∧ Un (frs outer) [] H H' s.heap s'.heap ∧ HOk P w H' s'.heap ∧ RelV v u ∧ Q v H'
def CR (CX : CXT) (outer : List Env) (P : Program) (w : World) (H : Hp) (s : Shared) (Q : VK) (E : XK) (r : Result) (s' : Shared) : Prop :=
  match r with
  | .ok (.ret u) => CE outer P w H s Q u s'
  | .ok _ => False
  | .error e => CX outer H s E e s'
structure FnOk (P : Program) (w : World) (K : PySem.W.Frag) (mg : Str → Option Value) (base : Heap) (CX : CXT) (k : Nat) (f : Addr) (fd : FuncData) (ps : List Str) (sp : Sp) : Prop where
  len : ∀ vs H Q E, sp vs H Q E → vs.length = ps.length
  run : ∀ (A : Around) (outer : List Env) (s : Shared) (H : Hp) (args : Args) (us : List Value) (vs : List V) (Q : VK) (E : XK), Room k A → Env0 P w K mg base A outer s H → BindsTo s fd args (ps.zip us) → Vals vs us → sp vs H Q E →
    codeAny (model P w) A (.call (.ref f) args) (CR CX outer P w H s Q E) s
theorem FnOk.mono {P : Program} {w : World} {K : PySem.W.Frag} {mg : Str → Option Value} {base : Heap} {CX : CXT} {j k : Nat} {f : Addr} {fd : FuncData} {ps : List Str} {sp : Sp} (F : FnOk P w K mg base CX j f fd ps sp) (h : j ≤ k) :
    FnOk P w K mg base CX k f fd ps sp := ⟨F.len, fun A outer s H args us vs Q E hr => F.run A outer s H args us vs Q E (hr.mono h)⟩
/-- a weaker promise -/
theorem FnOk.imp {P : Program} {w : World} {K : PySem.W.Frag} {mg : Str → Option Value} {base : Heap} {CX : CXT} {k : Nat} {f : Addr} {fd : FuncData} {ps : List Str} {sp sp' : Sp} (F : FnOk P w K mg base CX k f fd ps sp)
    (h : ∀ vs H Q E, sp' vs H Q E → sp vs H Q E) : FnOk P w K mg base CX k f fd ps sp' :=
  ⟨fun vs H Q E q => F.len vs H Q E (h _ _ _ _ q), fun A outer s H args us vs Q E hr he hb hv hs => F.run A outer s H args us vs Q E hr he hb hv (h _ _ _ _ hs)⟩

theorem Env0.in1 {P : Program} {w : World} {K : PySem.W.Frag} {mg : Str → Option Value} {base : Heap} {A : Around} {outer : List Env} {s : Shared} {H : Hp} (e : Env0 P w K mg base A outer s H) :
    Env0 P w K mg base A.in1 outer s H := ⟨e.frames, e.mod, e.bs, e.bsz, e.funs, e.frf, e.hok, e.bare⟩

section
variable {X : Cx} {pins : List (Addr × Obj)} {σ : St} {H : Hp} {s s' : Shared}
/-- from a body: what a callee wants -/
theorem Inv.env0 (I : Inv X pins σ H s) : Env0 X.prog X.w X.K X.mg X.base X.A X.stack s H :=
  ⟨I.ok.frames, I.ok.mod, I.bs, Nat.le_trans I.ok.bsz I.sz, I.stack, I.stkFree, I.hok, I.bare⟩
/-- behind a call -/
theorem Inv.after {Q : VK} {u : Value} (I : Inv X pins σ H s) (h : CE X.stack X.prog X.w H s Q u s') : EP X pins σ Q u s' := by
  obtain ⟨v, H', os, bare, un, hok, r, q⟩ := h
  obtain ⟨hh, g, d, t, os'⟩ := s'
  obtain rfl : os' = s.os := os
  exact ⟨v, H', I.call (h' := hh) (g' := g) (d' := d) (t' := t) (ch := []) un hok bare (fun b z => absurd z (by simp)), r, q⟩
end

/-- f(..): the written arguments, then the defaults dvs; E: what is wanted of an exception -/
def tCall (sp : Sp) (dvs : List V) (E : XK) (t : TA) : TE := fun σ H Q => t σ H fun vs H1 => sp (vs ++ dvs) H1 Q E
/-- how the parameters are bound: us the positional arguments, kw the keywords' values by name, ds the defaults that fill up -/
def Binds (K : PySem.W.Frag) (fd : FuncData) (ps : List Str) (ds : List Value) : Prop :=
  ∀ (s : Shared) (us : List Value), K.In s.heap → (us ++ ds).length = ps.length → BindsTo s fd ⟨us, []⟩ (ps.zip (us ++ ds))
/-- every parameter is given -/
theorem Binds.all {K : PySem.W.Frag} {fd : FuncData} {ps : List Str} (h : ∀ us : List Value, us.length = ps.length → bindArgs fd ⟨us, []⟩ = pure (ps.zip us)) : Binds K fd ps [] := fun s us _ hl => by
  rw [List.append_nil] at hl ⊢
  exact .of_eq (h us hl)

/-- an exception of a callee reaches what this body wants of exceptions -/
def Passes (CX : CXT) (X : Cx) (E : XK) : Prop := ∀ (pins : List (Addr × Obj)) (σ : St) (H : Hp) (s : Shared) (e : Value) (s' : Shared), Inv X pins σ H s → CX X.stack H s E e s' → X.xe e s'

section
variable {X : Cx} {CX : CXT} {k : Nat} {f C : Addr} {fd : FuncData} {ps : List Str} {sp : Sp} {dvs : List V} {ds : List Value} {E : XK} {x m : Str} {p pos apos : Pos} {e o : Expr} {es : List Expr} {ta : TE} {t : TA}

/-- the callee runs -/
theorem run_fn {pins : List (Addr × Obj)} {σ : St} {H : Hp} {s : Shared} {Q : VK} {us : List Value} {vs : List V} (F : FnOk X.prog X.w X.K X.mg X.base CX k f fd ps sp) (hr : Room k X.A) (hb : Binds X.K fd ps ds) (hd : Vals dvs ds) (hx : Passes CX X E)
    (I : Inv X pins σ H s) (r : Vals vs us) (h : sp (vs ++ dvs) H Q E) : wpAny (model X.prog X.w) X.A (call (.ref f) us) (EP X pins σ Q) X.xe s := by
  have r2 : Vals (vs ++ dvs) (us ++ ds) := r.append hd
  have hl : (us ++ ds).length = ps.length := by rw [← r2.length]; exact F.len _ _ _ _ h
  refine wpAny_call (codeAny_mono (F.run X.A X.stack s H ⟨us, []⟩ (us ++ ds) (vs ++ dvs) Q E hr I.env0 (hb s us I.kIn hl) r2 h) fun r s' hq => ?_)
  cases r with
  | error e => exact hx pins σ H s e s' I hq
  | ok fl =>
    cases fl with
    | ret u => exact I.after hq
    | next => exact False.elim hq
    | brk => exact False.elim hq
    | cont => exact False.elim hq

theorem pe_call (F : FnOk X.prog X.w X.K X.mg X.base CX k f fd ps sp) (hr : Room k X.A) (hg : Gl X x) (hm : X.mg x = some (.ref f)) (hk : PySem.W.keepIn X.K (.ref f) = true) (hb : Binds X.K fd ps ds) (hd : Vals dvs ds) (hx : Passes CX X E)
    (ha : PA X (e :: es) t) (hdb : (x == ("__debug__" : Str)) = false := by decide) (he : starEach (e :: es) X.env = (false, eval e X.env) :: starEach es X.env := by rfl) (hpl : (backTo pos (starEach es X.env)).any (·.1) = false := by rfl) :
    PE X (.Call (.Name x p) (e :: es) [] pos) (tCall sp dvs E t) := by
  intro pins s σ H Q I h
  refine wpAny_Call_Name_kw (ld_glob I hg hm ?_ hdb)
  refine PySem.W.callWith_K (h₀ := X.base) I.ok.mod.kin hk (thn (ha pos pins s σ H _ I h) fun us s1 ⟨vs, H1, I1, r, q⟩ => ⟨I1.kIn, ?_⟩) he hpl
  exact run_fn F hr hb hd hx I1 r q
/-- what a class must have to be made -/
structure Mk (K : PySem.W.Frag) (C f : Addr) : Prop where
  makes : PySem.W.makesIn K C = true
  init : PySem.W.findIn K (.ref C) "__init__" = some (some (.ref f))
  fn : PySem.W.isFn K (.ref f) = true
  kp : PySem.W.keepIn K (.ref C) = true

end


/-- names: the parameters first -/
structure FnScope (N P : List Str) (sc : Scope) : Prop where
  kind : sc.kind = .function
  co : sc.isCoroutine = false
  gen : sc.isGenerator = false
  nd : N.Nodup
  pre : N.take P.length = P
  par : ∀ x ∈ P, sc.names.lookup x = some .local ∨ sc.names.lookup x = some .cell
  nofree : ∀ y ∈ sc.names, y.2 ≠ .free

theorem bindL_out {kindOf : Str → Option NameKind} {x : Str} : ∀ {binds : List (Str × Value)} {m : Str → Option Value}, (∀ v, (x, v) ∉ binds) → bindL kindOf binds m x = m x
  | [], _, _ => rfl
  | (n, v) :: r, m, h => by
    unfold bindL
    rw [bindL_out fun w hw => h w (List.mem_cons_of_mem _ hw)]
    split
    · have : x ≠ n := by rintro rfl; exact h v List.mem_cons_self
      simp [this]
    · rfl
theorem bindC_out {kindOf : Str → Option NameKind} {x : Str} : ∀ {binds : List (Str × Value)} {m : Str → Option Value}, (∀ v, (x, v) ∉ binds) → bindC kindOf binds m x = m x
  | [], _, _ => rfl
  | (n, v) :: r, m, h => by
    unfold bindC
    rw [bindC_out fun w hw => h w (List.mem_cons_of_mem _ hw)]
    split
    · rfl
    · have : x ≠ n := by rintro rfl; exact h v List.mem_cons_self
      simp [this]
theorem bindL_get {kindOf : Str → Option NameKind} {x : Str} {v : Value} : ∀ {P : List Str} {vs : List Value} {i : Nat} {m : Str → Option Value}, P.Nodup → P[i]? = some x → vs[i]? = some v → kindOf x = some .local →
    bindL kindOf (P.zip vs) m x = some v
  | [], _, _, _, _, h, _, _ => by simp at h
  | _ :: _, [], _, _, _, _, h, _ => by simp at h
  | p :: P, w :: vs, 0, m, nd, h1, h2, hk => by
    simp at h1 h2; subst h1; subst h2
    show bindL kindOf ((p, w) :: P.zip vs) m p = _
    unfold bindL
    rw [bindL_out fun v hv => (List.nodup_cons.mp nd).1 (List.of_mem_zip hv).1, if_pos hk]
    simp
  | p :: P, w :: vs, i + 1, m, nd, h1, h2, hk => by
    show bindL kindOf ((p, w) :: P.zip vs) m x = _
    unfold bindL
    exact bindL_get (i := i) (List.nodup_cons.mp nd).2 (by simpa using h1) (by simpa using h2) hk
theorem bindC_get {kindOf : Str → Option NameKind} {x : Str} {v : Value} : ∀ {P : List Str} {vs : List Value} {i : Nat} {m : Str → Option Value}, P.Nodup → P[i]? = some x → vs[i]? = some v → kindOf x ≠ some .local →
    bindC kindOf (P.zip vs) m x = some v
  | [], _, _, _, _, h, _, _ => by simp at h
  | _ :: _, [], _, _, _, _, h, _ => by simp at h
  | p :: P, w :: vs, 0, m, nd, h1, h2, hk => by
    simp at h1 h2; subst h1; subst h2
    show bindC kindOf ((p, w) :: P.zip vs) m p = _
    unfold bindC
    rw [bindC_out fun v hv => (List.nodup_cons.mp nd).1 (List.of_mem_zip hv).1, if_neg hk]
    simp
  | p :: P, w :: vs, i + 1, m, nd, h1, h2, hk => by
    show bindC kindOf ((p, w) :: P.zip vs) m x = _
    unfold bindC
    exact bindC_get (i := i) (List.nodup_cons.mp nd).2 (by simpa using h1) (by simpa using h2) hk

/-- the names' values at the entry -/
def start (N : List Str) (vs : List V) : St := vs.map some ++ List.replicate (N.length - vs.length) none

/-- the context of a def's body, at its entry; an exception leaves the frame, then lies as CX says -/
def cxOf (CX : CXT) (P : Program) (w : World) (K : PySem.W.Frag) (mg : Str → Option Value) (base : Heap) (N : List Str) (qual : Str) (scope : Scope) (f : Addr) (cd : Value) (A : Around) (outer : List Env) (s : Shared) (H : Hp) (E : XK) : Cx where
  prog := P
  w := w
  K := K
  mg := mg
  base := base
  A := A.deeper (envOfC qual scope s.heap.objs.size f cd)
  N := N
  sZ := s
  HZ := H
  env := envOfC qual scope s.heap.objs.size f cd
  outer := outer
  stack := envOfC qual scope s.heap.objs.size f cd :: outer
  ex := []
  calm := true
  fn := fun _ => true
  pn := []
  xe := fun e s' => wpAny (model P w) (A.deeper (envOfC qual scope s.heap.objs.size f cd)) (leaving (envOfC qual scope s.heap.objs.size f cd) e) (fun _ s'' => CX outer H s E e s'') (fun e' s'' => CX outer H s E e' s'') s'

theorem cell_has {sc : Scope} {n : Nat} {x : Str} (h : sc.names.lookup x = some .cell) : ∃ c, (cellsFrom n sc.names []).lookup x = some c := by
  have q := PySem.W.cellsFrom_some sc.names n [] (.inl h)
  exact Option.isSome_iff_exists.mp q

theorem inv_start {CX : CXT} {P : Program} {w : World} {K : PySem.W.Frag} {mg : Str → Option Value} {base : Heap} {N ps : List Str} {qual : Str} {scope : Scope} {f : Addr} {cd : Value} {A : Around} {outer : List Env} {s s1 : Shared} {H : Hp} {E : XK} {us : List Value} {vs : List V}
    (S : FnScope N ps scope) (hd : A.handled = none) (e0 : Env0 P w K mg base A outer s H) (hl : vs.length = ps.length) (r : Vals vs us)
    (x : InCallC s s.heap.objs.size (bindL (envOfC qual scope s.heap.objs.size f cd).kindOf (ps.zip us) fun _ => none) (cellsFrom (s.heap.objs.size + 1) scope.names []) (bindC (envOfC qual scope s.heap.objs.size f cd).kindOf (ps.zip us) fun _ => none) s1) :
    Inv (cxOf CX P w K mg base N qual scope f cd A outer s H E) [] (start N vs) H s1 := by
  have hpl : ps.length ≤ N.length := by have := congrArg List.length S.pre; rw [List.length_take] at this; omega
  obtain ⟨h1, tk, rfl, hk⟩ := x.done
  have noA : ∀ b : Addr, b ∉ (cxOf CX P w K mg base N qual scope f cd A outer s H E).ex := fun b z => absurd (show b ∈ ([] : List Addr) from z) (by simp)
  refine ⟨⟨e0.mod, S.kind, rfl, rfl, Nat.le_refl _, fun y z c h1 h2 => ?_, fun y hy => ?_, fun y c _ h => ?_, fun _ => hd, Around.frames_deeper e0.frames, .inr ⟨rfl, rfl⟩, fun b z => absurd z (noA b), e0.bs, e0.bsz, fun b _ _ => noA b, fun b z => absurd z (noA b), e0.funs, e0.frf⟩,
    rfl, e0.bare, Un.kept hk, ⟨_, x.toInCall.ns, fun i y v h1 h2 h3 => ?_⟩, fun y c h => ⟨_, x.cell y c h⟩, e0.hok.fresh (Nat.le_refl _), fun y c h => ?_, fun p hp => absurd (show p ∈ ([] : List (Addr × Obj)) from hp) (by simp), e0.hok.kept hk, ?_⟩
  · exact name_of_addr x.apart (PySem.mem_of_lookup h1) (PySem.mem_of_lookup h2)
  · have hy : scope.names.lookup y = some .cell ∨ scope.names.lookup y = some .free := hy
    rcases hy with hy | hy
    · exact cell_has hy
    · exact absurd rfl (S.nofree _ (PySem.mem_of_lookup hy))
  · exact Nat.le_of_lt (x.above y c (PySem.mem_of_lookup h))
  · have hi : i < vs.length := by
      unfold start at h2
      by_cases hi : i < vs.length
      · exact hi
      · rw [List.getElem?_append_right (by simpa using hi)] at h2
        rw [List.getElem?_replicate] at h2
        split at h2 <;> cases h2
    have ha : vs[i]? = some v := by
      unfold start at h2
      rw [List.getElem?_append_left (by simpa using hi), List.getElem?_map] at h2
      cases e : vs[i]? with
      | none => rw [e] at h2; cases h2
      | some a => rw [e] at h2; cases h2; rfl
    obtain ⟨u, hu, rv⟩ := r.get ha
    have hp : ps[i]? = some y := by
      rw [← S.pre, List.getElem?_take_of_lt (by omega)]; exact h1
    have ndP : ps.Nodup := by rw [← S.pre]; exact S.nd.sublist (List.take_sublist _ _)
    refine ⟨u, rv, ?_⟩
    rcases S.par y (List.mem_of_getElem? hp) with k | k
    · exact .inl ⟨k, bindL_get ndP hp hu k⟩
    · obtain ⟨c, e⟩ := cell_has (n := s.heap.objs.size + 1) k
      refine .inr ⟨.inl k, c, e, ?_⟩
      have q := x.cell y c e
      rw [bindC_get ndP hp hu (by show scope.names.lookup y ≠ _; rw [k]; decide)] at q
      exact q
  · exact e0.hok.fresh (Nat.le_of_lt (x.above y c (PySem.mem_of_lookup h)))
  · unfold start
    show _ = N.length
    rw [List.length_append, List.length_map, List.length_replicate]
    omega

/-- THE RULE: a def (or a method) of the text, by its body. The body's reading t is chosen for each entry; it is run at the parameters' values -/
theorem fn_of {CX : CXT} {P : Program} {w : World} {K : PySem.W.Frag} {mg : Str → Option Value} {base : Heap} {k : Nat} {f : Addr} {name qual : Str} {params : Arguments} {body : List Stmt} {scope : Scope} {dV kV doc pm cdv ct oc : Value} {an od : Option Addr}
    {osl : Array (Option Value)} {N ps : List Str} {sp : Sp} (lk : K.lookup f = some ⟨oc, od, .func (PySem.W.fnOf name qual params body scope dV kV doc pm an cdv ct), osl⟩) (hcd : PySem.W.codeIn K cdv qual = true) (S : FnScope N ps scope)
    (len : ∀ vs H Q E, sp vs H Q E → vs.length = ps.length)
    (hbody : ∀ (A : Around) (outer : List Env) (s : Shared) (H : Hp) (vs : List V) (Q : VK) (E : XK), Room k (A.deeper (envOfC qual scope s.heap.objs.size f cdv)) → sp vs H Q E →
      ∃ t, PSs (cxOf CX P w K mg base N qual scope f cdv A outer s H E) body t ∧ t { nx := fun _ H' => Q .non H', rt := Q } (start N vs) H) :
    FnOk P w K mg base CX (k + 1) f (PySem.W.fnOf name qual params body scope dV kV doc pm an cdv ct) ps sp := by
  refine ⟨len, fun A outer s H args us vs Q E hr e0 hb r hsp => ?_⟩
  have hl := len _ _ _ _ hsp
  have KX : K.In s.heap := e0.mod.kin.keeps fun b o e => (e0.bs b o e).1
  have lim : s.heap.NoLimit := e0.mod.nolimit.keeps fun b o e => (e0.bs b o e).1
  have hkind : ∀ y ∈ ps.zip us, scope.names.lookup y.1 = some .local ∨ (scope.names.lookup y.1 = some .cell ∧ ((cellsFrom (s.heap.objs.size + 1) scope.names []).lookup y.1).isSome = true) := fun ⟨n, v⟩ hy => by
    rcases S.par n (List.of_mem_zip hy).1 with q | q
    · exact .inl q
    · exact .inr ⟨q, PySem.W.cellsFrom_some _ _ _ (.inl q)⟩
  refine codeAny_call_function hr.depth (KX _ _ lk) rfl S.co S.gen rfl (PySem.W.codeRec_of KX hcd) (hb _ _ _ _ ?_)
  refine wpAny_newFunctionEnv_cells S.kind hkind fun env he s1 x => ?_
  subst he
  refine ⟨lim.keeps x.toInCall.keep, codeAny_func ?_⟩
  obtain ⟨t, ht, hq⟩ := hbody A outer s H vs Q E (hr.deeper _) hsp
  have I : Inv (cxOf CX P w K mg base N qual scope f cdv A outer s H E) [] (start N vs) H s1 := inv_start S hr.hd e0 hl r x
  refine wpAny_mono (ht [] s1 (start N vs) H _ I hq) (fun fl s' hs => ?_) fun e s' hs => hs
  have fin : ∀ {σ' : St} {H' : Hp} {v : V} {u : Value}, Inv (cxOf CX P w K mg base N qual scope f cdv A outer s H E) [] σ' H' s' → RelV v u → Q v H' → CE outer P w H s Q u s' :=
    fun {σ' H' v u} J rv q => ⟨v, H', J.os, J.bare, J.base, J.hok, rv, q⟩
  cases fl with
  | ret u =>
    obtain ⟨v, σ', H', J, rv, q⟩ := hs
    exact fin J rv q
  | next =>
    obtain ⟨σ', H', J, q⟩ := hs
    exact fin (v := V.non) (u := Value.none) J rfl q
  | brk =>
    obtain ⟨_, _, _, q⟩ := hs
    exact False.elim q
  | cont =>
    obtain ⟨_, _, _, q⟩ := hs
    exact False.elim q
end L2

namespace L2
open PySem PySem.Spec PyProof.Rows
section
variable {X : Cx} {x : Str} {p pos : Pos} {e : Expr} {es : List Expr} {t : TA} {id T : String} {r : List V → Hp → VK → Prop}

def tCB (r : List V → Hp → VK → Prop) (t : TA) : TE := fun σ H Q => t σ H fun vs H1 => r vs H1 Q
/-- f(e, ..), f a built-in function -/
theorem pe_callB (hc : CallR X (.builtin id) r) (hg : Gl X x) (hm : X.mg x = none) (hv : bootBuiltins x = some (.builtin id)) (ha : PA X (e :: es) t) (hn : x ≠ "__name__" := by decide) (hdb : (x == ("__debug__" : Str)) = false := by decide)
    (he : starEach (e :: es) X.env = (false, eval e X.env) :: starEach es X.env := by rfl) (hpl : (backTo pos (starEach es X.env)).any (·.1) = false := by rfl) : PE X (.Call (.Name x p) (e :: es) [] pos) (tCB r t) := by
  intro pins s σ H Q I h
  refine wpAny_Call_Name_kw (ld_blt I hg hm hv ?_ hn hdb)
  exact PyProof.Rows.callWith_builtin1 (thn (ha pos pins s σ H _ I h) fun us s1 ⟨vs, H1, I1, r1, q1⟩ => hc pins s1 σ H1 vs us Q I1 r1 q1) he hpl
/-- T(e, ..), T a built-in type -/
theorem pe_callTy (hc : CallR X (.type T) r) (hg : Gl X x) (hm : X.mg x = none) (hv : bootBuiltins x = some (.type T)) (ha : PA X (e :: es) t) (hn : x ≠ "__name__" := by decide) (hdb : (x == ("__debug__" : Str)) = false := by decide)
    (he : starEach (e :: es) X.env = (false, eval e X.env) :: starEach es X.env := by rfl) (hpl : (backTo pos (starEach es X.env)).any (·.1) = false := by rfl) : PE X (.Call (.Name x p) (e :: es) [] pos) (tCB r t) := by
  intro pins s σ H Q I h
  refine wpAny_Call_Name_kw (ld_blt I hg hm hv ?_ hn hdb)
  exact PyProof.Rows.callWith_type1 (thn (ha pos pins s σ H _ I h) fun us s1 ⟨vs, H1, I1, r1, q1⟩ => hc pins s1 σ H1 vs us Q I1 r1 q1) he hpl
end
end L2

namespace HT
open PySem PyProof.Rows

section
open PySem.SeqAt
open PySem.AutoSeq1 (wpAny_loadPart')
open PySem.MeetsSeq PySem.MeetsSeq2 PySem.MeetsSeq3

end

section
variable {prog : Program} {w : World} {A : Around} {E : Value → Shared → Prop} {s : Shared}

/-- a slice's bound as a place among n (d where it is left out) -/
def sIx (n d : Nat) : Option Int → Nat
  | none => d
  | some v => if v < 0 then (v + (n : Int)).toNat else min v.toNat n
theorem sIx_nat (n d k : Nat) : sIx n d (some (k : Int)) = min k n := by
  show (if (k : Int) < 0 then ((k : Int) + (n : Int)).toNat else min (k : Int).toNat n) = min k n
  rw [if_neg (by omega), Int.toNat_natCast]
theorem sIx_le (n d : Nat) (hd : d ≤ n) (o : Option Int) : sIx n d o ≤ n := by
  cases o with
  | none => exact hd
  | some v =>
    show (if v < 0 then (v + (n : Int)).toNat else min v.toNat n) ≤ n
    by_cases hv : v < 0
    · rw [if_pos hv]; omega
    · rw [if_neg hv]; exact Nat.min_le_right _ _
theorem clip_eq (v : Int) (n d : Nat) : (if v < 0 then max (v + (n : Int)) 0 else min v (n : Int)) = ((sIx n d (some v) : Nat) : Int) := by
  show (if v < 0 then max (v + (n : Int)) 0 else min v (n : Int)) = (((if v < 0 then (v + (n : Int)).toNat else min v.toNat n) : Nat) : Int)
  by_cases hv : v < 0
  · simp only [if_pos hv]; omega
  · simp only [if_neg hv]; omega
theorem adjust_gen (lo hi : Option Int) (n : Nat) : Builtin.Slice.sliceAdjust lo hi 1 (n : Int) = (((sIx n 0 lo : Nat) : Int), ((sIx n n hi : Nat) : Int)) := by
  have h1 : ¬ ((1 : Int) < 0) := by omega
  unfold Builtin.Slice.sliceAdjust
  simp only [h1, if_false]
  refine Prod.ext ?_ ?_
  · cases lo with
    | none => rfl
    | some v => exact clip_eq v n 0
  · cases hi with
    | none => rfl
    | some v => exact clip_eq v n n
theorem places_gen (i j : Nat) : Builtin.Slice.slicePlaces (i : Int) (j : Int) 1 = j - i := by
  unfold Builtin.Slice.slicePlaces
  have h1 : (1 : Int) > 0 := by omega
  simp only [h1, if_true, Int.ediv_one]
  split <;> omega
theorem slicePart_ {v : Value} {o : Option Int} {Q : Option Int → Shared → Prop} (p : IsPart v o) (h : Q o s) : wpAny (model prog w) A (Builtin.Slice.slicePartIndex v) Q E s := by
  cases p with
  | none => exact slicePart_none h
  | int i t => exact slicePart_int h
theorem sliceApplied_gen {sl : Addr} {vl vu : Value} {lo hi : Option Int} {n : Nat} {Q : Int × Int × Nat → Shared → Prop} (hs : s.heap.IsSliceOf sl vl vu .none) (pl : IsPart vl lo) (pu : IsPart vu hi)
    (h : Q (((sIx n 0 lo : Nat) : Int), 1, sIx n n hi - sIx n 0 lo) s) : wpAny (model prog w) A (Builtin.Slice.sliceApplied (.ref sl) (pure (n : Int))) Q E s := by
  obtain ⟨os, hos, hcs, hds⟩ := id hs
  unfold Builtin.Slice.sliceApplied Builtin.Slice.sliceFields
  refine wpAny_bind (wpAny_bind (wpAny_field hos hds (x := vl) rfl (wpAny_bind (wpAny_field hos hds (x := vu) rfl (wpAny_bind (wpAny_field hos hds (x := .none) rfl (wpAny_pure ?_)))))))
  refine wpAny_bind (slicePart_none ?_)
  show wpAny _ _ (if ((1 : Int) == 0) = true then _ else _) _ _ s
  rw [if_neg (by decide)]
  refine wpAny_bind (slicePart_ pl (wpAny_bind (slicePart_ pu (wpAny_bind (wpAny_pure ?_)))))
  show wpAny _ _ (match Builtin.Slice.sliceAdjust lo hi 1 (n : Int) with | (lo, hi) => pure (lo, (1 : Int), Builtin.Slice.slicePlaces lo hi 1)) _ _ s
  rw [adjust_gen lo hi n]
  show wpAny _ _ (pure (((sIx n 0 lo : Nat) : Int), (1 : Int), Builtin.Slice.slicePlaces ((sIx n 0 lo : Nat) : Int) ((sIx n n hi : Nat) : Int) 1)) _ _ s
  rw [places_gen]
  exact wpAny_pure h
theorem pick_gen (xs : Array Value) (i k : Nat) : ((List.range k).filterMap fun (m : Nat) => xs[((i : Int) + (m : Int) * 1).toNat]?).toArray = ((xs.toList.drop i).take k).toArray := by
  have e : (fun (m : Nat) => xs[((i : Int) + (m : Int) * 1).toNat]?) = fun m => xs[i + m]? := by
    funext m
    have : ((i : Int) + (m : Int) * 1).toNat = i + m := by omega
    rw [this]
  rw [e]
  have := pick_run xs i k
  rw [List.filterMap_map] at this
  have e2 : ((fun x => xs[x]?) ∘ fun x => i + x) = fun m => xs[i + m]? := rfl
  rw [e2] at this
  rw [this]

theorem getItem_tuple_cut {t sl : Addr} {items : Array Value} {vl vu : Value} {lo hi : Option Int} {Q : Value → Shared → Prop} (ht : IsTup s.heap t items) (hs : s.heap.IsSliceOf sl vl vu .none) (pl : IsPart vl lo) (pu : IsPart vu hi)
    (hw : ¬ (sIx items.size 0 lo = 0 ∧ sIx items.size items.size hi = items.size))
    (h : Q (.ref s.heap.objs.size) { s with heap := s.heap.push { cls := .type "tuple", data := .seq ((items.toList.drop (sIx items.size 0 lo)).take (sIx items.size items.size hi - sIx items.size 0 lo)).toArray } })
    (hsz : items.size ≤ sizeLine) : wpAny (model prog w) A (getItem (.ref t) (.ref sl)) Q E s := by
  have htake : sizeOk (.seq ((items.toList.drop (sIx items.size 0 lo)).take (sIx items.size items.size hi - sIx items.size 0 lo)).toArray) := by
    show ((items.toList.drop (sIx items.size 0 lo)).take (sIx items.size items.size hi - sIx items.size 0 lo)).toArray.size ≤ sizeLine
    rw [List.size_toArray, List.length_take, List.length_drop, Array.length_toList]
    omega
  have hj : sIx items.size items.size hi ≤ items.size := sIx_le _ _ (Nat.le_refl _) hi
  obtain ⟨os, hos, hcs, hds⟩ := id hs
  have hTs : s.TypeIs (.ref sl) "slice" := ⟨os, hos, hcs⟩
  unfold getItem
  try with_reducible refine wpAny_holding ?_
  first | refine wpAny_bind (wpAny_pure ?_) | skip
  refine wpAny_bind (wpAny_sequenceKey ht.typeIs (by decide) ?_)
  refine wpAny_bind (wpAny_callSpecial?_slot (name := Str.ofString "__getitem__") ht.typeIs PyProof.Rows.slot_tuple_getitem
    (wpAny_call_entry PyProof.Rows.slot_tuple_getitem ht.typeIs entry_tuple_getitem ?_ (args_tuple_getitem _ _)))
  show wpAny _ _ (Builtin.Tuple.tupleItemsOf (.ref t) >>= _) _ _ s
  refine wpAny_bind (tupleItemsOf_ ht ?_)
  refine wpAny_bind (wpAny_typeOf hTs ?_)
  rw [if_pos (by decide)]
  refine wpAny_bind (sliceApplied_gen hs pl pu ?_)
  have hno : ¬ ((((sIx items.size 0 lo : Nat) : Int) == 0 && (1 : Int) == 1 && (sIx items.size items.size hi - sIx items.size 0 lo) == items.size) = true) := by
    intro q
    rw [Bool.and_eq_true, Bool.and_eq_true] at q
    have q1 : ((sIx items.size 0 lo : Nat) : Int) = 0 := eq_of_beq q.1.1
    have q2 : sIx items.size items.size hi - sIx items.size 0 lo = items.size := eq_of_beq q.2
    exact hw ⟨by omega, by omega⟩
  show wpAny _ _ (if (((sIx items.size 0 lo : Nat) : Int) == 0 && (1 : Int) == 1 && (sIx items.size items.size hi - sIx items.size 0 lo) == items.size) = true then _ else _) _ _ s
  rw [if_neg hno, pick_gen]
  first
    | exact wpAny_bind (m := Builtin.Tuple.tupleExact _) (wpAny_newObj_type (wpAny_pure ⟨_, rfl, wpAny_pure h⟩) htake)
    | exact wpAny_bind (m := Builtin.Tuple.tupleExact _) (wpAny_newObj_type (wpAny_bind (wpAny_pure (wpAny_pure ⟨_, rfl, wpAny_pure h⟩))) htake)
    | exact wpAny_bind (wpAny_bind (m := Builtin.Tuple.tupleExact _) (wpAny_newObj_type (wpAny_pure (wpAny_pure ⟨_, rfl, wpAny_pure h⟩)) htake))
    | exact wpAny_bind (wpAny_bind (m := Builtin.Tuple.tupleExact _) (wpAny_newObj_type (wpAny_pure ⟨_, rfl, wpAny_pure h⟩) htake))
end
end HT

namespace L2
open PySem PySem.Spec PyProof.Rows

abbrev TO := St → Hp → (Option Int → Hp → Prop) → Prop
/-- a slice's part (left out, or an int) -/
def PO (X : Cx) (e : Option Expr) (t : TO) : Prop :=
  ∀ (pins : List (Addr × Obj)) (s : Shared) (σ : St) (H : Hp) (Q : Option Int → Hp → Prop), Inv X pins σ H s → t σ H Q →
    wpAny (model X.prog X.w) X.A (evalPart e X.env) (fun u s' => ∃ o H', Inv X pins σ H' s' ∧ IsPart u o ∧ Q o H') X.xe s
def tNoPart : TO := fun _ H Q => Q none H
def tPart (t : TE) : TO := fun σ H Q => t σ H fun x H1 => ∃ i, x = .int i ∧ Q (some i) H1

theorem intsAre_of {ns : List Int} : ∀ {us : List Value}, Vals (ns.map V.int) us → IntsAre us ns := by
  induction ns with
  | nil => intro us r; rw [List.map_nil] at r; cases r; exact .nil
  | cons n ns ih =>
    intro us r
    rw [List.map_cons] at r
    cases r with
    | cons r1 r2 =>
      obtain ⟨t, e⟩ := r1
      subst e
      exact .cons n t (ih r2)

section
variable {X : Cx} {e : Expr} {te : TE} {lo hi : Option Expr} {tl th : TO} {pos p2 : Pos}

theorem po_none : PO X none tNoPart := by
  intro pins s σ H Q I h
  rw [evalPart_none]
  exact wpAny_pure ⟨none, H, I, .none, h⟩
theorem po_some (h : PE X e te) : PO X (some e) (tPart te) := by
  intro pins s σ H Q I hw
  rw [evalPart_some]
  refine thn (h pins s σ H _ I hw) fun u s1 ⟨x, H1, I1, r1, q1⟩ => ?_
  obtain ⟨i, rfl, q⟩ := q1
  obtain ⟨t, rfl⟩ := r1
  exact ⟨some i, H1, I1, .int i t, q⟩

/-- what a slice of a value is, by values: the slice object stands at sl -/
def SlR (X : Cx) (r : V → Option Int → Option Int → Hp → VK → Prop) : Prop :=
  ∀ (pins : List (Addr × Obj)) (s : Shared) (σ : St) (H : Hp) (x : V) (v vl vu : Value) (lo hi : Option Int) (sl : Addr) (Q : VK), Inv X pins σ H s → RelV x v → s.heap.IsSliceOf sl vl vu .none → IsPart vl lo → IsPart vu hi → r x lo hi H Q →
    ∃ T id, typeLookup (.type T) "__getitem__" = pure (some (.builtin id)) ∧ s.TypeIs v T ∧ wpAny (model X.prog X.w) X.A (getItem v (.ref sl)) (EP X pins σ Q) X.xe s
theorem SlR.or {r r' : V → Option Int → Option Int → Hp → VK → Prop} (h : SlR X r) (h' : SlR X r') : SlR X (fun x lo hi H Q => r x lo hi H Q ∨ r' x lo hi H Q) := by
  intro pins s σ H x v vl vu lo hi sl Q I rx hs pl pu q
  rcases q with q | q
  · exact h pins s σ H x v vl vu lo hi sl Q I rx hs pl pu q
  · exact h' pins s σ H x v vl vu lo hi sl Q I rx hs pl pu q
def tSl (r : V → Option Int → Option Int → Hp → VK → Prop) (te : TE) (tl th : TO) : TE := fun σ H Q => te σ H fun x H1 => tl σ H1 fun l H2 => th σ H2 fun u H3 => r x l u H3 Q
/-- a[lo:hi], any a -/
theorem pe_slice {r : V → Option Int → Option Int → Hp → VK → Prop} (hr : SlR X r) (he : PE X e te) (hl : PO X lo tl) (hu : PO X hi th) : PE X (.Subscript e (.Slice lo hi none p2) pos) (tSl r te tl th) := by
  intro pins s σ H Q I h
  refine Subscript_ (thn (he pins s σ H _ I h) fun v s1 ⟨x, H1, I1, r1, q1⟩ => ?_)
  refine wpAny_Slice (thn (hl pins s1 σ H1 _ I1 q1) fun vl s2 ⟨l, H2, I2, pl, q2⟩ => thn (hu pins s2 σ H2 _ I2 q2) fun vu s3 ⟨u, H3, I3, pu, q3⟩ => ?_)
  rw [evalPart_none]
  refine wpAny_pure ?_
  have I4 : Inv X pins σ H3 { s3 with heap := s3.heap.push { cls := .type "slice", data := .fields #[vl, vu, .none] } } := I3.kept (t' := s3.toks) fun b ob q => Heap.get?_push_of_some _ q
  obtain ⟨T, id, hT, ht, hg⟩ := hr pins { s3 with heap := s3.heap.push { cls := .type "slice", data := .fields #[vl, vu, .none] } } σ H3 x v vl vu l u s3.heap.objs.size Q I4 r1 (Heap.IsSliceOf.new ..) pl pu q3
  show wpAny (model X.prog X.w) X.A (subscriptTail e (.Slice lo hi none p2) v (.ref s3.heap.objs.size)) (EP X pins σ Q) X.xe { s3 with heap := s3.heap.push { cls := .type "slice", data := .fields #[vl, vu, .none] } }
  exact tail_any (ops := [.ref s3.heap.objs.size, v]) ht hT hg (by with_unfolding_all rfl)

/-- the items of xs[lo:hi] -/
def cutV (xs : List V) (lo hi : Option Int) : List V := (xs.drop (HT.sIx xs.length 0 lo)).take (HT.sIx xs.length xs.length hi - HT.sIx xs.length 0 lo)
theorem cutV_length (xs : List V) (lo hi : Option Int) : (cutV xs lo hi).length ≤ xs.length := by
  unfold cutV
  rw [List.length_take, List.length_drop]
  omega
/-- t[lo:hi], not the whole of it (the whole would be t itself) -/
def rSlT (K : PySem.W.Frag) : V → Option Int → Option Int → Hp → VK → Prop := fun x lo hi H Q => ∃ a xs, x = .ref a ∧ SqT K H a xs ∧
  ¬ (HT.sIx xs.length 0 lo = 0 ∧ HT.sIx xs.length xs.length hi = xs.length) ∧ ∀ p, H p = none → Q (.ref p) (upd H p (.tup (cutV xs lo hi)))
theorem sl_tup : SlR X (rSlT X.K) := by
  intro pins s σ H x v vl vu lo hi sl Q I rx hs pl pu h
  obtain ⟨a, xs, rfl, hx, hw, q⟩ := h
  cases rx
  obtain ⟨its, r, ht, hz⟩ := I.tuple hx
  have hlen : its.toArray.size = xs.length := by rw [List.size_toArray]; exact r.length.symm
  refine ⟨"tuple", _, PyProof.Rows.slot_tuple_getitem.lookup, ht.typeIs, ?_⟩
  refine HT.getItem_tuple_cut ht hs pl pu (by rw [hlen]; exact hw) ?_ (by rw [hlen]; exact hz)
  rw [hlen]
  refine ⟨.ref s.heap.objs.size, _, I.laid (t' := s.toks) (o := .tup (cutV xs lo hi)) (fun b ob q => Heap.get?_push_of_some _ q) (Nat.le_refl _) ?_, rfl, q _ (I.hok.fresh (Nat.le_refl _))⟩
  exact ⟨Nat.le_trans (cutV_length xs lo hi) hz, _, (r.drop (HT.sIx xs.length 0 lo)).take (HT.sIx xs.length xs.length hi - HT.sIx xs.length 0 lo), IsTup.new _ _⟩

end
end L2

namespace L2
open PySem PySem.Spec PyProof.Rows

/-- the place that an index of any sign means -/
def ixN (n : Nat) (i : Int) : Option Nat := if 0 ≤ i then (if i < n then some i.toNat else none) else if -(n : Int) ≤ i then some (i + n).toNat else none
def atI {α : Type} (xs : List α) (i : Int) : Option α := (ixN xs.length i).bind fun j => xs[j]?
theorem ixN_seq {n : Nat} {i : Int} {j : Nat} (h : ixN n i = some j) : seqIndex? i n = some j ∧ j < n ∧ -(n : Int) ≤ i ∧ i < n := by
  unfold ixN at h
  by_cases h0 : 0 ≤ i
  · rw [if_pos h0] at h
    by_cases h1 : i < n
    · rw [if_pos h1] at h
      have e : i.toNat = j := Option.some.inj h
      exact ⟨by rw [seqIndex_of h0 h1, e], by omega, by omega, h1⟩
    · rw [if_neg h1] at h; cases h
  · rw [if_neg h0] at h
    by_cases h1 : -(n : Int) ≤ i
    · rw [if_pos h1] at h
      have e : (i + n).toNat = j := Option.some.inj h
      exact ⟨by rw [seqIndex_neg (by omega) h1, e], by omega, h1, by omega⟩
    · rw [if_neg h1] at h; cases h
theorem atI_get {α : Type} {xs : List α} {i : Int} {v : α} (h : atI xs i = some v) : ∃ j, seqIndex? i xs.length = some j ∧ xs[j]? = some v ∧ j < xs.length ∧ -(xs.length : Int) ≤ i ∧ i < xs.length := by
  unfold atI at h
  cases e : ixN xs.length i with
  | none => rw [e] at h; cases h
  | some j =>
    rw [e] at h
    obtain ⟨h1, h2, h3, h4⟩ := ixN_seq e
    exact ⟨j, h1, h, h2, h3, h4⟩
theorem atI_nat {α : Type} {xs : List α} {j : Nat} {v : α} (h : xs[j]? = some v) : atI xs (j : Int) = some v := by
  have hj : j < xs.length := (List.getElem?_eq_some_iff.mp h).1
  have e : ixN xs.length (j : Int) = some j := by
    unfold ixN
    rw [if_pos (by omega), if_pos (by omega)]; simp
  unfold atI; rw [e]; exact h
/-- what stands as an index of a plain subscript -/
def PlainIx (b : Expr) : Prop := ∀ o i, subscripted b false o i = operate [o, i] (getItem o i)
/-- a subscript by values -/
def IxR (X : Cx) (r : R2) : Prop :=
  ∀ (value slice : Expr) (pins : List (Addr × Obj)) (s : Shared) (σ : St) (H : Hp) (x y : V) (v u : Value) (Q : VK), Inv X pins σ H s → RelV x v → RelV y u → r x y H Q →
    subscripted slice false v u = operate [v, u] (getItem v u) → wpAny (model X.prog X.w) X.A (subscriptTail value slice v u) (EP X pins σ Q) X.xe s
/-- a call of a builtin's method by values: the receiver, the arguments -/
def MtR (X : Cx) (id : String) (r : V → List V → Hp → VK → Prop) : Prop :=
  ∀ (pins : List (Addr × Obj)) (s : Shared) (σ : St) (H : Hp) (x : V) (xs : List V) (v : Value) (us : List Value) (Q : VK), Inv X pins σ H s → RelV x v → Vals xs us → r x xs H Q →
    wpAny (model X.prog X.w) X.A (call (.builtin id) (v :: us)) (EP X pins σ Q) X.xe s
section
variable {X : Cx} {a b : Expr} {ta tb : TE} {pos : Pos}
theorem IxR.or {r r' : R2} (h : IxR X r) (h' : IxR X r') : IxR X (fun x y H Q => r x y H Q ∨ r' x y H Q) := by
  intro value slice pins s σ H x y v u Q I rx ry q hs
  rcases q with q | q
  · exact h value slice pins s σ H x y v u Q I rx ry q hs
  · exact h' value slice pins s σ H x y v u Q I rx ry q hs
theorem MtR.or {id : String} {r r' : V → List V → Hp → VK → Prop} (h : MtR X id r) (h' : MtR X id r') : MtR X id (fun x xs H Q => r x xs H Q ∨ r' x xs H Q) := by
  intro pins s σ H x xs v us Q I rx rs q
  rcases q with q | q
  · exact h pins s σ H x xs v us Q I rx rs q
  · exact h' pins s σ H x xs v us Q I rx rs q
/-- a[b] -/
theorem pe_ix {r : R2} (hr : IxR X r) (ha : PE X a ta) (hb : PE X b tb) (hs : PlainIx b) : PE X (.Subscript a b pos) (tOp r ta tb) := by
  intro pins s σ H Q I h
  exact Subscript_ (binT ha hb I h fun v u s2 x y H2 I2 rx ry q => hr a b pins s2 σ H2 x y v u Q I2 rx ry q (hs _ _))

def rIxL (K : PySem.W.Frag) : R2 := fun x y H Q => ∃ p xs i v, x = .ref p ∧ y = .int i ∧ SqL K H p xs ∧ atI xs i = some v ∧ Q v H
def rIxT (K : PySem.W.Frag) : R2 := fun x y H Q => ∃ p xs i v, x = .ref p ∧ y = .int i ∧ SqT K H p xs ∧ atI xs i = some v ∧ Q v H
def rIxS : R2 := fun x y H Q => ∃ z i c, x = .str z ∧ y = .int i ∧ z.length ≤ sizeLine ∧ atI z.cps.toList i = some c ∧ Q (.str ⟨#[c]⟩) H
theorem ix_list : IxR X (rIxL X.K) := by
  intro value slice pins s σ H x y v u Q I rx ry h hs
  obtain ⟨p, xs, i, z, rfl, rfl, hq, he, q⟩ := h
  cases rx
  obtain ⟨t, rfl⟩ := ry
  obtain ⟨its, r, pl, hz⟩ := I.list hq
  obtain ⟨j, h1, h2, h3, h4, h5⟩ := atI_get he
  obtain ⟨w, ew, rw'⟩ := r.get h2
  have hl := r.length
  have hn := line63
  have fin : EP X pins σ Q w s := ⟨z, H, I, rw', q⟩
  by_cases h0 : 0 ≤ i
  · have hj : i.toNat = j := by
      rw [seqIndex_of h0 h5] at h1
      exact Option.some.inj h1
    exact item_listR pl.isList h0 (by omega) (by rw [hj]; simpa using ew) fin hs
  · have hj : (i + (its.toArray.size : Int)).toNat = j := by
      rw [seqIndex_neg (by omega) h4] at h1
      rw [List.size_toArray, ← hl]
      exact Option.some.inj h1
    exact subscriptTail_builtinR (x := w) pl.isList.typeIs slot_list_getitem.lookup
      (wpAny_getItem_list_neg (Q := fun r s' => r = w ∧ EP X pins σ Q r s') pl.isList (by omega) (by rw [List.size_toArray] <;> omega) (by omega) (by rw [hj]; simpa using ew) ⟨rfl, fin⟩) hs
theorem ix_tup : IxR X (rIxT X.K) := by
  intro value slice pins s σ H x y v u Q I rx ry h hs
  obtain ⟨p, xs, i, z, rfl, rfl, hq, he, q⟩ := h
  cases rx
  obtain ⟨t, rfl⟩ := ry
  obtain ⟨its, r, pl, hz⟩ := I.tuple hq
  obtain ⟨j, h1, h2, h3, h4, h5⟩ := atI_get he
  obtain ⟨w, ew, rw'⟩ := r.get h2
  have hl := r.length
  have hn := line63
  have fin : EP X pins σ Q w s := ⟨z, H, I, rw', q⟩
  exact subscriptTail_builtinR (x := w) pl.typeIs slot_tuple_getitem.lookup
    (getItem_tuple (j := j) (Q := fun r s' => r = w ∧ EP X pins σ Q r s') pl (by omega) (by omega) (by rw [List.size_toArray, ← hl]; exact h1) (by simpa using ew) ⟨rfl, fin⟩) hs
theorem ix_str : IxR X rIxS := by
  intro value slice pins s σ H x y v u Q I rx ry h hs
  obtain ⟨z, i, c, rfl, rfl, hz, he, q⟩ := h
  obtain ⟨t, rfl⟩ := rx
  obtain ⟨t', rfl⟩ := ry
  obtain ⟨j, h1, h2, h3, h4, h5⟩ := atI_get he
  have hl : z.cps.toList.length = z.length := by simp [Str.length]
  rw [hl] at h1 h4 h5
  have hn := line63
  exact tail_any (typeIs_str s z t) slot_str_getitem.lookup (getItem_str (c := c) (by
    have e1 : decide (i < -(2 ^ 63 : Int)) = false := decide_eq_false (by omega)
    have e2 : decide (i ≥ 2 ^ 63) = false := decide_eq_false (by omega)
    rw [e1, e2, Bool.or_false]) (by rw [h1]; simpa using h2) ⟨.str ⟨#[c]⟩, H, I.tok _, ⟨_, rfl⟩, q⟩) hs
/-- list, tuple or str -/
def rIx (K : PySem.W.Frag) : R2 := fun x y H Q => rIxL K x y H Q ∨ rIxT K x y H Q ∨ rIxS x y H Q
theorem ix_seq : IxR X (rIx X.K) := ix_list.or (ix_tup.or ix_str)

/-- the list's object behind a store -/
theorem mapSeq_set (its : List Value) (n j : Nat) (u : Value) : Obj.mapSeq (·.setIfInBounds j u) { cls := .type "list", data := .seq its.toArray n } = { cls := .type "list", data := .seq (its.set j u).toArray n } := by
  simp [Obj.mapSeq]
theorem Inv.lst {pins : List (Addr × Obj)} {σ : St} {H : Hp} {s : Shared} {p : Addr} {xs : List V} (I : Inv X pins σ H s) (h : H p = some (.lst xs)) :
    ∃ (its : List Value) (n : Nat), Vals xs its ∧ s.heap.get? p = some { cls := .type "list", data := .seq its.toArray n } ∧ xs.length ≤ sizeLine := by
  obtain ⟨z, its, n, r, e⟩ := I.hok p _ h
  exact ⟨its, n, r, e, z⟩
/-- the list at p is written by an update of its object -/
theorem Inv.lstUpd {pins : List (Addr × Obj)} {σ : St} {H : Hp} {s : Shared} {p : Addr} {xs ys : List V} {its its' : List Value} {n n' : Nat} {f : Obj → Obj} (I : Inv X pins σ H s) (h : H p = some (.lst xs))
    (ho : s.heap.get? p = some { cls := .type "list", data := .seq its.toArray n }) (hf : f { cls := .type "list", data := .seq its.toArray n } = { cls := .type "list", data := .seq its'.toArray n' }) (r : Vals ys its') (hz : ys.length ≤ sizeLine) (t : Nat) :
    Inv X pins σ (upd H p (.lst ys)) { s with heap := s.heap.update p f, toks := t } := by
  have e : (s.heap.update p f).get? p = some { cls := .type "list", data := .seq its'.toArray n' } := by
    rw [Heap.get?_update_self f ho (by rw [hf] <;> rfl), hf]
  refine I.write (x := p) (e := p) (by rw [h]; trivial) (.inl rfl) (fun b u hb q => (Heap.get?_update_other _ _ (Ne.symm hb)).trans q) ⟨_, e⟩ ?_
  exact ⟨hz, its', n', r, e⟩
def rSetL : V → V → V → Hp → (Hp → Prop) → Prop := fun o i v H Q => ∃ p xs k j, o = .ref p ∧ i = .int k ∧ H p = some (.lst xs) ∧ ixN xs.length k = some j ∧ Q (upd H p (.lst (xs.set j v)))
theorem set_list : PSet X rSetL := by
  intro pins s σ H o i v ov iv u Q I ro ri rv h
  obtain ⟨p, xs, k, j, rfl, rfl, hp, hj, q⟩ := h
  cases ro
  obtain ⟨t, rfl⟩ := ri
  obtain ⟨its, n, r, ho, hz⟩ := I.lst hp
  obtain ⟨h1, h2, h3, h4⟩ := ixN_seq hj
  have hl := r.length
  have hn := line63
  have I' : Inv X pins σ (upd H p (.lst (xs.set j v))) { s with heap := s.heap.update p (Obj.mapSeq (·.setIfInBounds j u)) } :=
    I.lstUpd hp ho (mapSeq_set its n j u) (r.set rv j) (by rw [List.length_set]; exact hz) s.toks
  by_cases h0 : 0 ≤ k
  · have hk : k.toNat = j := by
      rw [seqIndex_of h0 h4] at h1
      exact Option.some.inj h1
    exact PySem.W.ki_setAt ho h0 (by omega) (by rw [List.size_toArray, ← hl]; exact h4) (by rw [hk]; exact ⟨_, I', q⟩)
  · have hk : (k + (its.toArray.size : Int)).toNat = j := by
      rw [seqIndex_neg (by omega) h3] at h1
      rw [List.size_toArray, ← hl]
      exact Option.some.inj h1
    exact PySem.W.ki_setBack ho (by omega) (by rw [List.size_toArray, ← hl]; exact h3) (by omega) (by rw [hk]; exact ⟨_, I', q⟩)

theorem slice_bounds (lo hi : Option Int) (n : Nat) : (sliceBounds lo hi none n).1 = ((HT.sIx n 0 lo : Nat) : Int) ∧ (sliceBounds lo hi none n).2.1 = ((HT.sIx n n hi : Nat) : Int) ∧ (sliceBounds lo hi none n).2.2 = 1 := by
  refine ⟨?_, ?_, rfl⟩
  · cases lo with
    | none => simp [sliceBounds, HT.sIx]
    | some i =>
      simp only [sliceBounds, HT.sIx, Option.getD_none, show (1 : Int) > 0 by decide, if_true]
      by_cases h : i < 0
      · simp only [h, if_true] <;> omega
      · simp only [h, if_false] <;> omega
  · cases hi with
    | none => simp [sliceBounds, HT.sIx]
    | some i =>
      simp only [sliceBounds, HT.sIx, Option.getD_none, show (1 : Int) > 0 by decide, if_true]
      by_cases h : i < 0
      · simp only [h, if_true] <;> omega
      · simp only [h, if_false] <;> omega
theorem slicePick_cut (its : List Value) (lo hi : Option Int) : slicePick its.toArray lo hi none = ((its.drop (HT.sIx its.length 0 lo)).take (HT.sIx its.length its.length hi - HT.sIx its.length 0 lo)).toArray := by
  obtain ⟨h1, h2, h3⟩ := slice_bounds lo hi its.toArray.size
  unfold slicePick
  rw [h1, h2, h3]
  simp only [sliceRange_one, pick_run, List.size_toArray] <;> rfl
/-- xs[lo:hi] of a list: a new list -/
def rSlL (K : PySem.W.Frag) : V → Option Int → Option Int → Hp → VK → Prop := fun x lo hi H Q => ∃ a xs, x = .ref a ∧ SqL K H a xs ∧ ∀ p, H p = none → Q (.ref p) (upd H p (.lst (cutV xs lo hi)))
theorem sl_list : SlR X (rSlL X.K) := by
  intro pins s σ H x v vl vu lo hi sl Q I rx hs pl pu h
  obtain ⟨a, xs, rfl, hx, q⟩ := h
  cases rx
  obtain ⟨its, r, ht, hz⟩ := I.list hx
  have hlen := r.length
  refine ⟨"list", _, slot_list_getitem.lookup, ht.isList.typeIs, ?_⟩
  refine wpAny_getItem_list_slice ht.isList hs pl pu .none (by simp) ?_ (by rw [List.size_toArray] <;> omega)
  rw [slicePick_cut, ← hlen]
  refine ⟨.ref s.heap.objs.size, _, I.laid (t' := s.toks) (o := .lst (cutV xs lo hi)) (fun b ob q => Heap.get?_push_of_some _ q) (Nat.le_refl _) ?_, rfl, q _ (I.hok.fresh (Nat.le_refl _))⟩
  exact ⟨Nat.le_trans (cutV_length xs lo hi) hz, _, 0, (r.drop (HT.sIx xs.length 0 lo)).take (HT.sIx xs.length xs.length hi - HT.sIx xs.length 0 lo), Heap.get?_push_size _ rfl⟩

theorem CallR.or {f : Value} {r r' : List V → Hp → VK → Prop} (h : CallR X f r) (h' : CallR X f r') : CallR X f (fun xs H Q => r xs H Q ∨ r' xs H Q) := by
  intro pins s σ H xs us Q I rs q
  rcases q with q | q
  · exact h pins s σ H xs us Q I rs q
  · exact h' pins s σ H xs us Q I rs q
theorem call_list_of : CallR X (.type "list") (fun xs H Q => ∃ p ys, xs = [.ref p] ∧ (SqL X.K H p ys ∨ SqT X.K H p ys) ∧ ∀ l, H l = none → Q (.ref l) (upd H l (.lst ys))) := by
  intro pins s σ H xs us Q I r h
  obtain ⟨p, ys, rfl, hq, q⟩ := h
  obtain ⟨u, rfl, rx⟩ := vals1 r
  cases rx
  have fin : ∀ (its : List Value), Vals ys its → ys.length ≤ sizeLine → ∀ (h' : Heap) (c' : Nat), (∀ b o', s.heap.get? b = some o' → h'.get? b = some o') →
      h'.get? s.heap.objs.size = some { cls := .type "list", dict := none, data := .seq its.toArray c', slots := #[] } → EP X pins σ Q (.ref s.heap.objs.size) { s with heap := h' } := fun its r' hz h' c' kp e =>
    ⟨.ref s.heap.objs.size, _, I.laid (t' := s.toks) kp (Nat.le_refl _) (show ObjOk X.prog X.w _ h' _ (.lst ys) from ⟨hz, its, c', r', e⟩), rfl, q _ (I.hok.fresh (Nat.le_refl _))⟩
  rcases hq with hq | hq
  · obtain ⟨its, r', pl, hz⟩ := I.list hq
    have hlen := r'.length
    obtain ⟨o, ho, hc, n, hd⟩ := pl.isList
    exact call_list_seq p (.inl rfl) ho hc hd (fun h' c' kp e => fin its r' hz h' c' kp e) (by simp only [List.size_toArray] <;> omega)
  · obtain ⟨its, r', pl, hz⟩ := I.tuple hq
    have hlen := r'.length
    obtain ⟨o, ho, hc, n, hd⟩ := pl
    exact call_list_seq p (.inr rfl) ho hc hd (fun h' c' kp e => fin its r' hz h' c' kp e) (by simp only [List.size_toArray] <;> omega)
theorem call_tuple_of : CallR X (.type "tuple") (fun xs H Q => ∃ p ys, xs = [.ref p] ∧ ((SqL X.K H p ys ∧ ∀ l, H l = none → Q (.ref l) (upd H l (.tup ys))) ∨ (SqT X.K H p ys ∧ Q (.ref p) H))) := by
  intro pins s σ H xs us Q I r h
  obtain ⟨p, ys, rfl, h⟩ := h
  obtain ⟨u, rfl, rx⟩ := vals1 r
  cases rx
  rcases h with ⟨hq, q⟩ | ⟨hq, q⟩
  · obtain ⟨its, r', pl, hz⟩ := I.list hq
    have hlen := r'.length
    refine call_tuple_list pl.isList (fun h' kp => ?_) (by simp only [List.size_toArray] <;> omega)
    have I1 : Inv X pins σ H { s with heap := h' } := I.kept (t' := s.toks) kp
    have I2 : Inv X pins σ (upd H h'.objs.size (.tup ys)) { s with heap := h'.push { cls := .type "tuple", data := .seq its.toArray } } :=
      I1.laid (t' := s.toks) (fun b o e => Heap.get?_push_of_some _ e) (Nat.le_refl _) (show ObjOk X.prog X.w _ _ _ (.tup ys) from ⟨hz, its, r', IsTup.new _ _⟩)
    exact ⟨.ref h'.objs.size, _, I2, rfl, q _ (I1.hok.fresh (Nat.le_refl _))⟩
  · obtain ⟨its, r', pl, hz⟩ := I.tuple hq
    exact call_tuple_same pl ⟨.ref p, H, I, rfl, q⟩

/-- the value is of that builtin type -/
def tyV (K : PySem.W.Frag) (T : String) (x : V) (H : Hp) : Prop := match x with
  | .str _ => T = "str"
  | .int _ => T = "int"
  | .ref p => (T = "list" ∧ ∃ xs, SqL K H p xs) ∨ (T = "tuple" ∧ ∃ o, K.lookup p = some o ∧ o.cls = .type "tuple" ∧ o.dict = none) ∨
      (T = "dict" ∧ ((∃ kvs, H p = some (.dK kvs)) ∨ ∃ kvs, H p = some (.dT kvs))) ∨ (T = "set" ∧ ∃ S n, H p = some (.set S n))
  | _ => False
theorem tyV_is {pins : List (Addr × Obj)} {σ : St} {H : Hp} {s : Shared} {T : String} {x : V} {v : Value} (I : Inv X pins σ H s) (r : RelV x v) (ty : tyV X.K T x H) :
    s.TypeIs v T ∧ ∀ a, v = .ref a → ∃ ob, s.heap.get? a = some ob ∧ ob.dict = none := by
  cases x with
  | str z =>
    obtain ⟨t, rfl⟩ := r
    cases (show T = "str" from ty)
    exact ⟨typeIs_str s z t, fun _ e => nomatch e⟩
  | int i =>
    obtain ⟨t, rfl⟩ := r
    cases (show T = "int" from ty)
    exact ⟨typeIs_int s i t, fun _ e => nomatch e⟩
  | ref p =>
    cases r
    rcases ty with ⟨rfl, xs, hq⟩ | ⟨rfl, o, hk, hc, hd⟩ | ⟨rfl, hk⟩ | ⟨rfl, S, n, hk⟩
    · obtain ⟨its, _, pl, _⟩ := I.list hq
      refine ⟨pl.isList.typeIs, fun a e => ?_⟩
      cases e
      obtain ⟨o, n, e, c, hd, _⟩ := pl
      exact ⟨o, e, hd⟩
    · refine ⟨⟨o, I.kIn p o hk, hc⟩, fun a e => ?_⟩
      cases e
      exact ⟨o, I.kIn _ o hk, hd⟩
    · have z : ∃ o, s.heap.get? p = some o ∧ o.ExactDict := by
        rcases hk with ⟨kvs, hk⟩ | ⟨kvs, hk⟩
        · obtain ⟨_, _, _, _, o, _, _, e, ex, _⟩ := I.hok p _ hk
          exact ⟨o, e, ex⟩
        · obtain ⟨_, _, _, _, o, _, _, e, ex, _⟩ := I.hok p _ hk
          exact ⟨o, e, ex⟩
      obtain ⟨o, e, ex⟩ := z
      refine ⟨⟨o, e, ex.1⟩, fun a e2 => ?_⟩
      cases e2
      exact ⟨o, e, ex.2.1⟩
    · obtain ⟨o, _, _, _, e, ex, _⟩ := I.hok p _ hk
      refine ⟨⟨o, e, ex.1⟩, fun a e2 => ?_⟩
      cases e2
      exact ⟨o, e, ex.2.1⟩
  | _ => exact False.elim ty
def tBM (K : PySem.W.Frag) (T : String) (r : V → List V → Hp → VK → Prop) (to : TE) (t : TA) : TE := fun σ H Q => to σ H fun x H1 => tyV K T x H1 ∧ t σ H1 fun xs H2 => r x xs H2 Q
variable {o e : Expr} {es : List Expr} {to : TE} {t : TA} {name : Str} {apos cpos : Pos} {T id : String} {r : V → List V → Hp → VK → Prop}
theorem pe_bm (pa : PlainAttrs T) (slot : Slot T name id) (hty : typeOf (.builtin id) = pure (.type "method_descriptor")) (hm : MtR X id r) (ho : PE X o to) (ha : PA X (e :: es) t)
    (hbase : attributeBase o name X.env (eval o X.env) = eval o X.env := by rfl)
    (hfew : ((backTo cpos (starEach (e :: es) X.env)).all (fun x => !x.1) && (backToKw cpos (keywordEach [] X.env)).all (fun x => x.1.isSome)
      && decide ((e :: es).length + ([] : List Keyword).length + (if ([] : List Keyword).isEmpty then 0 else 1) < 30)) = true := by rfl)
    (hline : (apos.endLine == cpos.line) = true := by rfl) (hs : starEach (e :: es) X.env = (false, eval e X.env) :: starEach es X.env := by rfl) (hplain : (backTo cpos (starEach es X.env)).any (·.1) = false := by rfl) :
    PE X (.Call (.Attribute o name apos) (e :: es) [] cpos) (tBM X.K T r to t) := by
  intro pins s σ H Q I h
  refine wpAny_Call_method_late hbase hfew hline rfl (thn (ho pins s σ H _ I h) fun v s1 ⟨x, H1, I1, r1, ty, q1⟩ => ?_)
  obtain ⟨h1, h2⟩ := tyV_is I1 r1 ty
  refine ⟨T, id, pa, slot, hty, h1, h2, ?_⟩
  have hA := ha cpos pins s1 σ H1 _ I1 q1
  rw [hs] at hA ⊢
  refine Calls.callWith_builtin (by show (false || (backTo cpos (starEach es X.env)).any (·.1)) = false; rw [hplain] <;> rfl) (Calls.evalArgs_plain ?_)
  exact thn hA fun us s2 ⟨vs, H2, I2, r2, q2⟩ => hm pins s2 σ H2 x vs v us Q I2 r1 r2 q2
end
end L2

namespace L2
open PySem PySem.Spec PyProof.Rows

def MtM (X : Cx) (id : String) (r : V → List V → Hp → VK → Prop) : Prop :=
  ∀ (pins : List (Addr × Obj)) (s : Shared) (σ : St) (H : Hp) (x : V) (xs : List V) (v : Value) (us : List Value) (Q : VK), Inv X pins σ H s → RelV x v → Vals xs us → r x xs H Q →
    wpAny (model X.prog X.w) X.A (call (.builtin id) (v :: us)) (EP X pins σ Q) X.xe s

theorem Vals.one : ∀ {x : V} {us : List Value}, Vals [x] us → ∃ u, us = [u] ∧ RelV x u
  | _, _, .cons r .nil => ⟨_, rfl, r⟩
theorem Vals.two : ∀ {x y : V} {us : List Value}, Vals [x, y] us → ∃ u v, us = [u, v] ∧ RelV x u ∧ RelV y v
  | _, _, _, .cons r (.cons q .nil) => ⟨_, _, rfl, r, q⟩
theorem Vals.zero : ∀ {us : List Value}, Vals [] us → us = []
  | _, .nil => rfl
theorem Vals.dropLast {xs : List V} {us : List Value} (h : Vals xs us) : Vals xs.dropLast us.dropLast := by
  induction h with
  | nil => exact .nil
  | cons r t ih =>
    cases t with
    | nil => exact .nil
    | cons q t' => exact .cons r ih
theorem Vals.eraseIdx : ∀ {xs : List V} {us : List Value} (i : Nat), Vals xs us → Vals (xs.eraseIdx i) (us.eraseIdx i)
  | _, _, _, .nil => .nil
  | _, _, 0, .cons _ t => t
  | _, _, i + 1, .cons r t => .cons r (Vals.eraseIdx i t)
theorem Vals.reverse {xs : List V} {us : List Value} (h : Vals xs us) : Vals xs.reverse us.reverse := by
  induction h with
  | nil => exact .nil
  | cons r t ih => rw [List.reverse_cons, List.reverse_cons]; exact Vals.append ih (.cons r .nil)
section
variable {X : Cx} {pins : List (Addr × Obj)} {σ : St} {H : Hp} {s : Shared} {l b : Addr} {xs ys zs : List V}

theorem Inv.lset {its its' : List Value} {n : Nat} {f : Array Value → Array Value} {t' : Nat} (I : Inv X pins σ H s) (hH : H l = some (.lst xs))
    (e : s.heap.get? l = some { cls := .type "list", data := .seq its.toArray n }) (hf : f its.toArray = its'.toArray) (hv : Vals ys its') (hz : ys.length ≤ sizeLine) :
    Inv X pins σ (upd H l (.lst ys)) { s with heap := s.heap.update l (Obj.mapSeq f), toks := t' } := by
  have q := PySem.IsL.update e f
  rw [hf] at q
  refine I.write (x := l) (e := l) (by rw [hH]; exact trivial) (.inl rfl) (fun b' u hb hu => (Heap.get?_update_other s.heap (Obj.mapSeq f) (Ne.symm hb)).trans hu) ⟨_, q⟩ ?_
  exact ⟨hz, its', _, hv, q⟩
theorem Inv.lnew {its : List Value} {t' : Nat} (I : Inv X pins σ H s) (hv : Vals ys its) (hz : ys.length ≤ sizeLine) :
    Inv X pins σ (upd H s.heap.objs.size (.lst ys)) { s with heap := s.heap.push { cls := .type "list", data := .seq its.toArray }, toks := t' } :=
  I.laid (fun _ _ q => Heap.get?_push_of_some _ q) (Nat.le_refl _) ⟨hz, its, 0, hv, Heap.get?_push_size _ rfl⟩
theorem Inv.fresh (I : Inv X pins σ H s) : H s.heap.objs.size = none := I.hok.fresh (Nat.le_refl _)
theorem Inv.lstM (I : Inv X pins σ H s) (hH : H l = some (.lst xs)) : xs.length ≤ sizeLine ∧ ∃ (its : List Value) (n : Nat), Vals xs its ∧ xs.length = its.length ∧ s.heap.get? l = some { cls := .type "list", data := .seq its.toArray n } := by
  obtain ⟨z, its, n, r, e⟩ := I.hok l _ hH
  exact ⟨z, its, n, r, r.length, e⟩

theorem notLongL {n : Nat} (h : n ≤ sizeLine) : Builtin.List.listTooLong n = false := by
  unfold Builtin.List.listTooLong
  exact decide_eq_false (by omega)
end

section
variable {X : Cx}

def rExtend : V → List V → Hp → VK → Prop := fun x vs H Q => ∃ l b xs zs, x = .ref l ∧ vs = [.ref b] ∧ H l = some (.lst xs) ∧ H b = some (.lst zs) ∧ xs.length + zs.length ≤ sizeLine ∧ Q .non (upd H l (.lst (xs ++ zs)))
theorem mt_extend : MtM X "list.extend" rExtend := by
  intro pins s σ H x vs v us Q I rx rv h
  obtain ⟨l, b, xs, zs, rfl, rfl, hH, hB, hz, q⟩ := h
  cases rx
  obtain ⟨u, rfl, ru⟩ := rv.one
  cases ru
  obtain ⟨z, its, n, r, hl, e⟩ := I.lstM hH
  obtain ⟨z2, its2, n2, r2, hl2, e2⟩ := I.lstM hB
  have hsz : its.toArray.size + its2.toArray.size ≤ sizeLine := by rw [List.size_toArray, List.size_toArray]; omega
  have hlong : ¬ (!its.toArray.isEmpty && Builtin.List.listTooLong (its.toArray.size + its2.toArray.size)) = true := by
    rw [notLongL hsz, Bool.and_false]
    exact Bool.false_ne_true
  refine call_meets F.slot_list_extend ⟨_, e, rfl⟩ F.entry_list_extend (F.args_list_extend_2 _ _)
    (AutoSeq1.list_extend_list_list_0 l its.toArray n b its2.toArray n2 hlong (by rw [List.size_toArray]; omega) (by omega)) ⟨e, e2, ?_⟩
  refine ⟨.non, _, I.lset (its' := its ++ its2) hH e (by simp) (r.append r2) ?_, rfl, q⟩
  rw [List.length_append]
  omega

def rCat : R2 := fun x y H Q => ∃ l b xs zs, x = .ref l ∧ y = .ref b ∧ H l = some (.lst xs) ∧ H b = some (.lst zs) ∧ xs.length + zs.length ≤ sizeLine ∧ ∀ p, H p = none → Q (.ref p) (upd H p (.lst (xs ++ zs)))
theorem op_cat : OpR X (binaryOp .Add) rCat := by
  intro pins s σ H x y v u Q I rx ry h
  obtain ⟨l, b, xs, zs, rfl, rfl, hH, hB, hz, q⟩ := h
  cases rx
  cases ry
  obtain ⟨z, its, n, r, hl, e⟩ := I.lstM hH
  obtain ⟨z2, its2, n2, r2, hl2, e2⟩ := I.lstM hB
  refine PySem.P.add_list e e2 ?_ (by rw [List.size_toArray, List.size_toArray]; omega)
  have ea : its.toArray ++ its2.toArray = (its ++ its2).toArray := by simp
  rw [ea]
  exact ⟨.ref _, _, I.lnew (t' := s.toks) (r.append r2) (by rw [List.length_append]; omega), rfl, q _ I.fresh⟩
end


end L2

namespace Att
open PySem PySem.W PySem.Calls PyProof.Rows

theorem ints_of_wellAll {P : Params} {h : Heap} : ∀ (ns : List Int) (vs : List Value), WellAll P h vs (ns.map WData.int) → IntsAre vs ns := by
  intro ns
  induction ns with
  | nil =>
    intro vs w
    rw [List.map_nil] at w
    cases w
    exact .nil
  | cons n ns ih =>
    intro vs w
    rw [List.map_cons] at w
    cases w with
    | cons a b =>
      cases a
      exact .cons _ _ (ih _ b)

theorem script_of {l : OpenLaw} {n : Nat} (hn : l.most = some n) {P : Params} {h : Heap} {args : List WData} {vals : List Value}
    (hpre : l.row.toRowW.claim.pre args = true) (hwl : WellAll P h vals args) :
    ∃ a vs ns, vals = [Value.ref a] ∧ args = [WData.list (ns.map WData.int)] ∧ h.get? a = some { cls := .type "list", data := .seq vs.toArray } ∧ IntsAre vs ns ∧ ns.length ≤ n := by
  have hsh : WShape.hasAll [] args [.list .int] = true := (pre_splitW hpre).1
  have hc : l.pre.holds [] { args := args } = true := (pre_splitW hpre).2
  obtain ⟨d, r, rfl, h1, h2⟩ := hasAllW_cons hsh
  obtain rfl := hasAllW_nil h2
  obtain ⟨xs, rfl, h3⟩ := hasW_list h1
  obtain ⟨ns, rfl⟩ := items_int h3
  have hlen : ns.length ≤ n := by
    unfold OpenLaw.pre at hc
    have h4 : (WTm.not (.lt (.lit (.int (n : Int))) (.len (.arg 0)))).holds [] { args := [.list (ns.map .int)] } = true := by
      have h4 := (holds_andW hc).1
      rw [hn] at h4
      exact h4
    have h5 := condW_of h4 (w_not (w_lt w_lit (w_len_list (w_arg rfl))))
    rw [List.length_map] at h5
    refine Nat.le_of_not_lt fun q => ?_
    have q' : (n : Int) < ((ns.length : Nat) : Int) := by omega
    first
      | (rw [decide_eq_true q'] at h5; exact absurd h5 (by decide))
      | (simp at h5; omega)
  cases hwl with
  | cons w1 w2 =>
    cases w2
    cases w1 with
    | list ho hall => exact ⟨_, _, ns, rfl, rfl, ho, ints_of_wellAll ns _ hall, hlen⟩

theorem post_true (l : OpenLaw) (args : List WData) : l.row.toRowW.claim.post args (.bool true) args = true :=
  postW_of (r := l.row.toRowW) (X := (true == true))
    (show WShape.has [] (.bool true) .bool = true by first | rfl | decide | simp [WShape.has, WShape.arms, WShape.armsAll])
    (show (WTm.eq .res (.lit (.bool true))).value [] { args := args, res := some (.bool true), after := args } = some (.bool (true == true)) from w_eq_bool (w_res rfl) w_lit) rfl

/-- the same from a codeAny of the CALL (for a layer whose function contracts speak of calls) -/
theorem attach_call {l : OpenLaw} {n : Nat} {q : Program} {loose : List Str} {XP : (Str → Option Value) → Heap → Prop} {YP : World → Heap → Prop} {d : DefRec}
    (hn : l.most = some n) (hdf : d.params.defaults = [])
    (call : ∀ (w : World) (sZ s₁ : Shared) (mg mb : Str → Option Value) (fa : Addr) (o : Obj) (pm cd doc : Value) (a : Addr) (vs : List Value) (ns : List Int),
      Ground q loose [] XP w sZ mg mb s₁.heap → YP w s₁.heap →
      s₁.heap.get? fa = some o → o.data = .func (docDef d.name d.params d.body d.scope pm cd doc) → s₁.heap.CodeRec cd d.name → mg d.name = some (.ref fa) →
      s₁.heap.get? a = some { cls := .type "list", data := .seq vs.toArray } → IntsAre vs ns → ns.length ≤ n → s₁.gens = #[] →
      codeAny (model l.prog w) callerA (.call (.ref fa) ⟨[.ref a], []⟩) (fun r s' => r = .ok (.ret (.bool true)) ∧ OldK s₁.heap s'.heap ∧ s'.os = s₁.os ∧ AllBare s'.gens) s₁) :
    WalkO q loose XP YP l.row.toRowW d [] (fun f vs => PySem.call f vs) := by
  intro w sZ s₁ mg mb G Y fa o pm cd doc dV kV ho hd hcd hD hmg hg args vals as hpre hlay hrd hwl hlo
  obtain rfl : dV = .none := Dflts.none hD hdf
  obtain rfl : kV = .none := Dflts.noKw hD
  obtain ⟨a, vs, ns, rfl, rfl, hobj, hints, hlen⟩ := script_of hn hpre hwl
  refine enter_call (codeAny_mono (call w sZ s₁ mg mb fa o pm cd doc a vs ns G Y ho (fd_plain hd) hcd hmg hobj hints hlen hg) fun r s' hq => ?_)
  obtain ⟨rfl, h2, h3, h4⟩ := hq
  exact ⟨.inl ⟨.bool true, .bool true, [], rfl, fun _ => rfl, .bool true, post_true l _, fun _ => ⟨List.Pairwise.nil, fun _ hm => (nomatch hm)⟩⟩, h2, h3, h4⟩

section
variable {prog : Program} {w : World} {A : Around} {E : Value → Shared → Prop} {s : Shared} {K : Frag}

end
end Att

namespace L2
open PySem PySem.Spec PyProof.Rows

theorem vals_ints : ∀ {vs : List Value} {ns : List Int}, IntsAre vs ns → Vals (ns.map V.int) vs
  | _, _, .nil => .nil
  | _, _, .cons n t h => .cons ⟨t, rfl⟩ (vals_ints h)

/-- nothing is tracked but the script, known to the object (or it is an object of the module) -/
def Only (H : Hp) : Prop := ∀ b, H b = none ∨ ∃ o xs, H b = some (.frz o (.lst xs))

/-- THE HEAD: the law's promise, at the heap behind the top. F, the promise of the law's def, may use that base is part of the heap (so K.In base, base.Ns mainGlobals mg stand in Mod) -/
theorem law_call {P : Program} {w : World} {K : PySem.W.Frag} {mg mb : Str → Option Value} {CX : CXT} {k : Nat} {fa a : Addr} {fd : FuncData} {x : Str} {sp : Sp} {s₁ : Shared} {vs : List Value} {ns : List Int}
    (KX : K.In s₁.heap) (hns : s₁.heap.Ns mainGlobals mg) (hb : s₁.heap.Ns builtinsNs mb) (hbb : ∀ x : Str, x ≠ "__name__" → mb x = bootBuiltins x) (hlim : s₁.heap.NoLimit) (hg : s₁.gens = #[])
    (ha : s₁.heap.get? a = some { cls := .type "list", data := .seq vs.toArray }) (hi : IntsAre vs ns) (hl : ns.length ≤ sizeLine) (hr : Room k callerA)
    (F : ∀ base : Heap, K.In base → base.Ns mainGlobals mg → FnOk P w K mg base CX k fa fd [x] sp) (hbind : ∀ (s : Shared) (u : Value), BindsTo s fd ⟨[u], []⟩ [(x, u)])
    (hsp : ∀ H : Hp, Only H → SqL K H a (ns.map V.int) → sp [.ref a] H (fun v _ => v = .bl true) fun _ _ _ => False)
    (hCX : ∀ H e s', CX [] H s₁ (fun _ _ _ => False) e s' → False) :
    codeAny (model P w) callerA (.call (.ref fa) ⟨[.ref a], []⟩) (fun r s' => r = .ok (.ret (.bool true)) ∧ OldK s₁.heap s'.heap ∧ s'.os = s₁.os ∧ AllBare s'.gens) s₁ := by
  have rv := vals_ints hi
  have lenV := hi.length
  -- from an abstract heap in which nothing but the script may be tracked
  have core : ∀ H : Hp, Only H → SqL K H a (ns.map V.int) → HOk P w H s₁.heap → (∀ b, H b ≠ none → b = a) → (H a ≠ none → K.lookup a = none) →
      codeAny (model P w) callerA (.call (.ref fa) ⟨[.ref a], []⟩) (fun r s' => r = .ok (.ret (.bool true)) ∧ OldK s₁.heap s'.heap ∧ s'.os = s₁.os ∧ AllBare s'.gens) s₁ := by
    intro H hO hS hok hA hK
    have base_of : ∀ {b : Addr} {o : Obj}, s₁.heap.get? b = some o → H b = none → (hidT s₁.heap H).get? b = some o := fun e n => hidT_get e n
    have noA : ∀ {b : Addr} {o : Obj} {es : Array DictEntry} {ep : Nat}, s₁.heap.get? b = some o → o.data = .dict es ep → H b = none := fun {b o es ep} e d => by
      cases q : H b with
      | none => rfl
      | some u =>
        have e' : b = a := hA b (by rw [q]; simp)
        subst e'
        rw [ha] at e; cases e
        have d' : Data.seq vs.toArray _ = Data.dict es ep := d
        cases d'
    have nsK : ∀ {b : Addr} {m : Str → Option Value}, s₁.heap.Ns b m → (hidT s₁.heap H).Ns b m := fun {b m} ⟨o, es, ep, e, d, r⟩ => ⟨o, es, ep, base_of e (noA e d), d, r⟩
    have hKb : K.In (hidT s₁.heap H) := fun b o e => base_of (KX b o e) (by
      cases q : H b with
      | none => rfl
      | some u =>
        have e' : b = a := hA b (by rw [q]; simp)
        subst e'
        rw [hK (by rw [q]; simp)] at e; cases e)
    have hM : Mod K mg (hidT s₁.heap H) := ⟨hKb, nsK hns, ⟨mb, nsK hb, hbb⟩, let ⟨mc, h1, h2⟩ := hlim; ⟨mc, nsK h1, h2⟩⟩
    have e0 : Env0 P w K mg (hidT s₁.heap H) callerA [] s₁ H := ⟨rfl, hM, fun b o e => of_hidT e, Nat.le_of_eq (hidT_size _ _), trivial, fun b hb => absurd (show b ∈ ([] : List Addr) from hb) (by simp), hok, .of_eq hg⟩
    refine codeAny_mono ((F _ hKb (nsK hns)).run callerA [] s₁ H ⟨[.ref a], []⟩ [.ref a] [.ref a] _ _ hr e0 (hbind s₁ (.ref a)) (.cons rfl .nil) (hsp H hO hS)) fun r s' h => ?_
    cases r with
    | error e => exact (hCX H e s' h).elim
    | ok fl =>
      cases fl with
      | next => exact False.elim h
      | brk => exact False.elim h
      | cont => exact False.elim h
      | ret u =>
        obtain ⟨v, H', os, bare, un, hok', r', q⟩ := h
        have q' : v = .bl true := q
        subst q'
        obtain rfl : u = Value.bool true := r'
        refine ⟨rfl, OldK.of_keep fun b o e => ?_, os, bare⟩
        cases q : H b with
        | none => exact un.keep b o e q (by intro z; exact absurd (show b ∈ ([] : List Addr) from z) (by simp)) (by simp)
        | some u =>
          rcases hO b with z | ⟨ob, xs, z⟩
          · rw [q] at z; cases z
          · have z2 := un.frzs b ob _ z
            obtain ⟨e1, _⟩ := hok b _ z
            obtain ⟨e2, _⟩ := hok' b _ z2
            rw [e] at e1; cases e1
            exact e2
  cases hk : K.lookup a with
  | some o =>
    -- the script is one of the module's own objects
    have e := KX a o hk
    rw [ha] at e
    cases e
    refine core (fun _ => none) (fun _ => .inl rfl) (.inr ⟨_, vs.toArray, _, hk, rfl, rfl, rfl, by rw [List.size_toArray, lenV]; exact hl, by simpa using rv⟩) (fun b u z => by have z' : (none : Option HO) = some u := z; cases z') (fun b z => absurd rfl z) fun z => absurd rfl z
  | none =>
    refine core (fun b => if b = a then some (.frz { cls := .type "list", data := .seq vs.toArray } (.lst (ns.map V.int))) else none) (fun b => ?_) (.inl (.inr ⟨{ cls := .type "list", data := .seq vs.toArray }, if_pos rfl⟩)) (fun b u z => ?_) (fun b z => ?_) fun _ => hk
    · by_cases hb : b = a
      · exact .inr ⟨_, _, if_pos hb⟩
      · exact .inl (if_neg hb)
    · by_cases hb : b = a
      · have z' := (if_pos hb).symm.trans z
        cases z'
        subst hb
        exact ⟨ha, by rw [List.length_map]; exact hl, vs, _, rv, ha⟩
      · have z' := (if_neg hb).symm.trans z
        cases z'
    · by_cases hb : b = a
      · exact hb
      · exact absurd (if_neg hb) z
end L2

namespace L2
open PySem PySem.Spec PyProof.Rows

abbrev KOf {K : PySem.W.Frag} {h : Heap} (_ : K.In h) : PySem.W.Frag := K

/-- the goal that k_head leaves (case hc), from the law's promise. F gives the function object fd (K's own) once, then the promise over every base -/
theorem walk_of {l : PySem.W.OpenLaw} {n k : Nat} {q : Program} {loose : List Str} {XP : (Str → Option Value) → Heap → Prop} {YP : World → Heap → Prop} {d : DefRec} {K : Params → PySem.W.Frag} {CX : World → CXT} {sp : World → Sp} {x : Str}
    (hn : l.most = some n) (hn2 : n ≤ sizeLine) (hdf : d.params.defaults = []) (hr : Room k callerA)
    (hY : ∀ (w : World) (h : Heap), YP w h → (K w.params).In h)
    (F : ∀ (w : World) (mg : Str → Option Value) (fa : Addr) (h : Heap), (K w.params).In h → h.Ns mainGlobals mg → mg d.name = some (.ref fa) →
      ∃ fd : FuncData, (∀ (s : Shared) (u : Value), BindsTo s fd ⟨[u], []⟩ [(x, u)]) ∧
        ∀ base : Heap, (K w.params).In base → base.Ns mainGlobals mg → FnOk l.prog w (K w.params) mg base (CX w) k fa fd [x] (sp w))
    (hsp : ∀ (w : World) (H : Hp) (a : Addr) (ns : List Int), ns.length ≤ n → Only H → SqL (K w.params) H a (ns.map V.int) → sp w [.ref a] H (fun v _ => v = .bl true) fun _ _ _ => False)
    (hCX : ∀ (w : World) (H : Hp) (s : Shared) (e : Value) (s' : Shared), CX w [] H s (fun _ _ _ => False) e s' → False) :
    PySem.W.WalkO q loose XP YP l.row.toRowW d [] (fun f vs => PySem.call f vs) := by
  refine Att.attach_call hn hdf fun w sZ s₁ mg mb fa o pm cd doc a vs ns G Y ho hd hcd hmg hobj hints hlen hg => ?_
  have KX := hY w _ Y
  obtain ⟨fd, hb, hF⟩ := F w mg fa _ KX G.T.g hmg
  exact law_call KX G.T.g G.T.b G.T.builtins G.T.nolimit hg hobj hints (Nat.le_trans hlen hn2) hr hF hb (fun H hO hS => hsp w H a ns hlen hO hS) fun H e s' => hCX w H s₁ e s'
end L2


namespace L2
open PySem PySem.Spec PyProof.Rows

def defArgs (s : Stmt) : Arguments := match s with
  | .FunctionDef _ a _ _ _ _ _ _ _ _ => a
  | _ => { posonlyargs := [], args := [], vararg := none, kwonlyargs := [], kw_defaults := [], kwarg := none, defaults := [] }
def defBody (s : Stmt) : List Stmt := match s with
  | .FunctionDef _ _ b _ _ _ _ _ _ _ => b
  | _ => []
def defScope (s : Stmt) : Scope := match s with
  | .FunctionDef _ _ _ _ _ _ sc _ _ _ => sc
  | _ => { kind := .function, names := [], isGenerator := false, isCoroutine := false }

abbrev CX0 : CXT := fun _ _ _ _ _ _ => False
abbrev E0 : XK := fun _ _ _ => False
theorem pass0 {X : Cx} : Passes CX0 X E0 := fun _ _ _ _ _ _ _ h => h.elim

structure Fun (K : PySem.W.Frag) (x qual : Str) (st : Stmt) (f : Addr) (fd : FuncData) : Prop where
  ex : ∃ (oc : Value) (od : Option Addr) (kV doc pm : Value) (an : Option Addr) (cdv ct : Value) (osl : Array (Option Value)),
    fd = PySem.W.fnOf x qual (defArgs st) (defBody st) (defScope st) .none kV doc pm an cdv ct ∧ K.lookup f = some ⟨oc, od, .func fd, osl⟩ ∧ PySem.W.codeIn K cdv qual = true
  kp : PySem.W.keepIn K (.ref f) = true
section
variable {P : Program} {w : World} {K : PySem.W.Frag} {mg : Str → Option Value} {base : Heap}
/-- THE RULE for a def: its body as a term of rules, and the reading of that term -/
theorem Fun.ok {x qual : Str} {st : Stmt} {f : Addr} {fd : FuncData} {N ps : List Str} {k : Nat} {sp : Sp} (F : Fun K x qual st f fd) (S : FnScope N ps (defScope st)) (len : ∀ vs H Q E, sp vs H Q E → vs.length = ps.length)
    (hbody : ∀ (cdv : Value) (A : Around) (outer : List Env) (s : Shared) (H : Hp) (vs : List V) (Q : VK) (E : XK), Room k (A.deeper (envOfC qual (defScope st) s.heap.objs.size f cdv)) → sp vs H Q E →
      ∃ t, PSs (cxOf CX0 P w K mg base N qual (defScope st) f cdv A outer s H E).nox (defBody st) t ∧ t { nx := fun _ H' => Q .non H', rt := Q } (start N vs) H) : FnOk P w K mg base CX0 (k + 1) f fd ps sp := by
  obtain ⟨oc, od, kV, doc, pm, an, cdv, ct, osl, rfl, lk, hcd⟩ := F.ex
  refine fn_of lk hcd S len fun A outer s H vs Q E hr hsp => ?_
  obtain ⟨t, h, q⟩ := hbody cdv A outer s H vs Q E hr hsp
  exact ⟨t, h.nox, q⟩
/-- how its arguments bind (no defaults): h is «fun _ _ _ _ _ _ us hl => match us, hl with | [_, _], _ => rfl», one _ a parameter -/
theorem Fun.binds {x qual : Str} {st : Stmt} {f : Addr} {fd : FuncData} {ps : List Str} (F : Fun K x qual st f fd)
    (h : ∀ (kV doc pm : Value) (an : Option Addr) (cdv ct : Value) (us : List Value), us.length = ps.length → bindArgs (PySem.W.fnOf x qual (defArgs st) (defBody st) (defScope st) .none kV doc pm an cdv ct) ⟨us, []⟩ = pure (ps.zip us)) : Binds K fd ps [] := by
  obtain ⟨oc, od, kV, doc, pm, an, cdv, ct, osl, rfl, lk, hcd⟩ := F.ex
  exact .all (h kV doc pm an cdv ct)
theorem fun_mk {x qual : Str} {st : Stmt} {f : Addr} {oc : Value} {od an : Option Addr} {osl : Array (Option Value)} {kV doc pm cdv ct : Value} (l : K.lookup f = some ⟨oc, od, .func (PySem.W.fnOf x qual (defArgs st) (defBody st) (defScope st) .none kV doc pm an cdv ct), osl⟩)
    (c : PySem.W.codeIn K cdv qual = true) (k : PySem.W.keepIn K (.ref f) = true) : Fun K x qual st f (PySem.W.fnOf x qual (defArgs st) (defBody st) (defScope st) .none kV doc pm an cdv ct) := ⟨⟨oc, od, kV, doc, pm, an, cdv, ct, osl, rfl, l, c⟩, k⟩
end
section
variable {X : Cx}
theorem pv (i : Nat) {x : Str} {pos : Pos} (hN : X.N[i]? = some x := by rfl) (hv : Vis X.env.scope x := by first | exact Or.inl rfl | exact Or.inr (Or.inl rfl) | exact Or.inr (Or.inr rfl)) (hd : (x == ("__debug__" : Str)) = false := by decide)
    (hcd : (x == ("__classdict__" : Str)) = false := by decide) : PE X (.Name x pos) (tVar i) := pe_var hN hv hd hcd
end

theorem iteF {A B : Prop} (h : B) : if false = true then A else B := by
  rw [if_neg Bool.false_ne_true]
  exact h
theorem iteT {A B : Prop} (h : A) : if true = true then A else B := by
  rw [if_pos rfl]
  exact h
theorem ite2 {c A B : Prop} [Decidable c] (h1 : c → A) (h2 : ¬ c → B) : if c then A else B := by
  by_cases h : c
  · rw [if_pos h]
    exact h1 h
  · rw [if_neg h]
    exact h2 h
/-- all that was tracked is as it was -/
def Same (H H' : Hp) : Prop := ∀ b o, H b = some o → H' b = some o
theorem Same.refl (H : Hp) : Same H H := fun _ _ h => h
theorem Same.trans {H H1 H2 : Hp} (a : Same H H1) (b : Same H1 H2) : Same H H2 := fun c o h => b c o (a c o h)
theorem Same.free {H H' : Hp} (e : Same H H') {l : Addr} (h : H' l = Option.none) : H l = Option.none := by
  cases q : H l with
  | none => rfl
  | some o =>
    rw [e l o q] at h
    cases h
theorem Same.seq {K : PySem.W.Frag} {H H' : Hp} {a : Addr} {xs : List V} (e : Same H H') (h : SqL K H a xs) : SqL K H' a xs := by
  rcases h with (h | ⟨o, h⟩) | h
  · exact .inl (.inl (e _ _ h))
  · exact .inl (.inr ⟨o, e _ _ h⟩)
  · exact .inr h

end L2

namespace L2
open PySem PySem.Spec PyProof.Rows

def clOf (cells : List (Str × Addr)) : List (Str × NameKind) → List (Str × Addr) → List (Str × Addr)
  | [], acc => acc
  | (n, k) :: r, acc => if k == .free then (match cells.lookup n with | some a => clOf cells r ((n, a) :: acc) | none => clOf cells r acc) else clOf cells r acc

theorem clOf_for {env : Env} (f : Str × NameKind → List (Str × Addr) → Sem (ForInStep (List (Str × Addr))))
    (hf : ∀ n k cs, f (n, k) cs = if k == .free then (do let a ← cellOf env n; pure (.yield ((n, a) :: cs))) else pure (.yield cs)) :
    ∀ (names : List (Str × NameKind)) (acc : List (Str × Addr)), (∀ y ∈ names, y.2 = .free → ∃ c, env.cells.lookup y.1 = some c) → forIn names acc f = pure (clOf env.cells names acc)
  | [], acc, _ => by rw [List.forIn_nil]; rfl
  | (n, k) :: r, acc, h => by
    have hr : ∀ y ∈ r, y.2 = .free → ∃ c, env.cells.lookup y.1 = some c := fun y hy => h y (List.mem_cons_of_mem _ hy)
    rw [List.forIn_cons, hf]
    unfold clOf
    by_cases hk : k = .free
    · subst hk
      obtain ⟨c, hc⟩ := h (n, .free) List.mem_cons_self rfl
      have hc' : env.cells.lookup n = some c := hc
      have e1 : cellOf env n = pure c := by unfold cellOf; rw [hc']
      have ef : (NameKind.free == NameKind.free) = true := rfl
      rw [if_pos ef, if_pos ef, e1, hc']
      exact clOf_for f hf r ((n, c) :: acc) hr
    · have hb : (k == NameKind.free) = false := by simpa using hk
      rw [hb, if_neg Bool.false_ne_true, if_neg Bool.false_ne_true]
      exact clOf_for f hf r acc hr

theorem closureFor_cl {scope : Scope} {env : Env} (h : ∀ y ∈ scope.names, y.2 = .free → ∃ c, env.cells.lookup y.1 = some c) : closureFor scope env = pure (clOf env.cells scope.names []) := by
  have e := clOf_for (env := env) (fun x cs => match x with | (n, k) => if k == .free then (do let a ← cellOf env n; pure (.yield ((n, a) :: cs))) else pure (.yield cs)) (fun _ _ _ => rfl) scope.names [] h
  show (forIn scope.names [] _ >>= fun cs => pure cs) = _
  refine Eq.trans (congrArg (· >>= fun cs => pure cs) (Eq.trans ?_ e)) rfl
  refine congrArg _ (funext fun x => funext fun cs => ?_)
  obtain ⟨n, k⟩ := x
  cases hk : k == NameKind.free <;> simp [hk]

theorem lookup_clOf {cells : List (Str × Addr)} : ∀ {names : List (Str × NameKind)} {acc : List (Str × Addr)}, (∀ n c, acc.lookup n = some c → cells.lookup n = some c) → ∀ n c, (clOf cells names acc).lookup n = some c → cells.lookup n = some c
  | [], _, h, n, c, e => h n c e
  | (m, k) :: r, acc, h, n, c, e => by
    unfold clOf at e
    split at e
    · split at e
      · rename_i a ha
        refine lookup_clOf (names := r) (acc := (m, a) :: acc) (fun x d q => ?_) n c e
        rw [List.lookup_cons] at q
        cases hb : x == m with
        | true => rw [hb] at q; cases q; rw [beq_iff_eq.mp hb]; exact ha
        | false => rw [hb] at q; exact h x d q
      · exact lookup_clOf (names := r) h n c e
    · exact lookup_clOf (names := r) h n c e

theorem clOf_acc {cells : List (Str × Addr)} {n : Str} : ∀ {names : List (Str × NameKind)} {acc : List (Str × Addr)}, (∃ c, acc.lookup n = some c) → ∃ c, (clOf cells names acc).lookup n = some c
  | [], _, h => h
  | (m, k) :: r, acc, h => by
    unfold clOf
    split
    · split
      · rename_i a ha
        refine clOf_acc (names := r) ?_
        rw [List.lookup_cons]
        cases hb : n == m with
        | true => exact ⟨a, rfl⟩
        | false => exact h
      · exact clOf_acc (names := r) h
    · exact clOf_acc (names := r) h

theorem clOf_has {cells : List (Str × Addr)} {n : Str} {c : Addr} (hc : cells.lookup n = some c) : ∀ {names : List (Str × NameKind)} {acc : List (Str × Addr)}, (n, NameKind.free) ∈ names → ∃ d, (clOf cells names acc).lookup n = some d
  | (m, k) :: r, acc, h => by
    unfold clOf
    rcases List.mem_cons.mp h with e | h
    · cases e
      rw [if_pos (show (NameKind.free == NameKind.free) = true from rfl), hc]
      exact clOf_acc (names := r) ⟨c, by rw [List.lookup_cons, beq_self_eq_true]⟩
    · split
      · split
        · exact clOf_has hc h
        · exact clOf_has hc h
      · exact clOf_has hc h

theorem cellsFrom_not {y : Str} : ∀ {names : List (Str × NameKind)} {n : Nat} {acc : List (Str × Addr)}, (∀ p ∈ names, p.2 = .cell → p.1 ≠ y) → (cellsFrom n names acc).lookup y = acc.lookup y
  | [], _, _, _ => rfl
  | (m, k) :: r, n, acc, h => by
    have hr : ∀ p ∈ r, p.2 = .cell → p.1 ≠ y := fun p hp => h p (List.mem_cons_of_mem _ hp)
    unfold cellsFrom
    by_cases hk : k = .cell
    · subst hk
      rw [if_pos (show (NameKind.cell == NameKind.cell) = true from rfl), cellsFrom_not hr, List.lookup_cons]
      have : (y == m) = false := by simpa using Ne.symm (h (m, .cell) List.mem_cons_self rfl)
      rw [this]
    · rw [if_neg (by simpa using hk)]
      exact cellsFrom_not hr

theorem cellsFrom_new : ∀ {names : List (Str × NameKind)} {h : Heap} {acc : List (Str × Addr)} {y : Str} {c : Addr}, (cellsFrom h.objs.size names acc).lookup y = some c →
    (h.objs.size ≤ c ∧ (pushCells h names).IsCell c none) ∨ acc.lookup y = some c
  | [], _, _, _, _, e => .inr e
  | (m, k) :: r, h, acc, y, c, e => by
    unfold cellsFrom at e
    unfold pushCells
    by_cases hk : (k == NameKind.cell) = true
    · rw [if_pos hk] at e ⊢
      have e' : (cellsFrom (h.push { cls := .type "cell", data := .cell none }).objs.size r ((m, h.objs.size) :: acc)).lookup y = some c := by rw [Heap.size_push]; exact e
      rcases cellsFrom_new e' with ⟨q1, q2⟩ | q
      · rw [Heap.size_push] at q1
        exact .inl ⟨Nat.le_of_succ_le q1, q2⟩
      · rw [List.lookup_cons] at q
        cases hb : y == m with
        | true =>
          rw [hb] at q; cases q
          exact .inl ⟨Nat.le_refl _, Heap.IsCell.keeps ⟨_, Heap.get?_push_size _ rfl, rfl⟩ (pushCells_keeps _ _)⟩
        | false => rw [hb] at q; exact .inr q
    · rw [if_neg hk] at e ⊢
      exact cellsFrom_new e

theorem cellsFrom_inj : ∀ {names : List (Str × NameKind)} {n : Nat} {acc : List (Str × Addr)}, (∀ x y c, acc.lookup x = some c → acc.lookup y = some c → x = y) → (∀ x c, acc.lookup x = some c → c < n) →
    ∀ x y c, (cellsFrom n names acc).lookup x = some c → (cellsFrom n names acc).lookup y = some c → x = y
  | [], _, _, h, _ => h
  | (m, k) :: r, n, acc, h, lt => by
    unfold cellsFrom
    by_cases hk : (k == NameKind.cell) = true
    · rw [if_pos hk]
      have one : ∀ x c, ((m, n) :: acc).lookup x = some c → (x = m ∧ c = n) ∨ acc.lookup x = some c := fun x c e => by
        rw [List.lookup_cons] at e
        cases hb : x == m with
        | true => rw [hb] at e; cases e; exact .inl ⟨beq_iff_eq.mp hb, rfl⟩
        | false => rw [hb] at e; exact .inr e
      refine cellsFrom_inj (fun x y c ex ey => ?_) fun x c e => ?_
      · rcases one x c ex with ⟨a1, a2⟩ | a <;> rcases one y c ey with ⟨b1, b2⟩ | b
        · rw [a1, b1]
        · exact absurd (lt y c b) (by rw [a2]; exact Nat.lt_irrefl _)
        · exact absurd (lt x c a) (by rw [b2]; exact Nat.lt_irrefl _)
        · exact h x y c a b
      · rcases one x c e with ⟨_, a2⟩ | a
        · rw [a2]; exact Nat.lt_succ_self _
        · exact Nat.lt_succ_of_lt (lt x c a)
    · rw [if_neg hk]
      exact cellsFrom_inj h lt

theorem cellsFrom_acc {y : Str} : ∀ {names : List (Str × NameKind)} {n : Nat} {acc : List (Str × Addr)}, (∃ c, acc.lookup y = some c) → ∃ c, (cellsFrom n names acc).lookup y = some c
  | [], _, _, h => h
  | (m, k) :: r, n, acc, h => by
    unfold cellsFrom
    split
    · refine cellsFrom_acc ?_
      rw [List.lookup_cons]
      cases y == m with
      | true => exact ⟨_, rfl⟩
      | false => exact h
    · exact cellsFrom_acc h
theorem cellsFrom_has {y : Str} : ∀ {names : List (Str × NameKind)} {n : Nat} {acc : List (Str × Addr)}, (y, NameKind.cell) ∈ names → ∃ c, (cellsFrom n names acc).lookup y = some c
  | (m, k) :: r, n, acc, h => by
    unfold cellsFrom
    rcases List.mem_cons.mp h with e | h
    · cases e
      rw [if_pos (show (NameKind.cell == NameKind.cell) = true from rfl)]
      exact cellsFrom_acc ⟨n, by rw [List.lookup_cons, beq_self_eq_true]⟩
    · split
      · exact cellsFrom_has h
      · exact cellsFrom_has h

theorem cellsFrom_ge {y : Str} {lo : Nat} : ∀ {names : List (Str × NameKind)} {n : Nat} {acc : List (Str × Addr)} {c : Addr}, lo ≤ n → ((y, NameKind.cell) ∈ names ∨ ∀ d, acc.lookup y = some d → lo ≤ d) → (cellsFrom n names acc).lookup y = some c → lo ≤ c
  | [], n, acc, c, hn, h, e => h.elim (fun z => nomatch z) fun z => z c e
  | (m, k) :: r, n, acc, c, hn, h, e => by
    unfold cellsFrom at e
    by_cases hk : (k == NameKind.cell) = true
    · rw [if_pos hk] at e
      have k' : k = .cell := beq_iff_eq.mp hk
      subst k'
      refine cellsFrom_ge (names := r) (Nat.le_succ_of_le hn) ?_ e
      by_cases hm : (y, NameKind.cell) ∈ r
      · exact .inl hm
      · refine .inr fun d q => ?_
        rw [List.lookup_cons] at q
        cases hb : y == m with
        | true => rw [hb] at q; cases q; exact hn
        | false =>
          rw [hb] at q
          rcases h with z | z
          · rcases List.mem_cons.mp z with z | z
            · cases z; simp at hb
            · exact absurd z hm
          · exact z d q
    · rw [if_neg hk] at e
      refine cellsFrom_ge (names := r) hn ?_ e
      rcases h with z | z
      · rcases List.mem_cons.mp z with z | z
        · cases z; exact absurd rfl hk
        · exact .inl z
      · exact .inr z

section
variable {M : Model} {A : Around} {E : Value → Shared → Prop} {s : Shared}
theorem newCompEnv {scope : Scope} {globals : Addr} {cl : List (Str × Addr)} {qual : Str} {env : Env} {Q : Env → Shared → Prop}
    (h : Q { scope := scope, locals := s.heap.objs.size, globals := globals, cells := cellsFrom (s.heap.objs.size + 1) scope.names cl, qual := qual, func := none, code := env.code, frame := env.frame, builtins := env.builtins }
      { s with heap := pushCells (s.heap.push { cls := .type "dict", data := .dict #[] }) scope.names }) :
    wpAny M A (newFunctionEnv scope globals cl [] qual none .none (some env)) Q E s := by
  simp only [newFunctionEnv, Option.isSome_some, if_true]
  refine wpAny_bind (wpAny_alloc ?_)
  refine wpAny_bind (wpAny_layCells _ (fun name kind cells => by cases hkc : kind == NameKind.cell <;> simp [hkc]) _ _ _ _ ?_)
  rw [show ({ s with heap := s.heap.push { cls := .type "dict", data := .dict #[] } } : Shared).heap.objs.size = s.heap.objs.size + 1 from Heap.size_push ..]
  refine wpAny_bind ?_
  rw [List.forIn_nil]
  exact wpAny_pure (wpAny_pure h)
end

theorem kindOf_relabel {env : Env} : ∀ (names : List (Str × NameKind)) (x : Str),
    (names.map fun (n, k) => if (k == NameKind.free && env.scope.kind == .function && env.kindOf n == some .cell) then (n, NameKind.cell) else (n, k)).lookup x =
      (names.lookup x).map fun k => if (k == NameKind.free && env.scope.kind == .function && env.kindOf x == some .cell) then NameKind.cell else k
  | [], _ => rfl
  | (n, k) :: r, x => by
    rw [List.map_cons]
    show List.lookup x ((if (k == NameKind.free && env.scope.kind == .function && env.kindOf n == some .cell) = true then (n, NameKind.cell) else (n, k)) :: _) = _
    cases hx : x == n with
    | true =>
      have e := beq_iff_eq.mp hx
      subst e
      by_cases hc : (k == NameKind.free && env.scope.kind == .function && env.kindOf x == some .cell) = true
      · rw [if_pos hc, List.lookup_cons, List.lookup_cons, beq_self_eq_true]
        show _ = some (if (k == NameKind.free && env.scope.kind == .function && env.kindOf x == some .cell) = true then NameKind.cell else k)
        rw [if_pos hc]
      · rw [if_neg hc, List.lookup_cons, List.lookup_cons, beq_self_eq_true]
        show _ = some (if (k == NameKind.free && env.scope.kind == .function && env.kindOf x == some .cell) = true then NameKind.cell else k)
        rw [if_neg hc]
    | false =>
      have ih := kindOf_relabel (env := env) r x
      by_cases hc : (k == NameKind.free && env.scope.kind == .function && env.kindOf n == some .cell) = true
      · rw [if_pos hc, List.lookup_cons, List.lookup_cons, hx]; exact ih
      · rw [if_neg hc, List.lookup_cons, List.lookup_cons, hx]; exact ih

def sel (idx : List Nat) (σ : St) : St := idx.map fun j => (σ[j]?).join
def Cx.comp (X : Cx) (scope : Scope) (cells : List (Str × Addr)) (C : Addr) (N' : List Str) (s2 : Shared) (H2 : Hp) (fp : List Addr) : Cx where
  prog := X.prog
  w := X.w
  K := X.K
  mg := X.mg
  base := X.base
  A := X.A
  N := N'
  sZ := s2
  HZ := H2
  env := compEnvC scope cells C X.env
  outer := X.stack
  stack := X.stack
  ex := fp
  fn := fun y => scope.names.lookup y == some .cell
  calm := X.calm
  pn := []
  xe := fun _ _ => False

/-- what is asked of a comprehension's names: M are those that it captures, at idx in the outer list -/
structure CompOk (X : Cx) (scope : Scope) (M : List Str) (idx : List Nat) : Prop where
  kind : scope.kind = .function
  loc : ∀ y ∈ scope.names, y.2 = .local → scope.names.lookup y.1 = some .local
  cel : ∀ y ∈ scope.names, y.2 = .cell → scope.names.lookup y.1 = some .cell
  fre : ∀ y ∈ scope.names, y.2 = .free → X.env.kindOf y.1 = some .cell ∨ X.env.kindOf y.1 = some .free
  len : idx.length = M.length
  cap : ∀ (j : Nat) (y : Str), M[j]? = some y → scope.names.lookup y = some .free ∧ ∃ k, idx[j]? = some k ∧ X.N[k]? = some y

theorem sel_get {idx : List Nat} {σ : St} {j : Nat} {v : V} (h : (sel idx σ)[j]? = some (some v)) : ∃ k, idx[j]? = some k ∧ σ[k]? = some (some v) := by
  unfold sel at h
  rw [List.getElem?_map] at h
  cases e : idx[j]? with
  | none => rw [e] at h; cases h
  | some k =>
    rw [e] at h
    refine ⟨k, rfl, ?_⟩
    have h' : (σ[k]?).join = some v := Option.some.inj h
    cases q : σ[k]? with
    | none => rw [q] at h'; cases h'
    | some o =>
      rw [q] at h'
      have h'' : o = some v := h'
      rw [h'']

section
variable {X : Cx} {pins : List (Addr × Obj)} {σ : St} {H : Hp} {s : Shared}

/-- the block's context and its start, from the outer state -/
theorem comp_start {scope : Scope} {M : List Str} {idx : List Nat} {fp : List Addr} {x : Str} (ok : CompOk X scope M idx) (hc : X.calm = true) (I : Inv X pins σ H s) (hf : ∀ b ∈ fp, FpOk X pins H b)
    (ho : ∀ b ∈ fp, ∃ o, s.heap.get? b = some o) :
    Inv (X.comp scope (cellsFrom (s.heap.objs.size + 2) scope.names (clOf X.env.cells scope.names [])) (s.heap.objs.size + 1) (x :: M) s H fp) [] (none :: sel idx σ) H
      { s with heap := pushCells ((s.heap.push { cls := .type "list", dict := none, data := .seq ([] : List Value).toArray }).push { cls := .type "dict", data := .dict #[] }) scope.names } := by
  have sz2 : ((s.heap.push { cls := .type "list", dict := none, data := .seq ([] : List Value).toArray }).push { cls := .type "dict", data := .dict #[] }).objs.size = s.heap.objs.size + 2 := by rw [Heap.size_push, Heap.size_push]
  have keep : ∀ b o, s.heap.get? b = some o → (pushCells ((s.heap.push { cls := .type "list", dict := none, data := .seq ([] : List Value).toArray }).push { cls := .type "dict", data := .dict #[] }) scope.names).get? b = some o :=
    fun b o e => pushCells_keeps _ _ _ _ (Heap.get?_push_of_some _ (Heap.get?_push_of_some _ e))
  have clLook : ∀ n c, (clOf X.env.cells scope.names []).lookup n = some c → X.env.cells.lookup n = some c := lookup_clOf fun n c e => by simp at e
  have clLt : ∀ n c, (clOf X.env.cells scope.names []).lookup n = some c → c < s.heap.objs.size := fun n c e => by
    obtain ⟨v, z⟩ := I.cell n c (clLook n c e)
    exact z.lt
  have look : ∀ n c, (cellsFrom (s.heap.objs.size + 2) scope.names (clOf X.env.cells scope.names [])).lookup n = some c →
      (s.heap.objs.size + 2 ≤ c ∧ (pushCells ((s.heap.push { cls := .type "list", dict := none, data := .seq ([] : List Value).toArray }).push { cls := .type "dict", data := .dict #[] }) scope.names).IsCell c none) ∨ X.env.cells.lookup n = some c := fun n c e => by
    have e' : (cellsFrom ((s.heap.push { cls := .type "list", dict := none, data := .seq ([] : List Value).toArray }).push { cls := .type "dict", data := .dict #[] }).objs.size scope.names (clOf X.env.cells scope.names [])).lookup n = some c := by rw [sz2]; exact e
    rcases cellsFrom_new e' with ⟨q1, q2⟩ | q
    · rw [sz2] at q1; exact .inl ⟨q1, q2⟩
    · exact .inr (clLook n c q)
  have fresh : ∀ a, s.heap.objs.size ≤ a → H a = none := fun a h => I.hok.fresh h
  have fpLt : ∀ b ∈ fp, b < s.heap.objs.size := fun b hb => let ⟨_, e⟩ := ho b hb; Heap.lt_size e
  have fpStk : ∀ b ∈ fp, b ∉ frs X.stack := fun b hb z => by
    obtain ⟨_, f1, f2, _⟩ := hf b hb
    exact (List.mem_cons.mp (I.stkSub b z)).elim f1 f2
  have hasFree : ∀ y ∈ scope.names, y.2 = .free → ∃ c, X.env.cells.lookup y.1 = some c := fun y hy e => I.ok.has y.1 (ok.fre y hy e)
  have kindR : ∀ y, (compEnvC scope (cellsFrom (s.heap.objs.size + 2) scope.names (clOf X.env.cells scope.names [])) (s.heap.objs.size + 1) X.env).kindOf y =
      (scope.names.lookup y).map fun k => if (k == NameKind.free && X.env.scope.kind == .function && X.env.kindOf y == some .cell) then NameKind.cell else k := fun y => kindOf_relabel scope.names y
  refine ⟨⟨I.ok.mod, ok.kind, I.ok.glob, I.ok.blt, Nat.le_succ _, ?_, fun y hy => ?_, fun y c hfn e => ?_, I.ok.hd, I.ok.frames, .inl rfl, fun b hb => ⟨?_, fun y c e => ?_⟩, I.bs, Nat.le_trans I.ok.bsz I.sz, fun b o e hb => ?_, fun b hb => fpStk b hb, I.stack, I.stkFree⟩,
    rfl, I.bare, Un.kept keep, ⟨fun _ => none, ?_, fun i y v h1 h2 h3 => ?_⟩, fun y c e => ?_, fresh _ (Nat.le_succ _), fun y c e => ?_, fun p hp => absurd (show p ∈ ([] : List (Addr × Obj)) from hp) (by simp), I.hok.kept keep, ?_⟩
  · exact cellsFrom_inj (fun a b c h1 h2 => I.ok.inj a b c (clLook a c h1) (clLook b c h2)) fun a c h1 => Nat.lt_of_lt_of_le (clLt a c h1) (Nat.le_add_right _ _)
  · -- has
    rw [show (X.comp scope (cellsFrom (s.heap.objs.size + 2) scope.names (clOf X.env.cells scope.names [])) (s.heap.objs.size + 1) (x :: M) s H fp).env.kindOf y = _ from kindR y] at hy
    show ∃ c, (cellsFrom (s.heap.objs.size + 2) scope.names (clOf X.env.cells scope.names [])).lookup y = some c
    cases hk : scope.names.lookup y with
    | none => rw [hk] at hy; rcases hy with z | z <;> cases z
    | some k =>
      have mem := PySem.mem_of_lookup hk
      by_cases k1 : k = .cell
      · subst k1; exact cellsFrom_has mem
      by_cases k2 : k = .free
      · subst k2
        obtain ⟨c, ec⟩ := hasFree _ mem rfl
        exact cellsFrom_acc (clOf_has ec mem)
      · rw [hk] at hy
        have hb : (k == NameKind.free) = false := by simpa using k2
        rw [Option.map_some, hb, Bool.false_and, Bool.false_and, if_neg Bool.false_ne_true] at hy
        rcases hy with z | z
        · exact absurd (Option.some.inj z) k1
        · exact absurd (Option.some.inj z) k2
  · -- cab
    have hl : scope.names.lookup y = some .cell := by simpa [Cx.comp] using hfn
    exact cellsFrom_ge (lo := s.heap.objs.size) (by omega) (.inl (PySem.mem_of_lookup hl)) e
  · -- exf
    exact Nat.ne_of_lt (Nat.lt_succ_of_lt (fpLt b hb))
  · rcases look y c e with ⟨q, _⟩ | q
    · exact fun z => absurd (fpLt b hb) (by rw [← z]; exact Nat.not_lt.mpr (Nat.le_trans (Nat.le_add_right _ 2) q))
    · exact (hf b hb).2.2.2.2.1 y c q
  · -- noex
    rcases (hf b hb).2.2.2.1 with z | z
    · exact I.ok.noex b o e z
    · exact absurd (Nat.lt_of_lt_of_le (Heap.lt_size e) (Nat.le_trans I.ok.bsz z)) (Nat.lt_irrefl _)
  · -- the new map
    have e0 : (s.heap.push { cls := .type "list", dict := none, data := .seq ([] : List Value).toArray }).objs.size = s.heap.objs.size + 1 := Heap.size_push ..
    have q := (Heap.Ns.new (s.heap.push { cls := .type "list", dict := none, data := .seq ([] : List Value).toArray }) (.type "dict")).keeps (pushCells_keeps scope.names _)
    rw [e0] at q
    exact q
  · -- names
    cases i with
    | zero => cases h2
    | succ j =>
      have h2' : (sel idx σ)[j]? = some (some v) := h2
      have h1' : M[j]? = some y := h1
      obtain ⟨k, ek, ev⟩ := sel_get h2'
      obtain ⟨hl, k', ek', eN⟩ := ok.cap j y h1'
      rw [ek] at ek'; cases ek'
      have mem := PySem.mem_of_lookup hl
      have hk := ok.fre _ mem rfl
      obtain ⟨m, hn, hloc⟩ := I.loc
      have vis : Vis X.env.scope y := hk.elim (fun z => .inr (.inl z)) fun z => .inr (.inr z)
      obtain ⟨u, r, l⟩ := hloc k y v eN ev vis
      refine ⟨u, r, ?_⟩
      rcases l with ⟨z, _⟩ | ⟨_, c, ec, hcell⟩
      · rw [z] at hk; rcases hk with z | z <;> cases z
      · refine .inr ⟨?_, c, ?_, hcell.keeps keep⟩
        · rw [show (X.comp scope (cellsFrom (s.heap.objs.size + 2) scope.names (clOf X.env.cells scope.names [])) (s.heap.objs.size + 1) (x :: M) s H fp).env.kindOf y = _ from kindR y, hl, Option.map_some]
          by_cases hcc : (NameKind.free == NameKind.free && X.env.scope.kind == .function && X.env.kindOf y == some .cell) = true
          · rw [if_pos hcc]; exact .inl rfl
          · rw [if_neg hcc]; exact .inr rfl
        · show (cellsFrom (s.heap.objs.size + 2) scope.names (clOf X.env.cells scope.names [])).lookup y = some c
          rw [cellsFrom_not]
          · obtain ⟨d, ed⟩ := clOf_has (acc := []) ec mem
            rw [ed, ← clLook y d ed, ec]
          · intro p hp hpc hpy
            have := ok.cel p hp hpc
            rw [hpy, hl] at this
            cases this
  · rcases look y c e with ⟨_, q⟩ | q
    · exact ⟨_, q⟩
    · obtain ⟨v, z⟩ := I.cell y c q
      exact ⟨v, z.keeps keep⟩
  · rcases look y c e with ⟨q, _⟩ | q
    · exact fresh _ (by omega)
    · exact I.freeC y c q
  · show (none :: sel idx σ).length = (x :: M).length
    unfold sel
    rw [List.length_cons, List.length_cons, List.length_map, ok.len]

/-- the loop of a comprehension, the step ahead of the store kept -/
theorem compLoop_any {prog : Program} {w : World} {A : Around} {R : Result → Shared → Prop} {s : Shared} {elt target iter : Expr} {ifs : List Expr} {scope : Scope} {pos : Pos} {it acc : Value} {env : Env} (I : Nat → Shared → Prop)
    (turn : ∀ n s, I n s → wpAny (model prog w) A (pyNext it) (fun r s₁ => match r with
      | none => R (.ok .next) s₁
      | some v => wpAny (model prog w) A (letOwnedTupleGo target it v) (fun _ s₁' => wpAny (model prog w) A (assign target env v) (fun _ s₂ =>
          wpAny (model prog w) A (forIn ifs true fun c r => if r = true then do let ok ← isTrue c env (eval c env); pure (ForInStep.yield ok) else pure (ForInStep.yield r)) (fun ok s₃ =>
            if ok = true then wpAny (model prog w) A (eval elt env) (fun x s₄ =>
              wpAny (model prog w) A (call (.builtin "list.append") [acc, x]) (fun _ s₅ => ∃ m, m < n ∧ I m s₅) (fun _ _ => False) s₄) (fun _ _ => False) s₃
            else ∃ m, m < n ∧ I m s₃) (fun _ _ => False) s₂) (fun _ _ => False) s₁') (fun _ _ => False) s₁) (fun _ _ => False) s)
    (n : Nat) (h : I n s) :
    codeAny (model prog w) A (.compLoop (.ListComp elt [⟨target, iter, ifs, 0⟩] scope pos) 0 it acc env) R s := by
  refine codeAny_loop rfl I (fun n s hI => ?_) n h
  show wpAny _ A ((compTurn (.ListComp elt [⟨target, iter, ifs, 0⟩] scope pos) 0 it acc env).onRaise (fun x => do noteFrame x env; theTreesLotGoes x)) _ _ s
  refine wpAny_noted ?_
  rw [compTurn_list]
  refine wpAny_bind (wpAny_standAt (wpAny_bind (wpAny_mono (turn n s hI) (fun r s₁ h₁ => ?_) fun _ _ h' => h'.elim)))
  cases r with
  | none => exact wpAny_pure h₁
  | some v =>
    refine wpAny_bind (wpAny_mono h₁ (fun _ s₁' h₁' => ?_) fun _ _ h' => h'.elim)
    refine wpAny_bind (wpAny_mono h₁' (fun _ s₂ h₂ => wpAny_bind (wpAny_mono h₂ (fun ok s₃ h₃ => ?_) fun _ _ h' => h'.elim)) fun _ _ h' => h'.elim)
    cases ok with
    | false => exact wpAny_pure ⟨rfl, h₃⟩
    | true =>
      exact wpAny_bind (wpAny_bind (wpAny_mono h₃ (fun x s₄ h₄ => wpAny_bind (wpAny_mono h₄ (fun _ s₅ h₅ => wpAny_pure (wpAny_pure ⟨rfl, h₅⟩)) fun _ _ h' => h'.elim)) fun _ _ h' => h'.elim))

/-- a comprehension's tests -/
def PTs (X : Cx) (cs : List Expr) (t : TT) : Prop :=
  ∀ (pins : List (Addr × Obj)) (s : Shared) (σ : St) (H : Hp) (Q : Bool → Hp → Prop), Inv X pins σ H s → t σ H Q →
    wpAny (model X.prog X.w) X.A (forIn cs true fun c r => if r = true then do let ok ← isTrue c X.env (eval c X.env); pure (ForInStep.yield ok) else pure (ForInStep.yield r)) (TP X pins σ Q) X.xe s
def ttTrue : TT := fun _ H Q => Q true H
theorem pts_nil : PTs X [] ttTrue := fun _ _ _ H _ I h => wpAny_tests_nil ⟨H, I, h⟩
/-- what a comprehension wants: W i ys H: i items taken, ys kept -/
def CompW (J : It) (H1 : Hp) (one : V → Hp → (Option V → Hp → Prop) → Prop) (Q : List V → Hp → Prop) : Prop :=
  ∃ (n : Nat) (W : Nat → List V → Hp → Prop), W 0 [] H1 ∧ n ≤ sizeLine ∧ ∀ i ys H', W i ys H' → (J.stop i H' ∧ Q ys H') ∨
    (J.go i H' ∧ i < n ∧ ∃ N : Option V → Hp → Prop, (∀ o H3, N o H3 → W (i + 1) (ys ++ o.toList) H3) ∧ ∀ x H2, J.yld i H' x H2 → one x H2 N)
def oneOf (tc : TT) (te : TE) (σ : St) (x : V) (H : Hp) (k : Option V → Hp → Prop) : Prop :=
  tc (some x :: σ) H fun b H1 => if b = true then te (some x :: σ) H1 fun v H2 => k (some v) H2 else k none H1
/-- its value -/
def tCompIf (wi : TI) (idx : List Nat) (tc : TT) (te : TE) : TE := fun σ H Q => wi σ H fun J H1 => CompW J H1 (oneOf tc te (sel idx σ)) fun ys H' => ∀ p, H' p = none → Q (.ref p) (upd H' p (.lst ys))

/-- the block, from the iterator on: behind it the outer state, with the list laid at D -/
theorem comp_block {elt iter : Expr} {ifs : List Expr} {scope : Scope} {pos : Pos} {x : Str} {px : Pos} {M : List Str} {idx : List Nat} {tc : TT} {te : TE} {itv : Value} {Q : List V → Hp → Prop}
    {RR : Value → Addr → Result → Shared → Prop} 
    (hc : X.calm = true) (ok : CompOk X scope M idx) (hN : (x :: M).Nodup) (hx : scope.names.lookup x = some .local ∨ scope.names.lookup x = some .cell)
    (ht : ∀ cells C s2 H2 fp, PTs (X.comp scope cells C (x :: M) s2 H2 fp) ifs tc) (he : ∀ cells C s2 H2 fp, PE (X.comp scope cells C (x :: M) s2 H2 fp) elt te)
    (h : PIE X pins σ (.Name x px) (fun J H1 => CompW J H1 (oneOf tc te (sel idx σ)) Q) itv s)
    (hR : ∀ (D C : Addr) (ys : List V) (H' : Hp) (s' : Shared), s.heap.objs.size ≤ D → s.heap.objs.size ≤ C → D ≠ C → H' D = none → H' C = none → Q ys H' → (∃ m, s'.heap.Ns C m) →
      (∀ h' tk, Heap.SameBut C s'.heap h' → Inv X pins σ (upd H' D (.lst ys)) { s' with heap := h', toks := tk }) → RR (.ref D) C (.ok .next) s') :
    wpAny (model X.prog X.w) X.A (newList []) (fun acc s₃ => wpAny (model X.prog X.w) X.A (newFunctionEnv scope X.env.globals (clOf X.env.cells scope.names []) [] X.env.qual none .none (some X.env)) (fun cenv s₄ =>
      codeAny (model X.prog X.w) X.A (.compStart (.ListComp elt [⟨.Name x px, iter, ifs, 0⟩] scope pos) 0 itv acc { cenv with scope := relabel scope X.env }) (RR acc cenv.locals) s₄) X.xe s₃) X.xe s := by
  obtain ⟨it, fp, tn, J, H2, e, I2, T, st2, f2, n, W, w0, hn, turn⟩ := h
  subst e
  have ho : ∀ b ∈ fp, ∃ o, s.heap.get? b = some o := fun b hb => let ⟨o, e, _⟩ := T.obj 0 _ st2 b hb; ⟨o, e⟩
  have I3 := comp_start (x := x) ok hc I2 f2 ho
  have sz1 : (s.heap.push { cls := .type "list", dict := none, data := .seq ([] : List Value).toArray }).objs.size = s.heap.objs.size + 1 := Heap.size_push ..
  have keep0 : ∀ b o, s.heap.get? b = some o → (pushCells ((s.heap.push { cls := .type "list", dict := none, data := .seq ([] : List Value).toArray }).push { cls := .type "dict", data := .dict #[] }) scope.names).get? b = some o :=
    fun b o e => pushCells_keeps _ _ _ _ (Heap.get?_push_of_some _ (Heap.get?_push_of_some _ e))
  have acc0 : (pushCells ((s.heap.push { cls := .type "list", dict := none, data := .seq ([] : List Value).toArray }).push { cls := .type "dict", data := .dict #[] }) scope.names).PlainList s.heap.objs.size ([] : List Value).toArray :=
    ⟨_, pushCells_keeps _ _ _ _ (Heap.get?_push_of_some _ (Heap.get?_push_size _ rfl))⟩
  have fpLt : ∀ b ∈ fp, b < s.heap.objs.size := fun b hb => let ⟨_, e⟩ := ho b hb; Heap.lt_size e
  refine wpAny_newList ?_
  refine newCompEnv ?_
  dsimp only
  rw [sz1]
  generalize hcells : cellsFrom (s.heap.objs.size + 1 + 1) scope.names (clOf X.env.cells scope.names []) = cells
  have hcells' : cellsFrom (s.heap.objs.size + 2) scope.names (clOf X.env.cells scope.names []) = cells := hcells
  rw [hcells'] at I3
  generalize hh : pushCells ((s.heap.push { cls := .type "list", dict := none, data := .seq ([] : List Value).toArray }).push { cls := .type "dict", data := .dict #[] }) scope.names = h1 at I3 keep0 acc0 ⊢
  have ht := ht cells (s.heap.objs.size + 1) s H2 fp
  have he := he cells (s.heap.objs.size + 1) s H2 fp
  have st3 : tn 0 h1 := T.keep 0 _ _ st2 fun b hb o e => keep0 b o e
  have hg : PG (X.comp scope cells (s.heap.objs.size + 1) (x :: M) s H2 fp) (.Name x px) (gName 0) := by
    refine pg_name hN rfl ?_ ?_
    · show (relabel scope X.env).names.lookup x = some .local ∨ (relabel scope X.env).names.lookup x = some .cell
      rw [show (relabel scope X.env).names.lookup x = _ from kindOf_relabel scope.names x]
      rcases hx with z | z
      · rw [z]; exact .inl rfl
      · rw [z]; exact .inr rfl
    · rcases hx with z | z
      · refine .inr ?_
        show (relabel scope X.env).names.lookup x = some .local
        rw [show (relabel scope X.env).names.lookup x = _ from kindOf_relabel scope.names x, z]
        rfl
      · refine .inl ?_
        show (scope.names.lookup x == some .cell) = true
        rw [z]; rfl
  -- what stays true of the iterator's objects
  have stat : ∀ {pins' : List (Addr × Obj)} {H' : Hp}, (∀ p ∈ pins', p.1 = s.heap.objs.size) → (∀ b ∈ fp, H' b = none) → ∀ b ∈ fp, FpOk (X.comp scope cells (s.heap.objs.size + 1) (x :: M) s H2 fp) pins' H' b := fun {pins' H'} hp hn b hb =>
    ⟨hn b hb, (I3.ok.exf b hb).1, I3.ok.exfs b hb, .inl hb, (I3.ok.exf b hb).2, fun p hp' => by
      have e := hp p (show p ∈ pins' from by simpa [Cx.comp] using hp')
      rw [e]; exact Nat.ne_of_gt (fpLt b hb)⟩
  have loop : ∀ (s₄ : Shared), s₄ = { s with heap := h1 } → codeAny (model X.prog X.w) X.A (.compLoop (.ListComp elt [⟨.Name x px, iter, ifs, 0⟩] scope pos) 0 (.ref it) (.ref s.heap.objs.size) (compEnvC scope cells (s.heap.objs.size + 1) X.env))
      (RR (.ref s.heap.objs.size) (s.heap.objs.size + 1)) s₄ := by
    rintro s₄ rfl
    refine compLoop_any (fun k s' => ∃ (i : Nat) (ys : List V) (its : List Value) (H' : Hp), Inv (X.comp scope cells (s.heap.objs.size + 1) (x :: M) s H2 fp) [] (none :: sel idx σ) H' s' ∧ tn i s'.heap ∧ (∀ b ∈ fp, H' b = none) ∧ H' s.heap.objs.size = none ∧
      s'.heap.PlainList s.heap.objs.size its.toArray ∧ Vals ys its ∧ ys.length ≤ i ∧ i ≤ n ∧ W i ys H' ∧ k = n - i) ?_ n ⟨0, [], [], H2, I3, st3, fun b hb => (f2 b hb).1, I2.hok.fresh (Nat.le_refl _), acc0, .nil, Nat.le_refl _, Nat.zero_le _, w0, rfl⟩
    rintro k s' ⟨i, ys, its, H', I', st', fr', hD', hpl', hv', hlen, hlin, w', rfl⟩
    obtain ⟨nn, hobj⟩ := id hpl'
    have pinD : ∀ {H5 : Hp} {s5 : Shared} {σ5 : St} {P5 : List (Addr × Obj)}, Inv (X.comp scope cells (s.heap.objs.size + 1) (x :: M) s H2 fp) P5 σ5 H5 s5 → s5.heap.get? s.heap.objs.size = some { cls := .type "list", data := .seq its.toArray nn } → H5 s.heap.objs.size = none →
        ∀ p ∈ [(s.heap.objs.size, ({ cls := .type "list", data := .seq its.toArray nn } : Obj))], s5.heap.get? p.1 = some p.2 ∧ H5 p.1 = none ∧ p.1 ≠ (X.comp scope cells (s.heap.objs.size + 1) (x :: M) s H2 fp).env.locals ∧ p.1 ∉ (X.comp scope cells (s.heap.objs.size + 1) (x :: M) s H2 fp).fs ∧ ∀ v, p.2.data ≠ .cell v :=
      fun {H5 s5 σ5 P5} I5 e5 n5 p hp => by
        have ep : p = (s.heap.objs.size, ({ cls := .type "list", data := .seq its.toArray nn } : Obj)) := by simpa using hp
        subst ep
        refine ⟨e5, n5, Nat.ne_of_lt (Nat.lt_succ_self _), fun z => ?_, fun v z => by cases z⟩
        obtain ⟨_, o, ho, _⟩ := I5.ok.funs.mem z
        exact absurd (Heap.lt_size ho) (Nat.lt_irrefl _)
    have ID := I'.pins_of (pinD I' hobj hD')
    have ndp : ∀ p ∈ [(s.heap.objs.size, ({ cls := .type "list", data := .seq its.toArray nn } : Obj))], p.1 = s.heap.objs.size := fun p hp => by
      have ep : p = (s.heap.objs.size, ({ cls := .type "list", data := .seq its.toArray nn } : Obj)) := by simpa using hp
      rw [ep]
    rcases turn i ys H' w' with ⟨stop, qn⟩ | ⟨go, hin, N, hNW, step⟩
    · refine thn (T.done (X.comp scope cells (s.heap.objs.size + 1) (x :: M) s H2 fp) rfl rfl rfl hc i _ s' _ H' (fun _ _ => False) ID (stat ndp fr') st' stop) fun r s4 ⟨hr, I4⟩ => ?_
      subst hr
      have pin4 := I4.pin (s.heap.objs.size, ({ cls := .type "list", data := .seq its.toArray nn } : Obj)) (by simp [Cx.comp])
      obtain ⟨m4, hm4, _⟩ := id I4.loc
      refine hR s.heap.objs.size (s.heap.objs.size + 1) ys H' s4 (Nat.le_refl _) (Nat.le_succ _) (Nat.ne_of_lt (Nat.lt_succ_self _)) pin4.2.1 I4.free qn ⟨m4, hm4⟩ fun h' tk hs' => ?_
      have neC : ∀ b, b < s.heap.objs.size → b ≠ s.heap.objs.size + 1 := fun b hb => Nat.ne_of_lt (Nat.lt_succ_of_lt hb)
      have neD : ∀ b, b < s.heap.objs.size → b ≠ s.heap.objs.size := fun b hb => Nat.ne_of_lt hb
      have u4 := I4.base
      refine I2.call' (s' := { s4 with heap := h', toks := tk }) (ch := fp) I4.os ?_ ?_ I4.bare fun b hb => ?_
      · refine ⟨fun b o e1 e2 e3 e4 => ?_, fun b o e1 e2 e3 e4 => ?_, fun b o e1 e2 e3 => ?_, fun b o e1 e2 => ?_, fun b xs e1 => ?_, fun b o u e1 => ?_, fun b ps e1 => ?_⟩
        · exact (hs'.2 b (neC b (Heap.lt_size e1))).trans (u4.keep b o e1 e2 e3 e4)
        · obtain ⟨sl, q⟩ := u4.slot b o e1 e2 e3 e4
          exact ⟨sl, (hs'.2 b (neC b (Heap.lt_size e1))).trans q⟩
        · rw [upd_ne (neD b (Heap.lt_size e1))]; exact u4.free b o e1 e2 e3
        · obtain ⟨o', q⟩ := u4.there b o e1 e2
          exact ⟨o', (hs'.2 b (neC b (Heap.lt_size e1))).trans q⟩
        · have q := u4.tups b xs e1
          rw [upd_ne (ne_of_none q pin4.2.1)]; exact q
        · have q := u4.frzs b o u e1
          rw [upd_ne (ne_of_none q pin4.2.1)]; exact q
        · obtain ⟨more, q⟩ := u4.tbls b ps e1
          exact ⟨more, by rw [upd_ne (ne_of_none q pin4.2.1)]; exact q⟩
      · intro b o e1
        by_cases hb : b = s.heap.objs.size
        · subst hb
          rw [upd_same] at e1; cases e1
          exact ⟨Nat.le_trans hlen (Nat.le_trans hlin hn), its, nn, hv', (hs'.2 _ (Nat.ne_of_lt (Nat.lt_succ_self _))).trans pin4.1⟩
        · rw [upd_ne hb] at e1
          refine (I4.hok b o e1).stay (fun c u hcu q => (hs'.2 c ?_).trans q) (fun c q => by rw [upd_ne (ne_of_none q pin4.2.1)]; exact q) fun c xs q => by rw [upd_ne (ne_of_none q pin4.2.1)]; exact q
          rintro rfl
          rcases hcu with z | z
          · rw [← z] at e1
            have z2 := I4.free
            rw [show (X.comp scope cells (s.heap.objs.size + 1) (x :: M) s H2 fp).env.locals = s.heap.objs.size + 1 from rfl, e1] at z2
            cases z2
          · have z2 := I4.free
            rw [show (X.comp scope cells (s.heap.objs.size + 1) (x :: M) s H2 fp).env.locals = s.heap.objs.size + 1 from rfl, z] at z2
            cases z2
      · obtain ⟨_, g1, g2, g3, g4, g5⟩ := f2 b hb
        exact ⟨g3, g1, g4, g5⟩
    · refine thn (T.item (X.comp scope cells (s.heap.objs.size + 1) (x :: M) s H2 fp) rfl rfl rfl hc i _ s' _ H' (fun _ _ => False) ID (stat ndp fr') st' go) fun r s4 ⟨u, hr, h4⟩ => ?_
      subst hr
      refine thn h4 fun _ s5 ⟨y, H5, I5, r5, y5, st5, fr5⟩ => ?_
      have I5' := I5.pinned (stat ndp fr5) (T.obj _ _ st5)
      refine thn (hg _ s5 _ H5 y u (fun σ' H6 => σ' = some y :: sel idx σ ∧ H6 = H5) I5' r5 ⟨rfl, rfl⟩) fun _ s6 ⟨σ6, H6, I6, e6, e6'⟩ => ?_
      subst e6 e6'
      -- what a state behind a part of the turn gives
      have fin : ∀ {H8 : Hp} {s8 : Shared} {σ8 : St}, Inv (X.comp scope cells (s.heap.objs.size + 1) (x :: M) s H2 fp) ([(s.heap.objs.size, ({ cls := .type "list", data := .seq its.toArray nn } : Obj))] ++ pinsAt fp s5.heap) σ8 H8 s8 →
          s8.heap.PlainList s.heap.objs.size its.toArray ∧ H8 s.heap.objs.size = none ∧ tn (i + 1) s8.heap ∧ ∀ b ∈ fp, H8 b = none := fun {H8 s8 σ8} I8 => by
        have p8 := I8.pin (s.heap.objs.size, ({ cls := .type "list", data := .seq its.toArray nn } : Obj)) (by simp [Cx.comp])
        refine ⟨⟨nn, p8.1⟩, p8.2.1, T.keep _ _ _ st5 fun b hb o e => (I8.pin (b, o) (List.mem_append_right _ (List.mem_append_right _ (mem_pinsAt hb e)))).1, fun b hb => ?_⟩
        obtain ⟨o, e, _⟩ := T.obj _ _ st5 b hb
        exact (I8.pin (b, o) (List.mem_append_right _ (List.mem_append_right _ (mem_pinsAt hb e)))).2.1
      have back : ∀ {H8 : Hp} {s8 : Shared} {P8 : List (Addr × Obj)}, Inv (X.comp scope cells (s.heap.objs.size + 1) (x :: M) s H2 fp) P8 (some y :: sel idx σ) H8 s8 → Inv (X.comp scope cells (s.heap.objs.size + 1) (x :: M) s H2 fp) [] (none :: sel idx σ) H8 s8 := fun I8 =>
        (I8.pins_of fun p hp => absurd hp (by simp)).weak rfl fun j v e => by
          cases j with
          | zero => cases e
          | succ j => exact e
      refine thn (ht _ s6 _ _ _ I6 (step y _ y5)) fun b s7 ⟨H7, I7, q7⟩ => ?_
      cases b with
      | false =>
        have q7' : W (i + 1) (ys ++ []) H7 := hNW none H7 q7
        rw [List.append_nil] at q7'
        obtain ⟨g1, g2, g3, g4⟩ := fin I7
        refine show (if false = true then _ else _) from ?_
        rw [if_neg Bool.false_ne_true]
        exact ⟨n - (i + 1), by omega, i + 1, ys, its, H7, back I7, g3, g4, g2, g1, hv', Nat.le_succ_of_le hlen, hin, q7', rfl⟩
      | true =>
        refine show (if true = true then _ else _) from ?_
        rw [if_pos rfl]
        have q7' : te (some y :: sel idx σ) H7 fun v H3 => N (some v) H3 := q7
        refine thn (he _ s7 _ _ _ I7 q7') fun u8 s8 ⟨v8, H8, I8, r8, w8⟩ => ?_
        have w8 : W (i + 1) (ys ++ [v8]) H8 := hNW (some v8) H8 w8
        obtain ⟨g1, g2, g3, g4⟩ := fin I8
        refine wpAny_list_append_plain g1 (fun h' hpl hs' => ?_) (by
          rw [List.size_toArray, ← hv'.length]
          exact Nat.le_trans hlen (Nat.le_trans hlin hn))
        have I9 := back I8
        have hpl2 : h'.PlainList s.heap.objs.size (its ++ [u8]).toArray := by
          have e : (its ++ [u8]).toArray = its.toArray.push u8 := by simp
          rw [e]; exact hpl
        refine ⟨n - (i + 1), by omega, i + 1, ys ++ [v8], its ++ [u8], H8, I9.turned (it := s.heap.objs.size) (t' := s8.toks) (fun b o hb e => (hs'.2 b hb).trans e) g2 (Nat.ne_of_lt (Nat.lt_succ_self _)) (.inr (Nat.le_refl _)) (fun z c ec hcz => ?_) (fun p hp => absurd hp (by simp [Cx.comp])),
          T.keep _ _ _ g3 (fun b hb o e => (hs'.2 b (Nat.ne_of_lt (fpLt b hb))).trans e), g4, g2, hpl2, hv'.append (.cons r8 .nil), by rw [List.length_append]; exact Nat.succ_le_succ hlen, hin, w8, rfl⟩
        obtain ⟨v, o, ho, hd⟩ := I9.cell z c ec
        obtain ⟨n9, g9⟩ := g1
        rw [hcz, g9] at ho
        cases ho
        cases hd
  exact codeAny_compStart_list (loop _ rfl) (T.self _ 0 _ _ _ st3 (loop _ rfl))

/-- [elt for x in iter if ..] -/
theorem pe_compIf {elt iter : Expr} {ifs : List Expr} {scope : Scope} {pos : Pos} {x : Str} {px : Pos} {M : List Str} {idx : List Nat} {wi : TI} {tc : TT} {te : TE}
    (hc : X.calm = true) (hi : PI X (.Name x px) iter wi) (ok : CompOk X scope M idx) (hN : (x :: M).Nodup) (hx : scope.names.lookup x = some .local ∨ scope.names.lookup x = some .cell)
    (ht : ∀ cells C s2 H2 fp, PTs (X.comp scope cells C (x :: M) s2 H2 fp) ifs tc) (he : ∀ cells C s2 H2 fp, PE (X.comp scope cells C (x :: M) s2 H2 fp) elt te)
    (hs : ∀ x, foldedSetIterable iter X.env x = pure x := by intro _; rfl) : PE X (.ListComp elt [⟨.Name x px, iter, ifs, 0⟩] scope pos) (tCompIf wi idx tc te) := by
  intro pins s σ H Q I h
  rw [eval_ListComp]
  refine wpAny_comprehension_free (use := none) rfl hs (closureFor_cl fun y hy e => I.ok.has y.1 (ok.fre y hy e)) ok.kind ok.loc (thn (hi pins s σ H _ I h) fun v s1 h1 => thn h1 fun itv s2 h2 => ?_)
  refine comp_block (RR := fun acc C => compPost (model X.prog X.w) X.A X.xe none (EP X pins σ Q) acc C) hc ok hN hx ht he h2 fun D C ys H' s' hD hC hDC nD nC q hm hI => ?_
  obtain ⟨m, hm⟩ := hm
  exact ⟨m, hm, fun h' hs' => ⟨.ref D, upd H' D (.lst ys), hI h' s'.toks hs', rfl, q D nD⟩⟩

/-- y = [elt for x in iter if ..], the two stores exchanged -/
def tSetComp (i : Nat) (t : TE) : TS := fun D σ H => t σ H fun v H1 => D.nx (σ.set i (some v)) H1
theorem ps_setComp {elt iter : Expr} {ifs : List Expr} {scope : Scope} {pos spos py : Pos} {x y : Str} {px : Pos} {M : List Str} {idx : List Nat} {wi : TI} {tc : TT} {te : TE} {i : Nat}
    (hNd : X.N.Nodup) (hi' : X.N[i]? = some y) (hy : Loc X.env.scope y)
    (hc : X.calm = true) (hi : PI X (.Name x px) iter wi) (ok : CompOk X scope M idx) (hN : (x :: M).Nodup) (hx : scope.names.lookup x = some .local ∨ scope.names.lookup x = some .cell)
    (ht : ∀ cells C s2 H2 fp, PTs (X.comp scope cells C (x :: M) s2 H2 fp) ifs tc) (he : ∀ cells C s2 H2 fp, PE (X.comp scope cells C (x :: M) s2 H2 fp) elt te)
    (hs : ∀ x, foldedSetIterable iter X.env x = pure x := by intro _; rfl)
    (hsw : swapsWith (.ListComp elt [⟨.Name x px, iter, ifs, 0⟩] scope pos) (some (.Name y py)) spos.line X.env = pure true := by rfl)
    (hf : X.fn y = true ∨ X.env.scope.names.lookup y = some .local := by first | exact .inl rfl | exact .inr rfl | assumption) :
    PS X (.Assign [.Name y py] (.ListComp elt [⟨.Name x px, iter, ifs, 0⟩] scope pos) spos) (tSetComp i (tCompIf wi idx tc te)) := by
  intro pins s σ H D I h
  rw [exec_Assign_Name_used _ _ _ _ hsw]
  refine wpAny_bind (wpAny_standAt (wpAny_bind ?_))
  show wpAny _ X.A (do let _ ← comprehension (.ListComp elt [⟨.Name x px, iter, ifs, 0⟩] scope pos) scope X.env _ (newList []) false (eval iter X.env) (some (assign (.Name y py) X.env))) _ _ s
  refine wpAny_bind (wpAny_mono (wpAny_comprehension_free (use := some (assign (.Name y py) X.env)) (Q := fun _ s' => SP X pins D .next s') rfl hs (closureFor_cl fun y hy e => I.ok.has y.1 (ok.fre y hy e)) ok.kind ok.loc
    (thn (hi pins s σ H _ I h) fun v s1 h1 => thn h1 fun itv s2 h2 => ?_)) (fun _ s' hq => wpAny_pure (wpAny_pure hq)) fun _ _ e => e)
  have I2 : ∃ H', Inv X pins σ H' s2 := let ⟨_, _, _, _, H', _, I2, _⟩ := h2; ⟨H', I2⟩
  refine comp_block (RR := fun acc C => compPost (model X.prog X.w) X.A X.xe (some (assign (.Name y py) X.env)) (fun _ s' => SP X pins D .next s') acc C) hc ok hN hx ht he h2 fun L C ys H' s' hD hC hDC nD nC q hm hI => ?_
  obtain ⟨H2, I2⟩ := I2
  obtain ⟨m, hm⟩ := hm
  have I5 : Inv X pins σ (upd H' L (.lst ys)) s' := hI s'.heap s'.toks (Heap.SameBut.refl ..)
  obtain ⟨mL, hmL, _⟩ := id I2.loc
  have ltL : X.env.locals < s2.heap.objs.size := hmL.lt
  have neL : C ≠ X.env.locals := Nat.ne_of_gt (Nat.lt_of_lt_of_le ltL hC)
  have neCell : ∀ z c, X.env.cells.lookup z = some c → c ≠ C := fun z c e => by
    obtain ⟨v, q⟩ := I2.cell z c e
    exact Nat.ne_of_lt (Nat.lt_of_lt_of_le q.lt hC)
  show wpAny _ X.A (assign (.Name y py) X.env (.ref L)) _ _ _
  refine wpAny_assign_Name (store_ok2 (v := .ref L) I5 hNd hi' hy rfl (fun s6 I6 hch => ?_) hf)
  obtain ⟨a, hsa, ha⟩ := hch
  have neA : C ≠ a := by
    rcases ha with e | e
    · rw [e]; exact neL
    · exact Ne.symm (neCell y a e)
  refine ⟨m, hm.sameBut hsa neA, fun h' hs' => ?_⟩
  refine ⟨_, _, I6.turned (it := C) (t' := s6.toks) (fun b o hb e => (hs'.2 b hb).trans e) (by rw [upd_ne (Ne.symm hDC)]; exact nC) neL (.inr (Nat.le_trans I2.sz hC)) neCell (fun p hp z => ?_), q L nD⟩
  have e2 := (I2.pin p hp).1
  exact absurd (Nat.lt_of_lt_of_le (Heap.lt_size e2) hC) (by rw [z]; exact Nat.lt_irrefl _)
end

theorem compW_list {K : PySem.W.Frag} {a : Addr} {xs : List V} {H : Hp} {one : V → Hp → (Option V → Hp → Prop) → Prop} {Q : List V → Hp → Prop} (Pv : Nat → List V → Hp → Prop) (h0 : Pv 0 [] H) (hn : xs.length ≤ sizeLine)
    (hl : ∀ i ys H, i ≤ xs.length → Pv i ys H → SqL K H a xs) (hs : ∀ i x ys H, xs[i]? = some x → Pv i ys H → one x H fun o H2 => Pv (i + 1) (ys ++ o.toList) H2) (hd : ∀ ys H, Pv xs.length ys H → Q ys H) : CompW (Itl K a) H one Q := by
  refine ⟨xs.length, fun i ys H => i ≤ xs.length ∧ Pv i ys H, ⟨Nat.zero_le _, h0⟩, hn, ?_⟩
  rintro i ys H ⟨hi, p⟩
  have q := hl i ys H hi p
  by_cases hlt : i < xs.length
  · refine .inr ⟨⟨xs, xs[i], q, by simp [hlt]⟩, hlt, fun o H3 => Pv (i + 1) (ys ++ o.toList) H3, fun o H3 z => ⟨hlt, z⟩, fun x H2 y => ?_⟩
    obtain ⟨e, y⟩ := y
    subst e
    exact hs i x ys _ (y xs q) p
  · have e : i = xs.length := by omega
    subst e
    exact .inl ⟨⟨xs, q, Nat.le_refl _⟩, hd ys H p⟩
theorem compW_range {lo : Int} {n : Nat} {H : Hp} {one : V → Hp → (Option V → Hp → Prop) → Prop} {Q : List V → Hp → Prop} (Pv : Nat → List V → Hp → Prop) (h0 : Pv 0 [] H) (hn : n ≤ sizeLine)
    (hs : ∀ i ys H, i < n → Pv i ys H → one (.int (lo + i)) H fun o H2 => Pv (i + 1) (ys ++ o.toList) H2) (hd : ∀ ys H, Pv n ys H → Q ys H) : CompW (Itr lo n) H one Q := by
  refine ⟨n, fun i ys H => i ≤ n ∧ Pv i ys H, ⟨Nat.zero_le _, h0⟩, hn, ?_⟩
  rintro i ys H ⟨hi, p⟩
  by_cases hlt : i < n
  · refine .inr ⟨hlt, hlt, fun o H3 => Pv (i + 1) (ys ++ o.toList) H3, fun o H3 z => ⟨hlt, z⟩, fun x H2 y => ?_⟩
    obtain ⟨e, y⟩ := y
    subst e y
    exact hs i ys _ hlt p
  · have e : i = n := by omega
    subst e
    exact .inl ⟨Nat.le_refl _, hd ys H p⟩
end L2

namespace L2
open PySem PySem.Spec PyProof.Rows

mutual
inductive IsD (H : Hp) : V → PyData → Prop
  | non : IsD H .non .none
  | bl (b : Bool) : IsD H (.bl b) (.bool b)
  | int (i : Int) : IsD H (.int i) (.int i)
  | str (x : Str) : IsD H (.str x) (.str x)
  | tup {a : Addr} {xs : List V} {ds : List PyData} : H a = some (.tup xs) → IsDs H xs ds → IsD H (.ref a) (.tuple ds)
inductive IsDs (H : Hp) : List V → List PyData → Prop
  | nil : IsDs H [] []
  | cons {x : V} {xs : List V} {d : PyData} {ds : List PyData} : IsD H x d → IsDs H xs ds → IsDs H (x :: xs) (d :: ds)
end
/-- the tuples stay -/
def KeepT (H H' : Hp) : Prop := ∀ a xs, H a = some (.tup xs) → H' a = some (.tup xs)
theorem KeepT.refl (H : Hp) : KeepT H H := fun _ _ h => h
theorem KeepT.trans {H H1 H2 : Hp} (a : KeepT H H1) (b : KeepT H1 H2) : KeepT H H2 := fun c xs h => b c xs (a c xs h)
mutual
theorem IsD.keep {H H' : Hp} (k : KeepT H H') : ∀ {v : V} {d : PyData}, IsD H v d → IsD H' v d
  | _, _, .non => .non
  | _, _, .bl b => .bl b
  | _, _, .int i => .int i
  | _, _, .str x => .str x
  | _, _, .tup h r => .tup (k _ _ h) (IsDs.keep k r)
theorem IsDs.keep {H H' : Hp} (k : KeepT H H') : ∀ {xs : List V} {ds : List PyData}, IsDs H xs ds → IsDs H' xs ds
  | _, _, .nil => .nil
  | _, _, .cons h r => .cons (IsD.keep k h) (IsDs.keep k r)
end
theorem IsDs.length {H : Hp} : ∀ {xs : List V} {ds : List PyData}, IsDs H xs ds → xs.length = ds.length
  | _, _, .nil => rfl
  | _, _, .cons _ r => by rw [List.length_cons, List.length_cons, IsDs.length r]
theorem IsDs.get {H : Hp} : ∀ {xs : List V} {ds : List PyData} {i : Nat} {d : PyData}, IsDs H xs ds → ds[i]? = some d → ∃ x, xs[i]? = some x ∧ IsD H x d
  | _, _, i, d, .nil, e => by simp at e
  | _, _, 0, d, .cons h _, e => by simp at e; subst e; exact ⟨_, rfl, h⟩
  | _, _, i + 1, d, .cons _ r, e => by
    obtain ⟨x, e1, h⟩ := IsDs.get (i := i) (d := d) r (by simpa using e)
    exact ⟨x, by simpa using e1, h⟩
theorem IsDs.append {H : Hp} : ∀ {xs ys : List V} {ds es : List PyData}, IsDs H xs ds → IsDs H ys es → IsDs H (xs ++ ys) (ds ++ es)
  | _, _, _, _, .nil, s => s
  | _, _, _, _, .cons h r, s => .cons h (IsDs.append r s)
theorem IsD.tuple_inv {H : Hp} {v : V} {ds : List PyData} (h : IsD H v (.tuple ds)) : ∃ a xs, v = .ref a ∧ H a = some (.tup xs) ∧ IsDs H xs ds := by
  cases h with
  | tup e r => exact ⟨_, _, rfl, e, r⟩
section
variable {X : Cx} {pins : List (Addr × Obj)} {σ : St} {H : Hp} {s : Shared}
mutual
theorem IsD.reads {P : Program} {w : World} {h : Heap} {H : Hp} (I : HOk P w H h) : ∀ {v : V} {d : PyData} {u : Value}, IsD H v d → RelV v u → ∃ as, Reads h u d as
  | _, _, u, .non, r => by cases (show u = Value.none from r); exact ⟨_, .none⟩
  | _, _, u, .bl b, r => by cases (show u = Value.bool b from r); exact ⟨_, .bool b⟩
  | _, _, u, .int i, r => by obtain ⟨t, rfl⟩ := (show ∃ t, u = Value.int i t from r); exact ⟨_, .int i t⟩
  | _, _, u, .str x, r => by obtain ⟨t, rfl⟩ := (show ∃ t, u = Value.str x t from r); exact ⟨_, .str x t⟩
  | _, _, u, .tup (a := a) (xs := xs) e rs, r => by
    cases (show u = Value.ref a from r)
    obtain ⟨_, its, rv, o, h1, h2, n, h3⟩ := (show ObjOk P w H h a (.tup xs) from I a _ e)
    obtain ⟨as, hr⟩ := IsDs.reads I rs rv
    exact ⟨as, .tuple h1 h2 h3 (by simpa using hr)⟩
theorem IsDs.reads {P : Program} {w : World} {h : Heap} {H : Hp} (I : HOk P w H h) : ∀ {xs : List V} {ds : List PyData} {us : List Value}, IsDs H xs ds → Vals xs us → ∃ as, ReadsAll h us ds as
  | _, _, _, .nil, .nil => ⟨_, .nil⟩
  | _, _, _, .cons h r, .cons v vs => by
    obtain ⟨as, h1⟩ := IsD.reads I h v
    obtain ⟨bs, h2⟩ := IsDs.reads I r vs
    exact ⟨_, .cons h1 h2⟩
end

/-- x == y, x != y of such data -/
def CmpD (u : Nat) (dx dy : PyData) : Prop := dx.canLay0 = true ∧ dy.canLay0 = true ∧ dx.depth ≤ 20
def rEqD (u : Nat) : R2 := fun x y H Q => ∃ dx dy, IsD H x dx ∧ IsD H y dy ∧ CmpD u dx dy ∧ Q (.bl (PyData.eqv dx dy)) H
def rNeD (u : Nat) : R2 := fun x y H Q => ∃ dx dy, IsD H x dx ∧ IsD H y dy ∧ CmpD u dx dy ∧ Q (.bl (!PyData.eqv dx dy)) H
theorem unitsD {A : Around} {a b : Nat} (hu : A.units + 64 < cLine) (h : a ≤ 20) : A.units + min a b < cLine := by
  have : min a b ≤ a := Nat.min_le_left _ _
  omega
theorem op_eqD (hu : X.A.units + 64 < cLine) : OpR X (compareOp .Eq) (rEqD 0) := by
  intro pins s σ H x y v u Q I rx ry h
  obtain ⟨dx, dy, hx, hy, ⟨c1, c2, c3⟩, q⟩ := h
  obtain ⟨as, r1⟩ := hx.reads I.hok rx
  obtain ⟨bs, r2⟩ := hy.reads I.hok ry
  exact PySem.SeqAt.compareEq_reads r1 r2 c1 c2 (unitsD hu c3) ⟨.bl _, H, I, rfl, q⟩
theorem op_neD (hu : X.A.units + 64 < cLine) : OpR X (compareOp .NotEq) (rNeD 0) := by
  intro pins s σ H x y v u Q I rx ry h
  obtain ⟨dx, dy, hx, hy, ⟨c1, c2, c3⟩, q⟩ := h
  obtain ⟨as, r1⟩ := hx.reads I.hok rx
  obtain ⟨bs, r2⟩ := hy.reads I.hok ry
  exact PySem.SeqAt.compareNe_reads r1 r2 c1 c2 (unitsD hu c3) ⟨.bl _, H, I, rfl, q⟩

theorem call_sum (hc : X.calm = true) : CallR X (.builtin "sum") (fun xs H Q => ∃ (p : Addr) (ns : List Int), xs = [.ref p] ∧ SqL X.K H p (ns.map V.int) ∧ Q (.int ns.sum) H) := by
  intro pins s σ H xs us Q I r h
  obtain ⟨p, ns, rfl, hS, q⟩ := h
  obtain ⟨u, rfl, e⟩ := vals1 r
  obtain rfl : u = Value.ref p := e
  obtain ⟨its, hv, ⟨o, n, h1, h2, h3, h4⟩, _⟩ := I.list hS
  have hi : IntsAre its ns := intsAre_of hv
  obtain ⟨xs, hx⟩ := hi.allInts.items
  have hl : s.heap.IsList p its.toArray := ⟨o, h1, h2, n, h4⟩
  refine sum_intListG (I.ok.hd hc) (hx ▸ hl) fun h' tk t' hk => ⟨.int ns.sum, H, I.kept hk, ⟨t', ?_⟩, q⟩
  have e1 : ns = xs.toList.map (·.1) := by
    rw [← nums_intItems, ← hx]
    exact (show numsOf its.toArray.toList = ns from hi.numsOf).symm
  rw [preSum_eq, List.take_of_length_le (by simp), e1]

theorem bools_of : ∀ {bs : List Bool} {us : List Value}, Vals (bs.map V.bl) us → LSm.BoolsAre us bs
  | [], _, .nil => .nil
  | b :: bs, _, .cons r t => by
    cases (show _ = Value.bool b from r)
    exact .cons b (bools_of t)
theorem call_all (hc : X.calm = true) : CallR X (.builtin "all") (fun xs H Q => ∃ (p : Addr) (bs : List Bool), xs = [.ref p] ∧ SqL X.K H p (bs.map V.bl) ∧ Q (.bl (bs.all id)) H) := by
  intro pins s σ H xs us Q I r h
  obtain ⟨p, bs, rfl, hS, q⟩ := h
  obtain ⟨u, rfl, e⟩ := vals1 r
  obtain rfl : u = Value.ref p := e
  obtain ⟨its, hv, ⟨o, n, h1, h2, h3, h4⟩, _⟩ := I.list hS
  have hb := bools_of hv
  have hl : s.heap.IsList p its.toArray := ⟨o, h1, h2, n, h4⟩
  have hlt : p < s.heap.objs.size := Heap.lt_size h1
  refine call_all_walk (wpAny_pyIter_list hl ?_)
  refine ⟨s.heap.objs.size, [s.heap.objs.size, p], [s.heap.objs.size], its.toArray.size, _, _, fun i => (bs[i]?).getD true, rfl, Walks.list (A := X.A.in1) (I.ok.hd hc) _ p (Nat.ne_of_lt hlt) its.toArray,
    ⟨⟨_, Heap.get?_push_size _ rfl, rfl, rfl⟩, hl.push _⟩, fun i v s' Q' E' hP hQ => ?_, fun h' tk hk => ?_⟩
  · obtain ⟨b, e, rfl⟩ := hb.get i v (by simpa using hP)
    simp only [e, Option.getD_some] at hQ
    exact wpAny_truthy_bool hQ
  · have e : ((List.range its.toArray.size).all fun i => (bs[i]?).getD true) = bs.all id := by
      rw [List.size_toArray, hb.length]; exact LSm.range_all bs
    rw [e]
    exact ⟨.bl _, H, I.kept (LSm.kept_iter hk), rfl, q⟩

def kindV (K : PySem.W.Frag) (H : Hp) (x : V) (T : String) : Prop := match x with
  | .non => T = "NoneType"
  | .bl _ => T = "bool"
  | .int _ => T = "int"
  | .str _ => T = "str"
  | .ref a => (T = "tuple" ∧ ∃ xs, H a = some (.tup xs)) ∨ (T = "list" ∧ ∃ xs, H a = some (.lst xs))
  | _ => False
theorem kind_ty {K : PySem.W.Frag} {H : Hp} {x : V} {T : String} (h : kindV K H x T) : TyOf K H x (.type T) := by
  cases x with
  | non => cases (show T = _ from h); exact .non
  | bl b => cases (show T = _ from h); exact .bl b
  | int i => cases (show T = _ from h); exact .int i
  | str i => cases (show T = _ from h); exact .str i
  | ref a =>
    rcases h with ⟨rfl, xs, e⟩ | ⟨rfl, xs, e⟩
    · exact .tup e
    · exact .lst e
  | byt b => exact h.elim
  | flt b => exact h.elim
  | ty n => exact h.elim
theorem call_isinst : CallR X (.builtin "isinstance") (fun xs H Q => ∃ (x : V) (T C : String) (b : Bool), xs = [x, .ty C] ∧ kindV X.K H x T ∧ PySem.W.kitOne X.K (.type T) (.type C) = some b ∧ Q (.bl b) H) := by
  intro pins s σ H xs us Q I r h
  obtain ⟨x, T, C, b, rfl, ty, e, q⟩ := h
  obtain ⟨u, c, rfl, rx, rc⟩ := vals2 r
  cases (show c = Value.type C from rc)
  exact isinst_ok I rx (kind_ty ty) e fun tk => ⟨.bl b, H, I.tok tk, rfl, q⟩

theorem op_fdivB : OpR X (binaryOp .FloorDiv) (rI (fun _ j => 0 < j ∧ j < 2 ^ 62) fun i j => .int (i / j)) := opI fun i j _ _ _ _ _ hc q => by
  rw [← Int.fdiv_eq_ediv_of_nonneg i (Int.le_of_lt hc.1)] at q
  refine floordiv_int (by omega) q (.inl (PyProof.noPylong_of_log2 ?_))
  have h1 : j.natAbs < 2 ^ 62 := by omega
  have h2 : j.natAbs ≠ 0 := by omega
  have := (Nat.log2_lt h2).mpr h1
  omega
end
end L2

namespace L2
open PySem PySem.Spec PyProof.Rows

def Raw (K : PySem.W.Frag) (mg : Str → Option Value) (x : Str) (ps : List Str) (st : Stmt) : Prop :=
  ∃ (f : Addr) (fd : FuncData), Fun K x x st f fd ∧ mg x = some (.ref f) ∧ Binds K fd ps []
def Df (P : Program) (w : World) (K : PySem.W.Frag) (mg : Str → Option Value) (base : Heap) (k : Nat) (x : Str) (ps : List Str) (sp : Sp) : Prop :=
  ∃ (f : Addr) (fd : FuncData), FnOk P w K mg base CX0 k f fd ps sp ∧ mg x = some (.ref f) ∧ PySem.W.keepIn K (.ref f) = true ∧ Binds K fd ps [] ∧ ∃ st, Fun K x x st f fd
section
variable {P : Program} {w : World} {K : PySem.W.Frag} {mg : Str → Option Value} {base : Heap}
theorem Raw.ok {x : Str} {ps N : List Str} {st : Stmt} {k : Nat} {sp : Sp} (R : Raw K mg x ps st) (S : FnScope N ps (defScope st)) (len : ∀ vs H Q E, sp vs H Q E → vs.length = ps.length)
    (hbody : ∀ (f : Addr) (cdv : Value) (A : Around) (outer : List Env) (s : Shared) (H : Hp) (vs : List V) (Q : VK) (E : XK), Room k (A.deeper (envOfC x (defScope st) s.heap.objs.size f cdv)) → sp vs H Q E →
      ∃ t, PSs (cxOf CX0 P w K mg base N x (defScope st) f cdv A outer s H E).nox (defBody st) t ∧ t { nx := fun _ H' => Q .non H', rt := Q } (start N vs) H) : Df P w K mg base (k + 1) x ps sp := by
  obtain ⟨f, fd, F, m, b⟩ := R
  exact ⟨f, fd, F.ok S len (fun cdv A outer s H vs Q E hr h => hbody f cdv A outer s H vs Q E hr h), m, F.kp, b, st, F⟩
theorem Df.mono {x : Str} {ps : List Str} {j k : Nat} {sp : Sp} (D : Df P w K mg base j x ps sp) (h : j ≤ k) : Df P w K mg base k x ps sp := by
  obtain ⟨f, fd, F, m, kp, b, u⟩ := D
  exact ⟨f, fd, F.mono h, m, kp, b, u⟩
end
/-- x(e, ..), x a def of the text -/
theorem pe_df {X : Cx} {k : Nat} {x : Str} {ps : List Str} {sp : Sp} {p pos : Pos} {e : Expr} {es : List Expr} {t : TA} (D : Df X.prog X.w X.K X.mg X.base k x ps sp) (hr : Room k X.A) (ha : PA X (e :: es) t) (hg : Gl X x := by rfl)
    (hdb : (x == ("__debug__" : Str)) = false := by decide) (he : starEach (e :: es) X.env = (false, eval e X.env) :: starEach es X.env := by rfl) (hpl : (backTo pos (starEach es X.env)).any (·.1) = false := by rfl) :
    PE X (.Call (.Name x p) (e :: es) [] pos) (tCall sp [] E0 t) := by
  obtain ⟨f, fd, F, m, kp, b, _⟩ := D
  exact pe_call F hr hg m kp b .nil pass0 ha hdb he hpl

/-- all but what stands at d is kept -/
def KeepBut (d : Addr) (H H' : Hp) : Prop := ∀ b o, H b = some o → b ≠ d → H' b = some o
theorem KeepBut.refl (d : Addr) (H : Hp) : KeepBut d H H := fun _ _ h _ => h
theorem KeepBut.trans {d : Addr} {H H1 H2 : Hp} (a : KeepBut d H H1) (b : KeepBut d H1 H2) : KeepBut d H H2 := fun c o h n => b c o (a c o h n) n
theorem KeepBut.upd {d p : Addr} {H H1 : Hp} {o : HO} (a : KeepBut d H H1) (hp : H1 p = none) : KeepBut d H (upd H1 p o) := fun c u h n => by
  rw [upd_ne (ne_of_none (a c u h n) hp)]; exact a c u h n
structure DeckAt (H : Hp) (d c : Addr) (ns : List Int) (k : Nat) (r : Int) (m : Nat) (t : Int) : Prop where
  deck : H d = some (.lst [.ref c, .int k, .int r, .int m, .int t])
  cut : H c = some (.lst (ns.map V.int))
  kle : k ≤ ns.length
  few : ns.length ≤ 63
  rnn : 0 ≤ r
/-- a deck from which at most n numbers were drawn behind its cells -/
def Deck (H : Hp) (d : Addr) (n : Nat) : Prop := ∃ c ns k r m t, DeckAt H d c ns k r m t ∧ m ≤ n
theorem DeckAt.ne {H : Hp} {d c : Addr} {ns : List Int} {k : Nat} {r : Int} {m : Nat} {t : Int} (D : DeckAt H d c ns k r m t) : d ≠ c := by
  refine ne_of D.deck D.cut fun z => ?_
  have e := HO.lst.inj z
  cases ns with
  | nil => cases e
  | cons a b => cases (List.cons.inj e).1
theorem Deck.more {H : Hp} {d : Addr} {n m : Nat} (D : Deck H d n) (h : n ≤ m) : Deck H d m := let ⟨c, ns, k, r, j, t, D, hj⟩ := D; ⟨c, ns, k, r, j, t, D, Nat.le_trans hj h⟩
theorem Deck.lst {H : Hp} {d : Addr} {n : Nat} (D : Deck H d n) : ∃ xs, H d = some (.lst xs) := let ⟨_, _, _, _, _, _, D, _⟩ := D; ⟨_, D.deck⟩
theorem Deck.keep {H H' : Hp} {d : Addr} {n : Nat} (D : Deck H d n) (h : Same H H') : Deck H' d n :=
  let ⟨c, ns, k, r, m, t, D, hm⟩ := D; ⟨c, ns, k, r, m, t, ⟨h _ _ D.deck, h _ _ D.cut, D.kle, D.few, D.rnn⟩, hm⟩
theorem Deck.upd {H : Hp} {d p : Addr} {n : Nat} {o : HO} (D : Deck H d n) (hp : H p = none) : Deck (upd H p o) d n := D.keep fun b u e => by rw [upd_ne (ne_of_none e hp)]; exact e
theorem KeepBut.tups {d : Addr} {H H' : Hp} {xs : List V} (k : KeepBut d H H') (hd : H d = some (.lst xs)) : KeepT H H' := fun a ys e => k a _ e (ne_of e hd fun z => by cases z)
theorem same_upd {H : Hp} {p : Addr} {o : HO} (hp : H p = none) : Same H (upd H p o) := fun b u e => by rw [upd_ne (ne_of_none e hp)]; exact e
theorem Same.tups {H H' : Hp} (s : Same H H') : KeepT H H' := fun a xs e => s a _ e
theorem Same.but {H H' : Hp} (s : Same H H') (d : Addr) : KeepBut d H H' := fun a o e _ => s a o e
end L2

namespace L2
open PySem PySem.Spec PyProof.Rows
section
variable {X : Cx} {tg l : Expr}
theorem op_eqA (hu : X.A.units + 64 < cLine) : OpR X (compareOp .Eq) (fun x y H Q => rEq x y H Q ∨ rEqD 0 x y H Q) := op_eq.or (op_eqD hu)
theorem op_neA (hu : X.A.units + 64 < cLine) : OpR X (compareOp .NotEq) (fun x y H Q => rNe x y H Q ∨ rNeD 0 x y H Q) := op_ne.or (op_neD hu)
theorem pi_or {w1 w2 : TI} (h1 : PI X tg l w1) (h2 : PI X tg l w2) : PI X tg l (fun σ H R => w1 σ H R ∨ w2 σ H R) := fun pins s σ H R I h => h.elim (h1 pins s σ H R I) (h2 pins s σ H R I)
theorem pi_seq {tl : TE} (hl : PE X l tl) : PI X tg l (fun σ H R => iList X.K tl σ H R ∨ iTup X.K tl σ H R) := pi_or (pi_list hl) (pi_tup hl)
end
theorem bt_tuple : bootBuiltins "tuple" = some (.type "tuple") := by decide +kernel
theorem bt_int : bootBuiltins "int" = some (.type "int") := by decide +kernel
theorem bt_bool : bootBuiltins "bool" = some (.type "bool") := by decide +kernel
theorem bt_list : bootBuiltins "list" = some (.type "list") := by decide +kernel
theorem bt_range : bootBuiltins "range" = some (.type "range") := by decide +kernel
theorem bt_len : bootBuiltins "len" = some (.builtin "len") := by decide +kernel
theorem bt_sum : bootBuiltins "sum" = some (.builtin "sum") := by decide +kernel
theorem bt_all : bootBuiltins "all" = some (.builtin "all") := by decide +kernel
theorem bt_max : bootBuiltins "max" = some (.builtin "max") := by decide +kernel
theorem bt_min : bootBuiltins "min" = some (.builtin "min") := by decide +kernel
theorem bt_isinstance : bootBuiltins "isinstance" = some (.builtin "isinstance") := by decide +kernel
end L2

namespace L2
open PySem PySem.Spec PyProof.Rows
def compB (outer : List (Str × NameKind)) (scope : Scope) (M : List Str) (idx : List Nat) (N : List Str) : Bool :=
  scope.kind == .function && (scope.names.all fun y => (y.2 != .local || scope.names.lookup y.1 == some .local) && (y.2 != .cell || scope.names.lookup y.1 == some .cell) && (y.2 != .free || (outer.lookup y.1 == some .cell || outer.lookup y.1 == some .free)))
    && idx.length == M.length && (M.zip idx).all fun p => scope.names.lookup p.1 == some .free && N[p.2]? == some p.1
theorem compOk {X : Cx} {scope : Scope} {M : List Str} {idx : List Nat} (h : compB X.env.scope.names scope M idx X.N = true) : CompOk X scope M idx := by
  unfold compB at h
  simp only [Bool.and_eq_true] at h
  obtain ⟨⟨⟨h1, h2⟩, h3⟩, h4⟩ := h
  have h2' := List.all_eq_true.mp h2
  refine ⟨by simpa using h1, fun y hy e => ?_, fun y hy e => ?_, fun y hy e => ?_, by simpa using h3, fun j y ej => ?_⟩
  · have := h2' y hy
    simp [e] at this
    exact this
  · have := h2' y hy
    simp [e] at this
    exact this
  · have := h2' y hy
    simp [e] at this
    exact this
  · have hl : idx.length = M.length := by simpa using h3
    have hj : j < M.length := (List.getElem?_eq_some_iff.mp ej).1
    have hk : idx[j]? = some (idx[j]'(by omega)) := by simp [hl, hj]
    have hz : (M.zip idx)[j]? = some (y, idx[j]'(by omega)) := by
      rw [List.getElem?_zip_eq_some]
      exact ⟨ej, hk⟩
    have := List.all_eq_true.mp h4 _ (List.mem_of_getElem? hz)
    simp only [Bool.and_eq_true, beq_iff_eq] at this
    exact ⟨this.1, _, hk, this.2⟩
end L2

namespace L2
open PySem PySem.Spec PyProof.Rows
def SpLaw (K : PySem.W.Frag) : Sp := fun vs H Q _ => ∃ (a : Addr) (ns : List Int), vs = [.ref a] ∧ SqL K H a (ns.map V.int) ∧ ns.length ≤ 63 ∧ ∀ H', Q (.bl true) H'
/-- the law's head, from its def and its promise -/
theorem walk_df {l : PySem.W.OpenLaw} {k : Nat} {q : Program} {loose : List Str} {XP : (Str → Option Value) → Heap → Prop} {YP : World → Heap → Prop} {d : DefRec} {K : Params → PySem.W.Frag} {st : Stmt}
    (hn : l.most = some 63) (hdf : d.params.defaults = []) (hdn : d.name = "law") (hr : Room k callerA)
    (hY : ∀ (w : World) (h : Heap), YP w h → (K w.params).In h)
    (hbind : ∀ (kV doc pm : Value) (an : Option Addr) (cdv ct v : Value), bindArgs (PySem.W.fnOf "law" "law" (defArgs st) (defBody st) (defScope st) .none kV doc pm an cdv ct) ⟨[v], []⟩ = pure [(("script" : Str), v)])
    (F : ∀ (w : World) (mg : Str → Option Value) (h : Heap), (K w.params).In h → h.Ns mainGlobals mg → Raw (K w.params) mg "law" ["script"] st ∧ ∀ base : Heap, Df l.prog w (K w.params) mg base k "law" ["script"] (SpLaw (K w.params))) :
    PySem.W.WalkO q loose XP YP l.row.toRowW d [] (fun f vs => PySem.call f vs) := by
  refine L2.walk_of (n := 63) (k := k) (x := "script") (CX := fun _ => CX0) (sp := fun w => SpLaw (K w.params)) hn (by decide) hdf hr hY (fun w mg fa h KX G hmg => ?_) (fun w H a ns hl _ hS => ⟨a, ns, rfl, hS, hl, fun _ => rfl⟩) fun _ _ _ _ _ z => z
  obtain ⟨⟨f, fd, R, m, b⟩, D⟩ := F w mg h KX G
  rw [hdn] at hmg
  have e := hmg.symm.trans m
  cases e
  obtain ⟨oc, od, kV, doc, pm, an, cdv, ct, osl, e1, e2, _⟩ := R.ex
  refine ⟨fd, fun s v => .of_eq (by rw [e1]; exact hbind kV doc pm an cdv ct v), fun base _ _ => ?_⟩
  obtain ⟨f', fd', G', m', _, _, st', R'⟩ := D base
  have e := hmg.symm.trans m'
  cases e
  obtain ⟨oc', od', kV', doc', pm', an', cdv', ct', osl', e1', e2', _⟩ := R'.ex
  rw [e2] at e2'
  cases e2'
  exact G'
end L2

namespace L2
open PySem PySem.Spec PyProof.Rows
theorem cut63 {ns : List Int} (h : ns.length ≤ 63) : cutV (ns.map V.int) none (some 63) = ns.map V.int := by
  unfold cutV
  rw [show HT.sIx (ns.map V.int).length 0 none = 0 from rfl, show (some 63 : Option Int) = some ((63 : Nat) : Int) from rfl, HT.sIx_nat]
  rw [List.length_map, Nat.min_eq_right h, List.drop_zero, Nat.sub_zero]
  exact List.take_of_length_le (by rw [List.length_map]; exact Nat.le_refl _)
theorem ofInt {i j : Int} (h : decide (V.int i = V.int j) = true) : i = j := V.int.inj (of_decide_eq_true h)
end L2

namespace L2
theorem tSeq_cut {t u : TS} {D : Ends} {σ : St} {H : Hp} (R : St → Hp → Prop) (hu : ∀ σ H, R σ H → u D σ H) (ht : (∀ σ H, R σ H → u D σ H) → t { D with nx := u D } σ H) : tSeq t u D σ H := ht hu
end L2

namespace L2
open PySem PySem.Spec PyProof.Rows
section
variable {X : Cx} {K : PySem.W.Frag} {tg l a b : Expr} {ta tb tl : TE} {pos : Pos}
theorem call_lenK (h : X.K = K) : CallR X (.builtin "len") (fun xs H Q => ∃ x n, xs = [x] ∧ LenV K x H n ∧ Q (.int n) H) := by subst h; exact call_len
theorem call_tupleK (h : X.K = K) : CallR X (.type "tuple") (fun xs H Q => ∃ p ys, xs = [.ref p] ∧ ((SqL K H p ys ∧ ∀ l, H l = none → Q (.ref l) (upd H l (.tup ys))) ∨ (SqT K H p ys ∧ Q (.ref p) H))) := by subst h; exact call_tuple_of
theorem call_listK (h : X.K = K) : CallR X (.type "list") (fun xs H Q => ∃ p ys, xs = [.ref p] ∧ (SqL K H p ys ∨ SqT K H p ys) ∧ ∀ l, H l = none → Q (.ref l) (upd H l (.lst ys))) := by subst h; exact call_list_of
theorem call_sumK (h : X.K = K) (hc : X.calm = true) : CallR X (.builtin "sum") (fun xs H Q => ∃ (p : Addr) (ns : List Int), xs = [.ref p] ∧ SqL K H p (ns.map V.int) ∧ Q (.int ns.sum) H) := by subst h; exact call_sum hc
theorem call_allK (h : X.K = K) (hc : X.calm = true) : CallR X (.builtin "all") (fun xs H Q => ∃ (p : Addr) (bs : List Bool), xs = [.ref p] ∧ SqL K H p (bs.map V.bl) ∧ Q (.bl (bs.all id)) H) := by subst h; exact call_all hc
theorem call_isinstK (h : X.K = K) : CallR X (.builtin "isinstance") (fun xs H Q => ∃ (x : V) (T C : String) (b : Bool), xs = [x, .ty C] ∧ kindV K H x T ∧ PySem.W.kitOne K (.type T) (.type C) = some b ∧ Q (.bl b) H) := by subst h; exact call_isinst
theorem ix_seqK (h : X.K = K) : IxR X (rIx K) := by subst h; exact ix_seq
theorem pi_seqK (h : X.K = K) (hl : PE X l tl) : PI X tg l (fun σ H R => iList K tl σ H R ∨ iTup K tl σ H R) := by subst h; exact pi_seq hl
theorem pg_tupK {es : List Expr} {k : Nat} {t : TGs} {n : Nat} (h : X.K = K) (hc : X.calm = true) (hg : PGs X es t)
    (hn : (assignEach es X.env).length = n := by rfl) (hst : (assignEach es X.env).findIdx? (·.1) = none := by rfl) : PG X (.Tuple es k pos) (gTup K n t) := by subst h; exact pg_tup hc hg hn hst
end
end L2

namespace L2
theorem oneT {te : TE} {σ : St} {x : V} {H : Hp} {k : Option V → Hp → Prop} (h : te (some x :: σ) H fun v H2 => k (some v) H2) : oneOf ttTrue te σ x H k := by
  show if true = true then (te (some x :: σ) H fun v H2 => k (some v) H2) else k none H
  rw [if_pos rfl]
  exact h
end L2

namespace L2
open PySem PySem.Spec PyProof.Rows
theorem Raw.never {P : Program} {w : World} {K : PySem.W.Frag} {mg : Str → Option Value} {base : Heap} {x : Str} {ps : List Str} {st : Stmt} {k : Nat} {sp : Sp} (R : Raw K mg x ps st) (h : ∀ vs H Q E, sp vs H Q E → False) : Df P w K mg base k x ps sp := by
  obtain ⟨f, fd, F, m, b⟩ := R
  exact ⟨f, fd, ⟨fun vs H Q E z => (h vs H Q E z).elim, fun A outer s H args us vs Q E hr e0 hb r z => (h vs H Q E z).elim⟩, m, F.kp, b, st, F⟩
end L2

namespace L2
/-- a while, by a word and a measure -/
theorem while_at {c : TT} {tb : TS} {D : Ends} {σ : St} {H : Hp} (Pv : St → Hp → Prop) (μ : St → Hp → Nat) (h0 : Pv σ H)
    (hs : ∀ σ H, Pv σ H → c σ H fun b H1 => if b = true then ∃ N : St → Hp → Prop, (∀ σ' H', N σ' H' → ∃ m', m' < μ σ H ∧ m' = μ σ' H' ∧ Pv σ' H') ∧ tb { D with nx := N, ct := N, bk := D.nx } σ H1 else D.nx σ H1) : tWhile c tb D σ H := by
  refine ⟨fun m σ H => m = μ σ H ∧ Pv σ H, ⟨_, rfl, h0⟩, ?_⟩
  rintro m σ H ⟨rfl, p⟩
  exact hs σ H p
end L2

namespace L2
theorem tOr_at {t u : TT} {σ : St} {H : Hp} {Q : Bool → Hp → Prop} (b c : Bool) (ht : ∀ R : Bool → Hp → Prop, R b H → t σ H R) (hu : ∀ R : Bool → Hp → Prop, R c H → u σ H R) (h : Q (b || c) H) : tOr t u σ H Q := by
  refine ht _ ?_
  cases b with
  | true => exact iteT (by simpa using h)
  | false => exact iteF (hu _ (by simpa using h))
theorem tAnd_at {t u : TT} {σ : St} {H : Hp} {Q : Bool → Hp → Prop} (b c : Bool) (ht : ∀ R : Bool → Hp → Prop, R b H → t σ H R) (hu : ∀ R : Bool → Hp → Prop, R c H → u σ H R) (h : Q (b && c) H) : tAnd t u σ H Q := by
  refine ht _ ?_
  cases b with
  | true => exact iteT (hu _ (by simpa using h))
  | false => exact iteF (by simpa using h)
end L2

namespace L2
open PySem PySem.Spec PyProof.Rows

def cellV : Option Int → V
  | none => .non
  | some i => .int i
def cellD : Option Int → PyData
  | none => .none
  | some i => .int i
def rowD (r : List (Option Int)) : PyData := .tuple (r.map cellD)
def fieldD (F : List (List (Option Int))) : PyData := .tuple (F.map rowD)
theorem isCell {H : Hp} : ∀ c : Option Int, IsD H (cellV c) (cellD c)
  | none => .non
  | some i => .int i
theorem isCells {H : Hp} : ∀ r : List (Option Int), IsDs H (r.map cellV) (r.map cellD)
  | [] => .nil
  | c :: r => .cons (isCell c) (isCells r)
theorem IsD.cell_inv {H : Hp} {v : V} : ∀ {c : Option Int}, IsD H v (cellD c) → v = cellV c
  | none, h => by cases h; rfl
  | some i, h => by cases h; rfl
theorem IsDs.cells_inv {H : Hp} : ∀ {xs : List V} {r : List (Option Int)}, IsDs H xs (r.map cellD) → xs = r.map cellV
  | _, [], h => by cases h; rfl
  | _, c :: r, h => by
    cases h with
    | cons h1 h2 => rw [IsD.cell_inv h1, IsDs.cells_inv h2]; rfl
theorem isRow_inv {H : Hp} {v : V} {r : List (Option Int)} (h : IsD H v (rowD r)) : ∃ a, v = .ref a ∧ H a = some (.tup (r.map cellV)) := by
  obtain ⟨a, xs, e, h1, h2⟩ := h.tuple_inv
  rw [IsDs.cells_inv h2] at h1
  exact ⟨a, e, h1⟩
theorem isField_inv {H : Hp} {v : V} {F : List (List (Option Int))} (h : IsD H v (fieldD F)) : ∃ a xs, v = .ref a ∧ H a = some (.tup xs) ∧ IsDs H xs (F.map rowD) := h.tuple_inv
/-- field[i] -/
theorem isRows_get {H : Hp} {xs : List V} {F : List (List (Option Int))} {i : Nat} (h : IsDs H xs (F.map rowD)) (hi : i < F.length) : ∃ a, xs[i]? = some (.ref a) ∧ H a = some (.tup (F[i].map cellV)) := by
  obtain ⟨x, e1, e2⟩ := h.get (i := i) (d := rowD F[i]) (by simp [hi])
  obtain ⟨a, e3, e4⟩ := isRow_inv e2
  exact ⟨a, by rw [e1, e3], e4⟩
def CellOk (c : Option Int) : Prop := ∀ i, c = some i → -1000000000 ≤ i ∧ i ≤ 1000000000
structure FieldOk (F : List (List (Option Int))) (h w : Nat) : Prop where
  len : F.length = h
  h1 : 1 ≤ h
  h12 : h ≤ 12
  w1 : 1 ≤ w
  w12 : w ≤ 12
  row : ∀ r ∈ F, r.length = w
  cell : ∀ r ∈ F, ∀ c ∈ r, CellOk c
theorem atI_mem {α : Type} {xs : List α} {i : Int} (h0 : 0 ≤ i) (h1 : i < xs.length) : ∃ v, atI xs i = some v ∧ v ∈ xs := by
  obtain ⟨j, rfl⟩ := Int.eq_ofNat_of_zero_le h0
  have hj : j < xs.length := by omega
  exact ⟨xs[j], atI_nat (by simp [hj]), List.getElem_mem hj⟩
theorem canLay_cell (c : Option Int) : (cellD c).canLay0 = true := by cases c <;> rfl
theorem canLay_cells : ∀ r : List (Option Int), PyData.canLayAll0 (r.map cellD) = true
  | [] => rfl
  | c :: r => by rw [List.map_cons, PyData.canLayAll0, canLay_cell, canLay_cells r]; rfl
theorem canLay_row (r : List (Option Int)) : (rowD r).canLay0 = true := canLay_cells r
theorem depth_cell (c : Option Int) : (cellD c).depth = 0 := by cases c <;> rfl
theorem depth_cells : ∀ r : List (Option Int), PyData.depthAll (r.map cellD) = 0
  | [] => rfl
  | c :: r => by rw [List.map_cons, PyData.depthAll, depth_cell, depth_cells r]; rfl
theorem depth_row (r : List (Option Int)) : (rowD r).depth = 1 := by
  show PyData.depthAll (r.map cellD) + 1 = 1
  rw [depth_cells]
theorem eqv_cell (a b : Option Int) : PyData.eqv (cellD a) (cellD b) = decide (a = b) := by
  cases a with
  | none => cases b <;> rfl
  | some i =>
    cases b with
    | none => rfl
    | some j =>
      show (i == j) = decide (some i = some j)
      by_cases h : i = j
      · subst h; simp
      · have : ¬ (some i = some j) := fun e => h (Option.some.inj e)
        rw [decide_eq_false this]; simpa using h
theorem eqv_cells : ∀ a b : List (Option Int), PyData.eqvAll (a.map cellD) (b.map cellD) = decide (a = b)
  | [], [] => rfl
  | [], _ :: _ => rfl
  | _ :: _, [] => rfl
  | x :: a, y :: b => by
    rw [List.map_cons, List.map_cons, PyData.eqvAll, eqv_cell, eqv_cells a b]
    by_cases h1 : x = y
    · by_cases h2 : a = b
      · simp [h1, h2]
      · simp [h1, h2]
    · simp [h1]
theorem eqv_row (a b : List (Option Int)) : PyData.eqv (rowD a) (rowD b) = decide (a = b) := by
  show PyData.eqv (.tuple _) (.tuple _) = _
  rw [PyData.eqv]; exact eqv_cells a b
theorem cmp_row {u : Nat} (a b : List (Option Int)) : CmpD u (rowD a) (rowD b) := ⟨canLay_row a, canLay_row b, by rw [depth_row]; decide⟩
end L2

namespace L2
open PySem PySem.Spec PyProof.Rows
mutual
def plainD : PyData → Bool
  | .none | .int _ => true
  | .tuple ds => decide (ds.length ≤ 100000) && plainDs ds
  | _ => false
def plainDs : List PyData → Bool
  | [] => true
  | d :: ds => plainD d && plainDs ds
end
theorem plainDs_get : ∀ {ds : List PyData} {i : Nat} {d : PyData}, plainDs ds = true → ds[i]? = some d → plainD d = true
  | [], i, d, _, e => by simp at e
  | x :: ds, 0, d, h, e => by
    simp at e; subst e
    rw [plainDs, Bool.and_eq_true] at h
    exact h.1
  | x :: ds, i + 1, d, h, e => by
    rw [plainDs, Bool.and_eq_true] at h
    exact plainDs_get (i := i) h.2 (by simpa using e)
theorem depthAll_get : ∀ {ds : List PyData} {i : Nat} {d : PyData}, ds[i]? = some d → d.depth ≤ PyData.depthAll ds
  | [], i, d, e => by simp at e
  | x :: ds, 0, d, e => by
    simp at e; subst e
    rw [PyData.depthAll]; exact Nat.le_max_left _ _
  | x :: ds, i + 1, d, e => by
    rw [PyData.depthAll]
    exact Nat.le_trans (depthAll_get (i := i) (by simpa using e)) (Nat.le_max_right _ _)
theorem plain_cell (c : Option Int) : plainD (cellD c) = true := by cases c <;> rfl
theorem plain_cells : ∀ r : List (Option Int), plainDs (r.map cellD) = true
  | [] => rfl
  | c :: r => by rw [List.map_cons, plainDs, plain_cell, plain_cells r]; rfl
theorem plain_row {r : List (Option Int)} (h : r.length ≤ 100000) : plainD (rowD r) = true := by
  show (decide ((r.map cellD).length ≤ 100000) && plainDs (r.map cellD)) = true
  rw [plain_cells, List.length_map, decide_eq_true h]; rfl
end L2

namespace L2
open PySem PySem.Spec PyProof.Rows

inductive Rule where
  | there | near | turned | round | told (c : Option Int)
def ruleD : Rule → PyData
  | .there => .str "there"
  | .near => .str "near"
  | .turned => .str "turned"
  | .round => .str "round"
  | .told c => .tuple [.str "told", cellD c]
def led : Rule → Int → Int → Int
  | .near, p, n => min (max p 0) (n - 1)
  | .turned, p, n => min (p % (2 * n)) (2 * n - 1 - p % (2 * n))
  | _, p, n => p % n
theorem led_in (r : Rule) (p : Int) {n : Int} (h : 1 ≤ n) : 0 ≤ led r p n ∧ led r p n < n := by
  have a := Int.emod_nonneg p (show n ≠ 0 by omega)
  have b := Int.emod_lt_of_pos p (show 0 < n by omega)
  have c := Int.emod_nonneg p (show 2 * n ≠ 0 by omega)
  have d := Int.emod_lt_of_pos p (show 0 < 2 * n by omega)
  cases r <;> simp only [led] <;> omega
theorem led_id (r : Rule) {p n : Int} (h0 : 0 ≤ p) (h1 : p < n) : led r p n = p := by
  have a := Int.emod_eq_of_lt h0 h1
  have b := Int.emod_eq_of_lt h0 (show p < 2 * n by omega)
  cases r <;> simp only [led] <;> omega
/-- a place of the field -/
def cellAt (F : List (List (Option Int))) (i j : Int) : Option Int := ((F[i.toNat]?).bind fun r => r[j.toNat]?).join
def inF (F : List (List (Option Int))) (i j : Int) : Bool := decide (0 ≤ i) && decide (i < F.length) && (decide (0 ≤ j) && decide (j < (F.headD []).length))
def stands (F : List (List (Option Int))) (r : Rule) (i j : Int) : List (Option Int) :=
  if inF F i j then [cellAt F i j] else match r with
    | .there => []
    | .told c => [c]
    | r => [cellAt F (led r i F.length) (led r j (F.headD []).length)]
/-- a field of some size: rows all as long as the first -/
structure Rect (F : List (List (Option Int))) : Prop where
  h1 : 1 ≤ F.length
  hs : F.length ≤ 1000
  w1 : 1 ≤ (F.headD []).length
  ws : (F.headD []).length ≤ 1000
  row : ∀ r ∈ F, r.length = (F.headD []).length
theorem FieldOk.rect {F : List (List (Option Int))} {h w : Nat} (o : FieldOk F h w) : Rect F ∧ (F.headD []).length = w ∧ F.length = h := by
  obtain ⟨len, h1, h12, w1, w12, row, cell⟩ := o
  cases F with
  | nil => simp at len; omega
  | cons r F =>
    have e : r.length = w := row r List.mem_cons_self
    refine ⟨⟨by omega, by omega, ?_, ?_, ?_⟩, e, len⟩
    · show 1 ≤ r.length; omega
    · show r.length ≤ 1000; omega
    · intro r' hr'
      show r'.length = r.length
      rw [row r' hr', e]
/-- field[i][j] of a place in the field -/
theorem field_cell {H : Hp} {v : V} {F : List (List (Option Int))} (R : Rect F) (h : IsD H v (fieldD F)) {i j : Int} (i0 : 0 ≤ i) (i1 : i < F.length) (j0 : 0 ≤ j) (j1 : j < (F.headD []).length) :
    ∃ (a : Addr) (xs : List V) (b : Addr) (r : List (Option Int)), v = .ref a ∧ H a = some (.tup xs) ∧ atI xs i = some (.ref b) ∧ H b = some (.tup (r.map cellV)) ∧ atI (r.map cellV) j = some (cellV (cellAt F i j)) ∧ (r.map cellV).length = (F.headD []).length := by
  obtain ⟨a, xs, e, h1, h2⟩ := isField_inv h
  obtain ⟨i', rfl⟩ := Int.eq_ofNat_of_zero_le i0
  obtain ⟨j', rfl⟩ := Int.eq_ofNat_of_zero_le j0
  have hi : i' < F.length := by omega
  obtain ⟨b, e2, h3⟩ := isRows_get h2 hi
  have hw := R.row F[i'] (List.getElem_mem hi)
  have hj : j' < F[i'].length := by omega
  refine ⟨a, xs, b, F[i'], e, h1, atI_nat e2, h3, ?_, by rw [List.length_map]; exact hw⟩
  have e3 : cellAt F (i' : Int) (j' : Int) = F[i'][j'] := by
    unfold cellAt
    simp [hi, hj]
  rw [e3]
  exact atI_nat (by simp [hj])
/-- len(field), len(field[0]) -/
theorem field_sizes {H : Hp} {v : V} {F : List (List (Option Int))} (R : Rect F) (h : IsD H v (fieldD F)) :
    ∃ (a : Addr) (xs : List V) (b : Addr) (ys : List V), v = .ref a ∧ H a = some (.tup xs) ∧ xs.length = F.length ∧ atI xs 0 = some (.ref b) ∧ H b = some (.tup ys) ∧ ys.length = (F.headD []).length := by
  obtain ⟨a, xs, e, h1, h2⟩ := isField_inv h
  have hi : 0 < F.length := R.h1
  obtain ⟨b, e2, h3⟩ := isRows_get h2 hi
  refine ⟨a, xs, b, _, e, h1, by rw [h2.length, List.length_map], atI_nat e2, h3, ?_⟩
  rw [List.length_map]
  exact R.row _ (List.getElem_mem hi)
theorem rule_str {H : Hp} {v : V} {x : Str} (h : IsD H v (.str x)) : v = .str x := by cases h; rfl
end L2

namespace L2
open PySem PySem.Spec PyProof.Rows
theorem led_round (p n : Int) : led .round (p + n) n = led .round p n := by
  show (p + n) % n = p % n
  exact Int.add_emod_right p n
theorem led_round' (p n : Int) : led .round (p - n) n = led .round p n := by
  show (p - n) % n = p % n
  exact Int.sub_emod_right p n
theorem emod_neg1 (p : Int) {m : Int} (h : 0 < m) : (-1 - p) % m = m - 1 - p % m := by
  have e1 : -1 - p = (m - 1 - p % m) + m * (-1 - p / m) := by
    have := Int.mul_ediv_add_emod p m
    have e2 : m * (-1 - p / m) = -m - m * (p / m) := by rw [Int.mul_sub]; omega
    omega
  rw [e1, Int.add_mul_emod_self_left]
  have a := Int.emod_nonneg p (show m ≠ 0 by omega)
  have b := Int.emod_lt_of_pos p h
  exact Int.emod_eq_of_lt (by omega) (by omega)
theorem led_turned (p : Int) {n : Int} (h : 1 ≤ n) : led .turned (-1 - p) n = led .turned p n := by
  show min ((-1 - p) % (2 * n)) (2 * n - 1 - (-1 - p) % (2 * n)) = min (p % (2 * n)) (2 * n - 1 - p % (2 * n))
  rw [emod_neg1 p (by omega)]
  omega
theorem led_turned' (p : Int) {n : Int} (h : 1 ≤ n) : led .turned (2 * n - 1 - p) n = led .turned p n := by
  have e : 2 * n - 1 - p = (-1 - p) + 2 * n := by omega
  rw [← led_turned p h, e]
  show min (((-1 - p) + 2 * n) % (2 * n)) (2 * n - 1 - ((-1 - p) + 2 * n) % (2 * n)) = _
  rw [Int.add_emod_right]
  rfl
/-- what falls as one steps back -/
def stepM (n p : Int) : Nat := if p < 0 then (2 * (-p) + 2 * n).toNat else (2 * p + 1).toNat
theorem stands_len (F : List (List (Option Int))) (r : Rule) (i j : Int) : (stands F r i j).length ≤ 1 := by
  unfold stands
  split
  · exact Nat.le_refl _
  · split <;> simp
end L2

namespace L2
open PySem PySem.Spec PyProof.Rows
end L2

namespace L2
open PySem PySem.Spec PyProof.Rows
section
open PySem.AutoSeq1 PySem.MeetsSeq PySem.MeetsSeq2 PySem.MeetsSeq3
set_option maxHeartbeats 4000000 in
theorem extend_tuple_meets (l : Addr) (items : Array Value) (n : Nat) (b : Addr) (items2 : Array Value) (n2 : Nat) (dd : Option Addr) (sl : Array (Option Value)) (hs0 : ¬(!items.isEmpty && Builtin.List.listTooLong (items.size + items2.size)) = true) (hs1 : items.size ≤ sizeLine) (hs2 : items.size + items2.size ≤ sizeLine + 1) :
    Meets (Builtin.«list.extend» ⟨[.ref l, .ref b], []⟩) (fun _ R s => s.heap.get? l = some { cls := .type "list", dict := none, data := .seq items n, slots := #[] } ∧ s.heap.get? b = some { cls := .type "tuple", dict := dd, data := .seq items2 n2, slots := sl } ∧ R (.ok (.ret Value.none)) { s with heap := s.heap.update l (Obj.mapSeq fun x => x ++ items2), toks := s.toks }) :=
  .of_wp fun prog w A R s h => by
    obtain ⟨hp, g, d, tk, os⟩ := s; obtain ⟨hl, hb, h⟩ := h; have f1 := idx_int; have f2 := PySem.AutoSeq1.sub_tuple_tuple; have f3 := PySem.AutoSeq1.sub_list_list; have f4 := PySem.AutoSeq1.sub_tuple_list; have f5 := PySem.AutoSeq1.sub_list_tuple;
    have hz' : (items ++ items2).size ≤ sizeLine + 1 := by rw [Array.size_append]; exact hs2
    wp_walk using (wpAny_updateSeq hl rfl (hz := hs1) (_hz' := hz')), wpAny_loadPart' hl, wpAny_loadPart' hb; exact ⟨_, rfl, h⟩
end
section
variable {X : Cx}
def rExtendT : V → List V → Hp → VK → Prop := fun x vs H Q => ∃ l b xs zs, x = .ref l ∧ vs = [.ref b] ∧ H l = some (.lst xs) ∧ H b = some (.tup zs) ∧ xs.length + zs.length ≤ sizeLine ∧ Q .non (upd H l (.lst (xs ++ zs)))
theorem mt_extendT : MtM X "list.extend" rExtendT := by
  intro pins s σ H x vs v us Q I rx rv h
  obtain ⟨l, b, xs, zs, rfl, rfl, hH, hB, hz, q⟩ := h
  cases rx
  obtain ⟨u, rfl, ru⟩ := rv.one
  cases ru
  obtain ⟨z, its, n, r, hl, e⟩ := I.lstM hH
  obtain ⟨z2, its2, r2, ⟨oc, od, odt, osl⟩, e2, c2, n2, d2⟩ := (show ObjOk X.prog X.w H s.heap b (.tup zs) from I.hok b _ hB)
  simp only at c2 d2
  subst c2 d2
  have hl2 := r2.length
  have hsz : its.toArray.size + its2.toArray.size ≤ sizeLine := by rw [List.size_toArray, List.size_toArray]; omega
  have hlong : ¬ (!its.toArray.isEmpty && Builtin.List.listTooLong (its.toArray.size + its2.toArray.size)) = true := by
    rw [notLongL hsz, Bool.and_false]
    exact Bool.false_ne_true
  refine call_meets F.slot_list_extend ⟨_, e, rfl⟩ F.entry_list_extend (F.args_list_extend_2 _ _)
    (extend_tuple_meets l its.toArray n b its2.toArray n2 od osl hlong (by rw [List.size_toArray]; omega) (by omega)) ⟨e, e2, ?_⟩
  refine ⟨.non, _, I.lset (its' := its ++ its2) hH e (by simp) (r.append r2) ?_, rfl, q⟩
  rw [List.length_append]
  omega

def upInts (lo : Int) (n : Nat) : List V := (List.range n).map fun i => V.int (lo + (i : Nat))
theorem call_range2V : CallR X (.type "range") (fun xs H Q => ∃ i j : Int, xs = [.int i, .int j] ∧ ∀ p, H p = none → Q (.ref p) (upd H p (.rng i j))) := by
  intro pins s σ H xs us Q I r h
  obtain ⟨i, j, rfl, q⟩ := h
  obtain ⟨u, w', rfl, ⟨t, rfl⟩, ⟨t', rfl⟩⟩ := vals2 r
  refine call_range_2 ?_
  exact ⟨.ref s.heap.objs.size, _, I.laid (o := .rng i j) (fun b u e => Heap.get?_push_of_some _ e) (Nat.le_refl _) ⟨t, t', s.toks, Heap.get?_push_size _ rfl⟩, rfl, q _ (I.hok.fresh (Nat.le_refl _))⟩
theorem vals_up {lo : Int} : ∀ {n : Nat} {acc : List Value}, acc.length = n → (∀ (j : Nat) v, acc[j]? = some v → ∃ t, v = Value.int (lo + j * 1) t) → Vals (upInts lo n) acc := by
  intro n
  induction n with
  | zero => intro acc hl _; have e := List.length_eq_zero_iff.mp hl; subst e; exact .nil
  | succ n ih =>
    intro acc hl h
    obtain ⟨init, x, rfl⟩ : ∃ init x, acc = init ++ [x] := by
      have hne : acc ≠ [] := by intro e; rw [e] at hl; cases hl
      exact ⟨acc.dropLast, acc.getLast hne, (List.dropLast_concat_getLast hne).symm⟩
    have hli : init.length = n := by rw [List.length_append] at hl; simpa using hl
    have e1 : upInts lo (n + 1) = upInts lo n ++ [.int (lo + (n : Nat))] := by
      unfold upInts
      rw [List.range_succ, List.map_append]
      rfl
    rw [e1]
    refine (ih hli fun j v e => h j v ?_).append (.cons ?_ .nil)
    · rw [List.getElem?_append_left (List.getElem?_eq_some_iff.mp e).1]; exact e
    · obtain ⟨t, e⟩ := h n x (by rw [← hli]; simp)
      exact ⟨t, by rw [e, Int.mul_one]⟩
theorem upInts_len (lo : Int) (n : Nat) : (upInts lo n).length = n := by unfold upInts; rw [List.length_map, List.length_range]
theorem call_list_rng (hc : X.calm = true) : CallR X (.type "list") (fun xs H Q => ∃ (p : Addr) (i j : Int), xs = [.ref p] ∧ H p = some (.rng i j) ∧ (-(2 ^ 62) ≤ i ∧ i < 2 ^ 62 ∧ -(2 ^ 62) ≤ j ∧ j < 2 ^ 62) ∧ (j - i).toNat ≤ 2 ^ 20 ∧
    ∀ l, H l = none → Q (.ref l) (upd H l (.lst (upInts i (j - i).toNat)))) := by
  intro pins s σ H xs us Q I r h
  obtain ⟨p, i, j, rfl, hp, ⟨b1, b2, b3, b4⟩, hn, q⟩ := h
  obtain ⟨u, rfl, e⟩ := vals1 r
  obtain rfl : u = Value.ref p := e
  obtain ⟨t, u, v, hr⟩ := (show ObjOk X.prog X.w H s.heap p (.rng i j) from I.hok p _ hp)
  refine call_list_range (n := (j - i).toNat) (I.ok.hd hc) hr (small_one b1 b2 b3 b4) (by rw [rangeSize_one]; split <;> omega) (Nat.le_trans hn (by decide)) fun h' tk acc' c' hk hS hacc => ?_
  have hv : Vals (upInts i (j - i).toNat) acc'.toList := vals_up (by simpa using hacc.1) fun k v e => hacc.2 k v (by simpa using e)
  refine ⟨.ref s.heap.objs.size, _, I.laid (o := .lst (upInts i (j - i).toNat)) hk (Nat.le_refl _) ⟨by rw [upInts_len]; exact Nat.le_trans hn (by decide), acc'.toList, c', hv, by simpa using hS⟩, rfl, q _ (I.hok.fresh (Nat.le_refl _))⟩
end
end L2

namespace L2
open PySem PySem.Spec PyProof.Rows
def winD (u d l r : Nat) : PyData := .tuple [.int u, .int d, .int l, .int r]
theorem isWin_inv {H : Hp} {v : V} {u d l r : Nat} (h : IsD H v (winD u d l r)) : ∃ a, v = .ref a ∧ H a = some (.tup [.int u, .int d, .int l, .int r]) := by
  obtain ⟨a, xs, e, h1, h2⟩ := h.tuple_inv
  cases h2 with
  | cons a1 h2 => cases a1; cases h2 with
    | cons a2 h2 => cases a2; cases h2 with
      | cons a3 h2 => cases a3; cases h2 with
        | cons a4 h2 => cases a4; cases h2; exact ⟨a, e, h1⟩
theorem isWin {H : Hp} {a : Addr} {u d l r : Nat} (h : H a = some (.tup [.int u, .int d, .int l, .int r])) : IsD H (.ref a) (winD u d l r) := .tup h (.cons (.int _) (.cons (.int _) (.cons (.int _) (.cons (.int _) .nil))))
def rowCells (F : List (List (Option Int))) (ru : Rule) (l r : Nat) (row j : Int) : List (Option Int) := (List.range (l + r + 1)).flatMap fun b => stands F ru row (j - l + (b : Nat))
def wc (F : List (List (Option Int))) (ru : Rule) (u d l r : Nat) (i j : Int) : List (Option Int) := (List.range (u + d + 1)).flatMap fun a => rowCells F ru l r (i - u + (a : Nat)) j
theorem flatMap_succ {α : Type} (f : Nat → List α) (n : Nat) : (List.range (n + 1)).flatMap f = (List.range n).flatMap f ++ f n := by
  rw [List.range_succ, List.flatMap_append]
  simp
theorem flatMap_len {α : Type} (f : Nat → List α) {m : Nat} (h : ∀ k, (f k).length ≤ m) : ∀ n, ((List.range n).flatMap f).length ≤ n * m
  | 0 => by simp
  | n + 1 => by
    rw [flatMap_succ, List.length_append, Nat.succ_mul]
    exact Nat.add_le_add (flatMap_len f h n) (h n)
theorem rowCells_len (F : List (List (Option Int))) (ru : Rule) (l r : Nat) (row j : Int) : (rowCells F ru l r row j).length ≤ l + r + 1 := by
  have := flatMap_len (fun b => stands F ru row (j - l + (b : Nat))) (m := 1) (fun k => stands_len _ _ _ _) (l + r + 1)
  rw [Nat.mul_one] at this
  exact this
theorem wc_len (F : List (List (Option Int))) (ru : Rule) (u d l r : Nat) (i j : Int) : (wc F ru u d l r i j).length ≤ (u + d + 1) * (l + r + 1) :=
  flatMap_len _ (fun k => rowCells_len _ _ _ _ _ _) _
end L2

namespace L2
/-- place by place: the rows one after another -/
theorem flat_grid {α : Type} (f : Nat → Nat → List α) {m : Nat} (hm : 0 < m) : ∀ n : Nat, (List.range (n * m)).flatMap (fun p => f (p / m) (p % m)) = (List.range n).flatMap fun a => (List.range m).flatMap fun b => f a b
  | 0 => by simp
  | n + 1 => by
    have step : ∀ k, k ≤ m → (List.range (n * m + k)).flatMap (fun p => f (p / m) (p % m)) = (List.range (n * m)).flatMap (fun p => f (p / m) (p % m)) ++ (List.range k).flatMap fun b => f n b := by
      intro k
      induction k with
      | zero => intro _; simp
      | succ k ih =>
        intro hk
        have e1 : (n * m + k) / m = n := by rw [Nat.add_comm, Nat.mul_comm, Nat.add_mul_div_left _ _ hm, Nat.div_eq_of_lt (by omega)]; omega
        have e2 : (n * m + k) % m = k := by rw [Nat.add_comm, Nat.mul_comm, Nat.add_mul_mod_self_left, Nat.mod_eq_of_lt (by omega)]
        rw [← Nat.add_assoc, flatMap_succ, ih (by omega), flatMap_succ, e1, e2, List.append_assoc]
    rw [Nat.succ_mul, step m (Nat.le_refl _), flat_grid f hm n, flatMap_succ]
theorem wc_grid (F : List (List (Option Int))) (ru : Rule) (u d l r : Nat) (i j : Int) :
    wc F ru u d l r i j = (List.range ((u + d + 1) * (l + r + 1))).flatMap fun p => stands F ru (i - u + ((p / (l + r + 1) : Nat) : Int)) (j - l + ((p % (l + r + 1) : Nat) : Int)) :=
  (flat_grid (fun a b => stands F ru (i - u + (a : Nat)) (j - l + (b : Nat))) (by omega) (u + d + 1)).symm
end L2

namespace HT
open PySem PyProof.Rows
section
variable {prog : Program} {w : World} {A : Around} {E : Value → Shared → Prop} {s : Shared}
set_option maxHeartbeats 4000000 in
theorem getItem_tuple_whole {t sl : Addr} {items : Array Value} {vl vu : Value} {lo hi : Option Int} {Q : Value → Shared → Prop} (ht : IsTup s.heap t items) (hs : s.heap.IsSliceOf sl vl vu .none) (pl : IsPart vl lo) (pu : IsPart vu hi)
    (hw : sIx items.size 0 lo = 0 ∧ sIx items.size items.size hi = items.size) (h : Q (.ref t) s) : wpAny (model prog w) A (getItem (.ref t) (.ref sl)) Q E s := by
  obtain ⟨os, hos, hcs, hds⟩ := id hs
  have hTs : s.TypeIs (.ref sl) "slice" := ⟨os, hos, hcs⟩
  unfold getItem
  try with_reducible refine wpAny_holding ?_
  first | refine wpAny_bind (wpAny_pure ?_) | skip
  refine wpAny_bind (wpAny_sequenceKey ht.typeIs (by decide) ?_)
  refine wpAny_bind (wpAny_callSpecial?_slot (name := Str.ofString "__getitem__") ht.typeIs PyProof.Rows.slot_tuple_getitem
    (wpAny_call_entry PyProof.Rows.slot_tuple_getitem ht.typeIs entry_tuple_getitem ?_ (args_tuple_getitem _ _)))
  show wpAny _ _ (Builtin.Tuple.tupleItemsOf (.ref t) >>= _) _ _ s
  refine wpAny_bind (tupleItemsOf_ ht ?_)
  refine wpAny_bind (wpAny_typeOf hTs ?_)
  rw [if_pos (by decide)]
  refine wpAny_bind (sliceApplied_gen hs pl pu ?_)
  rw [hw.1, hw.2]
  show wpAny _ _ (if ((((0 : Nat) : Int) == 0 && (1 : Int) == 1 && (items.size - 0) == items.size) = true) then _ else _) _ _ s
  rw [if_pos (by simp)]
  refine wpAny_bind ?_
  unfold Builtin.Tuple.tupleIsExact
  refine wpAny_bind (wpAny_typeOf ht.typeIs (wpAny_pure ?_))
  rw [if_pos (by decide)]
  first
    | exact wpAny_bind (wpAny_rule (wpAny_bind (wpAny_pure (wpAny_pure ⟨_, rfl, wpAny_pure h⟩))))
    | exact wpAny_bind (wpAny_rule (wpAny_pure ⟨_, rfl, wpAny_pure h⟩))
    | exact wpAny_rule (wpAny_bind (wpAny_pure (wpAny_pure ⟨_, rfl, wpAny_pure h⟩)))
end
end HT
namespace L2
open PySem PySem.Spec PyProof.Rows
section
variable {X : Cx}
/-- t[lo:hi] of a tuple, whatever is cut -/
def rSlTA : V → Option Int → Option Int → Hp → VK → Prop := fun x lo hi H Q => ∃ a xs, x = .ref a ∧ H a = some (.tup xs) ∧ ∀ p H', Same H H' → H' p = some (.tup (cutV xs lo hi)) → Q (.ref p) H'
theorem sl_tupA : SlR X rSlTA := by
  intro pins s σ H x v vl vu lo hi sl Q I rx hs pl pu h
  obtain ⟨a, xs, rfl, hx, q⟩ := h
  by_cases hw : HT.sIx xs.length 0 lo = 0 ∧ HT.sIx xs.length xs.length hi = xs.length
  · cases rx
    obtain ⟨its, r, ht, hz⟩ := I.tuple (SqT.of hx)
    have hlen : its.toArray.size = xs.length := by rw [List.size_toArray]; exact r.length.symm
    refine ⟨"tuple", _, PyProof.Rows.slot_tuple_getitem.lookup, ht.typeIs, ?_⟩
    refine HT.getItem_tuple_whole ht hs pl pu (by rw [hlen]; exact hw) ⟨.ref a, H, I, rfl, q a H (Same.refl H) ?_⟩
    rw [hx]
    unfold cutV
    rw [hw.1, hw.2, List.drop_zero, Nat.sub_zero, List.take_of_length_le (Nat.le_refl _)]
  · exact sl_tup pins s σ H _ v vl vu lo hi sl Q I rx hs pl pu ⟨a, xs, rfl, SqT.of hx, hw, fun p hp => q p _ (same_upd hp) upd_same⟩
theorem sl_X {K : PySem.W.Frag} (h : X.K = K) : SlR X (fun x lo hi H Q => rSlL K x lo hi H Q ∨ rSlTA x lo hi H Q) := by subst h; exact sl_list.or sl_tupA
end
end L2

namespace L2
open PySem PySem.Spec PyProof.Rows

theorem IsDs.take {H : Hp} : ∀ {xs : List V} {ds : List PyData} (n : Nat), IsDs H xs ds → IsDs H (xs.take n) (ds.take n)
  | _, _, 0, _ => by rw [List.take_zero, List.take_zero]; exact .nil
  | _, _, _ + 1, .nil => .nil
  | _, _, n + 1, .cons h r => .cons h (IsDs.take n r)
theorem IsDs.drop {H : Hp} : ∀ {xs : List V} {ds : List PyData} (n : Nat), IsDs H xs ds → IsDs H (xs.drop n) (ds.drop n)
  | _, _, 0, h => h
  | _, _, _ + 1, .nil => .nil
  | _, _, n + 1, .cons _ r => IsDs.drop n r
def ownRow (l r : Nat) (j : Int) (row : List (Option Int)) : List (Option Int) := (row.drop (j - l).toNat).take ((j + r + 1).toNat - (j - l).toNat)
def own (F : List (List (Option Int))) (u d l r : Nat) (i j : Int) : List (Option Int) := ((F.drop (i - u).toNat).take ((i + d + 1).toNat - (i - u).toNat)).flatMap (ownRow l r j)
def laidRow (F : List (List (Option Int))) (ru : Rule) (m : Nat) (n : Nat) (i : Int) : List (Option Int) := (List.range n).flatMap fun b => stands F ru i (0 - m + (b : Nat))
def laid (F : List (List (Option Int))) (ru : Rule) (m : Nat) (n : Nat) : List (List (Option Int)) := (List.range n).map fun a => laidRow F ru m ((F.headD []).length + 2 * m) (0 - m + (a : Nat))
end L2

namespace L2
open PySem PySem.Spec PyProof.Rows
end L2

namespace HT
open PySem PyProof.Rows
end HT
namespace L2
open PySem PySem.Spec PyProof.Rows
end L2

namespace L2
open PySem PySem.Spec PyProof.Rows
end L2

namespace L2
def ups (lo : Int) (n : Nat) : List Int := (List.range n).map fun i => lo + (i : Nat)
def notIn (xs ys : List Int) : List Int := xs.filter fun x => !decide (x ∈ ys)
abbrev Area := List Int × List Int
def beyond (a o : Area) : Area := if a.1 = o.1 then (a.1, notIn a.2 o.2) else (notIn a.1 o.1, a.2)
/-- how many from lo to hi -/
def many (lo hi : Int) : Int := max 0 (hi - lo + 1)
def placeAt (w k : Nat) : Int × Int := (((k / w : Nat) : Int), ((if (k / w) % 2 = 1 then w - 1 - k % w else k % w : Nat) : Int))
def areaAt (u d l r w k : Nat) : Area := (ups ((placeAt w k).1 - u) (u + d + 1), ups ((placeAt w k).2 - l) (l + r + 1))
def oldAt (u d l r w : Nat) : Nat → Area
  | 0 => ([], [])
  | k + 1 => areaAt u d l r w k
end L2

namespace L2
open PySem PySem.Spec PyProof.Rows
def Seed (H : Hp) (d : Addr) : Prop := ∃ a b n c : Int, H d = some (.lst [.int a, .int b, .int n, .int c])
theorem Seed.keep {H H' : Hp} {d : Addr} (D : Seed H d) (h : Same H H') : Seed H' d := let ⟨a, b, n, c, e⟩ := D; ⟨a, b, n, c, h _ _ e⟩
theorem Seed.upd {H : Hp} {d p : Addr} {o : HO} (D : Seed H d) (hp : H p = none) : Seed (upd H p o) d := D.keep (same_upd hp)
theorem Seed.lst {H : Hp} {d : Addr} (D : Seed H d) : ∃ xs, H d = some (.lst xs) := let ⟨_, _, _, _, e⟩ := D; ⟨_, e⟩
theorem Seed.ne {H : Hp} {d p : Addr} (D : Seed H d) (hp : H p = none) : p ≠ d := by
  obtain ⟨xs, e⟩ := D.lst
  exact (ne_of_none e hp).symm
/-- an area, its lists other ones than what stands at x -/
def IsArea (x : Addr) (H : Hp) (v : V) (A : Area) : Prop := ∃ t a b, v = .ref t ∧ H t = some (.tup [.ref a, .ref b]) ∧ H a = some (.lst (A.1.map V.int)) ∧ H b = some (.lst (A.2.map V.int)) ∧ a ≠ x ∧ b ≠ x
theorem IsArea.same {x : Addr} {H H' : Hp} {v : V} {A : Area} (h : IsArea x H v A) (s : Same H H') : IsArea x H' v A :=
  let ⟨t, a, b, e, h1, h2, h3, n1, n2⟩ := h; ⟨t, a, b, e, s _ _ h1, s _ _ h2, s _ _ h3, n1, n2⟩
theorem IsArea.but {x : Addr} {H H' : Hp} {v : V} {A : Area} {xs : List V} (h : IsArea x H v A) (hx : H x = some (.lst xs)) (s : KeepBut x H H') : IsArea x H' v A :=
  let ⟨t, a, b, e, h1, h2, h3, n1, n2⟩ := h; ⟨t, a, b, e, s _ _ h1 (ne_of h1 hx fun z => by cases z), s _ _ h2 n1, s _ _ h3 n2, n1, n2⟩
def placeD (p : Int × Int) : PyData := .tuple [.int p.1, .int p.2]
/-- a step: the place, what comes in, what goes out -/
def IsStep (x : Addr) (u d l r w : Nat) (H : Hp) (v : V) (k : Nat) : Prop := ∃ t pv a b, v = .ref t ∧ H t = some (.tup [pv, a, b]) ∧ IsD H pv (placeD (placeAt w k)) ∧ IsArea x H a (beyond (areaAt u d l r w k) (oldAt u d l r w k)) ∧ IsArea x H b (beyond (oldAt u d l r w k) (areaAt u d l r w k))
theorem IsStep.same {x : Addr} {u d l r w k : Nat} {H H' : Hp} {v : V} (h : IsStep x u d l r w H v k) (s : Same H H') : IsStep x u d l r w H' v k :=
  let ⟨t, pv, a, b, e, h1, h2, h3, h4⟩ := h; ⟨t, pv, a, b, e, s _ _ h1, h2.keep s.tups, h3.same s, h4.same s⟩
theorem IsStep.but {x : Addr} {u d l r w k : Nat} {H H' : Hp} {v : V} {xs : List V} (h : IsStep x u d l r w H v k) (hx : H x = some (.lst xs)) (s : KeepBut x H H') : IsStep x u d l r w H' v k :=
  let ⟨t, pv, a, b, e, h1, h2, h3, h4⟩ := h; ⟨t, pv, a, b, e, s _ _ h1 (ne_of h1 hx fun z => by cases z), h2.keep (s.tups hx), h3.but hx s, h4.but hx s⟩
def IsSteps (x : Addr) (u d l r w : Nat) (H : Hp) (vs : List V) (n : Nat) : Prop := vs.length = n ∧ ∀ k, k < n → ∃ v, vs[k]? = some v ∧ IsStep x u d l r w H v k
theorem IsSteps.nil {x : Addr} {u d l r w : Nat} {H : Hp} : IsSteps x u d l r w H [] 0 := ⟨rfl, fun k hk => by omega⟩
theorem IsSteps.but {x : Addr} {u d l r w n : Nat} {H H' : Hp} {vs xs : List V} (h : IsSteps x u d l r w H vs n) (hx : H x = some (.lst xs)) (s : KeepBut x H H') : IsSteps x u d l r w H' vs n :=
  ⟨h.1, fun k hk => let ⟨v, e, z⟩ := h.2 k hk; ⟨v, e, z.but hx s⟩⟩
theorem IsSteps.same {x : Addr} {u d l r w n : Nat} {H H' : Hp} {vs : List V} (h : IsSteps x u d l r w H vs n) (s : Same H H') : IsSteps x u d l r w H' vs n :=
  ⟨h.1, fun k hk => let ⟨v, e, z⟩ := h.2 k hk; ⟨v, e, z.same s⟩⟩
theorem IsSteps.push {x : Addr} {u d l r w n : Nat} {H : Hp} {vs : List V} {v : V} (h : IsSteps x u d l r w H vs n) (hv : IsStep x u d l r w H v n) : IsSteps x u d l r w H (vs ++ [v]) (n + 1) := by
  refine ⟨by rw [List.length_append, h.1]; rfl, fun k hk => ?_⟩
  by_cases e : k < n
  · obtain ⟨v', e1, z⟩ := h.2 k e
    exact ⟨v', by rw [List.getElem?_append_left (by rw [h.1]; exact e)]; exact e1, z⟩
  · have : k = n := by omega
    subst this
    refine ⟨v, ?_, hv⟩
    rw [List.getElem?_append_right (by rw [h.1]; exact Nat.le_refl _), h.1, Nat.sub_self]
    rfl
theorem notIn_sub {xs ys : List Int} {z : Int} (h : z ∈ notIn xs ys) : z ∈ xs := (List.mem_filter.mp h).1
theorem notIn_len (xs ys : List Int) : (notIn xs ys).length ≤ xs.length := List.length_filter_le _ _
/-- small areas -/
def Small (A : Area) : Prop := A.1.length ≤ 1000 ∧ A.2.length ≤ 1000 ∧ (∀ z ∈ A.1, -1000 ≤ z ∧ z ≤ 1000) ∧ (∀ z ∈ A.2, -1000 ≤ z ∧ z ≤ 1000)
theorem Small.beyond {A B : Area} (h : Small A) : Small (beyond A B) := by
  obtain ⟨h1, h2, h3, h4⟩ := h
  unfold L2.beyond
  split
  · exact ⟨h1, Nat.le_trans (notIn_len _ _) h2, h3, fun z hz => h4 z (notIn_sub hz)⟩
  · exact ⟨Nat.le_trans (notIn_len _ _) h1, h2, fun z hz => h3 z (notIn_sub hz), h4⟩
theorem IsDs.reverse {H : Hp} {xs : List V} {ds : List PyData} (h : IsDs H xs ds) : IsDs H xs.reverse ds.reverse := by
  induction xs generalizing ds with
  | nil => cases h; exact .nil
  | cons x xs ih =>
    cases h with
    | cons h1 h2 =>
      rw [List.reverse_cons, List.reverse_cons]
      exact (ih h2).append (.cons h1 .nil)
end L2

namespace L2
open PySem PySem.Spec PyProof.Rows PySem.Builtin PySem.Builtin.Str
end L2

namespace L2
open PySem
end L2

namespace L2
open PySem PySem.Spec PyProof.Rows
end L2

namespace L2
open PySem PySem.Spec PyProof.Rows
end L2

set_option maxHeartbeats 2000000
namespace MwZip
open PySem PySem.Spec PyProof.Rows
section
variable {prog : Program} {w : World} {A : Around} {E : Value → Shared → Prop} {s : Shared}
/-- a pair of tuples walked together, k of each taken: z the zip, a the iterators' tuple, b its own tuple -/
structure Zp (h : Heap) (z a b u v p q : Addr) (f0 : Value) (k : Nat) (xs ys : Array Value) : Prop where
  hz : IsZip h z a b f0
  ha : IsPair h a (.ref u) (.ref v)
  hb : ∃ x y, IsPair h b x y
  hu : h.IsTupleIter u p k
  hv : h.IsTupleIter v q k
  hp : h.IsTuple p xs
  hq : h.IsTuple q ys
theorem Zp.frame {h h' : Heap} {z a b u v p q : Addr} {f0 : Value} {k : Nat} {xs ys : Array Value} (Z : Zp h z a b u v p q f0 k xs ys) (hk : ∀ c ∈ [z, a, b, u, v, p, q], ∀ o, h.get? c = some o → h'.get? c = some o) : Zp h' z a b u v p q f0 k xs ys :=
  ⟨hk z (by simp) _ Z.hz, hk a (by simp) _ Z.ha, let ⟨x, y, e⟩ := Z.hb; ⟨x, y, hk b (by simp) _ e⟩, Z.hu.at fun o e => hk u (by simp) o e, Z.hv.at fun o e => hk v (by simp) o e, Z.hp.at fun o e => hk p (by simp) o e, Z.hq.at fun o e => hk q (by simp) o e⟩
end
end MwZip
namespace L2
open PySem PySem.Spec PyProof.Rows
end L2

set_option maxHeartbeats 2000000
namespace MwSort
open PySem PyProof.Rows
end MwSort

namespace MwSort
open PySem PyProof.Rows
def kf (p : Keyed) : Int := numOf p.1
def Rise (l : List Keyed) : Prop := l.Pairwise (fun x y => kf x ≤ kf y)
def Ahead (l r : List Keyed) : Prop := ∀ x ∈ l, ∀ y ∈ r, kf x ≤ kf y
theorem Rise.append {l r : List Keyed} (h1 : Rise l) (h2 : Rise r) (h : Ahead l r) : Rise (l ++ r) := List.pairwise_append.mpr ⟨h1, h2, h⟩
theorem Rise.sub {l r : List Keyed} (h : Rise r) (s : l.Sublist r) : Rise l := h.sublist s
/-- of a and b the first ia and ib are out -/
structure MI (a b out : List Keyed) (ia ib : Nat) : Prop where
  perm : out.Perm (a.take ia ++ b.take ib)
  rise : Rise out
  ahA : Ahead out (a.drop ia)
  ahB : Ahead out (b.drop ib)
/-- k of b on: none of them greater than what is left of a -/
theorem MI.moreB {a b out : List Keyed} {ia ib k : Nat} (h : MI a b out ia ib) (hb : Rise b) (hk : ib + k ≤ b.length) (hx : Ahead ((b.drop ib).take k) (a.drop ia)) : MI a b (out ++ (b.drop ib).take k) ia (ib + k) := by
  have e : b.drop ib = (b.drop ib).take k ++ b.drop (ib + k) := by rw [← List.drop_drop, List.take_append_drop]
  have r : Rise ((b.drop ib).take k ++ b.drop (ib + k)) := by rw [← e]; exact hb.sub (List.drop_sublist _ _)
  have c := List.pairwise_append.mp r
  refine ⟨?_, h.rise.append c.1 fun x hx y hy => h.ahB x hx y (List.mem_of_mem_take hy), fun x hx' y hy => ?_, fun x hx' y hy => ?_⟩
  · rw [List.take_add]
    have := h.perm.append_right ((b.drop ib).take k)
    rwa [List.append_assoc] at this
  · rcases List.mem_append.mp hx' with z | z
    · exact h.ahA x z y hy
    · exact hx x z y hy
  · rcases List.mem_append.mp hx' with z | z
    · exact h.ahB x z y (by rw [e]; exact List.mem_append_right _ hy)
    · exact c.2.2 x z y hy
theorem MI.swap {a b out : List Keyed} {ia ib : Nat} (h : MI a b out ia ib) : MI b a out ib ia := ⟨h.perm.trans List.perm_append_comm, h.rise, h.ahB, h.ahA⟩
theorem MI.moreA {a b out : List Keyed} {ia ib k : Nat} (h : MI a b out ia ib) (ha : Rise a) (hk : ia + k ≤ a.length) (hx : Ahead ((a.drop ia).take k) (b.drop ib)) : MI a b (out ++ (a.drop ia).take k) (ia + k) ib := (h.swap.moreB ha hk hx).swap
/-- all is out -/
theorem MI.fin {a b out : List Keyed} (h : MI a b out a.length b.length) : out.Perm (a ++ b) ∧ Rise out := by
  refine ⟨?_, h.rise⟩
  have := h.perm
  rwa [List.take_length, List.take_length] at this
/-- the rest of a, none of b left -/
theorem MI.restA {a b out : List Keyed} {ia : Nat} (h : MI a b out ia b.length) (ha : Rise a) (hi : ia ≤ a.length) : (out ++ a.drop ia).Perm (a ++ b) ∧ Rise (out ++ a.drop ia) := by
  have m := h.moreA (k := a.length - ia) ha (by omega) (by rw [List.drop_length]; exact fun x _ y hy => absurd hy (by simp))
  have e : (a.drop ia).take (a.length - ia) = a.drop ia := List.take_of_length_le (by rw [List.length_drop]; exact Nat.le_refl _)
  rw [e, show ia + (a.length - ia) = a.length by omega] at m
  exact m.fin
/-- none of a left, the rest of b -/
theorem MI.restB {a b out : List Keyed} {ib : Nat} (h : MI a b out a.length ib) (hb : Rise b) (hi : ib ≤ b.length) : (out ++ b.drop ib).Perm (a ++ b) ∧ Rise (out ++ b.drop ib) := by
  have := h.swap.restA hb hi
  exact ⟨this.1.trans List.perm_append_comm, this.2⟩
theorem MI.nil {a b : List Keyed} : MI a b [] 0 0 := ⟨by simp, List.Pairwise.nil, fun x hx => absurd hx (by simp), fun x hx => absurd hx (by simp)⟩
theorem MI.len {a b out : List Keyed} {ia ib : Nat} (h : MI a b out ia ib) (h1 : ia ≤ a.length) (h2 : ib ≤ b.length) : out.length = ia + ib := by
  have := h.perm.length_eq
  rw [List.length_append, List.length_take, List.length_take] at this
  omega
theorem mem_first {l : List Keyed} {x : Keyed} {i : Nat} (h : x ∈ l.take i) : ∃ n, ∃ _ : n < l.length, n < i ∧ l[n] = x := by
  obtain ⟨m, hm, e⟩ := List.mem_iff_getElem.mp h
  rw [List.length_take] at hm
  refine ⟨m, by omega, by omega, ?_⟩
  rw [List.getElem_take] at e
  exact e
theorem kf_at {a : Array Keyed} {n : Nat} (h : n < a.toList.length) : kf a.toList[n] = K a n := by
  unfold kf K
  rw [getElem?_pos a n (by simpa using h)]
  simp
theorem riseK {a : Array Keyed} (h : Rise a.toList) {i j : Nat} (hij : i ≤ j) (hj : j < a.size) : K a i ≤ K a j := by
  rcases Nat.lt_or_ge i j with z | z
  · have := (List.pairwise_iff_getElem.mp h) i j (by simp; omega) (by simpa using hj) z
    rwa [kf_at, kf_at] at this
  · have : i = j := by omega
    rw [this]; exact Int.le_refl _
structure MH (a b out : List Keyed) (na nb : Nat) : Prop where
  perm : out.Perm (a.drop na ++ b.drop nb)
  rise : Rise out.reverse
  ahA : Ahead (a.take na) out
  ahB : Ahead (b.take nb) out
theorem MH.swap {a b out : List Keyed} {na nb : Nat} (h : MH a b out na nb) : MH b a out nb na := ⟨h.perm.trans List.perm_append_comm, h.rise, h.ahB, h.ahA⟩
theorem MH.nil {a b : List Keyed} : MH a b [] a.length b.length := ⟨by simp, List.Pairwise.nil, fun x _ y hy => absurd hy (by simp), fun x _ y hy => absurd hy (by simp)⟩
theorem seg_split {l : List Keyed} {i j : Nat} (h : i ≤ j) : l.drop i = (l.drop i).take (j - i) ++ l.drop j := by
  have e : l.drop j = (l.drop i).drop (j - i) := by rw [List.drop_drop]; congr 1; omega
  rw [e, List.take_append_drop]
theorem first_split {l : List Keyed} {i j : Nat} (h : i ≤ j) : l.take j = l.take i ++ (l.drop i).take (j - i) := by
  have : j = i + (j - i) := by omega
  rw [this, List.take_add]
  congr 3
theorem MH.moreA {a b out : List Keyed} {na nb p : Nat} (h : MH a b out na nb) (ha : Rise a) (hp : p ≤ na) (hx : Ahead (b.take nb) ((a.drop p).take (na - p))) : MH a b (out ++ ((a.drop p).take (na - p)).reverse) p nb := by
  have e1 := seg_split (l := a) hp
  have e2 := first_split (l := a) hp
  have r1 : Rise (a.take p ++ (a.drop p).take (na - p)) := by rw [← e2]; exact ha.sub (List.take_sublist _ _)
  have c := List.pairwise_append.mp r1
  have hA : Ahead ((a.drop p).take (na - p)) out := fun x hx' y hy => h.ahA x (by rw [e2]; exact List.mem_append_right _ hx') y hy
  refine ⟨?_, ?_, fun x hx' y hy => ?_, fun x hx' y hy => ?_⟩
  · have e3 : a.drop p ++ b.drop nb = (a.drop p).take (na - p) ++ (a.drop na ++ b.drop nb) := by rw [← List.append_assoc, ← e1]
    rw [e3]
    refine (h.perm.append_right _).trans ?_
    refine ((List.reverse_perm _).append_left _).trans ?_
    exact List.perm_append_comm
  · rw [List.reverse_append, List.reverse_reverse]
    refine Rise.append c.2.1 h.rise fun x hx' y hy => hA x hx' y (List.mem_reverse.mp hy)
  · rcases List.mem_append.mp hy with z | z
    · exact h.ahA x (by rw [e2]; exact List.mem_append_left _ hx') y z
    · exact c.2.2 x hx' y (List.mem_reverse.mp z)
  · rcases List.mem_append.mp hy with z | z
    · exact h.ahB x hx' y z
    · exact hx x hx' y (List.mem_reverse.mp z)
theorem MH.moreB {a b out : List Keyed} {na nb p : Nat} (h : MH a b out na nb) (hb : Rise b) (hp : p ≤ nb) (hx : Ahead (a.take na) ((b.drop p).take (nb - p))) : MH a b (out ++ ((b.drop p).take (nb - p)).reverse) na p := (h.swap.moreA hb hp hx).swap
theorem MH.fin {a b out : List Keyed} (h : MH a b out 0 0) : out.reverse.Perm (a ++ b) ∧ Rise out.reverse := ⟨(List.reverse_perm _).trans (by simpa using h.perm), h.rise⟩
theorem MH.restB {a b out : List Keyed} {nb : Nat} (h : MH a b out 0 nb) (hb : Rise b) (hi : nb ≤ b.length) : (b.take nb ++ out.reverse).Perm (a ++ b) ∧ Rise (b.take nb ++ out.reverse) := by
  have m := h.moreB (p := 0) hb (by omega) (fun x hx => absurd hx (by simp))
  have := m.fin
  simpa using this
theorem MH.restA {a b out : List Keyed} {na : Nat} (h : MH a b out na 0) (ha : Rise a) (hi : na ≤ a.length) : (a.take na ++ out.reverse).Perm (a ++ b) ∧ Rise (a.take na ++ out.reverse) := by
  have m := h.moreA (p := 0) ha (by omega) (fun x hx => absurd hx (by simp))
  have := m.fin
  simpa using this
theorem MH.firstB {a b out : List Keyed} {na nb : Nat} (h : MH a b out na nb) (ha : Rise a) (hb : Rise b) (hi : na ≤ a.length) (hj : nb ≤ b.length) (hx : Ahead (b.take nb) (a.take na)) :
    (b.take nb ++ a.take na ++ out.reverse).Perm (a ++ b) ∧ Rise (b.take nb ++ a.take na ++ out.reverse) := by
  have m := h.moreA (p := 0) ha (by omega) (by simpa using hx)
  have := m.restB hb hj
  simpa using this
end MwSort

set_option maxHeartbeats 2000000
namespace MwSort
open PySem PyProof.Rows
abbrev LoG := Option (Array Keyed) × Array Keyed × Nat × Nat × Nat × Nat × Nat
theorem bindC {α β : Type} {x y : StateT SortSt Sem α} {f g : α → StateT SortSt Sem β} (h1 : x = y) (h2 : ∀ c, f c = g c) : (x >>= f) = (y >>= g) := by rw [h1, funext h2]
structure Two (a b : Array Keyed) : Prop where
  ia : IntKeys a
  ib : IntKeys b
  ra : Rise a.toList
  rb : Rise b.toList
  na : 1 ≤ a.size
  nb : 1 ≤ b.size
  h0 : K b 0 < K a 0
  hl : K b (b.size - 1) < K a (a.size - 1)
def Stay (st st' : SortSt) : Prop := kindOf st' = kindOf st ∧ arrOf st' = arrOf st ∧ pendingOf st' = pendingOf st ∧ failedOf st' = failedOf st
theorem Stay.rfl {st : SortSt} : Stay st st := ⟨_root_.rfl, _root_.rfl, _root_.rfl, _root_.rfl⟩
theorem Stay.kind {st st' : SortSt} (h : Stay st st') (k : kindOf st = oneType') : kindOf st' = oneType' := h.1.trans k
def Merged (a b r : Array Keyed) : Prop := r.toList.Perm (a.toList ++ b.toList) ∧ Rise r.toList
abbrev MA (a b out : Array Keyed) (ia ib : Nat) : Prop := MI a.toList b.toList out.toList ia ib
theorem Two.first {a b : Array Keyed} (T : Two a b) {i : Nat} (hi : i < a.size) : K b 0 < K a i := Int.lt_of_lt_of_le T.h0 (riseK T.ra (Nat.zero_le i) hi)
theorem MA.swap {a b out : Array Keyed} {ia ib : Nat} (h : MA a b out ia ib) : MA b a out ib ia := MI.swap h
theorem MA.size {a b out : Array Keyed} {ia ib : Nat} (h : MA a b out ia ib) (h1 : ia ≤ a.size) (h2 : ib ≤ b.size) : out.size = ia + ib := by
  have := MI.len h (by simpa using h1) (by simpa using h2)
  simpa using this
section
variable {prog : Program} {w : World} {A : Around} {E : Value → Shared → Prop} {s : Shared}
def OkG (a b : Array Keyed) (n : Nat) (st₀ : SortSt) (c : LoG) (st : SortSt) : Prop := Stay st₀ st ∧ ((∃ r, c.1 = some r ∧ Merged a b r) ∨ (c.1 = none ∧ MA a b c.2.1 c.2.2.1 c.2.2.2.1 ∧ c.2.2.1 + 1 < a.size ∧ c.2.2.2.1 < b.size ∧ n ≤ c.2.2.1 + c.2.2.2.1))
abbrev PG (a b : Array Keyed) (n : Nat) (st₀ : SortSt) (r : ForInStep LoG) (st' : SortSt) : Prop := match r with | .done c => OkG a b n st₀ c st' | .yield c => c.1 = none ∧ OkG a b n st₀ c st'
end
end MwSort

set_option maxHeartbeats 2000000
namespace MwSort
open PySem PyProof.Rows
def gFirst (a b out : Array Keyed) (na nb : Nat) : Array Keyed := b.extract 0 nb ++ a.extract 0 na ++ out.reverse
abbrev MB (a b out : Array Keyed) (na nb : Nat) : Prop := MH a.toList b.toList out.toList na nb
theorem MB.swap {a b out : Array Keyed} {na nb : Nat} (h : MB a b out na nb) : MB b a out nb na := MH.swap h
theorem ext_first (a : Array Keyed) (i : Nat) : (a.extract 0 i).toList = a.toList.take i := by
  rw [Array.toList_extract, List.extract_eq_take_drop]
  simp
theorem MB.first {a b out : Array Keyed} {na nb : Nat} (T : Two a b) (h : MB a b out na nb) (e : nb = 1) (hi : na ≤ a.size) : Merged a b (gFirst a b out na nb) := by
  unfold Merged gFirst
  rw [Array.toList_append, Array.toList_append, ext_first, ext_first, Array.toList_reverse]
  have hnb := T.nb
  refine MH.firstB h T.ra T.rb (by simpa using hi) (by simp; omega) fun x hx y hy => ?_
  obtain ⟨n, hn, n1, rfl⟩ := mem_first hx
  obtain ⟨m, hm, m1, rfl⟩ := mem_first hy
  rw [kf_at, kf_at]
  have : n = 0 := by omega
  rw [this]
  exact Int.le_of_lt (T.first (by simpa using hm))
section
variable {prog : Program} {w : World} {A : Around} {E : Value → Shared → Prop} {s : Shared}
def Left (a b : Array Keyed) (n : Nat) (out : Array Keyed) (na nb : Nat) : Prop := MB a b out na nb ∧ 1 ≤ na ∧ na ≤ a.size ∧ 2 ≤ nb ∧ nb ≤ b.size ∧ na + nb + n ≤ a.size + b.size
theorem Left.le {a b : Array Keyed} {n m : Nat} {out : Array Keyed} {na nb : Nat} (h : Left a b n out na nb) (hm : m ≤ n) : Left a b m out na nb := ⟨h.1, h.2.1, h.2.2.1, h.2.2.2.1, h.2.2.2.2.1, by have := h.2.2.2.2.2; omega⟩
end
end MwSort

set_option maxHeartbeats 2000000
namespace MwSort
open PySem PyProof.Rows
def Up (xs : Array Keyed) (i j : Nat) : Prop := ∀ p q, i ≤ p → p ≤ q → q < j → K xs p ≤ K xs q
end MwSort

set_option maxHeartbeats 2000000
namespace MwSort
open PySem PyProof.Rows
/-- from st to st': sorted about from lo on -/
structure Moved (lo : Nat) (st st' : SortSt) : Prop where
  kind : kindOf st' = kindOf st
  failed : failedOf st' = failedOf st
  pend : pendingOf st' = pendingOf st
  perm : (arrOf st').Perm (arrOf st)
  out : ∀ k, k < lo → K (arrOf st') k = K (arrOf st) k
theorem Moved.rfl {lo : Nat} {st : SortSt} : Moved lo st st := ⟨_root_.rfl, _root_.rfl, _root_.rfl, Array.Perm.refl _, fun _ _ => _root_.rfl⟩
theorem Moved.trans {lo : Nat} {a b c : SortSt} (h : Moved lo a b) (g : Moved lo b c) : Moved lo a c := ⟨g.kind.trans h.kind, g.failed.trans h.failed, g.pend.trans h.pend, g.perm.trans h.perm, fun k hk => (g.out k hk).trans (h.out k hk)⟩
theorem Moved.size {lo : Nat} {st st' : SortSt} (h : Moved lo st st') : (arrOf st').size = (arrOf st).size := h.perm.size_eq
def Dn (xs : Array Keyed) (i j : Nat) : Prop := ∀ p q, i ≤ p → p ≤ q → q < j → K xs q ≤ K xs p
theorem Up.more {xs : Array Keyed} {i j : Nat} (h : Up xs i j) (hj : i < j) (hx : K xs (j - 1) ≤ K xs j) : Up xs i (j + 1) := fun p q h1 h2 h3 => by
  rcases Nat.lt_or_ge q j with z | z
  · exact h p q h1 h2 z
  · have : q = j := by omega
    subst this
    rcases Nat.lt_or_ge p q with z2 | z2
    · exact Int.le_trans (h p (q - 1) h1 (by omega) (by omega)) hx
    · have : p = q := by omega
      rw [this]; exact Int.le_refl _
theorem Dn.more {xs : Array Keyed} {i j : Nat} (h : Dn xs i j) (hj : i < j) (hx : K xs j ≤ K xs (j - 1)) : Dn xs i (j + 1) := fun p q h1 h2 h3 => by
  rcases Nat.lt_or_ge q j with z | z
  · exact h p q h1 h2 z
  · have : q = j := by omega
    subst this
    rcases Nat.lt_or_ge p q with z2 | z2
    · exact Int.le_trans hx (h p (q - 1) h1 (by omega) (by omega))
    · have : p = q := by omega
      rw [this]; exact Int.le_refl _
theorem Up.one (xs : Array Keyed) (i : Nat) : Up xs i (i + 1) := fun p q h1 h2 h3 => by
  have : p = q := by omega
  rw [this]; exact Int.le_refl _
end MwSort

set_option maxHeartbeats 2000000
namespace MwSort
open PySem PyProof.Rows
/-- runs side by side, from s to e -/
def Runs (xs : Array Keyed) : Nat → List (Nat × Nat × Nat) → Nat → Prop
  | s, [], e => s = e
  | s, c :: l, e => c.1 = s ∧ 1 ≤ c.2.1 ∧ Up xs s (s + c.2.1) ∧ Runs xs (s + c.2.1) l e
theorem Runs.le {xs : Array Keyed} : ∀ {l : List (Nat × Nat × Nat)} {s e : Nat}, Runs xs s l e → s + l.length ≤ e
  | [], s, e, h => by have : s = e := h; simp [this]
  | c :: l, s, e, h => by
    have := Runs.le h.2.2.2
    have h1 := h.2.1
    rw [List.length_cons]
    omega
theorem Up.congr {xs ys : Array Keyed} {i j : Nat} (h : ∀ k, i ≤ k → k < j → K ys k = K xs k) (u : Up xs i j) : Up ys i j := fun p q h1 h2 h3 => by
  rw [h p h1 (by omega), h q (by omega) h3]; exact u p q h1 h2 h3
theorem Runs.congr {xs ys : Array Keyed} : ∀ {l : List (Nat × Nat × Nat)} {s e : Nat}, (∀ k, s ≤ k → k < e → K ys k = K xs k) → Runs xs s l e → Runs ys s l e
  | [], s, e, _, r => r
  | c :: l, s, e, h, r => by
    have := Runs.le r.2.2.2
    exact ⟨r.1, r.2.1, r.2.2.1.congr fun k h1 h2 => h k h1 (by omega), Runs.congr (fun k h1 h2 => h k (by omega) h2) r.2.2.2⟩
theorem Runs.push {xs : Array Keyed} {n q : Nat} : ∀ {l : List (Nat × Nat × Nat)} {s e : Nat}, Runs xs s l e → 1 ≤ n → Up xs e (e + n) → Runs xs s (l ++ [(e, n, q)]) (e + n)
  | [], s, e, r, h, u => by
    have : s = e := r
    subst this
    exact ⟨rfl, h, u, rfl⟩
  | c :: l, s, e, r, h, u => ⟨r.1, r.2.1, r.2.2.1, Runs.push r.2.2.2 h u⟩
theorem Runs.mod {xs : Array Keyed} (f : Nat × Nat × Nat → Nat × Nat × Nat) (hf : ∀ c, (f c).1 = c.1 ∧ (f c).2.1 = c.2.1) : ∀ {l : List (Nat × Nat × Nat)} {i s e : Nat}, Runs xs s l e → Runs xs s (l.modify i f) e
  | [], i, s, e, r => by cases i <;> exact r
  | c :: l, 0, s, e, r => by
    show (f c).1 = s ∧ 1 ≤ (f c).2.1 ∧ Up xs s (s + (f c).2.1) ∧ Runs xs (s + (f c).2.1) l e
    rw [(hf c).1, (hf c).2]
    exact r
  | c :: l, i + 1, s, e, r => ⟨r.1, r.2.1, r.2.2.1, Runs.mod f hf r.2.2.2⟩
theorem Runs.two {xs : Array Keyed} : ∀ {l : List (Nat × Nat × Nat)} {i s e : Nat}, Runs xs s l e → i + 1 < l.length →
    ∃ p m pw n pw2, l[i]? = some (p, m, pw) ∧ l[i + 1]? = some (p + m, n, pw2) ∧ 1 ≤ m ∧ 1 ≤ n ∧ s ≤ p ∧ p + m + n ≤ e ∧ Up xs p (p + m) ∧ Up xs (p + m) (p + m + n) ∧
      ∀ ys, (∀ k, k < p ∨ p + m + n ≤ k → K ys k = K xs k) → Up ys p (p + m + n) → Runs ys s ((l.set i (p, m + n, pw)).eraseIdx (i + 1)) e
  | [], i, s, e, r, h => by simp at h
  | [c], 0, s, e, r, h => by simp at h
  | (p, m, pw) :: (q, n, pw2) :: l, 0, s, e, r, h => by
    obtain ⟨h1, h2, h3, h4, h5, h6, h7⟩ := r
    dsimp only at h1 h2 h3 h4 h5 h6 h7
    subst h1
    have := Runs.le h7
    refine ⟨p, m, pw, n, pw2, rfl, by rw [← h4]; rfl, h2, h5, Nat.le_refl _, by omega, h3, h6, fun ys hy hu => ?_⟩
    show p = p ∧ 1 ≤ m + n ∧ Up ys p (p + (m + n)) ∧ Runs ys (p + (m + n)) l e
    rw [← Nat.add_assoc]
    exact ⟨rfl, by omega, hu, h7.congr fun k a b => hy k (.inr a)⟩
  | c :: l, i + 1, s, e, r, h => by
    obtain ⟨p, m, pw, n, pw2, g1, g2, g3, g4, g5, g6, g7, g8, g9⟩ := Runs.two (i := i) r.2.2.2 (by simpa using h)
    refine ⟨p, m, pw, n, pw2, by simpa using g1, by simpa using g2, g3, g4, by omega, g6, g7, g8, fun ys hy hu => ?_⟩
    exact ⟨r.1, r.2.1, r.2.2.1.congr fun k a b => hy k (.inl (by omega)), g9 ys hy hu⟩
end MwSort

set_option maxHeartbeats 2000000
namespace MwSort
open PySem PyProof.Rows
end MwSort

set_option maxHeartbeats 2000000
namespace MwSet
open PySem
def Rs (xs : Array Nat) : Prop := xs.toList.Pairwise (· < ·)
theorem Rs.lt {xs : Array Nat} (h : Rs xs) {i k j : Nat} (hik : i < k) (hk : k < xs.size) : xs.getD i j < xs.getD k j := by
  have := (List.pairwise_iff_getElem.mp h) i k (by simp; omega) (by simpa using hk) hik
  have hi : i < xs.size := by omega
  simpa [Array.getD, hi, hk] using this
theorem Rs.le {xs : Array Nat} (h : Rs xs) {i k j : Nat} (hik : i ≤ k) (hk : k < xs.size) : xs.getD i j ≤ xs.getD k j := by
  rcases Nat.lt_or_ge i k with z | z
  · exact Nat.le_of_lt (h.lt z hk)
  · have : i = k := by omega
    rw [this]; exact Nat.le_refl _
/-- the table's part of what a set of whole numbers keeps -/
structure TabOk (byText : Bool) (t : SetTable) : Prop where
  led : t.led = !byText
  rs : t.plain = true → Rs t.place
end MwSet

set_option maxHeartbeats 2000000
namespace MwSet
open PySem PyProof.Rows
def byT (w : World) : Bool := w.params.followText "set-order"
abbrev setObj (es : Array (Int × Value)) (ep : Nat) (t : SetTable) : Obj := { cls := .type "set", dict := none, data := .set es ep t, slots := #[] }
def nums (es : Array (Int × Value)) : List Int := es.toList.map fun e => numOf e.2
def IntEl (es : Array (Int × Value)) : Prop := ∀ e ∈ es.toList, ∃ k u, e = (hashInt k, Value.int k u)
/-- a set of whole numbers, known by its members -/
def SetG (w : World) (h : Heap) (a : Addr) (ks : List Int) : Prop :=
  ∃ es ep t, h.get? a = some (setObj es ep t) ∧ IntEl es ∧ (nums es).Perm ks ∧ ks.Nodup ∧ es.size < scanBound ∧ t.fits es.size = true ∧ TabOk (byT w) t
theorem SetG.at {w : World} {h h' : Heap} {a : Addr} {ks : List Int} (S : SetG w h a ks) (k : ∀ o, h.get? a = some o → h'.get? a = some o) : SetG w h' a ks := let ⟨es, ep, t, e, r⟩ := S; ⟨es, ep, t, k _ e, r⟩
end MwSet

set_option maxHeartbeats 3200000
namespace MwSet
open PySem PySem.Spec PyProof.Rows
end MwSet

set_option maxHeartbeats 3200000
namespace MwSet
open PySem PySem.Spec PyProof.Rows
end MwSet

set_option maxHeartbeats 3200000
namespace MwSet
open PySem PySem.Spec PyProof.Rows
end MwSet

namespace L2
open PySem PySem.Spec PyProof.Rows
def sortI (ns : List Int) : List Int := ns.mergeSort fun a b => decide (a ≤ b)
theorem sortI_perm (ns : List Int) : (sortI ns).Perm ns := List.mergeSort_perm _ _
theorem sortI_rise (ns : List Int) : (sortI ns).Pairwise (· ≤ ·) := by
  have := List.pairwise_mergeSort (le := fun a b : Int => decide (a ≤ b)) (fun a b c h1 h2 => by simp at h1 h2 ⊢; omega) (fun a b => by simp; omega) ns
  exact this.imp fun {a b} h => by simpa using h
theorem sortI_len (ns : List Int) : (sortI ns).length = ns.length := (sortI_perm ns).length_eq
theorem rise_eq {a b : List Int} (hp : a.Perm b) (ha : a.Pairwise (· ≤ ·)) (hb : b.Pairwise (· ≤ ·)) : a = b := PySem.W.ksm_same hp ha hb
theorem sortI_eq {ms ns : List Int} (hp : ms.Perm ns) (hs : ms.Pairwise (· ≤ ·)) : ms = sortI ns := rise_eq (hp.trans (sortI_perm ns).symm) hs (sortI_rise ns)
theorem ints_vals : ∀ {us : List Value} {ns : List Int}, IntsAre us ns → Vals (ns.map V.int) us
  | _, _, .nil => .nil
  | _, _, .cons n t h => .cons ⟨t, rfl⟩ (ints_vals h)
section
variable {X : Cx} {pins : List (Addr × Obj)} {σ : St} {H : Hp} {s : Shared}
theorem Inv.drew {d : Drawn} (I : Inv X pins σ H s) : Inv X pins σ H { s with drawn := d } := ⟨I.ok, I.os, I.bare, I.base, I.loc, I.cell, I.free, I.freeC, I.pin, I.hok, I.len⟩
/-- what sorted leaves, in the layer's words -/
theorem Inv.sorted {ns : List Int} {Q : VK} (I : Inv X pins σ H s) (hz : ns.length ≤ sizeLine) (q : ∀ l, H l = none → Q (.ref l) (upd H l (.lst ((sortI ns).map V.int)))) :
    ∀ (h₁ h' : Heap) (t : Nat) (dr : Drawn) (D : Addr) (c : Nat) (out : List Value) (ms : List Int), (∀ b o, s.heap.get? b = some o → h₁.get? b = some o) → (∀ b o, h₁.get? b = some o → h'.get? b = some o) → h₁.objs.size ≤ D → h'.get? D = some (seqObj "list" out.toArray c) → IntsAre out ms → ms.Perm ns → ms.Pairwise (· ≤ ·) →
      EP X pins σ Q (.ref D) { s with heap := h', toks := t, drawn := dr } := by
  intro h₁ h' t dr D c out ms k1 k2 hD hg hI hp hs
  have e := sortI_eq hp hs
  subst e
  have I1 : Inv X pins σ H { s with heap := h₁, toks := t, drawn := dr } := (I.kept (t' := t) k1).drew
  refine ⟨.ref D, _, I1.laid (t' := t) (o := .lst ((sortI ns).map V.int)) k2 hD ⟨?_, out, c, ints_vals hI, hg⟩, rfl, q D (I1.hok.fresh hD)⟩
  rw [List.length_map, sortI_len]
  exact hz
end
section
variable {X : Cx}
def SetO (w : World) (a : Addr) (ks : List Int) : HO := .ext fun h => MwSet.SetG w h a ks
end
end L2

namespace L2
open PySem PySem.Spec PyProof.Rows
end L2
namespace L2
open PySem PySem.Spec PyProof.Rows
end L2
namespace L2
open PySem PySem.Spec PyProof.Rows
end L2
namespace L2
open PySem PySem.Spec PyProof.Rows
end L2
namespace L2
open PySem PySem.Spec PyProof.Rows
end L2
namespace L2
open PySem PySem.Spec PyProof.Rows
end L2
namespace L2
open PySem PySem.Spec PyProof.Rows
end L2
namespace L2
open PySem PySem.Spec PyProof.Rows
end L2
namespace L2
open PySem PySem.Spec PyProof.Rows
end L2
namespace L2
open PySem PySem.Spec PyProof.Rows
end L2
namespace L2
open PySem PySem.Spec PyProof.Rows
section
variable {κ : Type} [DecidableEq κ]
def valV (kvs : List (κ × V)) (k : κ) : Option V := (kvs.find? fun kv => decide (kv.1 = k)).map (·.2)
/-- in its place, or at the end -/
def putK (kvs : List (κ × V)) (k : κ) (v : V) : List (κ × V) :=
  if (kvs.any fun kv => decide (kv.1 = k)) = true then kvs.map (fun kv => if kv.1 = k then (kv.1, v) else kv) else kvs ++ [(k, v)]
def dropK (kvs : List (κ × V)) (k : κ) : List (κ × V) := kvs.filter fun kv => decide (kv.1 ≠ k)

theorem RelO.getD {o : Option V} {u : Option Value} {d : V} {d' : Value} (r : RelO o u) (rd : RelV d d') : RelV (o.getD d) (u.getD d') := by
  cases o with
  | none => cases u with
    | none => exact rd
    | some _ => exact (show False from r).elim
  | some _ => cases u with
    | none => exact (show False from r).elim
    | some _ => exact r

theorem KV.any {kvs : List (κ × V)} {vs : List (κ × Value)} (r : KV kvs vs) (k : κ) : (kvs.any fun kv => decide (kv.1 = k)) = vs.any fun kv => decide (kv.1 = k) := by
  unfold KV at r
  induction r with
  | nil => rfl
  | cons h t ih => rw [List.any_cons, List.any_cons, ih, h.1]
theorem KV.drop {kvs : List (κ × V)} {vs : List (κ × Value)} (r : KV kvs vs) (k : κ) : KV (dropK kvs k) (without vs k) := by
  unfold KV at r ⊢
  unfold dropK without
  induction r with
  | nil => exact .nil
  | @cons p q ps qs h t ih =>
    obtain ⟨h1, h2⟩ := h
    rw [List.filter_cons, List.filter_cons]
    by_cases e : p.1 = k
    · have a : ¬ decide (p.1 ≠ k) = true := by simp [e]
      have b : ¬ decide (q.1 ≠ k) = true := by simp [h1.symm.trans e]
      rw [if_neg a, if_neg b]; exact ih
    · have e' : ¬ q.1 = k := fun z => e (h1.trans z)
      have a : decide (p.1 ≠ k) = true := by simp [e]
      have b : decide (q.1 ≠ k) = true := by simp [e']
      rw [if_pos a, if_pos b]; exact .cons ⟨h1, h2⟩ ih
theorem KV.keys {kvs : List (κ × V)} {vs : List (κ × Value)} (r : KV kvs vs) : kvs.map (·.1) = vs.map (·.1) := by
  unfold KV at r
  induction r with
  | nil => rfl
  | cons h t ih => rw [List.map_cons, List.map_cons, ih, h.1]
theorem KV.length {kvs : List (κ × V)} {vs : List (κ × Value)} (r : KV kvs vs) : kvs.length = vs.length := Paired.length r
end
/-- raw entries of a dict with tuple keys -/
abbrev KT (H : Hp) : List (List Key × V) → List (List Key × Addr × Value) → Prop := Paired fun p q => p.1 = q.1 ∧ H q.2.1 = some (.tup (p.1.map kV)) ∧ RelV p.2 q.2.2
theorem KT.keeps {H H' : Hp} {kvs : List (List Key × V)} {xs : List (List Key × Addr × Value)} (r : KT H kvs xs) (ht : ∀ b ys, H b = some (.tup ys) → H' b = some (.tup ys)) : KT H' kvs xs :=
  Paired.mapP r fun _ _ z => ⟨z.1, ht _ _ z.2.1, z.2.2⟩

section
variable {P : Program} {w : World} {H : Hp} {h : Heap} {a : Addr}
theorem rd_of {u : HO} (ok : HOk P w H h) (e : Rd H a u) : ObjOk P w H h a u := e.ok ok
theorem dk_rd {kvs : List (Key × V)} (ok : HOk P w H h) (e : Rd H a (.dK kvs)) : kvs.length ≤ sizeLine ∧ (a == sysModules) = false ∧ ∃ vs, KV kvs vs ∧ h.DictOf (mixKind P w) a vs :=
  show ObjOk P w H h a (.dK kvs) from rd_of ok e
theorem dk_of {kvs : List (Key × V)} (ok : HOk P w H h) (e : H a = some (.dK kvs)) : kvs.length ≤ sizeLine ∧ (a == sysModules) = false ∧ ∃ vs, KV kvs vs ∧ h.DictOf (mixKind P w) a vs := dk_rd ok (.inl e)
end
/-- what the dict at a holds at the key y -/
def DGet (H : Hp) (a : Addr) (y : V) (r : Option V) : Prop :=
  (∃ kvs k, Rd H a (.dK kvs) ∧ y = kV k ∧ r = valV kvs k) ∨ ∃ kvs k b, Rd H a (.dT kvs) ∧ y = .ref b ∧ H b = some (.tup (k.map kV)) ∧ r = valV kvs k
/-- the heap behind a[y] = v -/
def DPut (H : Hp) (a : Addr) (y v : V) (H' : Hp) : Prop :=
  (∃ kvs k, H a = some (.dK kvs) ∧ y = kV k ∧ kvs.length < sizeLine ∧ H' = upd H a (.dK (putK kvs k v))) ∨
  ∃ kvs k b, H a = some (.dT kvs) ∧ y = .ref b ∧ H b = some (.tup (k.map kV)) ∧ kvs.length < sizeLine ∧ H' = upd H a (.dT (putK kvs k v))
theorem DGet.k {H : Hp} {a : Addr} {kvs : List (Key × V)} {k : Key} (e : H a = some (.dK kvs)) : DGet H a (kV k) (valV kvs k) := .inl ⟨kvs, k, .inl e, rfl, rfl⟩
theorem DGet.t {H : Hp} {a b : Addr} {kvs : List (List Key × V)} {k : List Key} (e : H a = some (.dT kvs)) (eb : H b = some (.tup (k.map kV))) : DGet H a (.ref b) (valV kvs k) := .inr ⟨kvs, k, b, .inl e, rfl, eb, rfl⟩
theorem DPut.k {H : Hp} {a : Addr} {kvs : List (Key × V)} {k : Key} {v : V} (e : H a = some (.dK kvs)) (hl : kvs.length < sizeLine) : DPut H a (kV k) v (upd H a (.dK (putK kvs k v))) := .inl ⟨kvs, k, e, rfl, hl, rfl⟩
theorem DPut.t {H : Hp} {a b : Addr} {kvs : List (List Key × V)} {k : List Key} {v : V} (e : H a = some (.dT kvs)) (eb : H b = some (.tup (k.map kV))) (hl : kvs.length < sizeLine) :
    DPut H a (.ref b) v (upd H a (.dT (putK kvs k v))) := .inr ⟨kvs, k, b, e, rfl, eb, hl, rfl⟩


end L2
namespace Att
open PySem PySem.W PySem.Calls PyProof.Rows
end Att
namespace L2
open PySem PySem.Spec PyProof.Rows
end L2
namespace L2
open PySem PySem.Spec PyProof.Rows
end L2
namespace L2
open PySem PySem.Spec PyProof.Rows
end L2

namespace L2
open PySem PySem.Spec PyProof.Rows
end L2

namespace L2
open PySem PySem.Spec PyProof.Rows MwSet
end L2
namespace L2
open PySem PySem.Spec PyProof.Rows MwSet
/-- a tuple or a list -/
def SeqV (H : Hp) (p : Addr) (xs : List V) : Prop := H p = some (.tup xs) ∨ H p = some (.lst xs)
theorem SeqV.same {H H' : Hp} {p : Addr} {xs : List V} (h : SeqV H p xs) (s : Same H H') : SeqV H' p xs := h.imp (s _ _) (s _ _)
theorem SeqV.len {K : PySem.W.Frag} {H : Hp} {p : Addr} {xs : List V} (h : SeqV H p xs) : LenV K (.ref p) H xs.length := h.elim (fun e => .inr ⟨_, SqT.of e, rfl⟩) fun e => .inl ⟨_, SqL.of e, rfl⟩
end L2
namespace L2
open PySem PySem.Spec PyProof.Rows
end L2

namespace L2
open PySem PySem.Spec PyProof.Rows
def numsAt (F : List (List (Option Int))) (ru : Rule) (u d l r : Nat) (i j : Int) : List Int := (wc F ru u d l r i j).filterMap id
end L2

namespace L2
open PySem PySem.Spec PyProof.Rows
def LeC : Option Int → Option Int → Prop
  | none, none => True
  | some x, some y => x ≤ y
  | _, _ => False
theorem LeC.refl : ∀ c, LeC c c
  | none => trivial
  | some x => Int.le_refl x
inductive LeN : List Int → List Int → Prop
  | nil : LeN [] []
  | cons {x y : Int} {xs ys : List Int} : x ≤ y → LeN xs ys → LeN (x :: xs) (y :: ys)
inductive LeO : List (Option Int) → List (Option Int) → Prop
  | nil : LeO [] []
  | cons {x y : Option Int} {xs ys : List (Option Int)} : LeC x y → LeO xs ys → LeO (x :: xs) (y :: ys)
theorem LeN.len : ∀ {xs ys : List Int}, LeN xs ys → xs.length = ys.length
  | _, _, .nil => rfl
  | _, _, .cons _ t => by simp [t.len]
theorem LeO.append {a b : List (Option Int)} (h : LeO a b) : ∀ {c d : List (Option Int)}, LeO c d → LeO (a ++ c) (b ++ d) := by
  induction h with
  | nil => exact fun h => h
  | cons e t ih => exact fun h => .cons e (ih h)
theorem LeO.flat (f g : Nat → List (Option Int)) : ∀ l : List Nat, (∀ k ∈ l, LeO (f k) (g k)) → LeO (l.flatMap f) (l.flatMap g)
  | [], _ => .nil
  | k :: l, h => by
    rw [List.flatMap_cons, List.flatMap_cons]
    exact (h k List.mem_cons_self).append (LeO.flat f g l fun x hx => h x (List.mem_cons_of_mem _ hx))
theorem LeO.nums {a b : List (Option Int)} (h : LeO a b) : LeN (a.filterMap id) (b.filterMap id) := by
  induction h with
  | nil => exact .nil
  | @cons x y xs ys e t ih =>
    cases x with
    | none =>
      cases y with
      | none => exact ih
      | some y => exact e.elim
    | some x =>
      cases y with
      | none => exact e.elim
      | some y => exact .cons e ih
/-- fields of one size, one no less than the other -/
structure LeF (F G : List (List (Option Int))) : Prop where
  len : F.length = G.length
  wide : (F.headD []).length = (G.headD []).length
  cell : ∀ i j : Int, 0 ≤ i → i < F.length → 0 ≤ j → j < (F.headD []).length → LeC (cellAt F i j) (cellAt G i j)
theorem LeF.refl (F : List (List (Option Int))) : LeF F F := ⟨rfl, rfl, fun _ _ _ _ _ _ => LeC.refl _⟩
theorem LeF.stands {F G : List (List (Option Int))} (R : Rect F) (h : LeF F G) (ru : Rule) (i j : Int) : LeO (stands F ru i j) (stands G ru i j) := by
  have hin : inF F i j = inF G i j := by unfold inF; rw [h.len, h.wide]
  have h1 := R.h1; have w1 := R.w1
  unfold L2.stands
  rw [← hin]
  cases e : inF F i j with
  | true =>
    rw [if_pos rfl, if_pos rfl]
    unfold inF at e
    simp only [Bool.and_eq_true, decide_eq_true_eq] at e
    exact .cons (h.cell i j e.1.1 e.1.2 e.2.1 e.2.2) .nil
  | false =>
    rw [if_neg Bool.false_ne_true, if_neg Bool.false_ne_true]
    have go : ∀ ru : Rule, LeO [cellAt F (led ru i F.length) (led ru j (F.headD []).length)] [cellAt G (led ru i G.length) (led ru j (G.headD []).length)] := fun ru => by
      rw [← h.len, ← h.wide]
      have li := led_in ru i (n := F.length) (by omega)
      have lj := led_in ru j (n := (F.headD []).length) (by omega)
      exact .cons (h.cell _ _ li.1 li.2 lj.1 lj.2) .nil
    cases ru with
    | there => exact .nil
    | told c => exact .cons (LeC.refl c) .nil
    | near => exact go .near
    | turned => exact go .turned
    | round => exact go .round
theorem LeF.nums {F G : List (List (Option Int))} (R : Rect F) (h : LeF F G) (ru : Rule) (u d l r : Nat) (i j : Int) : LeN (numsAt F ru u d l r i j) (numsAt G ru u d l r i j) := by
  unfold numsAt
  refine LeO.nums ?_
  unfold wc rowCells
  exact LeO.flat _ _ _ fun a _ => LeO.flat _ _ _ fun b _ => h.stands R ru _ _
end L2

namespace L2
open PySem PySem.Spec PyProof.Rows
end L2

namespace L2
open PySem PySem.Spec PyProof.Rows
def DWalk (P : Program) (w : World) (a : Addr) (kvs : List (Key × V)) (vs : List (Key × Value)) (ep : Nat) : HO := .ext fun h => KV kvs vs ∧ h.DictAt (mixKind P w) a vs ep ∧ kvs.length ≤ sizeLine ∧ (a == sysModules) = false
theorem dwalk_ok {P : Program} {w : World} {H : Hp} {h : Heap} {a : Addr} {kvs : List (Key × V)} {vs : List (Key × Value)} {ep : Nat} (r : KV kvs vs) (d : h.DictAt (mixKind P w) a vs ep) (z : kvs.length ≤ sizeLine) (hd : (a == sysModules) = false) : ObjOk P w H h a (DWalk P w a kvs vs ep) := by
  refine ⟨⟨r, d, z, hd⟩, ?_, fun h1 h2 ⟨r1, d1, z1, e1⟩ k => ⟨r1, d1.at' k, z1, e1⟩⟩
  obtain ⟨o, es, e, _⟩ := d
  exact ⟨o, e⟩
theorem KV.get {kvs : List (Key × V)} {vs : List (Key × Value)} (r : KV kvs vs) : ∀ {i : Nat} {k : Key} {x : V}, kvs[i]? = some (k, x) → ∃ u, vs[i]? = some (k, u) ∧ RelV x u := by
  unfold KV at r
  induction r with
  | nil => intro i k x h; simp at h
  | @cons p q l1 l2 h t ih =>
    intro i k x e
    cases i with
    | zero =>
      have e1 : p = (k, x) := by simpa using e
      subst e1
      obtain ⟨h1, h2⟩ := h
      refine ⟨q.2, ?_, h2⟩
      have : q = (k, q.2) := by rw [show k = q.1 from h1]
      rw [← this]; rfl
    | succ i => exact ih (by simpa using e)
section
variable {X : Cx} {pins : List (Addr × Obj)} {σ : St} {H : Hp} {s : Shared} {a : Addr} {kvs : List (Key × V)}
theorem Inv.walked (I : Inv X pins σ H s) (e : H a = some (.dK kvs)) : ∃ vs ep, KV kvs vs ∧ s.heap.DictAt (mixKind X.prog X.w) a vs ep ∧ (a == sysModules) = false ∧ Inv X pins σ (upd H a (DWalk X.prog X.w a kvs vs ep)) s := by
  obtain ⟨z, hd, vs, rel, dd⟩ := dk_of I.hok e
  obtain ⟨ep, da⟩ := dd.dictAt
  have ho : ∃ u, s.heap.get? a = some u := let ⟨o, _, e', _⟩ := da; ⟨o, e'⟩
  exact ⟨vs, ep, rel, da, hd, I.write (x := a) (e := a) (h' := s.heap) (t' := s.toks) (by rw [e]; exact True.intro) (.inl rfl) (fun b u _ z => z) ho (dwalk_ok rel da z hd)⟩
end
end L2

namespace L2
open PySem PySem.Spec PyProof.Rows
end L2

namespace L2
open PySem PySem.Spec PyProof.Rows
def TwoL (H : Hp) (p : Addr) (xs ys : List Int) : Prop := ∃ a b, H p = some (.lst [.ref a, .ref b]) ∧ H a = some (.lst (xs.map V.int)) ∧ H b = some (.lst (ys.map V.int))
theorem TwoL.same {H H' : Hp} {p : Addr} {xs ys : List Int} (t : TwoL H p xs ys) (s : Same H H') : TwoL H' p xs ys := let ⟨a, b, h1, h2, h3⟩ := t; ⟨a, b, s _ _ h1, s _ _ h2, s _ _ h3⟩
end L2

namespace L2
open PySem PySem.Spec PyProof.Rows
end L2

namespace L2
open PySem PySem.Spec PyProof.Rows
def RawM (K : PySem.W.Frag) (C : Addr) (m qual : Str) (ps : List Str) (st : Stmt) : Prop := ∃ f fd, Meth K C m f ∧ Fun K m qual st f fd ∧ Binds K fd ps []
def RawI (K : PySem.W.Frag) (C : Addr) (qual : Str) (ps : List Str) (st : Stmt) : Prop := ∃ f fd, Mk K C f ∧ Fun K "__init__" qual st f fd ∧ Binds K fd ps []
def DfM (P : Program) (w : World) (K : PySem.W.Frag) (mg : Str → Option Value) (base : Heap) (k : Nat) (C : Addr) (m : Str) (ps : List Str) (sp : Sp) : Prop :=
  ∃ (f : Addr) (fd : FuncData), FnOk P w K mg base CX0 k f fd ps sp ∧ Meth K C m f ∧ Binds K fd ps []
def DfI (P : Program) (w : World) (K : PySem.W.Frag) (mg : Str → Option Value) (base : Heap) (k : Nat) (C : Addr) (ps : List Str) (sp : Sp) : Prop :=
  ∃ (f : Addr) (fd : FuncData), FnOk P w K mg base CX0 k f fd ps sp ∧ Mk K C f ∧ Binds K fd ps []
section
variable {P : Program} {w : World} {K : PySem.W.Frag} {mg : Str → Option Value} {base : Heap}
theorem RawM.ok {C : Addr} {m qual : Str} {ps N : List Str} {st : Stmt} {k : Nat} {sp : Sp} (R : RawM K C m qual ps st) (S : FnScope N ps (defScope st)) (len : ∀ vs H Q E, sp vs H Q E → vs.length = ps.length)
    (hbody : ∀ (f : Addr) (cdv : Value) (A : Around) (outer : List Env) (s : Shared) (H : Hp) (vs : List V) (Q : VK) (E : XK), Room k (A.deeper (envOfC qual (defScope st) s.heap.objs.size f cdv)) → sp vs H Q E →
      ∃ t, PSs (cxOf CX0 P w K mg base N qual (defScope st) f cdv A outer s H E).nox (defBody st) t ∧ t { nx := fun _ H' => Q .non H', rt := Q } (start N vs) H) : DfM P w K mg base (k + 1) C m ps sp := by
  obtain ⟨f, fd, M, F, b⟩ := R
  exact ⟨f, fd, F.ok S len (fun cdv A outer s H vs Q E hr h => hbody f cdv A outer s H vs Q E hr h), M, b⟩
theorem RawI.ok {C : Addr} {qual : Str} {ps N : List Str} {st : Stmt} {k : Nat} {sp : Sp} (R : RawI K C qual ps st) (S : FnScope N ps (defScope st)) (len : ∀ vs H Q E, sp vs H Q E → vs.length = ps.length)
    (hbody : ∀ (f : Addr) (cdv : Value) (A : Around) (outer : List Env) (s : Shared) (H : Hp) (vs : List V) (Q : VK) (E : XK), Room k (A.deeper (envOfC qual (defScope st) s.heap.objs.size f cdv)) → sp vs H Q E →
      ∃ t, PSs (cxOf CX0 P w K mg base N qual (defScope st) f cdv A outer s H E).nox (defBody st) t ∧ t { nx := fun _ H' => Q .non H', rt := Q } (start N vs) H) : DfI P w K mg base (k + 1) C ps sp := by
  obtain ⟨f, fd, M, F, b⟩ := R
  exact ⟨f, fd, F.ok S len (fun cdv A outer s H vs Q E hr h => hbody f cdv A outer s H vs Q E hr h), M, b⟩
end
end L2
set_option maxHeartbeats 4000000
namespace Mw
open PySem L2
def top (i : Nat) : Stmt := PySem.Challenge.pw_midwindow_k05_window_cells.main.body.getD i (.Pass ⟨0, 0, 0, 0⟩)
abbrev s_is_inside : Stmt := top 1
theorem sc_is_inside : FnScope ["field", "i", "j"] ["field", "i", "j"] (defScope s_is_inside) := ⟨rfl, rfl, rfl, by decide +kernel, rfl, by decide +kernel, by decide +kernel⟩
abbrev s_brought_inside : Stmt := top 2
theorem sc_brought_inside : FnScope ["rule", "place", "length", "there"] ["rule", "place", "length"] (defScope s_brought_inside) := ⟨rfl, rfl, rfl, by decide +kernel, rfl, by decide +kernel, by decide +kernel⟩
abbrev s_stands_at : Stmt := top 3
theorem sc_stands_at : FnScope ["field", "rule", "i", "j", "row"] ["field", "rule", "i", "j"] (defScope s_stands_at) := ⟨rfl, rfl, rfl, by decide +kernel, rfl, by decide +kernel, by decide +kernel⟩
abbrev s_places_around : Stmt := top 4
theorem sc_places_around : FnScope ["place", "ahead", "behind"] ["place", "ahead", "behind"] (defScope s_places_around) := ⟨rfl, rfl, rfl, by decide +kernel, rfl, by decide +kernel, by decide +kernel⟩
abbrev s_window_cells : Stmt := top 5
theorem sc_window_cells : FnScope ["field", "window", "rule", "i", "j", "columns", "cells", "row", "column"] ["field", "window", "rule", "i", "j"] (defScope s_window_cells) := ⟨rfl, rfl, rfl, by decide +kernel, rfl, by decide +kernel, by decide +kernel⟩
abbrev s_law_mix : Stmt := top 7
theorem sc_law_mix : FnScope ["cell", "k", "number"] ["cell", "k"] (defScope s_law_mix) := ⟨rfl, rfl, rfl, by decide +kernel, rfl, by decide +kernel, by decide +kernel⟩
abbrev s_law_deck : Stmt := top 8
theorem sc_law_deck : FnScope ["script"] ["script"] (defScope s_law_deck) := ⟨rfl, rfl, rfl, by decide +kernel, rfl, by decide +kernel, by decide +kernel⟩
abbrev s_law_next : Stmt := top 9
theorem sc_law_next : FnScope ["deck", "many", "cell", "found"] ["deck", "many"] (defScope s_law_next) := ⟨rfl, rfl, rfl, by decide +kernel, rfl, by decide +kernel, by decide +kernel⟩
abbrev s_law_cell : Stmt := top 10
theorem sc_law_cell : FnScope ["deck", "way"] ["deck"] (defScope s_law_cell) := ⟨rfl, rfl, rfl, by decide +kernel, rfl, by decide +kernel, by decide +kernel⟩
abbrev s_law_field : Stmt := top 11
theorem sc_law_field : FnScope ["deck", "height", "width"] ["deck"] (defScope s_law_field) := ⟨rfl, rfl, rfl, by decide +kernel, rfl, by decide +kernel, by decide +kernel⟩
abbrev s_law_rule : Stmt := top 12
theorem sc_law_rule : FnScope ["deck", "rule", "cell"] ["deck"] (defScope s_law_rule) := ⟨rfl, rfl, rfl, by decide +kernel, rfl, by decide +kernel, by decide +kernel⟩
abbrev s_law_led : Stmt := top 13
theorem sc_law_led : FnScope ["rule", "at", "many"] ["rule", "at", "many"] (defScope s_law_led) := ⟨rfl, rfl, rfl, by decide +kernel, rfl, by decide +kernel, by decide +kernel⟩
abbrev s_law_stands : Stmt := top 14
theorem sc_law_stands : FnScope ["field", "rule", "i", "j"] ["field", "rule", "i", "j"] (defScope s_law_stands) := ⟨rfl, rfl, rfl, by decide +kernel, rfl, by decide +kernel, by decide +kernel⟩
abbrev s_law_window : Stmt := top 15
theorem sc_law_window : FnScope ["deck", "most", "sides"] ["deck"] (defScope s_law_window) := ⟨rfl, rfl, rfl, by decide +kernel, rfl, by decide +kernel, by decide +kernel⟩
abbrev s_law_like : Stmt := top 16
theorem sc_law_like : FnScope ["found", "due"] ["found", "due"] (defScope s_law_like) := ⟨rfl, rfl, rfl, by decide +kernel, rfl, by decide +kernel, by decide +kernel⟩
abbrev s_law_due : Stmt := top 17
theorem sc_law_due : FnScope ["field", "window", "rule", "i", "j", "up", "down", "left", "right", "found", "place", "row", "column"] ["field", "window", "rule", "i", "j"] (defScope s_law_due) := ⟨rfl, rfl, rfl, by decide +kernel, rfl, by decide +kernel, by decide +kernel⟩
abbrev s_law : Stmt := top 18
theorem sc_law : FnScope ["script", "deck", "turn", "field", "rule", "window", "k", "i", "j", "due"] ["script"] (defScope s_law) := ⟨rfl, rfl, rfl, by decide +kernel, rfl, by decide +kernel, by decide +kernel⟩
structure Txt (K : PySem.W.Frag) (mg : Str → Option Value) : Prop where
  d_is_inside : Raw K mg "is_inside" ["field", "i", "j"] s_is_inside
  d_brought_inside : Raw K mg "brought_inside" ["rule", "place", "length"] s_brought_inside
  d_stands_at : Raw K mg "stands_at" ["field", "rule", "i", "j"] s_stands_at
  d_places_around : Raw K mg "places_around" ["place", "ahead", "behind"] s_places_around
  d_window_cells : Raw K mg "window_cells" ["field", "window", "rule", "i", "j"] s_window_cells
  d_law_mix : Raw K mg "_law_mix" ["cell", "k"] s_law_mix
  d_law_deck : Raw K mg "_law_deck" ["script"] s_law_deck
  d_law_next : Raw K mg "_law_next" ["deck", "many"] s_law_next
  d_law_cell : Raw K mg "_law_cell" ["deck"] s_law_cell
  d_law_field : Raw K mg "_law_field" ["deck"] s_law_field
  d_law_rule : Raw K mg "_law_rule" ["deck"] s_law_rule
  d_law_led : Raw K mg "_law_led" ["rule", "at", "many"] s_law_led
  d_law_stands : Raw K mg "_law_stands" ["field", "rule", "i", "j"] s_law_stands
  d_law_window : Raw K mg "_law_window" ["deck"] s_law_window
  d_law_like : Raw K mg "_law_like" ["found", "due"] s_law_like
  d_law_due : Raw K mg "_law_due" ["field", "window", "rule", "i", "j"] s_law_due
  d_law : Raw K mg "law" ["script"] s_law
  n_len : mg "len" = none
  n_sum : mg "sum" = none
  n_all : mg "all" = none
  n_max : mg "max" = none
  n_min : mg "min" = none
  n_tuple : mg "tuple" = none
  n_list : mg "list" = none
  n_int : mg "int" = none
  n_bool : mg "bool" = none
  n_isinstance : mg "isinstance" = none
  n_range : mg "range" = none
section
variable {P : Program} {w : World} {K : PySem.W.Frag} {mg : Str → Option Value} {base : Heap}
def spMix : Sp := fun vs H Q _ => ∃ (c k : Int), vs = [.int c, .int k] ∧ 0 ≤ k ∧ k < 2 ^ 50 ∧ ∀ x : Int, 0 ≤ x → Q (.int x) H
theorem df_law_mix (T : Txt K mg) : Df P w K mg base 1 "_law_mix" ["cell", "k"] spMix := by
  refine T.d_law_mix.ok sc_law_mix (fun vs H Q E h => ?_) (fun f cdv A outer s H vs Q E hr h => ?_)
  · obtain ⟨c, k, rfl, _⟩ := h
    rfl
  · obtain ⟨c, k, rfl, h0, h1, q⟩ := h
    refine ⟨_, (pss_cons (ps_set (i := 2) sc_law_mix.nd rfl (by first | exact Or.inl rfl | exact Or.inr rfl) (pe_op op_add (pe_op op_mod (pv 0) pe_int) (pe_op op_mul (pe_op op_mul pe_int (pv 1)) (pv 1))))
      (pss_cons (ps_set (i := 2) sc_law_mix.nd rfl (by first | exact Or.inl rfl | exact Or.inr rfl) (pe_op op_mod (pe_op op_add (pv 2) (pe_op op_mul pe_int (pv 1))) pe_int))
      (pss_cons (ps_set (i := 2) sc_law_mix.nd rfl (by first | exact Or.inl rfl | exact Or.inr rfl) (pe_op op_mod (pe_op op_mul (pv 2) (pv 2)) pe_int))
      (pss_one (ps_ret (pe_op op_fdivB (pe_op op_mod (pe_op op_mul (pv 2) (pe_op op_add (pv 2) pe_int)) pe_int) pe_int)))))), ?_⟩
    refine ⟨_, rfl, _, _, rfl, rfl, (by show (0 : Int) < 2147483629; decide), _, rfl, _, _, rfl, rfl, .inr ⟨by omega, by omega⟩, _, rfl, _, _, rfl, rfl, .inr ⟨by omega, by omega⟩, _, _, rfl, rfl, ?_⟩
    refine ⟨_, rfl, _, rfl, _, _, rfl, rfl, .inr ⟨by omega, by omega⟩, _, _, rfl, rfl, _, _, rfl, rfl, (by show (0 : Int) < 2147483629; decide), ?_⟩
    have a1 : (0 : Int) ≤ (c % 2147483629 + 1000003 * k * k + 7919 * k) % 2147483629 := Int.emod_nonneg _ (by decide)
    have a2 : (c % 2147483629 + 1000003 * k * k + 7919 * k) % 2147483629 < (2147483629 : Int) := Int.emod_lt_of_pos _ (by decide)
    generalize (c % 2147483629 + 1000003 * k * k + 7919 * k) % 2147483629 = n1 at a1 a2
    refine ⟨_, rfl, _, rfl, _, _, rfl, rfl, .inr ⟨by omega, by omega⟩, _, _, rfl, rfl, (by show (0 : Int) < 2147483587; decide), ?_⟩
    have b1 : (0 : Int) ≤ (n1 * n1) % 2147483587 := Int.emod_nonneg _ (by decide)
    have b2 : (n1 * n1) % 2147483587 < (2147483587 : Int) := Int.emod_lt_of_pos _ (by decide)
    generalize (n1 * n1) % 2147483587 = n2 at b1 b2
    refine ⟨_, rfl, _, rfl, _, _, rfl, rfl, _, _, rfl, rfl, .inl ⟨by omega, by omega⟩, _, _, rfl, rfl, (by show (0 : Int) < 2147483563; decide), _, _, rfl, rfl, ⟨(by show (0 : Int) < 4; decide), by show (4 : Int) < 2 ^ 62; decide⟩, ?_⟩
    refine q _ ?_
    exact Int.ediv_nonneg (Int.emod_nonneg _ (by decide)) (by decide)

def spDeck (K : PySem.W.Frag) : Sp := fun vs H Q _ => ∃ (a : Addr) (ns : List Int), vs = [.ref a] ∧ SqL K H a (ns.map V.int) ∧ ns.length ≤ 63 ∧ ∀ (d : Addr) (H' : Hp), H d = none → Deck H' d 0 → Same H H' → Q (.ref d) H'
theorem df_law_deck (T : Txt K mg) : Df P w K mg base 1 "_law_deck" ["script"] (spDeck K) := by
  refine T.d_law_deck.ok sc_law_deck (fun vs H Q E h => ?_) (fun f cdv A outer s H vs Q E hr h => ?_)
  · obtain ⟨a, ns, rfl, _⟩ := h
    rfl
  · obtain ⟨a, ns, rfl, hS, hl, q⟩ := h
    refine ⟨_, (pss_one (ps_ret (pe_lst (pa_cons (pe_slice (sl_X (K := K) rfl) (pv 0) po_none (po_some pe_int)) (pa_cons pe_int (pa_cons pe_int (pa_cons pe_int (pa_cons (pe_callB (call_sumK (K := K) rfl rfl) (by rfl) T.n_sum bt_sum (pa_cons (pe_slice (sl_X (K := K) rfl) (pv 0) po_none (po_some pe_int)) pa_nil)) pa_nil)))))))), ?_⟩
    refine ⟨_, rfl, _, rfl, Or.inl ⟨_, _, rfl, hS, fun p hp => ?_⟩⟩
    have hS1 := (same_upd (o := .lst (cutV (ns.map V.int) none (some 63))) hp).seq hS
    refine ⟨_, rfl, _, rfl, Or.inl ⟨_, _, rfl, hS1, fun p2 hp2 => ?_⟩⟩
    rw [cut63 hl] at hp2 ⊢
    refine ⟨_, _, rfl, SqL.of upd_same, (by show 5 ≤ sizeLine; decide), fun d hd => ?_⟩
    have s1 := same_upd (o := .lst (ns.map V.int)) hp
    have s2 := same_upd (o := .lst (ns.map V.int)) hp2
    have s3 := same_upd (o := .lst [.ref p, .int 0, .int 0, .int 0, .int ns.sum]) hd
    refine q d _ ((s1.trans s2).free hd) ⟨p, ns, 0, 0, 0, ns.sum, ⟨upd_same, s3 _ _ (s2 _ _ upd_same), Nat.zero_le _, hl, Int.le_refl _⟩, Nat.le_refl _⟩ ((s1.trans s2).trans s3)

def spNext : Sp := fun vs H Q _ => ∃ (d : Addr) (many : Int) (n : Nat), vs = [.ref d, .int many] ∧ Deck H d n ∧ 0 < many ∧ many < 2 ^ 40 ∧ n < 2 ^ 40 ∧
  ∀ (x : Int) (H' : Hp), 0 ≤ x → x < many → Deck H' d (n + 1) → KeepBut d H H' → Q (.int x) H'
theorem df_law_next (T : Txt K mg) : Df P w K mg base 2 "_law_next" ["deck", "many"] spNext := by
  refine T.d_law_next.ok sc_law_next (fun vs H Q E h => ?_) (fun f cdv A outer s H vs Q E hr h => ?_)
  · obtain ⟨d, many, n, rfl, _⟩ := h
    rfl
  · obtain ⟨d, many, n, rfl, ⟨c, ns, k, r, m, t, DA, hmn⟩, m0, m1, hn, q⟩ := h
    refine ⟨_, (pss_cons (ps_if (pw_and (pt_cmpR (op_eqA hr.units) (pe_ix (ix_seqK (K := K) rfl) (pv 0) pe_int (fun _ _ => rfl)) pe_int (nomark _)) (pw_and1 (pt_cmpR op_lt (pe_ix (ix_seqK (K := K) rfl) (pv 0) pe_int (fun _ _ => rfl)) (pe_callB (call_lenK (K := K) rfl) (by rfl) T.n_len bt_len (pa_cons (pe_ix (ix_seqK (K := K) rfl) (pv 0) pe_int (fun _ _ => rfl)) pa_nil)) (nomark _)))).pt (pss_cons (ps_set (i := 2) sc_law_next.nd rfl (by first | exact Or.inl rfl | exact Or.inr rfl) (pe_ix (ix_seqK (K := K) rfl) (pe_ix (ix_seqK (K := K) rfl) (pv 0) pe_int (fun _ _ => rfl)) (pe_ix (ix_seqK (K := K) rfl) (pv 0) pe_int (fun _ _ => rfl)) (fun _ _ => rfl)))
      (pss_cons (ps_asg (pe_op op_add (pe_ix (ix_seqK (K := K) rfl) (pv 0) pe_int (fun _ _ => rfl)) pe_int) (pg_sub (pv 0) pe_int set_list))
      (pss_cons (ps_if (pt_cmpR op_lt (pv 2) (pe_op op_pow pe_int pe_int) (nomark _)) (pss_one (ps_ret (pe_op op_mod (pe_df (df_law_mix T) (hr.mono (by decide)) (pa_cons (pv 2) (pa_cons (pe_ix (ix_seqK (K := K) rfl) (pv 0) pe_int (fun _ _ => rfl)) pa_nil))) (pv 1)))) pss_nil)
      (pss_one (ps_asg (pv 2) (pg_sub (pv 0) pe_int set_list)))))) pss_nil)
      (pss_cons (ps_if (pt_cmpR op_gt (pe_ix (ix_seqK (K := K) rfl) (pv 0) pe_int (fun _ _ => rfl)) pe_int (nomark _)) (pss_cons (ps_set (i := 3) sc_law_next.nd rfl (by first | exact Or.inl rfl | exact Or.inr rfl) (pe_op op_mod (pe_ix (ix_seqK (K := K) rfl) (pv 0) pe_int (fun _ _ => rfl)) (pv 1)))
      (pss_cons (ps_asg (pe_op op_fdivB (pe_ix (ix_seqK (K := K) rfl) (pv 0) pe_int (fun _ _ => rfl)) (pv 1)) (pg_sub (pv 0) pe_int set_list))
      (pss_one (ps_ret (pv 3))))) pss_nil)
      (pss_cons (ps_asg (pe_op op_add (pe_ix (ix_seqK (K := K) rfl) (pv 0) pe_int (fun _ _ => rfl)) pe_int) (pg_sub (pv 0) pe_int set_list))
      (pss_one (ps_ret (pe_op op_mod (pe_df (df_law_mix T) (hr.mono (by decide)) (pa_cons (pe_ix (ix_seqK (K := K) rfl) (pv 0) pe_int (fun _ _ => rfl)) (pa_cons (pe_op op_add (pe_ix (ix_seqK (K := K) rfl) (pv 0) pe_int (fun _ _ => rfl)) pe_int) pa_nil))) (pv 1))))))), ?_⟩
    have hdc := DA.ne
    refine tSeq_cut (fun σ' H' => ∃ (k' : Nat) (r' : Int) (cl fo : Option V), σ' = [some (.ref d), some (.int many), cl, fo] ∧ DeckAt H' d c ns k' r' m t ∧ KeepBut d H H') ?_ (fun rest => ?_)
    · -- behind the first if
      rintro _ H1 ⟨k1, r1, cl, fo, rfl, D1, kb1⟩
      refine ⟨_, rfl, Or.inl ⟨_, _, _, _, rfl, rfl, SqL.of D1.deck, rfl, _, _, rfl, rfl, _, rfl, ?_⟩⟩
      refine ite2 (fun hz => ?_) (fun hz => ?_)
      · have hp : 0 < r1 := of_decide_eq_true hz
        refine ⟨_, rfl, Or.inl ⟨_, _, _, _, rfl, rfl, SqL.of D1.deck, rfl, _, rfl, _, _, rfl, rfl, m0, ?_⟩⟩
        refine ⟨_, rfl, Or.inl ⟨_, _, _, _, rfl, rfl, SqL.of D1.deck, rfl, _, rfl, _, _, rfl, rfl, ⟨m0, by omega⟩, ?_⟩⟩
        refine ⟨_, rfl, _, _, _, 2, rfl, rfl, D1.deck, rfl, _, rfl, ?_⟩
        refine q _ _ (Int.emod_nonneg _ (by omega)) (Int.emod_lt_of_pos _ m0) ⟨c, ns, k1, r1 / many, m, t, ⟨upd_same, by rw [upd_ne hdc.symm]; exact D1.cut, D1.kle, D1.few, Int.ediv_nonneg (by omega) (by omega)⟩, by omega⟩ fun b o e hb => ?_
        rw [upd_ne hb]
        exact kb1 b o e hb
      · refine ⟨_, rfl, Or.inl ⟨_, _, _, _, rfl, rfl, SqL.of D1.deck, rfl, _, _, rfl, rfl, ?_⟩⟩
        refine ⟨_, rfl, _, _, _, 3, rfl, rfl, D1.deck, rfl, ?_⟩
        refine ⟨_, rfl, Or.inl ⟨_, _, _, _, rfl, rfl, SqL.of upd_same, rfl, ?_⟩⟩
        refine ⟨_, rfl, Or.inl ⟨_, _, _, _, rfl, rfl, SqL.of upd_same, rfl, _, _, rfl, rfl, _, _, rfl, by omega, by omega, fun x hx => ?_⟩⟩
        refine ⟨_, rfl, _, _, rfl, rfl, m0, ?_⟩
        refine q _ _ (Int.emod_nonneg _ (by omega)) (Int.emod_lt_of_pos _ m0) ⟨c, ns, k1, r1, m + 1, t, ⟨by rw [upd_same]; rfl, by rw [upd_ne hdc.symm]; exact D1.cut, D1.kle, D1.few, D1.rnn⟩, by omega⟩ fun b o e hb => ?_
        rw [upd_ne hb]
        exact kb1 b o e hb
    · -- deck[2] == 0 and deck[1] < len(deck[0])
      refine ⟨_, rfl, Or.inl ⟨_, _, _, _, rfl, rfl, SqL.of DA.deck, rfl, Or.inl ⟨rfl, _, rfl, ?_⟩⟩⟩
      refine ite2 (fun hz => ?_) (fun hz => iteF (rest _ _ ⟨k, r, none, none, rfl, DA, KeepBut.refl _ _⟩))
      have r0 := ofInt hz
      subst r0
      refine ⟨_, rfl, Or.inl ⟨_, _, _, _, rfl, rfl, SqL.of DA.deck, rfl, _, rfl, Or.inl ⟨_, _, _, _, rfl, rfl, SqL.of DA.deck, rfl, _, _, rfl, Or.inl ⟨_, SqL.of DA.cut, rfl⟩, _, _, rfl, rfl, _, rfl, ?_⟩⟩⟩
      refine ite2 (fun hk => ?_) (fun _ => rest _ _ ⟨k, 0, none, none, rfl, DA, KeepBut.refl _ _⟩)
      have hk2 : (k : Int) < (ns.map V.int).length := of_decide_eq_true hk
      rw [List.length_map] at hk2
      have hk3 : k < ns.length := by omega
      have hat : (ns.map V.int)[k]? = some (.int ns[k]) := by simp [hk3]
      -- cell = deck[0][deck[1]]
      refine ⟨_, rfl, Or.inl ⟨_, _, _, _, rfl, rfl, SqL.of DA.deck, rfl, _, rfl, Or.inl ⟨_, _, _, _, rfl, rfl, SqL.of DA.deck, rfl, Or.inl ⟨_, _, _, _, rfl, rfl, SqL.of DA.cut, atI_nat hat, ?_⟩⟩⟩⟩
      -- deck[1] = deck[1] + 1
      refine ⟨_, rfl, Or.inl ⟨_, _, _, _, rfl, rfl, SqL.of DA.deck, rfl, _, _, rfl, rfl, _, rfl, _, _, _, 1, rfl, rfl, DA.deck, rfl, ?_⟩⟩
      have D1 : DeckAt (upd H d (.lst [.ref c, .int ((k + 1 : Nat) : Int), .int 0, .int m, .int t])) d c ns (k + 1) 0 m t := ⟨upd_same, by rw [upd_ne hdc.symm]; exact DA.cut, hk3, DA.few, Int.le_refl _⟩
      have kb1 : KeepBut d H (upd H d (.lst [.ref c, .int ((k + 1 : Nat) : Int), .int 0, .int m, .int t])) := fun b o e hb => by rw [upd_ne hb]; exact e
      show tSeq _ _ _ _ (upd H d (.lst [.ref c, .int ((k + 1 : Nat) : Int), .int 0, .int m, .int t]))
      generalize upd H d (.lst [.ref c, .int ((k + 1 : Nat) : Int), .int 0, .int m, .int t]) = H1 at D1 kb1
      refine ⟨_, rfl, _, _, rfl, rfl, ⟨by decide, by decide, by decide⟩, _, _, rfl, rfl, _, rfl, ?_⟩
      refine ite2 (fun _ => ?_) (fun hc => ?_)
      · refine ⟨_, rfl, _, rfl, Or.inl ⟨_, _, _, _, rfl, rfl, SqL.of D1.deck, rfl, _, _, rfl, by omega, by have := D1.kle; have := D1.few; omega, fun x hx => ?_⟩⟩
        refine ⟨_, rfl, _, _, rfl, rfl, m0, ?_⟩
        exact q _ _ (Int.emod_nonneg _ (by omega)) (Int.emod_lt_of_pos _ m0) ⟨c, ns, k + 1, 0, m, t, D1, by omega⟩ kb1
      · have hc2 : ¬ ns[k] < (10 : Int) ^ (18 : Int).toNat := fun z => hc (decide_eq_true z)
        have hc3 : (10 : Int) ^ (18 : Int).toNat ≤ ns[k] := Int.not_lt.mp hc2
        have hc4 : (0 : Int) ≤ ns[k] := Int.le_trans (by decide) hc3
        refine ⟨_, rfl, _, rfl, _, _, _, 2, rfl, rfl, D1.deck, rfl, ?_⟩
        refine rest _ _ ⟨k + 1, ns[k], some (.int ns[k]), none, rfl, ⟨upd_same, by rw [upd_ne hdc.symm]; exact D1.cut, D1.kle, D1.few, hc4⟩, fun b o e hb => ?_⟩
        rw [upd_ne hb]
        exact kb1 b o e hb

def spCell : Sp := fun vs H Q _ => ∃ (d : Addr) (n : Nat), vs = [.ref d] ∧ Deck H d n ∧ n + 2 < 2 ^ 40 ∧
  ∀ (c : Option Int) (H' : Hp), CellOk c → Deck H' d (n + 2) → KeepBut d H H' → Q (cellV c) H'
theorem df_law_cell (T : Txt K mg) : Df P w K mg base 3 "_law_cell" ["deck"] spCell := by
  refine T.d_law_cell.ok sc_law_cell (fun vs H Q E h => ?_) (fun f cdv A outer s H vs Q E hr h => ?_)
  · obtain ⟨d, n, rfl, _⟩ := h
    rfl
  · obtain ⟨d, n, rfl, D, hn, q⟩ := h
    refine ⟨_, (pss_cons (ps_set (i := 1) sc_law_cell.nd rfl (by first | exact Or.inl rfl | exact Or.inr rfl) (pe_df (df_law_next T) (hr.mono (by decide)) (pa_cons (pv 0) (pa_cons pe_int pa_nil))))
      (pss_cons (ps_if (pt_cmpR (op_eqA hr.units) (pv 1) pe_int (nomark _)) (pss_one (ps_ret pe_non)) pss_nil)
      (pss_cons (ps_if (pt_cmpR op_lt (pv 1) pe_int (nomark _)) (pss_one (ps_ret (pe_op op_sub (pe_df (df_law_next T) (hr.mono (by decide)) (pa_cons (pv 0) (pa_cons pe_int pa_nil))) pe_int))) pss_nil)
      (pss_cons (ps_if (pt_cmpR (op_eqA hr.units) (pv 1) pe_int (nomark _)) (pss_one (ps_ret (pe_ix (ix_seqK (K := K) rfl) (pe_lst (pa_cons (pe_op op_pow pe_int pe_int) (pa_cons (pe_op op_sub pe_int (pe_op op_pow pe_int pe_int)) (pa_cons pe_int (pa_cons pe_int (pa_cons (pe_un un_neg pe_int) pa_nil)))))) (pe_df (df_law_next T) (hr.mono (by decide)) (pa_cons (pv 0) (pa_cons pe_int pa_nil))) (fun _ _ => rfl)))) pss_nil)
      (pss_cons (ps_if (pt_cmpR (op_eqA hr.units) (pv 1) pe_int (nomark _)) (pss_one (ps_ret (pe_op op_sub (pe_df (df_law_next T) (hr.mono (by decide)) (pa_cons (pv 0) (pa_cons (pe_op op_add (pe_op op_mul pe_int (pe_op op_pow pe_int pe_int)) pe_int) pa_nil))) (pe_op op_pow pe_int pe_int)))) pss_nil)
      (pss_one (ps_ret (pe_op op_sub (pe_df (df_law_next T) (hr.mono (by decide)) (pa_cons (pv 0) (pa_cons pe_int pa_nil))) pe_int)))))))), ?_⟩
    refine ⟨_, rfl, _, _, _, rfl, D, (by decide), (by decide), by omega, fun way H1 w0 w1 D1 k1 => ?_⟩
    refine ⟨_, rfl, Or.inl ⟨rfl, _, rfl, ?_⟩⟩
    refine ite2 (fun _ => q none H1 (fun i e => by cases e) (D1.more (by omega)) k1) (fun _ => ?_)
    refine ⟨_, rfl, _, _, rfl, rfl, _, rfl, ?_⟩
    refine ite2 (fun _ => ?_) (fun _ => ?_)
    · refine ⟨_, rfl, _, _, _, rfl, D1, (by decide), (by decide), by omega, fun x H2 x0 x1 D2 k2 => ?_⟩
      refine ⟨_, _, rfl, rfl, ?_⟩
      exact q (some (x - 3)) H2 (fun i e => by cases e; omega) D2 (k1.trans k2)
    refine ⟨_, rfl, Or.inl ⟨rfl, _, rfl, ?_⟩⟩
    refine ite2 (fun _ => ?_) (fun _ => ?_)
    · refine ⟨_, _, rfl, rfl, ⟨by decide, by decide, by decide⟩, _, _, rfl, rfl, ⟨by decide, by decide, by decide⟩, _, _, rfl, rfl, _, rfl, (by show 5 ≤ sizeLine; decide), fun p hp => ?_⟩
      refine ⟨_, rfl, _, _, _, rfl, D1.upd hp, (by decide), (by decide), by omega, fun x H2 x0 x1 D2 k2 => ?_⟩
      have hpd : p ≠ d := by
        obtain ⟨xs, e⟩ := D1.lst
        exact (ne_of_none e hp).symm
      have e2 := k2 p _ upd_same hpd
      obtain ⟨v, e3, e4⟩ := atI_mem (xs := [V.int ((10 : Int) ^ (9 : Int).toNat), V.int (0 - (10 : Int) ^ (9 : Int).toNat), V.int 0, V.int 10, V.int (-1)]) x0 (by exact x1)
      refine Or.inl ⟨_, _, _, _, rfl, rfl, SqL.of e2, e3, ?_⟩
      have kk : KeepBut d H H2 := fun b o e hb => k2 b o (by rw [upd_ne (ne_of_none (k1 b o e hb) hp)]; exact k1 b o e hb) hb
      have ten : (10 : Int) ^ (9 : Int).toNat = 1000000000 := by decide
      rw [ten] at e4
      simp only [List.mem_cons, List.not_mem_nil, or_false] at e4
      rcases e4 with e | e | e | e | e
      · rw [e]; exact q (some 1000000000) H2 (fun i e => by cases e; omega) D2 kk
      · rw [e]; exact q (some (0 - 1000000000)) H2 (fun i e => by cases e; omega) D2 kk
      · rw [e]; exact q (some 0) H2 (fun i e => by cases e; omega) D2 kk
      · rw [e]; exact q (some 10) H2 (fun i e => by cases e; omega) D2 kk
      · rw [e]; exact q (some (-1)) H2 (fun i e => by cases e; omega) D2 kk
    refine ⟨_, rfl, Or.inl ⟨rfl, _, rfl, ?_⟩⟩
    refine ite2 (fun _ => ?_) (fun _ => ?_)
    · refine ⟨_, rfl, _, _, rfl, rfl, ⟨by decide, by decide, by decide⟩, _, _, rfl, rfl, Or.inl ⟨by decide, by decide⟩, _, _, rfl, rfl, ?_⟩
      refine ⟨_, _, _, rfl, D1, (by decide), (by decide), by omega, fun x H2 x0 x1 D2 k2 => ?_⟩
      refine ⟨_, _, rfl, rfl, ⟨by decide, by decide, by decide⟩, _, _, rfl, rfl, ?_⟩
      have ten : (10 : Int) ^ (9 : Int).toNat = 1000000000 := by decide
      rw [ten] at x1 ⊢
      exact q (some (x - 1000000000)) H2 (fun i e => by cases e; omega) D2 (k1.trans k2)
    · refine ⟨_, rfl, _, _, _, rfl, D1, (by decide), (by decide), by omega, fun x H2 x0 x1 D2 k2 => ?_⟩
      refine ⟨_, _, rfl, rfl, ?_⟩
      exact q (some (x - 1000)) H2 (fun i e => by cases e; omega) D2 (k1.trans k2)

def spField : Sp := fun vs H Q _ => ∃ (d : Addr) (n : Nat), vs = [.ref d] ∧ Deck H d n ∧ n + 300 < 2 ^ 40 ∧
  ∀ (v : V) (F : List (List (Option Int))) (h w : Nat) (H' : Hp), FieldOk F h w → IsD H' v (fieldD F) → Deck H' d (n + 300) → KeepBut d H H' → Q v H'
/-- one of the four sizes -/
theorem size_of {x y z : Int} (x0 : 0 ≤ x) (x1 : x < 12) (y0 : 0 ≤ y) (y1 : y < 4) (z0 : 0 ≤ z) (z1 : z < 4) :
    ∃ h : Nat, atI [V.int (1 + x), V.int (1 + y), V.int 12, V.int 1] z = some (.int h) ∧ 1 ≤ h ∧ h ≤ 12 := by
  obtain ⟨v, e3, e4⟩ := atI_mem (xs := [V.int (1 + x), V.int (1 + y), V.int 12, V.int 1]) z0 (by exact z1)
  simp only [List.mem_cons, List.not_mem_nil, or_false] at e4
  rcases e4 with e | e | e | e
  · refine ⟨(1 + x).toNat, ?_, by omega, by omega⟩
    rw [e3, e]; congr 2; omega
  · refine ⟨(1 + y).toNat, ?_, by omega, by omega⟩
    rw [e3, e]; congr 2; omega
  · exact ⟨12, by rw [e3, e]; rfl, by omega, by omega⟩
  · exact ⟨1, by rw [e3, e]; rfl, by omega, by omega⟩
theorem df_law_field (T : Txt K mg) : Df P w K mg base 4 "_law_field" ["deck"] spField := by
  refine T.d_law_field.ok sc_law_field (fun vs H Q E h => ?_) (fun f cdv A outer s H vs Q E hr h => ?_)
  · obtain ⟨d, n, rfl, _⟩ := h
    rfl
  · obtain ⟨d, n, rfl, D, hn, q⟩ := h
    obtain ⟨_, Dl⟩ := id D.lst
    refine ⟨_, (pss_cons (ps_set (i := 1) sc_law_field.nd rfl (by first | exact Or.inl rfl | exact Or.inr rfl) (pe_ix (ix_seqK (K := K) rfl) (pe_lst (pa_cons (pe_op op_add pe_int (pe_df (df_law_next T) (hr.mono (by decide)) (pa_cons (pv 0) (pa_cons pe_int pa_nil)))) (pa_cons (pe_op op_add pe_int (pe_df (df_law_next T) (hr.mono (by decide)) (pa_cons (pv 0) (pa_cons pe_int pa_nil)))) (pa_cons pe_int (pa_cons pe_int pa_nil))))) (pe_df (df_law_next T) (hr.mono (by decide)) (pa_cons (pv 0) (pa_cons pe_int pa_nil))) (fun _ _ => rfl)))
      (pss_cons (ps_set (i := 2) sc_law_field.nd rfl (by first | exact Or.inl rfl | exact Or.inr rfl) (pe_ix (ix_seqK (K := K) rfl) (pe_lst (pa_cons (pe_op op_add pe_int (pe_df (df_law_next T) (hr.mono (by decide)) (pa_cons (pv 0) (pa_cons pe_int pa_nil)))) (pa_cons (pe_op op_add pe_int (pe_df (df_law_next T) (hr.mono (by decide)) (pa_cons (pv 0) (pa_cons pe_int pa_nil)))) (pa_cons pe_int (pa_cons pe_int pa_nil))))) (pe_df (df_law_next T) (hr.mono (by decide)) (pa_cons (pv 0) (pa_cons pe_int pa_nil))) (fun _ _ => rfl)))
      (pss_one (ps_ret (pe_callTy (call_tupleK (K := K) rfl) (by rfl) T.n_tuple bt_tuple (pa_cons (pe_compIf (M := ["width", "deck"]) (idx := [2, 0]) rfl (pi_range1 (by rfl) T.n_range (pa_cons (pv 1) pa_nil)) (compOk (by kernel_rfl)) (by decide +kernel) (by first | exact Or.inl rfl | exact Or.inr rfl) (fun _ _ _ _ _ => pts_nil) (fun _ _ _ _ _ => (pe_callTy (call_tupleK (K := K) rfl) (by rfl) T.n_tuple bt_tuple (pa_cons (pe_compIf (M := ["deck"]) (idx := [2]) rfl (pi_range1 (by rfl) T.n_range (pa_cons (pv 1) pa_nil)) (compOk (by kernel_rfl)) (by decide +kernel) (by first | exact Or.inl rfl | exact Or.inr rfl) (fun _ _ _ _ _ => pts_nil) (fun _ _ _ _ _ => (pe_df (df_law_cell T) (hr.mono (by decide)) (pa_cons (pv 1) pa_nil)))) pa_nil)))) pa_nil)))))), ?_⟩
    refine ⟨_, rfl, _, _, _, rfl, D, (by decide), (by decide), by omega, fun x1 H1 a1 b1 D1 k1 => ?_⟩
    refine ⟨_, _, rfl, rfl, _, rfl, _, _, _, rfl, D1, (by decide), (by decide), by omega, fun x2 H2 a2 b2 D2 k2 => ?_⟩
    refine ⟨_, _, rfl, rfl, (by show 4 ≤ sizeLine; decide), fun p hp => ?_⟩
    have hpd : p ≠ d := by
      obtain ⟨xs, e⟩ := D2.lst
      exact (ne_of_none e hp).symm
    refine ⟨_, rfl, _, _, _, rfl, D2.upd hp, (by decide), (by decide), by omega, fun x3 H3 a3 b3 D3 k3 => ?_⟩
    obtain ⟨h, eh, h1, h12⟩ := size_of a1 b1 a2 b2 a3 b3
    refine Or.inl ⟨_, _, _, _, rfl, rfl, SqL.of (k3 p _ upd_same hpd), eh, ?_⟩
    have K3 : KeepBut d H H3 := (k1.trans k2).upd hp |>.trans k3
    refine ⟨_, rfl, _, _, _, rfl, D3, (by decide), (by decide), by omega, fun x4 H4 a4 b4 D4 k4 => ?_⟩
    refine ⟨_, _, rfl, rfl, _, rfl, _, _, _, rfl, D4, (by decide), (by decide), by omega, fun x5 H5 a5 b5 D5 k5 => ?_⟩
    refine ⟨_, _, rfl, rfl, (by show 4 ≤ sizeLine; decide), fun p2 hp2 => ?_⟩
    have hpd2 : p2 ≠ d := by
      obtain ⟨xs, e⟩ := D5.lst
      exact (ne_of_none e hp2).symm
    refine ⟨_, rfl, _, _, _, rfl, D5.upd hp2, (by decide), (by decide), by omega, fun x6 H6 a6 b6 D6 k6 => ?_⟩
    obtain ⟨wd, ew, w1, w12⟩ := size_of a4 b4 a5 b5 a6 b6
    refine Or.inl ⟨_, _, _, _, rfl, rfl, SqL.of (k6 p2 _ upd_same hpd2), ew, ?_⟩
    have K6 : KeepBut d H H6 := (((K3.trans k4).trans k5).upd hp2).trans k6
    -- the rows
    refine ⟨_, rfl, _, rfl, by omega, by omega, ?_⟩
    refine compW_range (fun i ys H' => ∃ rows : List (List (Option Int)), rows.length = i ∧ IsDs H' ys (rows.map rowD) ∧ (∀ r ∈ rows, r.length = wd) ∧ (∀ r ∈ rows, ∀ c ∈ r, CellOk c) ∧ Deck H' d (n + 6 + 24 * i) ∧ KeepBut d H H')
      ⟨[], rfl, .nil, fun r hr => absurd hr (by simp), fun r hr => absurd hr (by simp), D6.more (by omega), K6⟩ (by show h ≤ sizeLine; exact Nat.le_trans h12 (by decide)) ?_ ?_
    · rintro i ys H7 hi ⟨rows, rl, ry, rw, rc, D7, K7⟩
      have hi' : i < 12 := by have : i < (h : Int).toNat := hi; omega
      refine oneT ?_
      refine ⟨_, rfl, _, rfl, by omega, by omega, ?_⟩
      refine compW_range (fun j zs H' => ∃ r : List (Option Int), r.length = j ∧ zs = r.map cellV ∧ (∀ c ∈ r, CellOk c) ∧ Deck H' d (n + 6 + 24 * i + 2 * j) ∧ KeepBut d H7 H')
        ⟨[], rfl, rfl, fun c hc => absurd hc (by simp), D7.more (by omega), KeepBut.refl _ _⟩ (by show wd ≤ sizeLine; exact Nat.le_trans w12 (by decide)) ?_ ?_
      · rintro j zs H8 hj ⟨r, lr, er, cr, D8, K8⟩
        have hj' : j < 12 := by have : j < (wd : Int).toNat := hj; omega
        refine oneT ?_
        refine ⟨_, rfl, _, _, rfl, D8, by omega, fun c H9 oc D9 k9 => ?_⟩
        refine ⟨r ++ [c], by rw [List.length_append, lr]; rfl, by rw [er, List.map_append]; rfl, fun c' hc' => ?_, D9.more (by omega), K8.trans k9⟩
        rcases List.mem_append.mp hc' with z | z
        · exact cr c' z
        · have : c' = c := by simpa using z
          rw [this]; exact oc
      · rintro zs H8 ⟨r, lr, er, cr, D8, K8⟩ p3 hp3
        refine ⟨_, _, rfl, Or.inl ⟨SqL.of upd_same, fun l hl => ?_⟩⟩
        have lr' : r.length = wd := lr
        have k8 : KeepT H7 H8 := by
          obtain ⟨xs, e⟩ := D7.lst
          exact K8.tups e
        have kk : Same H8 (upd (upd H8 p3 (.lst zs)) l (.tup zs)) := (same_upd hp3).trans (same_upd hl)
        refine ⟨rows ++ [r], by rw [List.length_append, rl]; rfl, ?_, fun r' hr' => ?_, fun r' hr' => ?_, (D8.keep kk).more (by rw [lr'] at lr; have : (wd : Int).toNat ≤ 12 := (by omega); omega), ((K7.trans K8).trans (kk.but d))⟩
        · rw [List.map_append]
          refine (ry.keep (k8.trans kk.tups)).append (.cons (.tup upd_same ?_) .nil)
          rw [er]
          exact isCells r
        · rcases List.mem_append.mp hr' with z | z
          · exact rw r' z
          · have : r' = r := by simpa using z
            rw [this]; exact lr'
        · rcases List.mem_append.mp hr' with z | z
          · exact rc r' z
          · have : r' = r := by simpa using z
            rw [this]; exact cr
    · rintro ys H7 ⟨rows, rl, ry, rw, rc, D7, K7⟩ p3 hp3
      refine ⟨_, _, rfl, Or.inl ⟨SqL.of upd_same, fun l hl => ?_⟩⟩
      have rl' : rows.length = h := rl
      have kk : Same H7 (upd (upd H7 p3 (.lst ys)) l (.tup ys)) := (same_upd hp3).trans (same_upd hl)
      exact q (.ref l) rows h wd _ ⟨rl', h1, h12, w1, w12, rw, rc⟩ (.tup upd_same (ry.keep kk.tups)) ((D7.keep kk).more (by have : (h : Int).toNat ≤ 12 := (by omega); omega)) (K7.trans (kk.but d))

def spInside : Sp := fun vs H Q _ => ∃ (fv : V) (F : List (List (Option Int))) (i j : Int), vs = [fv, .int i, .int j] ∧ Rect F ∧ IsD H fv (fieldD F) ∧ Q (.bl (inF F i j)) H
theorem df_is_inside (T : Txt K mg) : Df P w K mg base 1 "is_inside" ["field", "i", "j"] spInside := by
  refine T.d_is_inside.ok sc_is_inside (fun vs H Q E h => ?_) (fun f cdv A outer s H vs Q E hr h => ?_)
  · obtain ⟨fv, F, i, j, rfl, _⟩ := h
    rfl
  · obtain ⟨fv, F, i, j, rfl, R, hf, q⟩ := h
    obtain ⟨a, xs, b, ys, rfl, ha, la, hb0, hb, lb⟩ := field_sizes R hf
    refine ⟨_, (pss_one (ps_ret (pe_and (pe_chain op_le op_lt pe_int (pv 1) (pe_callB (call_lenK (K := K) rfl) (by rfl) T.n_len bt_len (pa_cons (pv 0) pa_nil))) (pe_one (pe_chain op_le op_lt pe_int (pv 2) (pe_callB (call_lenK (K := K) rfl) (by rfl) T.n_len bt_len (pa_cons (pe_ix (ix_seqK (K := K) rfl) (pv 0) pe_int (fun _ _ => rfl)) pa_nil))))))), ?_⟩
    refine ⟨_, rfl, _, _, rfl, rfl, _, rfl, ?_⟩
    unfold inF at q
    refine ite2 (fun z => ?_) (fun z => ?_)
    · refine ⟨_, rfl, _, _, rfl, Or.inr ⟨_, SqT.of ha, rfl⟩, _, _, rfl, rfl, _, rfl, ?_⟩
      refine ite2 (fun z2 => ?_) (fun z2 => ?_)
      · refine ⟨_, rfl, _, _, rfl, rfl, _, rfl, ?_⟩
        have e1 : (decide (0 ≤ i) && decide (i < (F.length : Int))) = true := by rw [z, ← la, z2]; rfl
        rw [e1, Bool.true_and] at q
        refine ite2 (fun z3 => ?_) (fun z3 => ?_)
        · refine ⟨_, rfl, Or.inr (Or.inl ⟨_, _, _, _, rfl, rfl, SqT.of ha, hb0, _, _, rfl, Or.inr ⟨_, SqT.of hb, rfl⟩, _, _, rfl, rfl, ?_⟩)⟩
          rw [z3, ← lb, Bool.true_and] at q
          exact q
        · rw [Bool.eq_false_iff.mpr z3, Bool.false_and] at q
          exact q
      · have e1 : (decide (0 ≤ i) && decide (i < (F.length : Int))) = false := by rw [← la, Bool.eq_false_iff.mpr z2, Bool.and_false]
        rw [e1, Bool.false_and] at q
        exact q
    · rw [Bool.eq_false_iff.mpr z, Bool.false_and, Bool.false_and] at q
      exact ⟨_, rfl, iteF q⟩

theorem minInt (i j : Int) : (if j < i then j else i) = min i j := by omega
theorem maxInt (i j : Int) : (if j > i then j else i) = max i j := by omega
theorem s_turned_near : ¬ (("turned" : Str) = "near") := by decide +kernel
theorem s_round_near : ¬ (("round" : Str) = "near") := by decide +kernel
theorem s_round_turned : ¬ (("round" : Str) = "turned") := by decide +kernel
theorem s_near_there : ¬ (("near" : Str) = "there") := by decide +kernel
theorem s_turned_there : ¬ (("turned" : Str) = "there") := by decide +kernel
theorem s_round_there : ¬ (("round" : Str) = "there") := by decide +kernel
theorem eqS {x y : Str} (h : x = y) : decide (V.str x = V.str y) = true := decide_eq_true (by rw [h])
theorem neS {x y : Str} (h : ¬ x = y) : decide (V.str x = V.str y) = false := decide_eq_false fun e => h (V.str.inj e)
/-- a rule that leads back into the field -/
def Led (r : Rule) (x : Str) : Prop := (r = .near ∧ x = "near") ∨ (r = .turned ∧ x = "turned") ∨ (r = .round ∧ x = "round")
def spBrought : Sp := fun vs H Q _ => ∃ (r : Rule) (x : Str) (p n : Int), vs = [.str x, .int p, .int n] ∧ Led r x ∧ 1 ≤ n ∧ n < 2 ^ 40 ∧ Q (.int (led r p n)) H
theorem df_brought_inside (T : Txt K mg) : Df P w K mg base 1 "brought_inside" ["rule", "place", "length"] spBrought := by
  refine T.d_brought_inside.ok sc_brought_inside (fun vs H Q E h => ?_) (fun f cdv A outer s H vs Q E hr h => ?_)
  · obtain ⟨r, x, p, n, rfl, _⟩ := h
    rfl
  · obtain ⟨r, x, p, n, rfl, hl, n1, n2, q⟩ := h
    refine ⟨_, (pss_cons (ps_if (pt_cmpR (op_eqA hr.units) (pv 0) pe_str (nomark _)) (pss_one (ps_ret (pe_callB (call_min2 rfl) (by rfl) T.n_min bt_min (pa_cons (pe_callB (call_max2 rfl) (by rfl) T.n_max bt_max (pa_cons (pv 1) (pa_cons pe_int pa_nil))) (pa_cons (pe_op op_sub (pv 2) pe_int) pa_nil))))) pss_nil)
      (pss_cons (ps_if (pt_cmpR (op_eqA hr.units) (pv 0) pe_str (nomark _)) (pss_cons (ps_set (i := 3) sc_brought_inside.nd rfl (by first | exact Or.inl rfl | exact Or.inr rfl) (pe_op op_mod (pv 1) (pe_op op_mul pe_int (pv 2))))
      (pss_one (ps_ret (pe_callB (call_min2 rfl) (by rfl) T.n_min bt_min (pa_cons (pv 3) (pa_cons (pe_op op_sub (pe_op op_sub (pe_op op_mul pe_int (pv 2)) pe_int) (pv 3)) pa_nil)))))) pss_nil)
      (pss_one (ps_ret (pe_op op_mod (pv 1) (pv 2)))))), ?_⟩
    rcases hl with ⟨rfl, rfl⟩ | ⟨rfl, rfl⟩ | ⟨rfl, rfl⟩
    · refine ⟨_, rfl, Or.inl ⟨rfl, _, rfl, ?_⟩⟩
      rw [eqS rfl]
      refine iteT ?_
      refine ⟨_, rfl, _, _, rfl, _, rfl, _, _, rfl, rfl, _, _, rfl, ?_⟩
      rw [minInt, maxInt]
      exact q
    · refine ⟨_, rfl, Or.inl ⟨rfl, _, rfl, ?_⟩⟩
      rw [neS s_turned_near]
      refine iteF ?_
      refine ⟨_, rfl, Or.inl ⟨rfl, _, rfl, ?_⟩⟩
      rw [eqS rfl]
      refine iteT ?_
      refine ⟨_, rfl, _, rfl, _, _, rfl, rfl, Or.inl ⟨by decide, by decide⟩, _, _, rfl, rfl, (by show (0 : Int) < 2 * n; omega), ?_⟩
      refine ⟨_, rfl, _, rfl, _, _, rfl, rfl, Or.inl ⟨by decide, by decide⟩, _, _, rfl, rfl, _, rfl, _, _, rfl, rfl, _, _, rfl, ?_⟩
      rw [minInt]
      exact q
    · refine ⟨_, rfl, Or.inl ⟨rfl, _, rfl, ?_⟩⟩
      rw [neS s_round_near]
      refine iteF ?_
      refine ⟨_, rfl, Or.inl ⟨rfl, _, rfl, ?_⟩⟩
      rw [neS s_round_turned]
      refine iteF ?_
      refine ⟨_, rfl, _, rfl, _, _, rfl, rfl, (by show (0 : Int) < n; omega), ?_⟩
      exact q

def spStandsAt : Sp := fun vs H Q _ => ∃ (fv rv : V) (F : List (List (Option Int))) (r : Rule) (i j : Int), vs = [fv, rv, .int i, .int j] ∧ Rect F ∧ IsD H fv (fieldD F) ∧ IsD H rv (ruleD r) ∧
  ∀ (p : Addr), H p = none → Q (.ref p) (upd H p (.tup ((stands F r i j).map cellV)))
theorem df_stands_at (T : Txt K mg) : Df P w K mg base 2 "stands_at" ["field", "rule", "i", "j"] spStandsAt := by
  refine T.d_stands_at.ok sc_stands_at (fun vs H Q E h => ?_) (fun f cdv A outer s H vs Q E hr h => ?_)
  · obtain ⟨fv, rv, F, r, i, j, rfl, _⟩ := h
    rfl
  · obtain ⟨fv, rv, F, r, i, j, rfl, R, hf, hru, q⟩ := h
    refine ⟨_, (pss_cons (ps_if (pt_val (pe_df (df_is_inside T) (hr.mono (by decide)) (pa_cons (pv 0) (pa_cons (pv 2) (pa_cons (pv 3) pa_nil))))) (pss_one (ps_ret (pe_tup (pa_cons (pe_ix (ix_seqK (K := K) rfl) (pe_ix (ix_seqK (K := K) rfl) (pv 0) (pv 2) (fun _ _ => rfl)) (pv 3) (fun _ _ => rfl)) pa_nil)))) pss_nil)
      (pss_cons (ps_if (pt_cmpR (op_eqA hr.units) (pv 1) pe_str (nomark _)) (pss_one (ps_ret (pe_tup pa_nil))) pss_nil)
      (pss_cons (ps_if (pt_val (pe_callB (call_isinstK (K := K) rfl) (by rfl) T.n_isinstance bt_isinstance (pa_cons (pv 1) (pa_cons (pe_bltn (v := .ty "tuple") (by rfl) T.n_tuple bt_tuple rfl) pa_nil)))) (pss_one (ps_ret (pe_tup (pa_cons (pe_ix (ix_seqK (K := K) rfl) (pv 1) pe_int (fun _ _ => rfl)) pa_nil)))) pss_nil)
      (pss_cons (ps_set (i := 4) sc_stands_at.nd rfl (by first | exact Or.inl rfl | exact Or.inr rfl) (pe_ix (ix_seqK (K := K) rfl) (pv 0) (pe_df (df_brought_inside T) (hr.mono (by decide)) (pa_cons (pv 1) (pa_cons (pv 2) (pa_cons (pe_callB (call_lenK (K := K) rfl) (by rfl) T.n_len bt_len (pa_cons (pv 0) pa_nil)) pa_nil)))) (fun _ _ => rfl)))
      (pss_one (ps_ret (pe_tup (pa_cons (pe_ix (ix_seqK (K := K) rfl) (pv 4) (pe_df (df_brought_inside T) (hr.mono (by decide)) (pa_cons (pv 1) (pa_cons (pv 3) (pa_cons (pe_callB (call_lenK (K := K) rfl) (by rfl) T.n_len bt_len (pa_cons (pv 4) pa_nil)) pa_nil)))) (fun _ _ => rfl)) pa_nil)))))))), ?_⟩
    refine ⟨_, rfl, _, rfl, _, rfl, _, F, i, j, rfl, R, hf, _, rfl, ?_⟩
    unfold stands at q
    cases hin : inF F i j with
    | true =>
      refine iteT ?_
      rw [hin, if_pos rfl] at q
      unfold inF at hin
      simp only [Bool.and_eq_true, decide_eq_true_eq] at hin
      obtain ⟨a, xs, b, rr, rfl, ha, hab, hb, hbc, _⟩ := field_cell R hf hin.1.1 hin.1.2 hin.2.1 hin.2.2
      refine ⟨_, rfl, _, rfl, Or.inr (Or.inl ⟨_, _, _, _, rfl, rfl, SqT.of ha, hab, _, rfl, Or.inr (Or.inl ⟨_, _, _, _, rfl, rfl, SqT.of hb, hbc, (by show 1 ≤ sizeLine; decide), fun p hp => ?_⟩)⟩)⟩
      exact q p hp
    | false =>
      refine iteF ?_
      rw [hin, if_neg Bool.false_ne_true] at q
      cases r with
      | there =>
        have e := rule_str hru
        subst e
        refine ⟨_, rfl, Or.inl ⟨rfl, _, rfl, ?_⟩⟩
        rw [eqS rfl]
        refine iteT ?_
        exact ⟨(by show 0 ≤ sizeLine; decide), fun p hp => q p hp⟩
      | told c =>
        obtain ⟨a, xs, rfl, ha, hxs⟩ := hru.tuple_inv
        refine ⟨_, rfl, Or.inr ⟨_, _, hru, .str _, ⟨?_, by decide +kernel, ?_⟩, _, rfl, ?_⟩⟩
        · show PyData.canLayAll0 [.str "told", cellD c] = true
          rw [PyData.canLayAll0, PyData.canLayAll0, canLay_cell]
          decide +kernel
        · show PyData.depthAll [.str "told", cellD c] + 1 ≤ 20
          rw [PyData.depthAll, PyData.depthAll, depth_cell]
          decide
        refine iteF ?_
        refine ⟨_, rfl, _, _, _, _, rfl, Or.inl ⟨rfl, _, ha⟩, rfl, _, rfl, ?_⟩
        refine iteT ?_
        cases hxs with
        | cons h1 h2 =>
          cases h2 with
          | cons h3 h4 =>
            cases h4
            rw [IsD.cell_inv h3] at ha
            refine ⟨_, rfl, Or.inr (Or.inl ⟨_, _, _, _, rfl, rfl, SqT.of ha, rfl, (by show 1 ≤ sizeLine; decide), fun p hp => q p hp⟩)⟩
      | near => 
        have e := rule_str hru
        subst e
        obtain ⟨a, xs, b0, ys, e, ha, la, hb0, hb, lb⟩ := field_sizes R hf
        subst e
        have li := led_in .near i (n := F.length) (by have := R.h1; omega)
        have lj := led_in .near j (n := (F.headD []).length) (by have := R.w1; omega)
        obtain ⟨a', xs', b, rr, e, ha', hab, hb', hbc, lr⟩ := field_cell R hf li.1 li.2 lj.1 lj.2
        cases e
        rw [ha] at ha'; cases ha'
        refine ⟨_, rfl, Or.inl ⟨rfl, _, rfl, ?_⟩⟩
        rw [neS s_near_there]
        refine iteF ?_
        refine ⟨_, rfl, _, _, _, _, rfl, rfl, rfl, _, rfl, ?_⟩
        refine iteF ?_
        refine ⟨_, rfl, _, rfl, _, rfl, _, rfl, _, _, rfl, Or.inr ⟨_, SqT.of ha, rfl⟩, .near, _, _, _, rfl, (by unfold Led; simp), (by have := R.h1; omega), (by have := R.hs; omega), ?_⟩
        refine Or.inr (Or.inl ⟨_, _, _, _, rfl, rfl, SqT.of ha, (by rw [la]; exact hab), ?_⟩)
        refine ⟨_, rfl, _, rfl, _, rfl, _, rfl, _, _, rfl, Or.inr ⟨_, SqT.of hb', rfl⟩, .near, _, _, _, rfl, (by unfold Led; simp), (by rw [lr]; have := R.w1; omega), (by rw [lr]; have := R.ws; omega), ?_⟩
        refine Or.inr (Or.inl ⟨_, _, _, _, rfl, rfl, SqT.of hb', (by rw [lr]; exact hbc), (by show 1 ≤ sizeLine; decide), fun p hp => q p hp⟩)
      | turned => 
        have e := rule_str hru
        subst e
        obtain ⟨a, xs, b0, ys, e, ha, la, hb0, hb, lb⟩ := field_sizes R hf
        subst e
        have li := led_in .turned i (n := F.length) (by have := R.h1; omega)
        have lj := led_in .turned j (n := (F.headD []).length) (by have := R.w1; omega)
        obtain ⟨a', xs', b, rr, e, ha', hab, hb', hbc, lr⟩ := field_cell R hf li.1 li.2 lj.1 lj.2
        cases e
        rw [ha] at ha'; cases ha'
        refine ⟨_, rfl, Or.inl ⟨rfl, _, rfl, ?_⟩⟩
        rw [neS s_turned_there]
        refine iteF ?_
        refine ⟨_, rfl, _, _, _, _, rfl, rfl, rfl, _, rfl, ?_⟩
        refine iteF ?_
        refine ⟨_, rfl, _, rfl, _, rfl, _, rfl, _, _, rfl, Or.inr ⟨_, SqT.of ha, rfl⟩, .turned, _, _, _, rfl, (by unfold Led; simp), (by have := R.h1; omega), (by have := R.hs; omega), ?_⟩
        refine Or.inr (Or.inl ⟨_, _, _, _, rfl, rfl, SqT.of ha, (by rw [la]; exact hab), ?_⟩)
        refine ⟨_, rfl, _, rfl, _, rfl, _, rfl, _, _, rfl, Or.inr ⟨_, SqT.of hb', rfl⟩, .turned, _, _, _, rfl, (by unfold Led; simp), (by rw [lr]; have := R.w1; omega), (by rw [lr]; have := R.ws; omega), ?_⟩
        refine Or.inr (Or.inl ⟨_, _, _, _, rfl, rfl, SqT.of hb', (by rw [lr]; exact hbc), (by show 1 ≤ sizeLine; decide), fun p hp => q p hp⟩)
      | round => 
        have e := rule_str hru
        subst e
        obtain ⟨a, xs, b0, ys, e, ha, la, hb0, hb, lb⟩ := field_sizes R hf
        subst e
        have li := led_in .round i (n := F.length) (by have := R.h1; omega)
        have lj := led_in .round j (n := (F.headD []).length) (by have := R.w1; omega)
        obtain ⟨a', xs', b, rr, e, ha', hab, hb', hbc, lr⟩ := field_cell R hf li.1 li.2 lj.1 lj.2
        cases e
        rw [ha] at ha'; cases ha'
        refine ⟨_, rfl, Or.inl ⟨rfl, _, rfl, ?_⟩⟩
        rw [neS s_round_there]
        refine iteF ?_
        refine ⟨_, rfl, _, _, _, _, rfl, rfl, rfl, _, rfl, ?_⟩
        refine iteF ?_
        refine ⟨_, rfl, _, rfl, _, rfl, _, rfl, _, _, rfl, Or.inr ⟨_, SqT.of ha, rfl⟩, .round, _, _, _, rfl, (by unfold Led; simp), (by have := R.h1; omega), (by have := R.hs; omega), ?_⟩
        refine Or.inr (Or.inl ⟨_, _, _, _, rfl, rfl, SqT.of ha, (by rw [la]; exact hab), ?_⟩)
        refine ⟨_, rfl, _, rfl, _, rfl, _, rfl, _, _, rfl, Or.inr ⟨_, SqT.of hb', rfl⟩, .round, _, _, _, rfl, (by unfold Led; simp), (by rw [lr]; have := R.w1; omega), (by rw [lr]; have := R.ws; omega), ?_⟩
        refine Or.inr (Or.inl ⟨_, _, _, _, rfl, rfl, SqT.of hb', (by rw [lr]; exact hbc), (by show 1 ≤ sizeLine; decide), fun p hp => q p hp⟩)

def spLike (e : Nat) : Sp := fun vs H Q _ => ∃ (f d : V) (D : PyData), vs = [f, d] ∧ IsD H f D ∧ IsD H d D ∧ plainD D = true ∧ D.depth < e ∧ ∀ H', Same H H' → Q (.bl true) H'
theorem df_like_at (T : Txt K mg) : ∀ e : Nat, Df P w K mg base e "_law_like" ["found", "due"] (spLike e) := by
  intro e
  induction e with
  | zero => exact T.d_law_like.never fun vs H Q E ⟨f, d, D, _, _, _, _, h, _⟩ => Nat.not_lt_zero _ h
  | succ e ih =>
    refine T.d_law_like.ok sc_law_like (fun vs H Q E h => ?_) (fun f cdv A outer s H vs Q E hr h => ?_)
    · obtain ⟨f, d, D, rfl, _⟩ := h
      rfl
    · obtain ⟨f, d, D, rfl, hf, hd, pl, dp, q⟩ := h
      refine ⟨_, (pss_cons (ps_if (pt_cmpR op_isN (pv 1) pe_non (nomark _)) (pss_one (ps_ret (pe_cmpR op_isN (pv 0) pe_non (nomark _)))) pss_nil)
      (pss_cons (ps_if (pt_val (pe_callB (call_isinstK (K := K) rfl) (by rfl) T.n_isinstance bt_isinstance (pa_cons (pv 1) (pa_cons (pe_bltn (v := .ty "tuple") (by rfl) T.n_tuple bt_tuple rfl) pa_nil)))) (pss_cons (ps_if (pw_or (pt_not (pt_val (pe_callB (call_isinstK (K := K) rfl) (by rfl) T.n_isinstance bt_isinstance (pa_cons (pv 0) (pa_cons (pe_bltn (v := .ty "tuple") (by rfl) T.n_tuple bt_tuple rfl) pa_nil))))) (pw_or1 (pt_cmpR (op_neA hr.units) (pe_callB (call_lenK (K := K) rfl) (by rfl) T.n_len bt_len (pa_cons (pv 0) pa_nil)) (pe_callB (call_lenK (K := K) rfl) (by rfl) T.n_len bt_len (pa_cons (pv 1) pa_nil)) (nomark _)))).pt (pss_one (ps_ret pe_bl)) pss_nil)
      (pss_one (ps_ret (pe_callB (call_allK (K := K) rfl rfl) (by rfl) T.n_all bt_all (pa_cons (pe_compIf (M := ["found", "due"]) (idx := [0, 1]) rfl (pi_range1 (by rfl) T.n_range (pa_cons (pe_callB (call_lenK (K := K) rfl) (by rfl) T.n_len bt_len (pa_cons (pv 1) pa_nil)) pa_nil)) (compOk (by kernel_rfl)) (by decide +kernel) (by first | exact Or.inl rfl | exact Or.inr rfl) (fun _ _ _ _ _ => pts_nil) (fun _ _ _ _ _ => (pe_df ih hr (pa_cons (pe_ix (ix_seqK (K := K) rfl) (pv 1) (pv 0) (fun _ _ => rfl)) (pa_cons (pe_ix (ix_seqK (K := K) rfl) (pv 2) (pv 0) (fun _ _ => rfl)) pa_nil))))) pa_nil))))) pss_nil)
      (pss_one (ps_ret (pe_and (pe_callB (call_isinstK (K := K) rfl) (by rfl) T.n_isinstance bt_isinstance (pa_cons (pv 0) (pa_cons (pe_bltn (v := .ty "int") (by rfl) T.n_int bt_int rfl) pa_nil))) (pe_and (pe_not (pe_callB (call_isinstK (K := K) rfl) (by rfl) T.n_isinstance bt_isinstance (pa_cons (pv 0) (pa_cons (pe_bltn (v := .ty "bool") (by rfl) T.n_bool bt_bool rfl) pa_nil)))) (pe_one (pe_cmpR (op_eqA hr.units) (pv 0) (pv 1) (nomark _))))))))), ?_⟩
      cases hd with
      | bl b => cases pl
      | str x => cases pl
      | non =>
        cases hf
        refine ⟨_, rfl, rfl, _, rfl, ?_⟩
        refine iteT ?_
        exact ⟨_, rfl, rfl, q _ (Same.refl _)⟩
      | int i =>
        cases hf
        refine ⟨_, rfl, rfl, _, rfl, ?_⟩
        refine iteF ?_
        refine ⟨_, rfl, _, _, _, _, rfl, rfl, rfl, _, rfl, ?_⟩
        refine iteF ?_
        refine ⟨_, rfl, _, _, _, _, rfl, rfl, rfl, _, rfl, ?_⟩
        refine iteT ?_
        refine ⟨_, rfl, _, _, _, _, rfl, rfl, rfl, _, rfl, _, rfl, ?_⟩
        refine iteT ?_
        refine ⟨_, rfl, _, rfl, Or.inl ⟨rfl, ?_⟩⟩
        have e : decide (V.int i = V.int i) = true := decide_eq_true rfl
        rw [e]
        exact q _ (Same.refl _)
      | @tup da dxs ds hda hds =>
        obtain ⟨fa, fxs, rfl, hfa, hfs⟩ := hf.tuple_inv
        rw [plainD, Bool.and_eq_true, decide_eq_true_eq] at pl
        have lf := hfs.length
        have ld := hds.length
        refine ⟨_, rfl, rfl, _, rfl, ?_⟩
        refine iteF ?_
        refine ⟨_, rfl, _, _, _, _, rfl, Or.inl ⟨rfl, _, hda⟩, rfl, _, rfl, ?_⟩
        refine iteT ?_
        refine ⟨_, rfl, _, _, _, _, rfl, Or.inl ⟨rfl, _, hfa⟩, rfl, _, rfl, ?_⟩
        refine iteF ?_
        refine ⟨_, rfl, _, _, rfl, Or.inr ⟨_, SqT.of hfa, rfl⟩, _, rfl, _, _, rfl, Or.inr ⟨_, SqT.of hda, rfl⟩, Or.inl ⟨rfl, _, rfl, ?_⟩⟩
        have e1 : decide (V.int (fxs.length : Int) = V.int (dxs.length : Int)) = true := decide_eq_true (by rw [lf, ld])
        rw [e1]
        refine iteF ?_
        refine ⟨_, rfl, _, _, rfl, Or.inr ⟨_, SqT.of hda, rfl⟩, _, rfl, by omega, by omega, ?_⟩
        refine compW_range (fun i ys H' => ys = List.replicate i (.bl true) ∧ Same H H') ⟨rfl, Same.refl _⟩ (by show dxs.length ≤ sizeLine; rw [ld]; exact Nat.le_trans pl.1 (by decide)) ?_ ?_
        · rintro i ys H1 hi ⟨ey, s1⟩
          have hi' : i < ds.length := by have : i < ((dxs.length : Nat) : Int).toNat := hi; omega
          have ei : ds[i]? = some ds[i] := by simp [hi']
          obtain ⟨x, ex, hx⟩ := hfs.get ei
          obtain ⟨y, ey', hy⟩ := hds.get ei
          have e0 : (0 : Int) + (i : Int) = (i : Int) := by omega
          refine oneT ?_
          rw [e0]
          refine ⟨_, rfl, _, rfl, Or.inr (Or.inl ⟨_, _, _, _, rfl, rfl, SqT.of (s1 _ _ hfa), atI_nat ex, ?_⟩)⟩
          refine ⟨_, rfl, _, rfl, Or.inr (Or.inl ⟨_, _, _, _, rfl, rfl, SqT.of (s1 _ _ hda), atI_nat ey', ?_⟩)⟩
          refine ⟨x, y, ds[i], rfl, hx.keep s1.tups, hy.keep s1.tups, plainDs_get pl.2 ei, ?_, fun H2 s2 => ⟨?_, s1.trans s2⟩⟩
          · have := depthAll_get ei
            have dp' : PyData.depthAll ds + 1 < e + 1 := dp
            omega
          · rw [ey]
            exact List.replicate_succ'.symm
        · rintro ys H1 ⟨ey, s1⟩ p hp
          refine ⟨_, List.replicate ((dxs.length : Nat) : Int).toNat true, rfl, SqL.of (by rw [upd_same, ey, List.map_replicate]), ?_⟩
          have e2 : (List.replicate ((dxs.length : Nat) : Int).toNat true).all id = true := by
            rw [List.all_eq_true]
            intro b hb
            exact (List.mem_replicate.mp hb).2
          rw [e2]
          exact q _ (s1.trans (same_upd hp))

def spRule : Sp := fun vs H Q _ => ∃ (d : Addr) (n : Nat), vs = [.ref d] ∧ Deck H d n ∧ n + 3 < 2 ^ 40 ∧
  ∀ (v : V) (r : Rule) (H' : Hp), IsD H' v (ruleD r) → Deck H' d (n + 3) → KeepBut d H H' → Q v H'
theorem s_there_told : ¬ (("there" : Str) = "told") := by decide +kernel
theorem s_near_told : ¬ (("near" : Str) = "told") := by decide +kernel
theorem s_turned_told : ¬ (("turned" : Str) = "told") := by decide +kernel
theorem s_round_told : ¬ (("round" : Str) = "told") := by decide +kernel
theorem df_law_rule (T : Txt K mg) : Df P w K mg base 4 "_law_rule" ["deck"] spRule := by
  refine T.d_law_rule.ok sc_law_rule (fun vs H Q E h => ?_) (fun f cdv A outer s H vs Q E hr h => ?_)
  · obtain ⟨d, n, rfl, _⟩ := h
    rfl
  · obtain ⟨d, n, rfl, D, hn, q⟩ := h
    refine ⟨_, (pss_cons (ps_set (i := 1) sc_law_rule.nd rfl (by first | exact Or.inl rfl | exact Or.inr rfl) (pe_ix (ix_seqK (K := K) rfl) (pe_lst (pa_cons pe_str (pa_cons pe_str (pa_cons pe_str (pa_cons pe_str (pa_cons pe_str pa_nil)))))) (pe_df (df_law_next T) (hr.mono (by decide)) (pa_cons (pv 0) (pa_cons pe_int pa_nil))) (fun _ _ => rfl)))
      (pss_cons (ps_set (i := 2) sc_law_rule.nd rfl (by first | exact Or.inl rfl | exact Or.inr rfl) (pe_df (df_law_cell T) (hr.mono (by decide)) (pa_cons (pv 0) pa_nil)))
      (pss_one (ps_ret (pe_ix (ix_seqK (K := K) rfl) (pe_lst (pa_cons (pv 1) (pa_cons (pe_tup (pa_cons pe_str (pa_cons (pv 2) pa_nil))) pa_nil))) (pe_callTy call_int1 (by rfl) T.n_int bt_int (pa_cons (pe_cmpR (op_eqA hr.units) (pv 1) pe_str (nomark _)) pa_nil)) (fun _ _ => rfl)))))), ?_⟩
    refine ⟨(by show 5 ≤ sizeLine; decide), fun p hp => ?_⟩
    have hpd : p ≠ d := by
      obtain ⟨xs, e⟩ := D.lst
      exact (ne_of_none e hp).symm
    refine ⟨_, rfl, _, _, _, rfl, D.upd hp, (by decide), (by decide), by omega, fun x H1 x0 x1 D1 k1 => ?_⟩
    have e1 := k1 p _ upd_same hpd
    have K1 : KeepBut d H H1 := ((KeepBut.refl d H).upd hp).trans k1
    obtain ⟨v, e3, e4⟩ := atI_mem (xs := [V.str "there", V.str "near", V.str "turned", V.str "round", V.str "told"]) x0 (by exact x1)
    refine Or.inl ⟨_, _, _, _, rfl, rfl, SqL.of e1, e3, ?_⟩
    refine ⟨_, rfl, _, _, rfl, D1, by omega, fun c H2 oc D2 k2 => ?_⟩
    refine ⟨_, rfl, _, rfl, (by show 2 ≤ sizeLine; decide), fun t ht => ?_⟩
    refine ⟨(by show 2 ≤ sizeLine; decide), fun l hl => ?_⟩
    have st := same_upd (o := .tup [.str "told", cellV c]) ht
    have sl := same_upd (o := .lst [v, .ref t]) hl
    have s2 : Same H2 _ := st.trans sl
    have K2 : KeepBut d H _ := (K1.trans k2).trans (s2.but d)
    have D3 := D2.keep s2
    have q2 : ∀ (r : Rule) (x : V), IsD (upd (upd H2 t (.tup [.str "told", cellV c])) l (.lst [v, .ref t])) x (ruleD r) → Q x (upd (upd H2 t (.tup [.str "told", cellV c])) l (.lst [v, .ref t])) :=
      fun r x hx => q x r _ hx D3 K2
    simp only [List.mem_cons, List.not_mem_nil, or_false] at e4
    have low : ∀ (y : Str) (r : Rule), ¬ y = "told" → ruleD r = .str y → v = .str y → tOp (rIx K) (fun _ H Q => Q (.ref l) H) (fun _ H Q => Q (.int 0) H) [] (upd (upd H2 t (.tup [.str "told", cellV c])) l (.lst [v, .ref t])) Q := fun y r _ er ev =>
      Or.inl ⟨_, _, _, _, rfl, rfl, SqL.of upd_same, rfl, q2 r v (by rw [er, ev]; exact .str y)⟩
    rcases e4 with e | e | e | e | e
    · subst e
      refine ⟨_, rfl, Or.inl ⟨rfl, ?_⟩⟩
      rw [neS s_there_told]
      exact Or.inr ⟨_, rfl, low _ .there s_there_told rfl rfl⟩
    · subst e
      refine ⟨_, rfl, Or.inl ⟨rfl, ?_⟩⟩
      rw [neS s_near_told]
      exact Or.inr ⟨_, rfl, low _ .near s_near_told rfl rfl⟩
    · subst e
      refine ⟨_, rfl, Or.inl ⟨rfl, ?_⟩⟩
      rw [neS s_turned_told]
      exact Or.inr ⟨_, rfl, low _ .turned s_turned_told rfl rfl⟩
    · subst e
      refine ⟨_, rfl, Or.inl ⟨rfl, ?_⟩⟩
      rw [neS s_round_told]
      exact Or.inr ⟨_, rfl, low _ .round s_round_told rfl rfl⟩
    · subst e
      refine ⟨_, rfl, Or.inl ⟨rfl, ?_⟩⟩
      rw [eqS rfl]
      exact Or.inr ⟨_, rfl, Or.inl ⟨_, _, _, _, rfl, rfl, SqL.of upd_same, rfl, q2 (.told c) _ (.tup (sl _ _ upd_same) (.cons (.str _) (.cons (isCell c) .nil)))⟩⟩

def spLed : Sp := fun vs H Q _ => ∃ (r : Rule) (x : Str) (p n : Int), vs = [.str x, .int p, .int n] ∧ Led r x ∧ 1 ≤ n ∧ n < 2 ^ 40 ∧ ∀ H', Same H H' → Q (.int (led r p n)) H'
theorem df_law_led (T : Txt K mg) : Df P w K mg base 1 "_law_led" ["rule", "at", "many"] spLed := by
  refine T.d_law_led.ok sc_law_led (fun vs H Q E h => ?_) (fun f cdv A outer s H vs Q E hr h => ?_)
  · obtain ⟨r, x, p, n, rfl, _⟩ := h
    rfl
  · obtain ⟨r, x, p, n, rfl, hl, n1, n2, q⟩ := h
    refine ⟨_, (pss_cons (ps_while PassesOwn.never (pw_and (pt_cmpR (op_eqA hr.units) (pv 0) pe_str (nomark _)) (pw_and1 (pt_cmpR op_lt (pv 1) pe_int (nomark _)))).pt (pss_one (ps_set (i := 1) sc_law_led.nd rfl (by first | exact Or.inl rfl | exact Or.inr rfl) (pe_op op_add (pv 1) pe_int))))
      (pss_cons (ps_while PassesOwn.never (pw_and (pt_cmpR (op_eqA hr.units) (pv 0) pe_str (nomark _)) (pw_and1 (pt_cmpR op_ge (pv 1) (pv 2) (nomark _)))).pt (pss_one (ps_set (i := 1) sc_law_led.nd rfl (by first | exact Or.inl rfl | exact Or.inr rfl) (pe_op op_sub (pv 1) pe_int))))
      (pss_cons (ps_while PassesOwn.never (pw_or (pt_cmpR op_lt (pv 1) pe_int (nomark _)) (pw_or1 (pt_cmpR op_ge (pv 1) (pv 2) (nomark _)))).pt (pss_one (ps_if (pt_cmpR (op_eqA hr.units) (pv 0) pe_str (nomark _)) (pss_one (ps_set (i := 1) sc_law_led.nd rfl (by first | exact Or.inl rfl | exact Or.inr rfl) (pe_op op_add (pv 1) (pe_op op_mul (pv 2) (pe_ix (ix_seqK (K := K) rfl) (pe_lst (pa_cons pe_int (pa_cons (pe_un un_neg pe_int) pa_nil))) (pe_callTy call_int1 (by rfl) T.n_int bt_int (pa_cons (pe_cmpR op_gt (pv 1) pe_int (nomark _)) pa_nil)) (fun _ _ => rfl)))))) (pss_one (ps_if (pt_cmpR op_lt (pv 1) pe_int (nomark _)) (pss_one (ps_set (i := 1) sc_law_led.nd rfl (by first | exact Or.inl rfl | exact Or.inr rfl) (pe_op op_sub (pe_un un_neg pe_int) (pv 1)))) (pss_one (ps_set (i := 1) sc_law_led.nd rfl (by first | exact Or.inl rfl | exact Or.inr rfl) (pe_op op_sub (pe_op op_sub (pe_op op_mul pe_int (pv 2)) pe_int) (pv 1)))))))))
      (pss_one (ps_ret (pv 1)))))), ?_⟩
    have rn : x = "near" → r = .near := fun e => by
      rcases hl with ⟨h1, _⟩ | ⟨_, h2⟩ | ⟨_, h2⟩
      · exact h1
      · exact absurd (h2.symm.trans e) s_turned_near
      · exact absurd (h2.symm.trans e) s_round_near
    have nr : ¬ x = "near" → ¬ r = .near := fun e z => by
      rcases hl with ⟨_, h2⟩ | ⟨h1, _⟩ | ⟨h1, _⟩
      · exact e h2
      · rw [h1] at z; cases z
      · rw [h1] at z; cases z
    have rr : x = "round" → r = .round := fun e => by
      rcases hl with ⟨_, h2⟩ | ⟨_, h2⟩ | ⟨h1, _⟩
      · exact absurd (e.symm.trans h2) s_round_near
      · exact absurd (e.symm.trans h2) s_round_turned
      · exact h1
    -- while rule == 'near' and at < 0
    refine tSeq_cut (fun σ H' => ∃ p1 : Int, σ = [some (.str x), some (.int p1), some (.int n)] ∧ H = H' ∧ led r p1 n = led r p n ∧ (r = .near → 0 ≤ p1)) ?_ (fun rest => ?_)
    rotate_left
    · refine while_at (fun σ H' => ∃ p1 : Int, σ = [some (.str x), some (.int p1), some (.int n)] ∧ H = H' ∧ led r p1 n = led r p n) (fun σ _ => match σ with | [_, some (.int p1), _] => (-p1).toNat | _ => 0) ⟨p, rfl, rfl, rfl⟩ ?_
      rintro _ _ ⟨p1, rfl, rfl, e1⟩
      refine ⟨_, rfl, Or.inl ⟨rfl, _, rfl, ?_⟩⟩
      by_cases hx : x = "near"
      · rw [eqS hx]
        refine iteT ?_
        refine ⟨_, rfl, _, _, rfl, rfl, _, rfl, ?_⟩
        refine ite2 (fun z => ?_) (fun z => ?_)
        · have z' : p1 < 0 := of_decide_eq_true z
          refine ⟨fun σ' H' => σ' = [some (.str x), some (.int (p1 + 1)), some (.int n)] ∧ H = H', ?_, ?_⟩
          · rintro _ _ ⟨rfl, rfl⟩
            refine ⟨_, ?_, rfl, p1 + 1, rfl, rfl, ?_⟩
            · show (-(p1 + 1)).toNat < (-p1).toNat
              omega
            · rw [← e1, rn hx]
              show min (max (p1 + 1) 0) (n - 1) = min (max p1 0) (n - 1)
              omega
          · exact ⟨_, rfl, _, _, rfl, rfl, rfl, rfl⟩
        · have z' : ¬ p1 < 0 := fun y => z (decide_eq_true y)
          exact rest _ _ ⟨p1, rfl, rfl, e1, fun _ => by omega⟩
      · rw [neS hx]
        refine iteF ?_
        refine iteF ?_
        exact rest _ _ ⟨p1, rfl, rfl, e1, fun z => absurd z (nr hx)⟩
    rintro _ _ ⟨p0, rfl, rfl, e0, nn0⟩
    -- while rule == 'near' and at >= many
    refine tSeq_cut (fun σ H' => ∃ p1 : Int, σ = [some (.str x), some (.int p1), some (.int n)] ∧ H = H' ∧ led r p1 n = led r p n ∧ (r = .near → 0 ≤ p1 ∧ p1 < n)) ?_ (fun rest => ?_)
    rotate_left
    · refine while_at (fun σ H' => ∃ p1 : Int, σ = [some (.str x), some (.int p1), some (.int n)] ∧ H = H' ∧ led r p1 n = led r p n ∧ (r = .near → 0 ≤ p1)) (fun σ _ => match σ with | [_, some (.int p1), _] => p1.toNat | _ => 0) ⟨p0, rfl, rfl, e0, nn0⟩ ?_
      rintro _ _ ⟨p1, rfl, rfl, e1, nn1⟩
      refine ⟨_, rfl, Or.inl ⟨rfl, _, rfl, ?_⟩⟩
      by_cases hx : x = "near"
      · have p1n := nn1 (rn hx)
        rw [eqS hx]
        refine iteT ?_
        refine ⟨_, rfl, _, rfl, _, _, rfl, rfl, _, rfl, ?_⟩
        refine ite2 (fun z => ?_) (fun z => ?_)
        · have z' : n ≤ p1 := of_decide_eq_true z
          refine ⟨fun σ' H' => σ' = [some (.str x), some (.int (p1 - 1)), some (.int n)] ∧ H = H', ?_, ?_⟩
          · rintro _ _ ⟨rfl, rfl⟩
            refine ⟨_, ?_, rfl, p1 - 1, rfl, rfl, ?_, fun _ => by omega⟩
            · show (p1 - 1).toNat < p1.toNat
              omega
            · rw [← e1, rn hx]
              show min (max (p1 - 1) 0) (n - 1) = min (max p1 0) (n - 1)
              omega
          · exact ⟨_, rfl, _, _, rfl, rfl, rfl, rfl⟩
        · have z' : ¬ n ≤ p1 := fun y => z (decide_eq_true y)
          exact rest _ _ ⟨p1, rfl, rfl, e1, fun _ => by omega⟩
      · rw [neS hx]
        refine iteF ?_
        refine iteF ?_
        exact rest _ _ ⟨p1, rfl, rfl, e1, fun z => absurd z (nr hx)⟩
    rintro _ _ ⟨p2, rfl, rfl, e2, nn2⟩
    -- while at < 0 or at >= many
    refine tSeq_cut (fun σ H' => ∃ p1 : Int, σ = [some (.str x), some (.int p1), some (.int n)] ∧ Same H H' ∧ led r p1 n = led r p n ∧ 0 ≤ p1 ∧ p1 < n) ?_ (fun rest => ?_)
    · rintro _ H1 ⟨p1, rfl, s1, e1, a1, b1⟩
      refine ⟨_, rfl, ?_⟩
      have := q H1 s1
      rw [← e1, led_id r a1 b1] at this
      exact this
    · refine while_at (fun σ H' => ∃ p1 : Int, σ = [some (.str x), some (.int p1), some (.int n)] ∧ Same H H' ∧ led r p1 n = led r p n ∧ (r = .near → 0 ≤ p1 ∧ p1 < n)) (fun σ _ => match σ with | [_, some (.int p1), _] => stepM n p1 | _ => 0) ⟨p2, rfl, Same.refl _, e2, nn2⟩ ?_
      rintro _ H1 ⟨p1, rfl, s1, e1, nn1⟩
      refine tOr_at (decide (p1 < 0)) (decide (n ≤ p1)) (fun R h => ⟨_, rfl, _, _, rfl, rfl, _, rfl, h⟩) (fun R h => ⟨_, rfl, _, rfl, _, _, rfl, rfl, _, rfl, h⟩) ?_
      refine ite2 (fun z => ?_) (fun z => ?_)
      · have z' : p1 < 0 ∨ n ≤ p1 := by simpa using z
        have nx : ¬ x = "near" := fun e => by have := nn1 (rn e); omega
        refine ⟨fun σ' H' => ∃ p3 : Int, σ' = [some (.str x), some (.int p3), some (.int n)] ∧ Same H H' ∧ led r p3 n = led r p1 n ∧ stepM n p3 < stepM n p1, ?_, ?_⟩
        · rintro _ H2 ⟨p3, rfl, s2, e3, l3⟩
          exact ⟨_, l3, rfl, p3, rfl, s2, e3.trans e1, fun e => absurd e (nr nx)⟩
        · refine ⟨_, rfl, Or.inl ⟨rfl, _, rfl, ?_⟩⟩
          by_cases hx : x = "round"
          · rw [eqS hx]
            refine iteT ?_
            refine ⟨_, rfl, _, rfl, _, rfl, (by show 2 ≤ sizeLine; decide), fun l hl => ?_⟩
            refine ⟨_, rfl, _, _, rfl, rfl, Or.inr ⟨_, rfl, ?_⟩⟩
            by_cases hp : 0 < p1
            · rw [decide_eq_true hp]
              refine Or.inl ⟨_, _, _, _, rfl, rfl, SqL.of upd_same, rfl, _, _, rfl, rfl, Or.inl ⟨by omega, by omega⟩, _, _, rfl, rfl, ?_⟩
              refine ⟨p1 + n * -1, rfl, s1.trans (same_upd hl), ?_, ?_⟩
              · rw [rr hx, show p1 + n * -1 = p1 - n by omega, led_round']
              · unfold stepM
                rw [if_neg (by omega), if_neg (by omega)]
                omega
            · rw [decide_eq_false hp]
              refine Or.inl ⟨_, _, _, _, rfl, rfl, SqL.of upd_same, rfl, _, _, rfl, rfl, Or.inl ⟨by omega, by omega⟩, _, _, rfl, rfl, ?_⟩
              refine ⟨p1 + n * 1, rfl, s1.trans (same_upd hl), ?_, ?_⟩
              · rw [rr hx, show p1 + n * 1 = p1 + n by omega, led_round]
              · unfold stepM
                split <;> (try split) <;> omega
          · have rt : r = .turned := by
              rcases hl with ⟨_, h2⟩ | ⟨h1, _⟩ | ⟨_, h2⟩
              · exact absurd h2 nx
              · exact h1
              · exact absurd h2 hx
            rw [neS hx]
            refine iteF ?_
            refine ⟨_, rfl, _, _, rfl, rfl, _, rfl, ?_⟩
            refine ite2 (fun y => ?_) (fun y => ?_)
            · have y' : p1 < 0 := of_decide_eq_true y
              refine ⟨_, rfl, _, rfl, _, _, rfl, rfl, -1 - p1, rfl, s1, ?_, ?_⟩
              · rw [rt]; exact led_turned p1 n1
              · unfold stepM
                split <;> (try split) <;> omega
            · have y' : ¬ p1 < 0 := fun k => y (decide_eq_true k)
              refine ⟨_, rfl, _, _, rfl, rfl, Or.inl ⟨by decide, by decide⟩, _, _, rfl, rfl, _, rfl, _, _, rfl, rfl, 2 * n - 1 - p1, rfl, s1, ?_, ?_⟩
              · rw [rt]; exact led_turned' p1 n1
              · unfold stepM
                split <;> (try split) <;> omega
      · have z' : ¬ (p1 < 0 ∨ n ≤ p1) := fun y => z (by simpa using y)
        exact rest _ _ ⟨p1, rfl, s1, e1, by omega, by omega⟩

def spStands : Sp := fun vs H Q _ => ∃ (fv rv : V) (F : List (List (Option Int))) (r : Rule) (i j : Int), vs = [fv, rv, .int i, .int j] ∧ Rect F ∧ IsD H fv (fieldD F) ∧ IsD H rv (ruleD r) ∧
  ∀ (p : Addr) (H' : Hp), Same H H' → H' p = none → Q (.ref p) (upd H' p (.lst ((stands F r i j).map cellV)))
theorem df_law_stands (T : Txt K mg) : Df P w K mg base 2 "_law_stands" ["field", "rule", "i", "j"] spStands := by
  refine T.d_law_stands.ok sc_law_stands (fun vs H Q E h => ?_) (fun f cdv A outer s H vs Q E hr h => ?_)
  · obtain ⟨fv, rv, F, r, i, j, rfl, _⟩ := h
    rfl
  · obtain ⟨fv, rv, F, r, i, j, rfl, R, hf, hru, q⟩ := h
    refine ⟨_, (pss_cons (ps_if (pw_and (pt_chain op_le op_lt pe_int (pv 2) (pe_callB (call_lenK (K := K) rfl) (by rfl) T.n_len bt_len (pa_cons (pv 0) pa_nil))) (pw_and1 (pt_chain op_le op_lt pe_int (pv 3) (pe_callB (call_lenK (K := K) rfl) (by rfl) T.n_len bt_len (pa_cons (pe_ix (ix_seqK (K := K) rfl) (pv 0) pe_int (fun _ _ => rfl)) pa_nil))))).pt (pss_one (ps_ret (pe_lst (pa_cons (pe_ix (ix_seqK (K := K) rfl) (pe_ix (ix_seqK (K := K) rfl) (pv 0) (pv 2) (fun _ _ => rfl)) (pv 3) (fun _ _ => rfl)) pa_nil)))) pss_nil)
      (pss_cons (ps_if (pt_cmpR (op_eqA hr.units) (pv 1) pe_str (nomark _)) (pss_one (ps_ret (pe_lst pa_nil))) pss_nil)
      (pss_cons (ps_if (pt_val (pe_callB (call_isinstK (K := K) rfl) (by rfl) T.n_isinstance bt_isinstance (pa_cons (pv 1) (pa_cons (pe_bltn (v := .ty "tuple") (by rfl) T.n_tuple bt_tuple rfl) pa_nil)))) (pss_one (ps_ret (pe_lst (pa_cons (pe_ix (ix_seqK (K := K) rfl) (pv 1) pe_int (fun _ _ => rfl)) pa_nil)))) pss_nil)
      (pss_one (ps_ret (pe_lst (pa_cons (pe_ix (ix_seqK (K := K) rfl) (pe_ix (ix_seqK (K := K) rfl) (pv 0) (pe_df (df_law_led T) (hr.mono (by decide)) (pa_cons (pv 1) (pa_cons (pv 2) (pa_cons (pe_callB (call_lenK (K := K) rfl) (by rfl) T.n_len bt_len (pa_cons (pv 0) pa_nil)) pa_nil)))) (fun _ _ => rfl)) (pe_df (df_law_led T) (hr.mono (by decide)) (pa_cons (pv 1) (pa_cons (pv 3) (pa_cons (pe_callB (call_lenK (K := K) rfl) (by rfl) T.n_len bt_len (pa_cons (pe_ix (ix_seqK (K := K) rfl) (pv 0) pe_int (fun _ _ => rfl)) pa_nil)) pa_nil)))) (fun _ _ => rfl)) pa_nil))))))), ?_⟩
    obtain ⟨a, xs, b0, ys, e, ha, la, hb0, hb, lb⟩ := field_sizes R hf
    subst e
    -- 0 <= i < len(field) and 0 <= j < len(field[0])
    have one : ∀ R : Bool → Hp → Prop, R (decide (0 ≤ i) && decide (i < F.length)) H → (tTest (tChain (rI0 fun i j => V.bl (decide (i ≤ j))) (rI0 fun i j => V.bl (decide (i < j))) (tC (.int 0)) (tVar 2) (tCB (fun xs H Q => ∃ x n, xs = [x] ∧ LenV K x H n ∧ Q (.int n) H) (tCons (tVar 0) tNil)))) [some (.ref a), some rv, some (.int i), some (.int j)] H R := fun R h => by
      refine ⟨_, rfl, _, _, rfl, rfl, _, rfl, ?_⟩
      refine ite2 (fun z => ?_) (fun z => ?_)
      · refine ⟨_, rfl, _, _, rfl, Or.inr ⟨_, SqT.of ha, rfl⟩, _, _, rfl, rfl, _, rfl, ?_⟩
        rw [z, Bool.true_and, ← la] at h
        exact h
      · rw [Bool.eq_false_iff.mpr z, Bool.false_and] at h
        exact ⟨_, rfl, h⟩
    have two : ∀ R : Bool → Hp → Prop, R (decide (0 ≤ j) && decide (j < (F.headD []).length)) H → (tTest (tChain (rI0 fun i j => V.bl (decide (i ≤ j))) (rI0 fun i j => V.bl (decide (i < j))) (tC (.int 0)) (tVar 3) (tCB (fun xs H Q => ∃ x n, xs = [x] ∧ LenV K x H n ∧ Q (.int n) H) (tCons (tOp (rIx K) (tVar 0) (tC (.int 0))) tNil)))) [some (.ref a), some rv, some (.int i), some (.int j)] H R := fun R h => by
      refine ⟨_, rfl, _, _, rfl, rfl, _, rfl, ?_⟩
      refine ite2 (fun z => ?_) (fun z => ?_)
      · refine ⟨_, rfl, Or.inr (Or.inl ⟨_, _, _, _, rfl, rfl, SqT.of ha, hb0, _, _, rfl, Or.inr ⟨_, SqT.of hb, rfl⟩, _, _, rfl, rfl, _, rfl, ?_⟩)⟩
        rw [z, Bool.true_and, ← lb] at h
        exact h
      · rw [Bool.eq_false_iff.mpr z, Bool.false_and] at h
        exact ⟨_, rfl, h⟩
    refine tAnd_at _ _ one two ?_
    unfold stands at q
    show (fun b H1 => if b = true then _ else _) (inF F i j) H
    cases hin : inF F i j with
    | true =>
      refine iteT ?_
      rw [hin, if_pos rfl] at q
      unfold inF at hin
      simp only [Bool.and_eq_true, decide_eq_true_eq] at hin
      obtain ⟨a', xs', b, rr, e, ha', hab, hb', hbc, _⟩ := field_cell R hf hin.1.1 hin.1.2 hin.2.1 hin.2.2
      cases e
      rw [ha] at ha'; cases ha'
      refine ⟨_, rfl, _, rfl, Or.inr (Or.inl ⟨_, _, _, _, rfl, rfl, SqT.of ha, hab, _, rfl, Or.inr (Or.inl ⟨_, _, _, _, rfl, rfl, SqT.of hb', hbc, (by show 1 ≤ sizeLine; decide), fun p hp => ?_⟩)⟩)⟩
      exact q p _ (Same.refl _) hp
    | false =>
      refine iteF ?_
      rw [hin, if_neg Bool.false_ne_true] at q
      cases r with
      | there =>
        have e := rule_str hru
        subst e
        refine ⟨_, rfl, Or.inl ⟨rfl, _, rfl, ?_⟩⟩
        rw [eqS rfl]
        refine iteT ?_
        exact ⟨(by show 0 ≤ sizeLine; decide), fun p hp => q p _ (Same.refl _) hp⟩
      | told c =>
        obtain ⟨a', xs', rfl, ha', hxs⟩ := hru.tuple_inv
        refine ⟨_, rfl, Or.inr ⟨_, _, hru, .str _, ⟨?_, by decide +kernel, ?_⟩, _, rfl, ?_⟩⟩
        · show PyData.canLayAll0 [.str "told", cellD c] = true
          rw [PyData.canLayAll0, PyData.canLayAll0, canLay_cell]
          decide +kernel
        · show PyData.depthAll [.str "told", cellD c] + 1 ≤ 20
          rw [PyData.depthAll, PyData.depthAll, depth_cell]
          decide
        refine iteF ?_
        refine ⟨_, rfl, _, _, _, _, rfl, Or.inl ⟨rfl, _, ha'⟩, rfl, _, rfl, ?_⟩
        refine iteT ?_
        cases hxs with
        | cons h1 h2 =>
          cases h2 with
          | cons h3 h4 =>
            cases h4
            rw [IsD.cell_inv h3] at ha'
            refine ⟨_, rfl, Or.inr (Or.inl ⟨_, _, _, _, rfl, rfl, SqT.of ha', rfl, (by show 1 ≤ sizeLine; decide), fun p hp => q p _ (Same.refl _) hp⟩)⟩
      | near =>
        have e := rule_str hru
        subst e
        have li := led_in .near i (n := F.length) (by have := R.h1; omega)
        have lj := led_in .near j (n := (F.headD []).length) (by have := R.w1; omega)
        obtain ⟨a', xs', b, rr, e, ha', hab, hb', hbc, lr⟩ := field_cell R hf li.1 li.2 lj.1 lj.2
        cases e
        rw [ha] at ha'; cases ha'
        refine ⟨_, rfl, Or.inl ⟨rfl, _, rfl, ?_⟩⟩
        rw [neS s_near_there]
        refine iteF ?_
        refine ⟨_, rfl, _, _, _, _, rfl, rfl, rfl, _, rfl, ?_⟩
        refine iteF ?_
        refine ⟨_, rfl, _, rfl, _, rfl, _, rfl, _, _, rfl, Or.inr ⟨_, SqT.of ha, rfl⟩, .near, _, _, _, rfl, (by unfold Led; simp), (by have := R.h1; omega), (by have := R.hs; omega), fun H1 s1 => ?_⟩
        refine Or.inr (Or.inl ⟨_, _, _, _, rfl, rfl, SqT.of (s1 _ _ ha), (by rw [la]; exact hab), ?_⟩)
        refine ⟨_, rfl, _, rfl, _, rfl, Or.inr (Or.inl ⟨_, _, _, _, rfl, rfl, SqT.of (s1 _ _ ha), hb0, _, _, rfl, Or.inr ⟨_, SqT.of (s1 _ _ hb), rfl⟩, .near, _, _, _, rfl, (by unfold Led; simp), (by rw [lb]; have := R.w1; omega), (by rw [lb]; have := R.ws; omega), fun H2 s2 => ?_⟩)⟩
        refine Or.inr (Or.inl ⟨_, _, _, _, rfl, rfl, SqT.of ((s1.trans s2) _ _ hb'), (by rw [lb]; exact hbc), (by show 1 ≤ sizeLine; decide), fun p hp => q p _ (s1.trans s2) hp⟩)
      | turned =>
        have e := rule_str hru
        subst e
        have li := led_in .turned i (n := F.length) (by have := R.h1; omega)
        have lj := led_in .turned j (n := (F.headD []).length) (by have := R.w1; omega)
        obtain ⟨a', xs', b, rr, e, ha', hab, hb', hbc, lr⟩ := field_cell R hf li.1 li.2 lj.1 lj.2
        cases e
        rw [ha] at ha'; cases ha'
        refine ⟨_, rfl, Or.inl ⟨rfl, _, rfl, ?_⟩⟩
        rw [neS s_turned_there]
        refine iteF ?_
        refine ⟨_, rfl, _, _, _, _, rfl, rfl, rfl, _, rfl, ?_⟩
        refine iteF ?_
        refine ⟨_, rfl, _, rfl, _, rfl, _, rfl, _, _, rfl, Or.inr ⟨_, SqT.of ha, rfl⟩, .turned, _, _, _, rfl, (by unfold Led; simp), (by have := R.h1; omega), (by have := R.hs; omega), fun H1 s1 => ?_⟩
        refine Or.inr (Or.inl ⟨_, _, _, _, rfl, rfl, SqT.of (s1 _ _ ha), (by rw [la]; exact hab), ?_⟩)
        refine ⟨_, rfl, _, rfl, _, rfl, Or.inr (Or.inl ⟨_, _, _, _, rfl, rfl, SqT.of (s1 _ _ ha), hb0, _, _, rfl, Or.inr ⟨_, SqT.of (s1 _ _ hb), rfl⟩, .turned, _, _, _, rfl, (by unfold Led; simp), (by rw [lb]; have := R.w1; omega), (by rw [lb]; have := R.ws; omega), fun H2 s2 => ?_⟩)⟩
        refine Or.inr (Or.inl ⟨_, _, _, _, rfl, rfl, SqT.of ((s1.trans s2) _ _ hb'), (by rw [lb]; exact hbc), (by show 1 ≤ sizeLine; decide), fun p hp => q p _ (s1.trans s2) hp⟩)
      | round =>
        have e := rule_str hru
        subst e
        have li := led_in .round i (n := F.length) (by have := R.h1; omega)
        have lj := led_in .round j (n := (F.headD []).length) (by have := R.w1; omega)
        obtain ⟨a', xs', b, rr, e, ha', hab, hb', hbc, lr⟩ := field_cell R hf li.1 li.2 lj.1 lj.2
        cases e
        rw [ha] at ha'; cases ha'
        refine ⟨_, rfl, Or.inl ⟨rfl, _, rfl, ?_⟩⟩
        rw [neS s_round_there]
        refine iteF ?_
        refine ⟨_, rfl, _, _, _, _, rfl, rfl, rfl, _, rfl, ?_⟩
        refine iteF ?_
        refine ⟨_, rfl, _, rfl, _, rfl, _, rfl, _, _, rfl, Or.inr ⟨_, SqT.of ha, rfl⟩, .round, _, _, _, rfl, (by unfold Led; simp), (by have := R.h1; omega), (by have := R.hs; omega), fun H1 s1 => ?_⟩
        refine Or.inr (Or.inl ⟨_, _, _, _, rfl, rfl, SqT.of (s1 _ _ ha), (by rw [la]; exact hab), ?_⟩)
        refine ⟨_, rfl, _, rfl, _, rfl, Or.inr (Or.inl ⟨_, _, _, _, rfl, rfl, SqT.of (s1 _ _ ha), hb0, _, _, rfl, Or.inr ⟨_, SqT.of (s1 _ _ hb), rfl⟩, .round, _, _, _, rfl, (by unfold Led; simp), (by rw [lb]; have := R.w1; omega), (by rw [lb]; have := R.ws; omega), fun H2 s2 => ?_⟩)⟩
        refine Or.inr (Or.inl ⟨_, _, _, _, rfl, rfl, SqT.of ((s1.trans s2) _ _ hb'), (by rw [lb]; exact hbc), (by show 1 ≤ sizeLine; decide), fun p hp => q p _ (s1.trans s2) hp⟩)

def spPlaces : Sp := fun vs H Q _ => ∃ (p : Int) (a b : Nat), vs = [.int p, .int a, .int b] ∧ (-(2 ^ 60) < p ∧ p < 2 ^ 60) ∧ a ≤ 100 ∧ b ≤ 100 ∧
  ∀ (l : Addr) (H' : Hp), Same H H' → H' l = some (.lst (upInts (p - a) (a + b + 1))) → Q (.ref l) H'
theorem df_places_around (T : Txt K mg) : Df P w K mg base 1 "places_around" ["place", "ahead", "behind"] spPlaces := by
  refine T.d_places_around.ok sc_places_around (fun vs H Q E h => ?_) (fun f cdv A outer s H vs Q E hr h => ?_)
  · obtain ⟨p, a, b, rfl, _⟩ := h
    rfl
  · obtain ⟨p, a, b, rfl, hp, ha, hb, q⟩ := h
    refine ⟨_, (pss_one (ps_ret (pe_callTy (CallR.or (call_listK (K := K) rfl) (call_list_rng rfl)) (by rfl) T.n_list bt_list (pa_cons (pe_callTy call_range2V (by rfl) T.n_range bt_range (pa_cons (pe_op op_sub (pv 0) (pv 1)) (pa_cons (pe_op op_add (pe_op op_add (pv 0) (pv 2)) pe_int) pa_nil))) pa_nil)))), ?_⟩
    refine ⟨_, rfl, _, rfl, _, _, rfl, rfl, _, rfl, _, rfl, _, _, rfl, rfl, _, _, rfl, rfl, ?_⟩
    refine ⟨_, _, rfl, fun r hr => ?_⟩
    have e : (p + (b : Int) + 1 - (p - (a : Int))).toNat = a + b + 1 := by omega
    refine Or.inr ⟨_, _, _, rfl, upd_same, ⟨by omega, by omega, by omega, by omega⟩, by rw [e]; omega, fun l hl => ?_⟩
    rw [e]
    exact q l _ ((same_upd hr).trans (same_upd hl)) upd_same

def spCells : Sp := fun vs H Q _ => ∃ (fv wv rv : V) (F : List (List (Option Int))) (ru : Rule) (u d l r : Nat) (i j : Int), vs = [fv, wv, rv, .int i, .int j] ∧ Rect F ∧ IsD H fv (fieldD F) ∧ IsD H wv (winD u d l r) ∧ IsD H rv (ruleD ru) ∧
  (-(2 ^ 60) < i ∧ i < 2 ^ 60) ∧ (-(2 ^ 60) < j ∧ j < 2 ^ 60) ∧ (u ≤ 100 ∧ d ≤ 100 ∧ l ≤ 100 ∧ r ≤ 100) ∧
  ∀ (p : Addr) (H' : Hp), Same H H' → H' p = some (.tup ((wc F ru u d l r i j).map cellV)) → Q (.ref p) H'
theorem df_window_cells (T : Txt K mg) : Df P w K mg base 3 "window_cells" ["field", "window", "rule", "i", "j"] spCells := by
  refine T.d_window_cells.ok sc_window_cells (fun vs H Q E h => ?_) (fun f cdv A outer s H vs Q E hr h => ?_)
  · obtain ⟨fv, wv, rv, F, ru, u, d, l, r, i, j, rfl, _⟩ := h
    rfl
  · obtain ⟨fv, wv, rv, F, ru, u, d, l, r, i, j, rfl, R, hf, hw, hru, bi, bj, ⟨bu, bd, bl, br⟩, q⟩ := h
    refine ⟨_, (pss_cons (ps_set (i := 5) sc_window_cells.nd rfl (by first | exact Or.inl rfl | exact Or.inr rfl) (pe_df (df_places_around T) (hr.mono (by decide)) (pa_cons (pv 4) (pa_cons (pe_ix (ix_seqK (K := K) rfl) (pv 1) pe_int (fun _ _ => rfl)) (pa_cons (pe_ix (ix_seqK (K := K) rfl) (pv 1) pe_int (fun _ _ => rfl)) pa_nil)))))
      (pss_cons (ps_set (i := 6) sc_window_cells.nd rfl (by first | exact Or.inl rfl | exact Or.inr rfl) (pe_lst pa_nil))
      (pss_cons (ps_for PassesOwn.never rfl (pi_seqK (K := K) rfl (pe_df (df_places_around T) (hr.mono (by decide)) (pa_cons (pv 3) (pa_cons (pe_ix (ix_seqK (K := K) rfl) (pv 1) pe_int (fun _ _ => rfl)) (pa_cons (pe_ix (ix_seqK (K := K) rfl) (pv 1) pe_int (fun _ _ => rfl)) pa_nil))))) (pg_name (i := 7) sc_window_cells.nd rfl (by first | exact Or.inl rfl | exact Or.inr rfl)) (pss_one (ps_for PassesOwn.never rfl (pi_seqK (K := K) rfl (pv 5)) (pg_name (i := 8) sc_window_cells.nd rfl (by first | exact Or.inl rfl | exact Or.inr rfl)) (pss_one (ps_expr (pe_bm PySem.F.plainAttrs_list PySem.F.slot_list_extend PySem.F.type_list_extend (MtR.or mt_extend mt_extendT) (pv 6) (pa_cons (pe_df (df_stands_at T) (hr.mono (by decide)) (pa_cons (pv 0) (pa_cons (pv 2) (pa_cons (pv 7) (pa_cons (pv 8) pa_nil))))) pa_nil)))))))
      (pss_one (ps_ret (pe_callTy (call_tupleK (K := K) rfl) (by rfl) T.n_tuple bt_tuple (pa_cons (pv 6) pa_nil))))))), ?_⟩
    obtain ⟨wa, rfl, hwa⟩ := isWin_inv hw
    -- columns
    refine ⟨_, rfl, _, rfl, Or.inr (Or.inl ⟨_, _, _, _, rfl, rfl, SqT.of hwa, rfl, _, rfl, Or.inr (Or.inl ⟨_, _, _, _, rfl, rfl, SqT.of hwa, rfl, ?_⟩)⟩)⟩
    refine ⟨_, _, _, rfl, bj, bl, br, fun lc H1 s1 hlc => ?_⟩
    -- cells
    refine ⟨(by show 0 ≤ sizeLine; decide), fun c hc => ?_⟩
    have s2 := same_upd (o := .lst []) hc
    have S2 := s1.trans s2
    -- for row in places_around(..)
    refine Or.inl ?_
    refine ⟨_, rfl, _, rfl, Or.inr (Or.inl ⟨_, _, _, _, rfl, rfl, SqT.of (S2 _ _ hwa), rfl, _, rfl, Or.inr (Or.inl ⟨_, _, _, _, rfl, rfl, SqT.of (S2 _ _ hwa), rfl, ?_⟩)⟩)⟩
    refine ⟨_, _, _, rfl, bi, bu, bd, fun lr H3 s3 hlr => ?_⟩
    refine ⟨_, rfl, ⟨_, SqL.of hlr⟩, ?_⟩
    have hc3 : H3 c = some (.lst []) := s3 _ _ upd_same
    have S3 := S2.trans s3
    have hlc3 := (s2.trans s3) _ _ hlc
    have nlc : lc ≠ c := ne_of_none hlc hc
    have nlr : lr ≠ c := by
      refine ne_of hlr hc3 fun z => ?_
      have := congrArg (fun o => match o with | HO.lst xs => xs.length | _ => 0) z
      simp only [upInts_len, List.length_nil] at this
      omega
    have oldne : ∀ b o, H b = some o → b ≠ c := fun b o e => ne_of_none (s1 b o e) hc
    have keepH : ∀ {H' : Hp}, KeepBut c H3 H' → Same H H' := fun k b o e => k b o (S3 b o e) (oldne b o e)
    refine for_list (xs := upInts (i - u) (u + d + 1)) (fun a σ H' => ∃ v7 v8, σ = [some fv, some (.ref wa), some rv, some (.int i), some (.int j), some (.ref lc), some (.ref c), v7, v8] ∧ KeepBut c H3 H' ∧
        H' c = some (.lst (((List.range a).flatMap fun a => rowCells F ru l r (i - u + (a : Nat)) j).map cellV)))
      ⟨none, none, rfl, KeepBut.refl _ _, hc3⟩ (fun a σ H' _ ⟨_, _, _, k, _⟩ => SqL.of (k _ _ hlr nlr)) ?_ ?_
    · rintro a y _ H4 ha ⟨v7, v8, rfl, k4, hc4⟩
      have ha' : a < u + d + 1 := by
        have := (List.getElem?_eq_some_iff.mp ha).1
        rw [upInts_len] at this; exact this
      have ey : y = .int (i - u + (a : Nat)) := by
        unfold upInts at ha
        rw [List.getElem?_map, List.getElem?_range ha'] at ha
        exact (Option.some.inj ha).symm
      subst ey
      refine Or.inl ?_
      refine ⟨_, rfl, _, rfl, ⟨_, SqL.of (k4 _ _ hlc3 nlc)⟩, ?_⟩
      refine for_list (xs := upInts (j - l) (l + r + 1)) (fun b σ H' => ∃ v8, σ = [some fv, some (.ref wa), some rv, some (.int i), some (.int j), some (.ref lc), some (.ref c), some (.int (i - u + (a : Nat))), v8] ∧ KeepBut c H3 H' ∧
          H' c = some (.lst ((((List.range a).flatMap fun a => rowCells F ru l r (i - u + (a : Nat)) j) ++ (List.range b).flatMap fun b => stands F ru (i - u + (a : Nat)) (j - l + (b : Nat))).map cellV)))
        ⟨v8, rfl, k4, by rw [hc4]; simp⟩ (fun b σ H' _ ⟨_, _, k, _⟩ => SqL.of (k _ _ hlc3 nlc)) ?_ ?_
      · rintro b y _ H5 hb ⟨v8, rfl, k5, hc5⟩
        have hb' : b < l + r + 1 := by
          have := (List.getElem?_eq_some_iff.mp hb).1
          rw [upInts_len] at this; exact this
        have ey : y = .int (j - l + (b : Nat)) := by
          unfold upInts at hb
          rw [List.getElem?_map, List.getElem?_range hb'] at hb
          exact (Option.some.inj hb).symm
        subst ey
        have S5 := keepH k5
        refine ⟨_, rfl, Or.inl ⟨rfl, _, SqL.of hc5⟩, ?_⟩
        refine ⟨_, rfl, _, rfl, _, rfl, _, rfl, _, _, F, ru, _, _, rfl, R, hf.keep S5.tups, hru.keep S5.tups, fun p hp => ?_⟩
        have s6 := same_upd (o := .tup ((stands F ru (i - u + (a : Nat)) (j - l + (b : Nat))).map cellV)) hp
        have np : p ≠ c := (ne_of_none hc5 hp).symm
        refine Or.inr ⟨_, _, _, _, rfl, rfl, s6 _ _ hc5, upd_same, ?_, ?_⟩
        · have l1 := flatMap_len (fun a => rowCells F ru l r (i - u + (a : Nat)) j) (m := 201) (fun k => Nat.le_trans (rowCells_len _ _ _ _ _ _) (by omega)) a
          have l2 := flatMap_len (fun b => stands F ru (i - u + (a : Nat)) (j - l + (b : Nat))) (m := 1) (fun k => stands_len _ _ _ _) b
          have l3 := stands_len F ru (i - u + (a : Nat)) (j - l + (b : Nat))
          have l4 : a * 201 ≤ 201 * 201 := Nat.mul_le_mul_right _ (by omega)
          rw [List.length_map, List.length_map, List.length_append]
          refine Nat.le_trans (m := 50000) ?_ (by decide)
          omega
        · refine ⟨_, rfl, fun b' o e n => ?_, ?_⟩
          · rw [upd_ne n]; exact s6 _ _ (k5 b' o e n)
          · rw [upd_same, flatMap_succ, ← List.map_append, List.append_assoc]
      · rintro _ H5 ⟨v8, rfl, k5, hc5⟩
        refine ⟨_, _, rfl, k5, ?_⟩
        rw [hc5, flatMap_succ, upInts_len]
        rfl
    · rintro _ H4 ⟨v7, v8, rfl, k4, hc4⟩
      rw [upInts_len] at hc4
      refine ⟨_, rfl, _, _, rfl, Or.inl ⟨SqL.of hc4, fun p hp => ?_⟩⟩
      exact q p _ ((keepH k4).trans (same_upd hp)) upd_same

def spWindow : Sp := fun vs H Q _ => ∃ (d : Addr) (n : Nat), vs = [.ref d] ∧ Deck H d n ∧ n + 9 < 2 ^ 40 ∧
  ∀ (p : Addr) (u dn l r : Nat) (H' : Hp), u ≤ 6 → dn ≤ 6 → l ≤ 6 → r ≤ 6 → H' p = some (.tup [.int u, .int dn, .int l, .int r]) → Deck H' d (n + 9) → KeepBut d H H' → Q (.ref p) H'
theorem most_of {z : Int} (z0 : 0 ≤ z) (z1 : z < 4) : ∃ m : Nat, atI [V.int 7, V.int 3, V.int 2, V.int 7] z = some (.int m) ∧ 1 ≤ m ∧ m ≤ 7 := by
  obtain ⟨v, e3, e4⟩ := atI_mem (xs := [V.int 7, V.int 3, V.int 2, V.int 7]) z0 (by exact z1)
  simp only [List.mem_cons, List.not_mem_nil, or_false] at e4
  rcases e4 with e | e | e | e
  · exact ⟨7, by rw [e3, e]; rfl, by omega, by omega⟩
  · exact ⟨3, by rw [e3, e]; rfl, by omega, by omega⟩
  · exact ⟨2, by rw [e3, e]; rfl, by omega, by omega⟩
  · exact ⟨7, by rw [e3, e]; rfl, by omega, by omega⟩
theorem pick_of {z : Int} (z0 : 0 ≤ z) (z1 : z < 5) : ∃ m : Nat, atI [V.int 0, V.int 0, V.int 0, V.int 1, V.int 2] z = some (.int m) ∧ m ≤ 2 := by
  obtain ⟨v, e3, e4⟩ := atI_mem (xs := [V.int 0, V.int 0, V.int 0, V.int 1, V.int 2]) z0 (by exact z1)
  simp only [List.mem_cons, List.not_mem_nil, or_false] at e4
  rcases e4 with e | e | e | e | e
  · exact ⟨0, by rw [e3, e]; rfl, by omega⟩
  · exact ⟨0, by rw [e3, e]; rfl, by omega⟩
  · exact ⟨0, by rw [e3, e]; rfl, by omega⟩
  · exact ⟨1, by rw [e3, e]; rfl, by omega⟩
  · exact ⟨2, by rw [e3, e]; rfl, by omega⟩
theorem side_of {s m : Nat} (hs : s ≤ 6) (hm : m ≤ 2) : ∃ k : Nat, atI [V.int s, V.int 0, V.int 6] (m : Int) = some (.int k) ∧ k ≤ 6 := by
  obtain ⟨v, e3, e4⟩ := atI_mem (xs := [V.int s, V.int 0, V.int 6]) (i := (m : Int)) (by omega) (by show (m : Int) < 3; omega)
  simp only [List.mem_cons, List.not_mem_nil, or_false] at e4
  rcases e4 with e | e | e
  · exact ⟨s, by rw [e3, e], hs⟩
  · exact ⟨0, by rw [e3, e]; rfl, by omega⟩
  · exact ⟨6, by rw [e3, e]; rfl, by omega⟩
theorem four_of {ks : List Nat} (h : ks.length = 4) (hk : ∀ k ∈ ks, k ≤ 6) : ∃ a b c d, ks = [a, b, c, d] ∧ a ≤ 6 ∧ b ≤ 6 ∧ c ≤ 6 ∧ d ≤ 6 := by
  match ks, h with
  | [a, b, c, d], _ => exact ⟨a, b, c, d, rfl, hk a (by simp), hk b (by simp), hk c (by simp), hk d (by simp)⟩
theorem df_law_window (T : Txt K mg) : Df P w K mg base 4 "_law_window" ["deck"] spWindow := by
  refine T.d_law_window.ok sc_law_window (fun vs H Q E h => ?_) (fun f cdv A outer s H vs Q E hr h => ?_)
  · obtain ⟨d, n, rfl, _⟩ := h
    rfl
  · obtain ⟨d, n, rfl, D, hn, q⟩ := h
    refine ⟨_, (pss_cons (ps_set (i := 1) sc_law_window.nd rfl (by first | exact Or.inl rfl | exact Or.inr rfl) (pe_ix (ix_seqK (K := K) rfl) (pe_lst (pa_cons pe_int (pa_cons pe_int (pa_cons pe_int (pa_cons pe_int pa_nil))))) (pe_df (df_law_next T) (hr.mono (by decide)) (pa_cons (pv 0) (pa_cons pe_int pa_nil))) (fun _ _ => rfl)))
      (pss_cons (ps_setComp (i := 2) sc_law_window.nd rfl (by first | exact Or.inl rfl | exact Or.inr rfl) (M := ["deck", "most"]) (idx := [0, 1]) rfl (pi_range1 (by rfl) T.n_range (pa_cons pe_int pa_nil)) (compOk (by kernel_rfl)) (by decide +kernel) (by first | exact Or.inl rfl | exact Or.inr rfl) (fun _ _ _ _ _ => pts_nil) (fun _ _ _ _ _ => (pe_df (df_law_next T) (hr.mono (by decide)) (pa_cons (pv 1) (pa_cons (pv 2) pa_nil)))))
      (pss_one (ps_ret (pe_callTy (call_tupleK (K := K) rfl) (by rfl) T.n_tuple bt_tuple (pa_cons (pe_compIf (M := ["deck"]) (idx := [0]) rfl (pi_seqK (K := K) rfl (pv 2)) (compOk (by kernel_rfl)) (by decide +kernel) (by first | exact Or.inl rfl | exact Or.inr rfl) (fun _ _ _ _ _ => pts_nil) (fun _ _ _ _ _ => (pe_ix (ix_seqK (K := K) rfl) (pe_lst (pa_cons (pv 0) (pa_cons pe_int (pa_cons pe_int pa_nil)))) (pe_ix (ix_seqK (K := K) rfl) (pe_lst (pa_cons pe_int (pa_cons pe_int (pa_cons pe_int (pa_cons pe_int (pa_cons pe_int pa_nil)))))) (pe_df (df_law_next T) (hr.mono (by decide)) (pa_cons (pv 1) (pa_cons pe_int pa_nil))) (fun _ _ => rfl)) (fun _ _ => rfl)))) pa_nil)))))), ?_⟩
    refine ⟨(by show 4 ≤ sizeLine; decide), fun p hp => ?_⟩
    have hpd : p ≠ d := by
      obtain ⟨xs, e⟩ := D.lst
      exact (ne_of_none e hp).symm
    refine ⟨_, rfl, _, _, _, rfl, D.upd hp, (by decide), (by decide), by omega, fun x1 H1 a1 b1 D1 k1 => ?_⟩
    obtain ⟨m, em, m1, m7⟩ := most_of a1 b1
    refine Or.inl ⟨_, _, _, _, rfl, rfl, SqL.of (k1 p _ upd_same hpd), em, ?_⟩
    have K1 : KeepBut d H H1 := ((KeepBut.refl d H).upd hp).trans k1
    -- sides
    refine ⟨_, rfl, by decide, by decide, ?_⟩
    refine compW_range (fun i ys H' => ∃ ks : List Nat, ks.length = i ∧ ys = ks.map (fun k : Nat => V.int (k : Int)) ∧ (∀ k ∈ ks, k ≤ 6) ∧ Deck H' d (n + 1 + i) ∧ KeepBut d H H')
      ⟨[], rfl, rfl, fun k hk => absurd hk (by simp), D1.more (by omega), K1⟩ (by decide) ?_ ?_
    · rintro i ys H2 hi ⟨ks, lk, ek, bk, D2, K2⟩
      have hi' : i < 4 := hi
      refine oneT ?_
      refine ⟨_, rfl, _, rfl, _, _, _, rfl, D2, (by omega), (by omega), by omega, fun x H3 a3 b3 D3 k3 => ?_⟩
      refine ⟨ks ++ [x.toNat], by rw [List.length_append, lk]; rfl, ?_, fun k hk => ?_, D3.more (by omega), K2.trans k3⟩
      · rw [ek, List.map_append]
        show _ ++ [V.int x] = _ ++ [V.int (x.toNat : Int)]
        rw [show ((x.toNat : Nat) : Int) = x by omega]
      · rcases List.mem_append.mp hk with z | z
        · exact bk k z
        · have : k = x.toNat := by simpa using z
          omega
    · rintro ys H2 ⟨ks, lk, ek, bk, D2, K2⟩ ls hls
      have D3 := D2.upd (o := .lst ys) hls
      have K3 := K2.upd (o := .lst ys) hls
      have lsd : ls ≠ d := by
        obtain ⟨xs, e⟩ := D2.lst
        exact (ne_of_none e hls).symm
      have els : upd H2 ls (.lst ys) ls = some (.lst ys) := upd_same
      generalize upd H2 ls (.lst ys) = H3 at D3 K3 els ⊢
      have ly : ys.length = 4 := by rw [ek, List.length_map]; exact lk
      refine Or.inl ?_
      refine ⟨_, rfl, _, rfl, ⟨_, SqL.of els⟩, ?_⟩
      refine compW_list (xs := ys) (fun i zs H' => ∃ js : List Nat, js.length = i ∧ zs = js.map (fun k : Nat => V.int (k : Int)) ∧ (∀ k ∈ js, k ≤ 6) ∧ Deck H' d (n + 5 + i) ∧ KeepBut d H3 H')
        ⟨[], rfl, rfl, fun k hk => absurd hk (by simp), D3.more (by show n + 1 + 4 ≤ _; omega), KeepBut.refl _ _⟩ (by rw [ly]; decide) (fun i zs H' _ ⟨_, _, _, _, _, k⟩ => SqL.of (k _ _ els lsd)) ?_ ?_
      · rintro i x zs H4 hx ⟨js, lj, ej, bj, D4, K4⟩
        have hi' : i < 4 := by rw [← ly]; exact (List.getElem?_eq_some_iff.mp hx).1
        obtain ⟨k, ek', hk6⟩ : ∃ k : Nat, x = .int (k : Int) ∧ k ≤ 6 := by
          rw [ek, List.getElem?_map] at hx
          cases e : ks[i]? with
          | none => rw [e] at hx; cases hx
          | some k => rw [e] at hx; exact ⟨k, (Option.some.inj hx).symm, bk k (List.mem_of_getElem? e)⟩
        subst ek'
        refine oneT ?_
        refine ⟨_, rfl, (by show 3 ≤ sizeLine; decide), fun p1 hp1 => ?_⟩
        refine ⟨(by show 5 ≤ sizeLine; decide), fun p2 hp2 => ?_⟩
        have hd1 : p1 ≠ d := by
          obtain ⟨xs, e⟩ := D4.lst
          exact (ne_of_none e hp1).symm
        have D5 := D4.upd (o := .lst [.int k, .int 0, .int 6]) hp1
        have hd2 : p2 ≠ d := by
          obtain ⟨xs, e⟩ := D5.lst
          exact (ne_of_none e hp2).symm
        have s2 := same_upd (o := .lst [.int 0, .int 0, .int 0, .int 1, .int 2]) hp2
        refine ⟨_, rfl, _, _, _, rfl, D5.upd hp2, (by decide), (by decide), by omega, fun x5 H5 a5 b5 D6 k6 => ?_⟩
        obtain ⟨m2, em2, hm2⟩ := pick_of a5 b5
        refine Or.inl ⟨_, _, _, _, rfl, rfl, SqL.of (k6 p2 _ upd_same hd2), em2, ?_⟩
        obtain ⟨k2, ek2, hk2⟩ := side_of hk6 hm2
        refine Or.inl ⟨_, _, _, _, rfl, rfl, SqL.of (k6 p1 _ (s2 _ _ upd_same) hd1), ek2, ?_⟩
        refine ⟨js ++ [k2], by rw [List.length_append, lj]; rfl, by rw [ej, List.map_append]; rfl, fun k' hk' => ?_, D6.more (by omega), ((K4.upd hp1).upd hp2).trans k6⟩
        rcases List.mem_append.mp hk' with z | z
        · exact bj k' z
        · have : k' = k2 := by simpa using z
          rw [this]; exact hk2
      · rintro zs H4 ⟨js, lj, ej, bj, D4, K4⟩ p1 hp1
        refine ⟨_, _, rfl, Or.inl ⟨SqL.of upd_same, fun t ht => ?_⟩⟩
        rw [ly] at lj D4
        obtain ⟨u, dn, l, r, e, hu, hd, hl, hr'⟩ := four_of lj bj
        have kk := (same_upd (o := .lst zs) hp1).trans (same_upd (o := .tup zs) ht)
        refine q t u dn l r _ hu hd hl hr' (by rw [upd_same, ej, e]; rfl) ((D4.keep kk).more (by omega)) ((K3.trans K4).trans (kk.but d))

def spDue : Sp := fun vs H Q _ => ∃ (fv wv rv : V) (F : List (List (Option Int))) (ru : Rule) (u d l r : Nat) (i j : Int), vs = [fv, wv, rv, .int i, .int j] ∧ Rect F ∧ IsD H fv (fieldD F) ∧ IsD H wv (winD u d l r) ∧ IsD H rv (ruleD ru) ∧
  (u ≤ 100 ∧ d ≤ 100 ∧ l ≤ 100 ∧ r ≤ 100) ∧
  ∀ (p : Addr) (H' : Hp), Same H H' → H' p = some (.tup ((wc F ru u d l r i j).map cellV)) → Q (.ref p) H'
theorem df_law_due (T : Txt K mg) : Df P w K mg base 3 "_law_due" ["field", "window", "rule", "i", "j"] spDue := by
  refine T.d_law_due.ok sc_law_due (fun vs H Q E h => ?_) (fun f cdv A outer s H vs Q E hr h => ?_)
  · obtain ⟨fv, wv, rv, F, ru, u, d, l, r, i, j, rfl, _⟩ := h
    rfl
  · obtain ⟨fv, wv, rv, F, ru, u, d, l, r, i, j, rfl, R, hf, hw, hru, ⟨bu, bd, bl, br⟩, q⟩ := h
    refine ⟨_, (pss_cons (ps_asg (pv 1) (pg_tupK (K := K) rfl rfl (pgs_cons (pg_name (i := 5) sc_law_due.nd rfl (by first | exact Or.inl rfl | exact Or.inr rfl)) (pgs_cons (pg_name (i := 6) sc_law_due.nd rfl (by first | exact Or.inl rfl | exact Or.inr rfl)) (pgs_cons (pg_name (i := 7) sc_law_due.nd rfl (by first | exact Or.inl rfl | exact Or.inr rfl)) (pgs_cons (pg_name (i := 8) sc_law_due.nd rfl (by first | exact Or.inl rfl | exact Or.inr rfl)) pgs_nil))))))
      (pss_cons (ps_set (i := 9) sc_law_due.nd rfl (by first | exact Or.inl rfl | exact Or.inr rfl) (pe_lst pa_nil))
      (pss_cons (ps_for PassesOwn.never rfl (pi_range1 (by rfl) T.n_range (pa_cons (pe_op op_mul (pe_op op_add (pe_op op_add (pv 5) (pv 6)) pe_int) (pe_op op_add (pe_op op_add (pv 7) (pv 8)) pe_int)) pa_nil)) (pg_name (i := 10) sc_law_due.nd rfl (by first | exact Or.inl rfl | exact Or.inr rfl)) (pss_cons (ps_set (i := 11) sc_law_due.nd rfl (by first | exact Or.inl rfl | exact Or.inr rfl) (pe_op op_add (pe_op op_sub (pv 3) (pv 5)) (pe_op op_fdivB (pv 10) (pe_op op_add (pe_op op_add (pv 7) (pv 8)) pe_int))))
      (pss_cons (ps_set (i := 12) sc_law_due.nd rfl (by first | exact Or.inl rfl | exact Or.inr rfl) (pe_op op_add (pe_op op_sub (pv 4) (pv 7)) (pe_op op_mod (pv 10) (pe_op op_add (pe_op op_add (pv 7) (pv 8)) pe_int))))
      (pss_one (ps_set (i := 9) sc_law_due.nd rfl (by first | exact Or.inl rfl | exact Or.inr rfl) (pe_op op_cat (pv 9) (pe_df (df_law_stands T) (hr.mono (by decide)) (pa_cons (pv 0) (pa_cons (pv 2) (pa_cons (pv 11) (pa_cons (pv 12) pa_nil)))))))))))
      (pss_one (ps_ret (pe_callTy (call_tupleK (K := K) rfl) (by rfl) T.n_tuple bt_tuple (pa_cons (pv 9) pa_nil))))))), ?_⟩
    obtain ⟨wa, rfl, hwa⟩ := isWin_inv hw
    refine ⟨_, rfl, _, _, rfl, SqT.of hwa, rfl, _, _, rfl, _, _, rfl, _, _, rfl, _, _, rfl, rfl, ?_⟩
    refine ⟨(by show 0 ≤ sizeLine; decide), fun c hc => ?_⟩
    have s0 := same_upd (o := .lst []) hc
    have en : ((u : Int) + d + 1) * ((l : Int) + r + 1) = (((u + d + 1) * (l + r + 1) : Nat) : Int) := by push_cast; rfl
    have bn : (u + d + 1) * (l + r + 1) ≤ 201 * 201 := Nat.mul_le_mul (by omega) (by omega)
    refine ⟨_, rfl, _, rfl, _, _, rfl, rfl, _, _, rfl, rfl, _, rfl, _, rfl, _, _, rfl, rfl, _, _, rfl, rfl, _, _, rfl, rfl, Or.inl ⟨by omega, by omega⟩, ?_⟩
    refine ⟨_, rfl, by rw [en]; omega, by rw [en]; omega, ?_⟩
    rw [en, Int.toNat_natCast]
    refine for_range (fun n σ H' => ∃ (c' : Addr) (v10 v11 v12 : Option V), σ = [some fv, some (.ref wa), some rv, some (.int i), some (.int j), some (.int u), some (.int d), some (.int l), some (.int r), some (.ref c'), v10, v11, v12] ∧ Same H H' ∧
        H' c' = some (.lst (((List.range n).flatMap fun p => stands F ru (i - u + ((p / (l + r + 1) : Nat) : Int)) (j - l + ((p % (l + r + 1) : Nat) : Int))).map cellV)))
      ⟨c, none, none, none, rfl, s0, upd_same⟩ ?_ ?_
    · rintro n _ H1 hn ⟨c', v10, v11, v12, rfl, s1, hc1⟩
      have e0 : (0 : Int) + (n : Int) = (n : Int) := by omega
      rw [e0]
      have eq1 : (n : Int) / ((l : Int) + r + 1) = ((n / (l + r + 1) : Nat) : Int) := by push_cast; rfl
      have eq2 : (n : Int) % ((l : Int) + r + 1) = ((n % (l + r + 1) : Nat) : Int) := by push_cast; rfl
      refine ⟨_, rfl, _, rfl, _, _, rfl, rfl, _, rfl, _, rfl, _, rfl, _, _, rfl, rfl, _, _, rfl, rfl, _, _, rfl, rfl, ⟨by omega, by omega⟩, _, _, rfl, rfl, ?_⟩
      refine ⟨_, rfl, _, rfl, _, _, rfl, rfl, _, rfl, _, rfl, _, rfl, _, _, rfl, rfl, _, _, rfl, rfl, _, _, rfl, rfl, by omega, _, _, rfl, rfl, ?_⟩
      rw [eq1, eq2]
      refine ⟨_, rfl, _, rfl, _, rfl, _, rfl, _, rfl, _, _, F, ru, _, _, rfl, R, hf.keep s1.tups, hru.keep s1.tups, fun p H2 s2 hp => ?_⟩
      refine ⟨_, _, _, _, rfl, rfl, (s2.trans (same_upd hp)) _ _ hc1, upd_same, ?_, fun p2 hp2 => ?_⟩
      · have l1 := flatMap_len (fun p => stands F ru (i - u + ((p / (l + r + 1) : Nat) : Int)) (j - l + ((p % (l + r + 1) : Nat) : Int))) (m := 1) (fun k => stands_len _ _ _ _) n
        have l2 := stands_len F ru (i - u + ((n / (l + r + 1) : Nat) : Int)) (j - l + ((n % (l + r + 1) : Nat) : Int))
        rw [List.length_map, List.length_map]
        refine Nat.le_trans (m := 50000) ?_ (by decide)
        omega
      · refine ⟨p2, _, _, _, rfl, ((s1.trans s2).trans (same_upd hp)).trans (same_upd hp2), ?_⟩
        rw [upd_same, flatMap_succ, ← List.map_append]
    · rintro _ H1 ⟨c', v10, v11, v12, rfl, s1, hc1⟩
      rw [← wc_grid] at hc1
      refine ⟨_, rfl, _, _, rfl, Or.inl ⟨SqL.of hc1, fun p hp => ?_⟩⟩
      exact q p _ (s1.trans (same_upd hp)) upd_same

theorem df_law_like (T : Txt K mg) : Df P w K mg base 4 "_law_like" ["found", "due"] (spLike 4) := df_like_at T 4
theorem row_depth (r : List (Option Int)) : (rowD r).depth < 4 := by rw [depth_row]; decide
theorem three_of {x y z : Int} {n : Nat} (x0 : 0 ≤ x) (x1 : x < n) (z0 : 0 ≤ z) (z1 : z < 3) : ∃ v : Int, atI [V.int x, V.int 0, V.int ((n : Int) - 1)] z = some (.int v) ∧ 0 ≤ v ∧ v < n := by
  obtain ⟨v, e3, e4⟩ := atI_mem (xs := [V.int x, V.int 0, V.int ((n : Int) - 1)]) z0 (by exact z1)
  simp only [List.mem_cons, List.not_mem_nil, or_false] at e4
  rcases e4 with e | e | e
  · exact ⟨x, by rw [e3, e], x0, x1⟩
  · exact ⟨0, by rw [e3, e], by omega, by omega⟩
  · exact ⟨_, by rw [e3, e], by omega, by omega⟩
theorem isRowP {H : Hp} {p : Addr} {r : List (Option Int)} (h : H p = some (.tup (r.map cellV))) : IsD H (.ref p) (rowD r) := .tup h (isCells r)
theorem df_law (T : Txt K mg) : Df P w K mg base 6 "law" ["script"] (SpLaw K) := by
  refine T.d_law.ok sc_law (fun vs H Q E h => ?_) (fun f cdv A outer s H vs Q E hr h => ?_)
  · obtain ⟨a, ns, rfl, _⟩ := h
    rfl
  · obtain ⟨a, ns, rfl, hS, hlen, q⟩ := h
    refine ⟨_, (pss_cons (ps_set (i := 1) sc_law.nd rfl (by first | exact Or.inl rfl | exact Or.inr rfl) (pe_df (df_law_deck T) (hr.mono (by decide)) (pa_cons (pv 0) pa_nil)))
      (pss_cons (ps_for PassesOwn.never rfl (pi_range1 (by rfl) T.n_range (pa_cons pe_int pa_nil)) (pg_name (i := 2) sc_law.nd rfl (by first | exact Or.inl rfl | exact Or.inr rfl)) (pss_cons (ps_if (pt_cmpR (op_eqA hr.units) (pe_op op_mod (pv 2) pe_int) pe_int (nomark _)) (pss_one (ps_set (i := 3) sc_law.nd rfl (by first | exact Or.inl rfl | exact Or.inr rfl) (pe_df (df_law_field T) (hr.mono (by decide)) (pa_cons (pv 1) pa_nil)))) pss_nil)
      (pss_cons (ps_set (i := 4) sc_law.nd rfl (by first | exact Or.inl rfl | exact Or.inr rfl) (pe_df (df_law_rule T) (hr.mono (by decide)) (pa_cons (pv 1) pa_nil)))
      (pss_cons (ps_set (i := 5) sc_law.nd rfl (by first | exact Or.inl rfl | exact Or.inr rfl) (pe_df (df_law_window T) (hr.mono (by decide)) (pa_cons (pv 1) pa_nil)))
      (pss_one (ps_for PassesOwn.never rfl (pi_range1 (by rfl) T.n_range (pa_cons pe_int pa_nil)) (pg_name (i := 6) sc_law.nd rfl (by first | exact Or.inl rfl | exact Or.inr rfl)) (pss_cons (ps_set (i := 7) sc_law.nd rfl (by first | exact Or.inl rfl | exact Or.inr rfl) (pe_ix (ix_seqK (K := K) rfl) (pe_lst (pa_cons (pe_df (df_law_next T) (hr.mono (by decide)) (pa_cons (pv 1) (pa_cons (pe_callB (call_lenK (K := K) rfl) (by rfl) T.n_len bt_len (pa_cons (pv 3) pa_nil)) pa_nil))) (pa_cons pe_int (pa_cons (pe_op op_sub (pe_callB (call_lenK (K := K) rfl) (by rfl) T.n_len bt_len (pa_cons (pv 3) pa_nil)) pe_int) pa_nil)))) (pe_df (df_law_next T) (hr.mono (by decide)) (pa_cons (pv 1) (pa_cons pe_int pa_nil))) (fun _ _ => rfl)))
      (pss_cons (ps_set (i := 8) sc_law.nd rfl (by first | exact Or.inl rfl | exact Or.inr rfl) (pe_ix (ix_seqK (K := K) rfl) (pe_lst (pa_cons (pe_df (df_law_next T) (hr.mono (by decide)) (pa_cons (pv 1) (pa_cons (pe_callB (call_lenK (K := K) rfl) (by rfl) T.n_len bt_len (pa_cons (pe_ix (ix_seqK (K := K) rfl) (pv 3) pe_int (fun _ _ => rfl)) pa_nil)) pa_nil))) (pa_cons pe_int (pa_cons (pe_op op_sub (pe_callB (call_lenK (K := K) rfl) (by rfl) T.n_len bt_len (pa_cons (pe_ix (ix_seqK (K := K) rfl) (pv 3) pe_int (fun _ _ => rfl)) pa_nil)) pe_int) pa_nil)))) (pe_df (df_law_next T) (hr.mono (by decide)) (pa_cons (pv 1) (pa_cons pe_int pa_nil))) (fun _ _ => rfl)))
      (pss_cons (ps_set (i := 9) sc_law.nd rfl (by first | exact Or.inl rfl | exact Or.inr rfl) (pe_df (df_law_due T) (hr.mono (by decide)) (pa_cons (pv 3) (pa_cons (pv 5) (pa_cons (pv 4) (pa_cons (pv 7) (pa_cons (pv 8) pa_nil)))))))
      (pss_cons (ps_if (pt_not (pt_val (pe_df (df_law_like T) (hr.mono (by decide)) (pa_cons (pe_df (df_window_cells T) (hr.mono (by decide)) (pa_cons (pv 3) (pa_cons (pv 5) (pa_cons (pv 4) (pa_cons (pv 7) (pa_cons (pv 8) pa_nil)))))) (pa_cons (pv 9) pa_nil))))) (pss_one (ps_ret pe_bl)) pss_nil)
      (pss_one (ps_if (pt_cmpR (op_neA hr.units) (pe_df (df_window_cells T) (hr.mono (by decide)) (pa_cons (pv 3) (pa_cons (pv 5) (pa_cons (pv 4) (pa_cons (pv 7) (pa_cons (pv 8) pa_nil)))))) (pv 9) (nomark _)) (pss_one (ps_ret pe_bl)) pss_nil))))))))))))
      (pss_one (ps_ret (pe_cmpR (op_eqA hr.units) (pe_df (df_window_cells T) (hr.mono (by decide)) (pa_cons (pe_tup (pa_cons (pe_tup (pa_cons pe_int pa_nil)) pa_nil)) (pa_cons (pe_tup (pa_cons pe_int (pa_cons pe_int (pa_cons pe_int (pa_cons pe_int pa_nil))))) (pa_cons pe_str (pa_cons pe_int (pa_cons pe_int pa_nil)))))) (pe_tup (pa_cons pe_int pa_nil)) (nomark _)))))), ?_⟩
    refine ⟨_, rfl, _, _, rfl, hS, hlen, fun d H0 hd D0 s0 => ?_⟩
    refine ⟨_, rfl, by decide, by decide, ?_⟩
    refine for_range (fun i σ H' => ∃ (v2 v3 v4 v5 v6 v7 v8 v9 : Option V), σ = [some (.ref a), some (.ref d), v2, v3, v4, v5, v6, v7, v8, v9] ∧ Deck H' d (400 * i) ∧ (i = 0 ∨ ∃ fv F h w, v3 = some fv ∧ FieldOk F h w ∧ IsD H' fv (fieldD F)))
      ⟨none, none, none, none, none, none, none, none, rfl, D0, Or.inl rfl⟩ ?_ ?_
    · rintro i _ H1 hi ⟨v2, v3, v4, v5, v6, v7, v8, v9, rfl, D1, fld⟩
      have hi' : i < 6 := hi
      refine tSeq_cut (fun σ H' => ∃ (fv : V) (v2 v4 v5 v6 v7 v8 v9 : Option V) (F : List (List (Option Int))) (h w : Nat), σ = [some (.ref a), some (.ref d), v2, some fv, v4, v5, v6, v7, v8, v9] ∧ Deck H' d (400 * i + 300) ∧ FieldOk F h w ∧ IsD H' fv (fieldD F)) ?_ (fun rest => ?_)
      rotate_left
      · refine ⟨_, rfl, _, _, rfl, rfl, (by show (0 : Int) < 2; decide), Or.inl ⟨rfl, _, rfl, ?_⟩⟩
        refine ite2 (fun z => ?_) (fun z => ?_)
        · refine ⟨_, rfl, _, _, rfl, D1, by omega, fun v F h w H2 fo hF D2 k2 => ?_⟩
          exact rest _ _ ⟨v, _, _, _, _, _, _, _, F, h, w, rfl, D2, fo, hF⟩
        · rcases fld with e | ⟨fv, F, h, w, rfl, fo, hF⟩
          · subst e
            exact absurd (decide_eq_true (by rfl)) z
          · exact rest _ _ ⟨fv, _, _, _, _, _, _, _, F, h, w, rfl, D1.more (by omega), fo, hF⟩
      rintro _ H2 ⟨fv, v2, v4, v5, v6, v7, v8, v9, F, h, w, rfl, D2, fo, hF⟩
      obtain ⟨R, ew, eh⟩ := fo.rect
      obtain ⟨_, h1, h12, w1, w12, _, _⟩ := id fo
      refine ⟨_, rfl, _, _, rfl, D2, by omega, fun rv r H3 hru D3 k3 => ?_⟩
      obtain ⟨xs2, lst2⟩ := D2.lst
      have hF3 := hF.keep (k3.tups lst2)
      refine ⟨_, rfl, _, _, rfl, D3, by omega, fun wp u dn l rr H4 bu bd bl br hwp D4 k4 => ?_⟩
      obtain ⟨xs3, lst3⟩ := D3.lst
      have t4 := k4.tups lst3
      refine ⟨_, rfl, by decide, by decide, ?_⟩
      refine for_range (fun j σ H' => ∃ (v2 v6 v7 v8 v9 : Option V), σ = [some (.ref a), some (.ref d), v2, some fv, some rv, some (.ref wp), v6, v7, v8, v9] ∧ Deck H' d (400 * i + 312 + 4 * j) ∧ IsD H' fv (fieldD F) ∧ IsD H' rv (ruleD r) ∧ IsD H' (.ref wp) (winD u dn l rr))
        ⟨_, _, _, _, _, rfl, D4.more (by omega), hF3.keep t4, hru.keep t4, isWin hwp⟩ ?_ ?_
      · rintro j _ H5 hj ⟨v2, v6, v7, v8, v9, rfl, D5, hF5, hr5, hw5⟩
        have hj' : j < 4 := hj
        obtain ⟨fa, fxs, b0, ys, e, ha, la, hb0, hb, lb⟩ := field_sizes R hF5
        subst e
        obtain ⟨xs5, lst5⟩ := D5.lst
        -- i
        refine ⟨_, rfl, _, rfl, _, _, rfl, Or.inr ⟨_, SqT.of ha, rfl⟩, _, _, _, rfl, D5, by omega, by omega, by omega, fun x6 H6 a6 b6 D6 k6 => ?_⟩
        have t6 := k6.tups lst5
        refine ⟨_, rfl, _, _, rfl, Or.inr ⟨_, SqT.of (t6 _ _ ha), rfl⟩, _, _, rfl, rfl, (by show 3 ≤ sizeLine; decide), fun p hp => ?_⟩
        have hpd : p ≠ d := by
          obtain ⟨xs, e⟩ := D6.lst
          exact (ne_of_none e hp).symm
        refine ⟨_, rfl, _, _, _, rfl, D6.upd hp, (by decide), (by decide), by omega, fun x7 H7 a7 b7 D7 k7 => ?_⟩
        obtain ⟨vi, ei, i0, i1⟩ := three_of (y := 0) a6 b6 a7 b7
        refine Or.inl ⟨_, _, _, _, rfl, rfl, SqL.of (k7 p _ upd_same hpd), ei, ?_⟩
        have K7 : KeepBut d H5 H7 := (k6.upd hp).trans k7
        have t7 := K7.tups lst5
        obtain ⟨xs7, lst7⟩ := D7.lst
        -- j
        refine ⟨_, rfl, _, rfl, Or.inr (Or.inl ⟨_, _, _, _, rfl, rfl, SqT.of (t7 _ _ ha), hb0, _, _, rfl, Or.inr ⟨_, SqT.of (t7 _ _ hb), rfl⟩, _, _, _, rfl, D7, by omega, by omega, by omega, fun x8 H8 a8 b8 D8 k8 => ?_⟩)⟩
        have t8 := t7.trans (k8.tups lst7)
        refine ⟨_, rfl, Or.inr (Or.inl ⟨_, _, _, _, rfl, rfl, SqT.of (t8 _ _ ha), hb0, _, _, rfl, Or.inr ⟨_, SqT.of (t8 _ _ hb), rfl⟩, _, _, rfl, rfl, (by show 3 ≤ sizeLine; decide), fun p2 hp2 => ?_⟩)⟩
        have hpd2 : p2 ≠ d := by
          obtain ⟨xs, e⟩ := D8.lst
          exact (ne_of_none e hp2).symm
        refine ⟨_, rfl, _, _, _, rfl, D8.upd hp2, (by decide), (by decide), by omega, fun x9 H9 a9 b9 D9 k9 => ?_⟩
        obtain ⟨vj, ej, j0, j1⟩ := three_of (y := 0) a8 b8 a9 b9
        refine Or.inl ⟨_, _, _, _, rfl, rfl, SqL.of (k9 p2 _ upd_same hpd2), ej, ?_⟩
        have K9 : KeepBut d H5 H9 := (K7.trans (k8.upd hp2)).trans k9
        have t9 := K9.tups lst5
        have hF9 := hF5.keep t9
        have hr9 := hr5.keep t9
        have hw9 := hw5.keep t9
        have len := wc_len F r u dn l rr vi vj
        have lb' : (u + dn + 1) * (l + rr + 1) ≤ 13 * 13 := Nat.mul_le_mul (by omega) (by omega)
        -- due
        refine ⟨_, rfl, _, rfl, _, rfl, _, rfl, _, rfl, _, _, _, F, r, u, dn, l, rr, _, _, rfl, R, hF9, hw9, hr9, ⟨by omega, by omega, by omega, by omega⟩, fun pd H10 s10 hpd10 => ?_⟩
        -- like
        refine ⟨_, rfl, _, rfl, _, rfl, _, rfl, _, rfl, _, _, _, F, r, u, dn, l, rr, _, _, rfl, R, hF9.keep s10.tups, hw9.keep s10.tups, hr9.keep s10.tups, ⟨by omega, by omega⟩, ⟨by omega, by omega⟩, ⟨by omega, by omega, by omega, by omega⟩, fun pc H11 s11 hpc => ?_⟩
        refine ⟨_, rfl, _, _, rowD (wc F r u dn l rr vi vj), rfl, isRowP hpc, isRowP (s11 _ _ hpd10), plain_row (by omega), row_depth _, fun H12 s12 => ⟨_, rfl, ?_⟩⟩
        refine iteF ?_
        have s13 := (s10.trans s11).trans s12
        -- !=
        refine ⟨_, rfl, _, rfl, _, rfl, _, rfl, _, rfl, _, _, _, F, r, u, dn, l, rr, _, _, rfl, R, hF9.keep s13.tups, hw9.keep s13.tups, hr9.keep s13.tups, ⟨by omega, by omega⟩, ⟨by omega, by omega⟩, ⟨by omega, by omega, by omega, by omega⟩, fun pe H14 s14 hpe => ?_⟩
        refine ⟨_, rfl, Or.inr ⟨rowD (wc F r u dn l rr vi vj), rowD (wc F r u dn l rr vi vj), isRowP hpe, isRowP (((s11.trans s12).trans s14) _ _ hpd10), cmp_row _ _, _, rfl, ?_⟩⟩
        rw [eqv_row, decide_eq_true rfl]
        refine iteF ?_
        have s15 := s13.trans s14
        exact ⟨_, _, _, _, _, rfl, (D9.keep s15).more (by omega), hF9.keep s15.tups, hr9.keep s15.tups, hw9.keep s15.tups⟩
      · rintro _ H5 ⟨v2, v6, v7, v8, v9, rfl, D5, hF5, hr5, hw5⟩
        exact ⟨_, _, _, _, _, _, _, _, rfl, D5.more (by omega), Or.inr ⟨fv, F, h, w, rfl, fo, hF5⟩⟩
    · rintro _ H1 ⟨v2, v3, v4, v5, v6, v7, v8, v9, rfl, D1, fld⟩
      refine ⟨(by show 1 ≤ sizeLine; decide), fun p1 hp1 => ⟨(by show 1 ≤ sizeLine; decide), fun p2 hp2 => ?_⟩⟩
      refine ⟨(by show 4 ≤ sizeLine; decide), fun p3 hp3 => ?_⟩
      have t1 := same_upd (o := .tup [.ref p1]) hp2
      have t2 := same_upd (o := .tup [.int 6, .int 6, .int 6, .int 6]) hp3
      refine ⟨_, _, _, [[some 5]], .there, 6, 6, 6, 6, 0, 0, rfl, ⟨by decide, by decide, by decide, by decide, fun r hr => by simp at hr; rw [hr]; rfl⟩, .tup (t2 _ _ upd_same) (.cons (.tup (t2 _ _ (t1 _ _ upd_same)) (isCells [some 5])) .nil), isWin upd_same, .str _, ⟨by decide, by decide⟩, ⟨by decide, by decide⟩, ⟨by decide, by decide, by decide, by decide⟩, fun p4 H4 s4 hp4 => ?_⟩
      refine ⟨(by show 1 ≤ sizeLine; decide), fun p5 hp5 => ?_⟩
      have t4 := same_upd (o := .tup [.int 5]) hp5
      have e : wc [[some 5]] .there 6 6 6 6 0 0 = [some 5] := by decide +kernel
      rw [e] at hp4
      refine Or.inr ⟨rowD [some 5], rowD [some 5], isRowP (t4 _ _ hp4), isRowP (r := [some 5]) upd_same, cmp_row _ _, ?_⟩
      rw [eqv_row, decide_eq_true rfl]
      exact q _

end
theorem txt_mk {K : PySem.W.Frag} {h : Heap} {mg : Str → Option Value} (X : K.In h) (G : h.Ns mainGlobals mg) {f_is_inside : Addr} {od_is_inside an_is_inside : Option Addr} {sl_is_inside : Array (Option Value)} {oc_is_inside kV_is_inside dc_is_inside pm_is_inside cd_is_inside ct_is_inside : Value} {f_brought_inside : Addr} {od_brought_inside an_brought_inside : Option Addr} {sl_brought_inside : Array (Option Value)} {oc_brought_inside kV_brought_inside dc_brought_inside pm_brought_inside cd_brought_inside ct_brought_inside : Value} {f_stands_at : Addr} {od_stands_at an_stands_at : Option Addr} {sl_stands_at : Array (Option Value)} {oc_stands_at kV_stands_at dc_stands_at pm_stands_at cd_stands_at ct_stands_at : Value} {f_places_around : Addr} {od_places_around an_places_around : Option Addr} {sl_places_around : Array (Option Value)} {oc_places_around kV_places_around dc_places_around pm_places_around cd_places_around ct_places_around : Value} {f_window_cells : Addr} {od_window_cells an_window_cells : Option Addr} {sl_window_cells : Array (Option Value)} {oc_window_cells kV_window_cells dc_window_cells pm_window_cells cd_window_cells ct_window_cells : Value} {f_law_mix : Addr} {od_law_mix an_law_mix : Option Addr} {sl_law_mix : Array (Option Value)} {oc_law_mix kV_law_mix dc_law_mix pm_law_mix cd_law_mix ct_law_mix : Value} {f_law_deck : Addr} {od_law_deck an_law_deck : Option Addr} {sl_law_deck : Array (Option Value)} {oc_law_deck kV_law_deck dc_law_deck pm_law_deck cd_law_deck ct_law_deck : Value} {f_law_next : Addr} {od_law_next an_law_next : Option Addr} {sl_law_next : Array (Option Value)} {oc_law_next kV_law_next dc_law_next pm_law_next cd_law_next ct_law_next : Value} {f_law_cell : Addr} {od_law_cell an_law_cell : Option Addr} {sl_law_cell : Array (Option Value)} {oc_law_cell kV_law_cell dc_law_cell pm_law_cell cd_law_cell ct_law_cell : Value} {f_law_field : Addr} {od_law_field an_law_field : Option Addr} {sl_law_field : Array (Option Value)} {oc_law_field kV_law_field dc_law_field pm_law_field cd_law_field ct_law_field : Value} {f_law_rule : Addr} {od_law_rule an_law_rule : Option Addr} {sl_law_rule : Array (Option Value)} {oc_law_rule kV_law_rule dc_law_rule pm_law_rule cd_law_rule ct_law_rule : Value} {f_law_led : Addr} {od_law_led an_law_led : Option Addr} {sl_law_led : Array (Option Value)} {oc_law_led kV_law_led dc_law_led pm_law_led cd_law_led ct_law_led : Value} {f_law_stands : Addr} {od_law_stands an_law_stands : Option Addr} {sl_law_stands : Array (Option Value)} {oc_law_stands kV_law_stands dc_law_stands pm_law_stands cd_law_stands ct_law_stands : Value} {f_law_window : Addr} {od_law_window an_law_window : Option Addr} {sl_law_window : Array (Option Value)} {oc_law_window kV_law_window dc_law_window pm_law_window cd_law_window ct_law_window : Value} {f_law_like : Addr} {od_law_like an_law_like : Option Addr} {sl_law_like : Array (Option Value)} {oc_law_like kV_law_like dc_law_like pm_law_like cd_law_like ct_law_like : Value} {f_law_due : Addr} {od_law_due an_law_due : Option Addr} {sl_law_due : Array (Option Value)} {oc_law_due kV_law_due dc_law_due pm_law_due cd_law_due ct_law_due : Value} {f_law : Addr} {od_law an_law : Option Addr} {sl_law : Array (Option Value)} {oc_law kV_law dc_law pm_law cd_law ct_law : Value}
    (a_is_inside : PySem.W.nsIn K mainGlobals "is_inside" = some (some (.ref f_is_inside)))
    (l_is_inside : K.lookup f_is_inside = some ⟨oc_is_inside, od_is_inside, .func (PySem.W.fnOf "is_inside" "is_inside" (defArgs s_is_inside) (defBody s_is_inside) (defScope s_is_inside) .none kV_is_inside dc_is_inside pm_is_inside an_is_inside cd_is_inside ct_is_inside), sl_is_inside⟩)
    (c_is_inside : PySem.W.codeIn K cd_is_inside "is_inside" = true)
    (k_is_inside : PySem.W.keepIn K (.ref f_is_inside) = true)
    (a_brought_inside : PySem.W.nsIn K mainGlobals "brought_inside" = some (some (.ref f_brought_inside)))
    (l_brought_inside : K.lookup f_brought_inside = some ⟨oc_brought_inside, od_brought_inside, .func (PySem.W.fnOf "brought_inside" "brought_inside" (defArgs s_brought_inside) (defBody s_brought_inside) (defScope s_brought_inside) .none kV_brought_inside dc_brought_inside pm_brought_inside an_brought_inside cd_brought_inside ct_brought_inside), sl_brought_inside⟩)
    (c_brought_inside : PySem.W.codeIn K cd_brought_inside "brought_inside" = true)
    (k_brought_inside : PySem.W.keepIn K (.ref f_brought_inside) = true)
    (a_stands_at : PySem.W.nsIn K mainGlobals "stands_at" = some (some (.ref f_stands_at)))
    (l_stands_at : K.lookup f_stands_at = some ⟨oc_stands_at, od_stands_at, .func (PySem.W.fnOf "stands_at" "stands_at" (defArgs s_stands_at) (defBody s_stands_at) (defScope s_stands_at) .none kV_stands_at dc_stands_at pm_stands_at an_stands_at cd_stands_at ct_stands_at), sl_stands_at⟩)
    (c_stands_at : PySem.W.codeIn K cd_stands_at "stands_at" = true)
    (k_stands_at : PySem.W.keepIn K (.ref f_stands_at) = true)
    (a_places_around : PySem.W.nsIn K mainGlobals "places_around" = some (some (.ref f_places_around)))
    (l_places_around : K.lookup f_places_around = some ⟨oc_places_around, od_places_around, .func (PySem.W.fnOf "places_around" "places_around" (defArgs s_places_around) (defBody s_places_around) (defScope s_places_around) .none kV_places_around dc_places_around pm_places_around an_places_around cd_places_around ct_places_around), sl_places_around⟩)
    (c_places_around : PySem.W.codeIn K cd_places_around "places_around" = true)
    (k_places_around : PySem.W.keepIn K (.ref f_places_around) = true)
    (a_window_cells : PySem.W.nsIn K mainGlobals "window_cells" = some (some (.ref f_window_cells)))
    (l_window_cells : K.lookup f_window_cells = some ⟨oc_window_cells, od_window_cells, .func (PySem.W.fnOf "window_cells" "window_cells" (defArgs s_window_cells) (defBody s_window_cells) (defScope s_window_cells) .none kV_window_cells dc_window_cells pm_window_cells an_window_cells cd_window_cells ct_window_cells), sl_window_cells⟩)
    (c_window_cells : PySem.W.codeIn K cd_window_cells "window_cells" = true)
    (k_window_cells : PySem.W.keepIn K (.ref f_window_cells) = true)
    (a_law_mix : PySem.W.nsIn K mainGlobals "_law_mix" = some (some (.ref f_law_mix)))
    (l_law_mix : K.lookup f_law_mix = some ⟨oc_law_mix, od_law_mix, .func (PySem.W.fnOf "_law_mix" "_law_mix" (defArgs s_law_mix) (defBody s_law_mix) (defScope s_law_mix) .none kV_law_mix dc_law_mix pm_law_mix an_law_mix cd_law_mix ct_law_mix), sl_law_mix⟩)
    (c_law_mix : PySem.W.codeIn K cd_law_mix "_law_mix" = true)
    (k_law_mix : PySem.W.keepIn K (.ref f_law_mix) = true)
    (a_law_deck : PySem.W.nsIn K mainGlobals "_law_deck" = some (some (.ref f_law_deck)))
    (l_law_deck : K.lookup f_law_deck = some ⟨oc_law_deck, od_law_deck, .func (PySem.W.fnOf "_law_deck" "_law_deck" (defArgs s_law_deck) (defBody s_law_deck) (defScope s_law_deck) .none kV_law_deck dc_law_deck pm_law_deck an_law_deck cd_law_deck ct_law_deck), sl_law_deck⟩)
    (c_law_deck : PySem.W.codeIn K cd_law_deck "_law_deck" = true)
    (k_law_deck : PySem.W.keepIn K (.ref f_law_deck) = true)
    (a_law_next : PySem.W.nsIn K mainGlobals "_law_next" = some (some (.ref f_law_next)))
    (l_law_next : K.lookup f_law_next = some ⟨oc_law_next, od_law_next, .func (PySem.W.fnOf "_law_next" "_law_next" (defArgs s_law_next) (defBody s_law_next) (defScope s_law_next) .none kV_law_next dc_law_next pm_law_next an_law_next cd_law_next ct_law_next), sl_law_next⟩)
    (c_law_next : PySem.W.codeIn K cd_law_next "_law_next" = true)
    (k_law_next : PySem.W.keepIn K (.ref f_law_next) = true)
    (a_law_cell : PySem.W.nsIn K mainGlobals "_law_cell" = some (some (.ref f_law_cell)))
    (l_law_cell : K.lookup f_law_cell = some ⟨oc_law_cell, od_law_cell, .func (PySem.W.fnOf "_law_cell" "_law_cell" (defArgs s_law_cell) (defBody s_law_cell) (defScope s_law_cell) .none kV_law_cell dc_law_cell pm_law_cell an_law_cell cd_law_cell ct_law_cell), sl_law_cell⟩)
    (c_law_cell : PySem.W.codeIn K cd_law_cell "_law_cell" = true)
    (k_law_cell : PySem.W.keepIn K (.ref f_law_cell) = true)
    (a_law_field : PySem.W.nsIn K mainGlobals "_law_field" = some (some (.ref f_law_field)))
    (l_law_field : K.lookup f_law_field = some ⟨oc_law_field, od_law_field, .func (PySem.W.fnOf "_law_field" "_law_field" (defArgs s_law_field) (defBody s_law_field) (defScope s_law_field) .none kV_law_field dc_law_field pm_law_field an_law_field cd_law_field ct_law_field), sl_law_field⟩)
    (c_law_field : PySem.W.codeIn K cd_law_field "_law_field" = true)
    (k_law_field : PySem.W.keepIn K (.ref f_law_field) = true)
    (a_law_rule : PySem.W.nsIn K mainGlobals "_law_rule" = some (some (.ref f_law_rule)))
    (l_law_rule : K.lookup f_law_rule = some ⟨oc_law_rule, od_law_rule, .func (PySem.W.fnOf "_law_rule" "_law_rule" (defArgs s_law_rule) (defBody s_law_rule) (defScope s_law_rule) .none kV_law_rule dc_law_rule pm_law_rule an_law_rule cd_law_rule ct_law_rule), sl_law_rule⟩)
    (c_law_rule : PySem.W.codeIn K cd_law_rule "_law_rule" = true)
    (k_law_rule : PySem.W.keepIn K (.ref f_law_rule) = true)
    (a_law_led : PySem.W.nsIn K mainGlobals "_law_led" = some (some (.ref f_law_led)))
    (l_law_led : K.lookup f_law_led = some ⟨oc_law_led, od_law_led, .func (PySem.W.fnOf "_law_led" "_law_led" (defArgs s_law_led) (defBody s_law_led) (defScope s_law_led) .none kV_law_led dc_law_led pm_law_led an_law_led cd_law_led ct_law_led), sl_law_led⟩)
    (c_law_led : PySem.W.codeIn K cd_law_led "_law_led" = true)
    (k_law_led : PySem.W.keepIn K (.ref f_law_led) = true)
    (a_law_stands : PySem.W.nsIn K mainGlobals "_law_stands" = some (some (.ref f_law_stands)))
    (l_law_stands : K.lookup f_law_stands = some ⟨oc_law_stands, od_law_stands, .func (PySem.W.fnOf "_law_stands" "_law_stands" (defArgs s_law_stands) (defBody s_law_stands) (defScope s_law_stands) .none kV_law_stands dc_law_stands pm_law_stands an_law_stands cd_law_stands ct_law_stands), sl_law_stands⟩)
    (c_law_stands : PySem.W.codeIn K cd_law_stands "_law_stands" = true)
    (k_law_stands : PySem.W.keepIn K (.ref f_law_stands) = true)
    (a_law_window : PySem.W.nsIn K mainGlobals "_law_window" = some (some (.ref f_law_window)))
    (l_law_window : K.lookup f_law_window = some ⟨oc_law_window, od_law_window, .func (PySem.W.fnOf "_law_window" "_law_window" (defArgs s_law_window) (defBody s_law_window) (defScope s_law_window) .none kV_law_window dc_law_window pm_law_window an_law_window cd_law_window ct_law_window), sl_law_window⟩)
    (c_law_window : PySem.W.codeIn K cd_law_window "_law_window" = true)
    (k_law_window : PySem.W.keepIn K (.ref f_law_window) = true)
    (a_law_like : PySem.W.nsIn K mainGlobals "_law_like" = some (some (.ref f_law_like)))
    (l_law_like : K.lookup f_law_like = some ⟨oc_law_like, od_law_like, .func (PySem.W.fnOf "_law_like" "_law_like" (defArgs s_law_like) (defBody s_law_like) (defScope s_law_like) .none kV_law_like dc_law_like pm_law_like an_law_like cd_law_like ct_law_like), sl_law_like⟩)
    (c_law_like : PySem.W.codeIn K cd_law_like "_law_like" = true)
    (k_law_like : PySem.W.keepIn K (.ref f_law_like) = true)
    (a_law_due : PySem.W.nsIn K mainGlobals "_law_due" = some (some (.ref f_law_due)))
    (l_law_due : K.lookup f_law_due = some ⟨oc_law_due, od_law_due, .func (PySem.W.fnOf "_law_due" "_law_due" (defArgs s_law_due) (defBody s_law_due) (defScope s_law_due) .none kV_law_due dc_law_due pm_law_due an_law_due cd_law_due ct_law_due), sl_law_due⟩)
    (c_law_due : PySem.W.codeIn K cd_law_due "_law_due" = true)
    (k_law_due : PySem.W.keepIn K (.ref f_law_due) = true)
    (a_law : PySem.W.nsIn K mainGlobals "law" = some (some (.ref f_law)))
    (l_law : K.lookup f_law = some ⟨oc_law, od_law, .func (PySem.W.fnOf "law" "law" (defArgs s_law) (defBody s_law) (defScope s_law) .none kV_law dc_law pm_law an_law cd_law ct_law), sl_law⟩)
    (c_law : PySem.W.codeIn K cd_law "law" = true)
    (k_law : PySem.W.keepIn K (.ref f_law) = true)
    (z_len : PySem.W.nsIn K mainGlobals "len" = some none)
    (z_sum : PySem.W.nsIn K mainGlobals "sum" = some none)
    (z_all : PySem.W.nsIn K mainGlobals "all" = some none)
    (z_max : PySem.W.nsIn K mainGlobals "max" = some none)
    (z_min : PySem.W.nsIn K mainGlobals "min" = some none)
    (z_tuple : PySem.W.nsIn K mainGlobals "tuple" = some none)
    (z_list : PySem.W.nsIn K mainGlobals "list" = some none)
    (z_int : PySem.W.nsIn K mainGlobals "int" = some none)
    (z_bool : PySem.W.nsIn K mainGlobals "bool" = some none)
    (z_isinstance : PySem.W.nsIn K mainGlobals "isinstance" = some none)
    (z_range : PySem.W.nsIn K mainGlobals "range" = some none) : Txt K mg where
    d_is_inside := ⟨_, _, fun_mk (st := s_is_inside) l_is_inside c_is_inside k_is_inside, PySem.W.mg_of X G a_is_inside, (fun_mk (st := s_is_inside) l_is_inside c_is_inside k_is_inside).binds (ps := ["field", "i", "j"]) fun _ _ _ _ _ _ us hl => match us, hl with | [_, _, _], _ => rfl⟩
    d_brought_inside := ⟨_, _, fun_mk (st := s_brought_inside) l_brought_inside c_brought_inside k_brought_inside, PySem.W.mg_of X G a_brought_inside, (fun_mk (st := s_brought_inside) l_brought_inside c_brought_inside k_brought_inside).binds (ps := ["rule", "place", "length"]) fun _ _ _ _ _ _ us hl => match us, hl with | [_, _, _], _ => rfl⟩
    d_stands_at := ⟨_, _, fun_mk (st := s_stands_at) l_stands_at c_stands_at k_stands_at, PySem.W.mg_of X G a_stands_at, (fun_mk (st := s_stands_at) l_stands_at c_stands_at k_stands_at).binds (ps := ["field", "rule", "i", "j"]) fun _ _ _ _ _ _ us hl => match us, hl with | [_, _, _, _], _ => rfl⟩
    d_places_around := ⟨_, _, fun_mk (st := s_places_around) l_places_around c_places_around k_places_around, PySem.W.mg_of X G a_places_around, (fun_mk (st := s_places_around) l_places_around c_places_around k_places_around).binds (ps := ["place", "ahead", "behind"]) fun _ _ _ _ _ _ us hl => match us, hl with | [_, _, _], _ => rfl⟩
    d_window_cells := ⟨_, _, fun_mk (st := s_window_cells) l_window_cells c_window_cells k_window_cells, PySem.W.mg_of X G a_window_cells, (fun_mk (st := s_window_cells) l_window_cells c_window_cells k_window_cells).binds (ps := ["field", "window", "rule", "i", "j"]) fun _ _ _ _ _ _ us hl => match us, hl with | [_, _, _, _, _], _ => rfl⟩
    d_law_mix := ⟨_, _, fun_mk (st := s_law_mix) l_law_mix c_law_mix k_law_mix, PySem.W.mg_of X G a_law_mix, (fun_mk (st := s_law_mix) l_law_mix c_law_mix k_law_mix).binds (ps := ["cell", "k"]) fun _ _ _ _ _ _ us hl => match us, hl with | [_, _], _ => rfl⟩
    d_law_deck := ⟨_, _, fun_mk (st := s_law_deck) l_law_deck c_law_deck k_law_deck, PySem.W.mg_of X G a_law_deck, (fun_mk (st := s_law_deck) l_law_deck c_law_deck k_law_deck).binds (ps := ["script"]) fun _ _ _ _ _ _ us hl => match us, hl with | [_], _ => rfl⟩
    d_law_next := ⟨_, _, fun_mk (st := s_law_next) l_law_next c_law_next k_law_next, PySem.W.mg_of X G a_law_next, (fun_mk (st := s_law_next) l_law_next c_law_next k_law_next).binds (ps := ["deck", "many"]) fun _ _ _ _ _ _ us hl => match us, hl with | [_, _], _ => rfl⟩
    d_law_cell := ⟨_, _, fun_mk (st := s_law_cell) l_law_cell c_law_cell k_law_cell, PySem.W.mg_of X G a_law_cell, (fun_mk (st := s_law_cell) l_law_cell c_law_cell k_law_cell).binds (ps := ["deck"]) fun _ _ _ _ _ _ us hl => match us, hl with | [_], _ => rfl⟩
    d_law_field := ⟨_, _, fun_mk (st := s_law_field) l_law_field c_law_field k_law_field, PySem.W.mg_of X G a_law_field, (fun_mk (st := s_law_field) l_law_field c_law_field k_law_field).binds (ps := ["deck"]) fun _ _ _ _ _ _ us hl => match us, hl with | [_], _ => rfl⟩
    d_law_rule := ⟨_, _, fun_mk (st := s_law_rule) l_law_rule c_law_rule k_law_rule, PySem.W.mg_of X G a_law_rule, (fun_mk (st := s_law_rule) l_law_rule c_law_rule k_law_rule).binds (ps := ["deck"]) fun _ _ _ _ _ _ us hl => match us, hl with | [_], _ => rfl⟩
    d_law_led := ⟨_, _, fun_mk (st := s_law_led) l_law_led c_law_led k_law_led, PySem.W.mg_of X G a_law_led, (fun_mk (st := s_law_led) l_law_led c_law_led k_law_led).binds (ps := ["rule", "at", "many"]) fun _ _ _ _ _ _ us hl => match us, hl with | [_, _, _], _ => rfl⟩
    d_law_stands := ⟨_, _, fun_mk (st := s_law_stands) l_law_stands c_law_stands k_law_stands, PySem.W.mg_of X G a_law_stands, (fun_mk (st := s_law_stands) l_law_stands c_law_stands k_law_stands).binds (ps := ["field", "rule", "i", "j"]) fun _ _ _ _ _ _ us hl => match us, hl with | [_, _, _, _], _ => rfl⟩
    d_law_window := ⟨_, _, fun_mk (st := s_law_window) l_law_window c_law_window k_law_window, PySem.W.mg_of X G a_law_window, (fun_mk (st := s_law_window) l_law_window c_law_window k_law_window).binds (ps := ["deck"]) fun _ _ _ _ _ _ us hl => match us, hl with | [_], _ => rfl⟩
    d_law_like := ⟨_, _, fun_mk (st := s_law_like) l_law_like c_law_like k_law_like, PySem.W.mg_of X G a_law_like, (fun_mk (st := s_law_like) l_law_like c_law_like k_law_like).binds (ps := ["found", "due"]) fun _ _ _ _ _ _ us hl => match us, hl with | [_, _], _ => rfl⟩
    d_law_due := ⟨_, _, fun_mk (st := s_law_due) l_law_due c_law_due k_law_due, PySem.W.mg_of X G a_law_due, (fun_mk (st := s_law_due) l_law_due c_law_due k_law_due).binds (ps := ["field", "window", "rule", "i", "j"]) fun _ _ _ _ _ _ us hl => match us, hl with | [_, _, _, _, _], _ => rfl⟩
    d_law := ⟨_, _, fun_mk (st := s_law) l_law c_law k_law, PySem.W.mg_of X G a_law, (fun_mk (st := s_law) l_law c_law k_law).binds (ps := ["script"]) fun _ _ _ _ _ _ us hl => match us, hl with | [_], _ => rfl⟩
    n_len := PySem.W.mg_none_of X G z_len
    n_sum := PySem.W.mg_none_of X G z_sum
    n_all := PySem.W.mg_none_of X G z_all
    n_max := PySem.W.mg_none_of X G z_max
    n_min := PySem.W.mg_none_of X G z_min
    n_tuple := PySem.W.mg_none_of X G z_tuple
    n_list := PySem.W.mg_none_of X G z_list
    n_int := PySem.W.mg_none_of X G z_int
    n_bool := PySem.W.mg_none_of X G z_bool
    n_isinstance := PySem.W.mg_none_of X G z_isinstance
    n_range := PySem.W.mg_none_of X G z_range
end Mw
open PySem PySem.W PyProof.Rows
set_option maxHeartbeats 0 in
theorem PySem.Challenge.cw_midwindow_k05_window_cells_holds : PySem.Challenge.rw_midwindow_k05_window_cells.Holds := by
  w_on; o_law; k_head; (case hw => w_witness2)
  k_fill
  refine L2.walk_df (l := PySem.Challenge.rw_midwindow_k05_window_cells) (k := 6) (st := Mw.s_law) rfl rfl rfl ⟨rfl, by decide, by decide⟩ (fun w h Y => PySem.W.kIn_of Y) (fun _ _ _ _ _ _ _ => rfl) ?F
  case F =>
    intro w mg h KX G
    have T : Mw.Txt (L2.KOf KX) mg := by
      dsimp only [L2.KOf]
      refine' Mw.txt_mk KX G ?a_is_inside ?l_is_inside ?c_is_inside ?k_is_inside ?a_brought_inside ?l_brought_inside ?c_brought_inside ?k_brought_inside ?a_stands_at ?l_stands_at ?c_stands_at ?k_stands_at ?a_places_around ?l_places_around ?c_places_around ?k_places_around ?a_window_cells ?l_window_cells ?c_window_cells ?k_window_cells ?a_law_mix ?l_law_mix ?c_law_mix ?k_law_mix ?a_law_deck ?l_law_deck ?c_law_deck ?k_law_deck ?a_law_next ?l_law_next ?c_law_next ?k_law_next ?a_law_cell ?l_law_cell ?c_law_cell ?k_law_cell ?a_law_field ?l_law_field ?c_law_field ?k_law_field ?a_law_rule ?l_law_rule ?c_law_rule ?k_law_rule ?a_law_led ?l_law_led ?c_law_led ?k_law_led ?a_law_stands ?l_law_stands ?c_law_stands ?k_law_stands ?a_law_window ?l_law_window ?c_law_window ?k_law_window ?a_law_like ?l_law_like ?c_law_like ?k_law_like ?a_law_due ?l_law_due ?c_law_due ?k_law_due ?a_law ?l_law ?c_law ?k_law ?z_len ?z_sum ?z_all ?z_max ?z_min ?z_tuple ?z_list ?z_int ?z_bool ?z_isinstance ?z_range
      (case a_is_inside => k_is)
      (case l_is_inside => k_is)
      (case c_is_inside => k_is)
      (case k_is_inside => k_is)
      (case a_brought_inside => k_is)
      (case l_brought_inside => k_is)
      (case c_brought_inside => k_is)
      (case k_brought_inside => k_is)
      (case a_stands_at => k_is)
      (case l_stands_at => k_is)
      (case c_stands_at => k_is)
      (case k_stands_at => k_is)
      (case a_places_around => k_is)
      (case l_places_around => k_is)
      (case c_places_around => k_is)
      (case k_places_around => k_is)
      (case a_window_cells => k_is)
      (case l_window_cells => k_is)
      (case c_window_cells => k_is)
      (case k_window_cells => k_is)
      (case a_law_mix => k_is)
      (case l_law_mix => k_is)
      (case c_law_mix => k_is)
      (case k_law_mix => k_is)
      (case a_law_deck => k_is)
      (case l_law_deck => k_is)
      (case c_law_deck => k_is)
      (case k_law_deck => k_is)
      (case a_law_next => k_is)
      (case l_law_next => k_is)
      (case c_law_next => k_is)
      (case k_law_next => k_is)
      (case a_law_cell => k_is)
      (case l_law_cell => k_is)
      (case c_law_cell => k_is)
      (case k_law_cell => k_is)
      (case a_law_field => k_is)
      (case l_law_field => k_is)
      (case c_law_field => k_is)
      (case k_law_field => k_is)
      (case a_law_rule => k_is)
      (case l_law_rule => k_is)
      (case c_law_rule => k_is)
      (case k_law_rule => k_is)
      (case a_law_led => k_is)
      (case l_law_led => k_is)
      (case c_law_led => k_is)
      (case k_law_led => k_is)
      (case a_law_stands => k_is)
      (case l_law_stands => k_is)
      (case c_law_stands => k_is)
      (case k_law_stands => k_is)
      (case a_law_window => k_is)
      (case l_law_window => k_is)
      (case c_law_window => k_is)
      (case k_law_window => k_is)
      (case a_law_like => k_is)
      (case l_law_like => k_is)
      (case c_law_like => k_is)
      (case k_law_like => k_is)
      (case a_law_due => k_is)
      (case l_law_due => k_is)
      (case c_law_due => k_is)
      (case k_law_due => k_is)
      (case a_law => k_is)
      (case l_law => k_is)
      (case c_law => k_is)
      (case k_law => k_is)
      (case z_len => k_is)
      (case z_sum => k_is)
      (case z_all => k_is)
      (case z_max => k_is)
      (case z_min => k_is)
      (case z_tuple => k_is)
      (case z_list => k_is)
      (case z_int => k_is)
      (case z_bool => k_is)
      (case z_isinstance => k_is)
      (case z_range => k_is)
    exact ⟨T.d_law, fun base => Mw.df_law T⟩

