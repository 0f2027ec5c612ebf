import PyProof.Rows.All
import Wide.All
import OpenK.AllK
import Wide.FinOn
import Lean
import PyProof.EqAt
import PyProof.EqKinds
import PyProof.TupleCall
import KE.LcSums
import PyProof.RulesAs
import PyProof.NsDelKeeps
import PyProof.Rows.Catch
import OpenK.KOwn
import KE.KTryMore
import PyProof.ExcArgs
import KE.KUnpack
import PyProof.P3In
import PyProof.Rows.SortRuns
import PyProof.Rows.SortShell
import PyProof.TupleOfSeq
import PyProof.SetKind
import PyProof.Rows.SetFrom
import PyProof.WalksMore
import PyProof.DictIter
import PyProof.SetRoads
import KE.KDictSum
import KE.KSortedM
import KE.KIntText
import PyProof.StrWalks
import PyProof.EnumMake
import PyProof.EnumStmt
import PyProof.SliceStr2
import PyProof.StrLawsTight
import PyProof.StrLawsChain
import PyProof.ZipIter
import KE.KPairComp
import PyProof.DictItems
import PyProof.DictWalks
import PyProof.SumAny
import KE.KFind
import PyProof.EnumIter
import PyProof.ListMulAny
import PyProof.FactsAll.tuple
import PyProof.P3Eq
import PyProof.TupleKey
import PyProof.FactsAll.NoneType
import PyProof.DictRoadsH
import PyProof.Rows.TupDisplay
import KE.KSortTup
import PySem.Challenge.RW_midwindow_k92_desk_by_names
set_option Elab.async false
set_option linter.all false
set_option maxRecDepth 100000
set_option maxHeartbeats 4000000
namespace L2
open PySem PySem.Spec PyProof.Rows
abbrev Key := Sum Int Str
def keyIs : Key → Value → Bool
  | .inl k, v => Value.isInt k v
  | .inr x, v => Value.isStrOf x v
def keyH (w : World) : Key → Int
  | .inl k => hashInt k
  | .inr x => hashStr w x
theorem keyIs_shape : ∀ {k : Key} {v : Value}, keyIs k v = true → (∃ i t, k = Sum.inl i ∧ v = Value.int i t) ∨ (∃ x t, k = Sum.inr x ∧ v = Value.str x t)
  | .inl i, v, h => by
    obtain ⟨t, e⟩ := Value.isInt_shape (k := i) (v := v) h
    exact .inl ⟨i, t, rfl, e⟩
  | .inr x, v, h => by
    obtain ⟨t, e⟩ := Value.isStrOf_shape (x := x) (v := v) h
    exact .inr ⟨x, t, rfl, e⟩
theorem key_ll (a b : Int) : decide ((Sum.inl a : Key) = Sum.inl b) = (a == b) := by
  by_cases e : a = b
  · subst e; simp
  · have h : ¬ (Sum.inl a : Key) = Sum.inl b := fun q => e (Sum.inl.inj q)
    rw [decide_eq_false h]
    exact (beq_eq_false_iff_ne.mpr e).symm
theorem key_rr (a b : Str) : decide ((Sum.inr a : Key) = Sum.inr b) = decide (a = b) := by
  by_cases e : a = b
  · subst e; simp
  · have h : ¬ (Sum.inr a : Key) = Sum.inr b := fun q => e (Sum.inr.inj q)
    rw [decide_eq_false h, decide_eq_false e]
theorem key_lr (a : Int) (b : Str) : decide ((Sum.inl a : Key) = Sum.inr b) = false := decide_eq_false (fun q => nomatch q)
theorem key_rl (a : Str) (b : Int) : decide ((Sum.inr a : Key) = Sum.inl b) = false := decide_eq_false (fun q => nomatch q)
def mixKind (prog : Program) (w : World) : PySem.KeyKind prog w Key where
  is := keyIs
  hash := keyH w
  inj := fun v a b ha hb => by
    rcases keyIs_shape ha with ⟨i, t, rfl, rfl⟩ | ⟨x, t, rfl, rfl⟩
    · rcases keyIs_shape hb with ⟨j, u, rfl, e⟩ | ⟨y, u, rfl, e⟩
      · injection e with e1 _; rw [e1]
      · exact nomatch e
    · rcases keyIs_shape hb with ⟨j, u, rfl, e⟩ | ⟨y, u, rfl, e⟩
      · exact nomatch e
      · injection e with e1 _; rw [e1]
  byValue := fun k v h => by
    rcases keyIs_shape h with ⟨i, t, rfl, rfl⟩ | ⟨x, t, rfl, rfl⟩ <;> rfl
  pyHash := fun hv h => by
    rcases keyIs_shape hv with ⟨i, t, rfl, rfl⟩ | ⟨x, t, rfl, rfl⟩
    · exact wpAny_pyHash_int h
    · exact wpAny_pyHash_str h
  eqBool := fun hu hv h => by
    rcases keyIs_shape hu with ⟨i, t, rfl, rfl⟩ | ⟨x, t, rfl, rfl⟩
    · rcases keyIs_shape hv with ⟨j, u, rfl, rfl⟩ | ⟨y, u, rfl, rfl⟩
      · rw [key_ll] at h; exact wpAny_eqBool_int h
      · rw [key_lr] at h; exact SeqAt.EqAt.int_str i t y u _ _ _ _ h
    · rcases keyIs_shape hv with ⟨j, u, rfl, rfl⟩ | ⟨y, u, rfl, rfl⟩
      · rw [key_rl] at h; exact SeqAt.EqAt.str_int x t j u _ _ _ _ h
      · rw [key_rr] at h; exact wpAny_eqBool_str h
  «strs» := fun k x t v h => by
    rcases keyIs_shape h with ⟨i, u, rfl, e⟩ | ⟨y, u, rfl, e⟩
    · exact nomatch e
    · injection e with e1 _
      subst e1
      cases v <;> rfl
end L2
namespace L2
open PySem PySem.Spec PyProof.Rows
inductive V where
  | non | bl (b : Bool) | int (i : Int) | str (x : Str) | byt (b : Array UInt8) | flt (b : UInt64) | ref (a : Addr) | ty (n : String)
  deriving DecidableEq
def RelV : V → Value → Prop
  | .non, u => u = Value.none
  | .bl b, u => u = Value.bool b
  | .int i, u => ∃ t, u = Value.int i t
  | .str x, u => ∃ t, u = Value.str x t
  | .byt b, u => ∃ t, u = Value.bytes b t
  | .flt b, u => ∃ t, u = Value.float b t
  | .ref a, u => u = Value.ref a
  | .ty n, u => u = Value.type n
abbrev Vals : List V → List Value → Prop := Paired RelV
theorem Vals.length {xs : List V} {us : List Value} (r : Vals xs us) : xs.length = us.length := Paired.length r
theorem Vals.get : ∀ {xs : List V} {us : List Value} {i : Nat} {x : V}, Vals xs us → xs[i]? = some x → ∃ u, us[i]? = some u ∧ RelV x u
  | _, _, _, _, .nil, e => by simp at e
  | _, _, 0, _, .cons r _, e => by simp at e; subst e; exact ⟨_, rfl, r⟩
  | _, _, i + 1, x, .cons _ t, e => by
    obtain ⟨u, h1, h2⟩ := Vals.get (i := i) (x := x) t (by simpa using e)
    exact ⟨u, by simpa using h1, h2⟩
theorem Vals.append : ∀ {xs ys : List V} {us ws : List Value}, Vals xs us → Vals ys ws → Vals (xs ++ ys) (us ++ ws)
  | _, _, _, _, .nil, s => s
  | _, _, _, _, .cons r t, s => .cons r (Vals.append t s)
theorem Vals.take : ∀ {xs : List V} {us : List Value} (n : Nat), Vals xs us → Vals (xs.take n) (us.take n)
  | _, _, 0, _ => .nil
  | _, _, _ + 1, .nil => .nil
  | _, _, n + 1, .cons r t => .cons r (Vals.take n t)
theorem Vals.drop : ∀ {xs : List V} {us : List Value} (n : Nat), Vals xs us → Vals (xs.drop n) (us.drop n)
  | _, _, 0, r => r
  | _, _, _ + 1, .nil => .nil
  | _, _, n + 1, .cons _ t => Vals.drop n t
def RelO : Option V → Option Value → Prop
  | some v, some u => RelV v u
  | none, none => True
  | _, _ => False
def KV {κ : Type} : List (κ × V) → List (κ × Value) → Prop := Paired fun (p : κ × V) (q : κ × Value) => p.1 = q.1 ∧ RelV p.2 q.2
def kV : Key → V
  | .inl i => .int i
  | .inr x => .str x
inductive HO where
  /-- a list -/
  | lst (xs : List V)
  /-- a tuple (never changes) -/
  | tup (xs : List V)
  /-- a dict whose keys are ints and texts; one whose keys are tuples of ints and texts (the empty one is both) -/
  | dK (kvs : List (Key × V)) | dT (kvs : List (List Key × V))
  /-- a set of ints: its members, its size -/
  | set (S : Int → Bool) (n : Nat)
  /-- an instance of the class at C, its dict at dx, its attributes -/
  | ins (C dx : Addr) (fs : List (Str × V))
  /-- the dict of the instance at x -/
  | own (x : Addr)
  /-- the dict of an exception -/
  | xd (fs : List (Str × V))
  /-- a bound method, f of x -/
  | met (f x : Addr)
  /-- a range object lo, lo + 1, .. below hi -/
  | rng (lo hi : Int)
  /-- a thing that is known to the object (the script; a dict while a loop walks it): read, never written while it is so -/
  | frz (o : Obj) (u : HO)
  /-- a code object's table -/
  | tbl (ps : Array Value)
  /-- any other thing, by what is true of its one object (a def of one's own: SetO a S n := HO.ext fun h => ..) -/
  | ext (φ : Heap → Prop)
abbrev Hp := Addr → Option HO
def upd (H : Hp) (a : Addr) (o : HO) : Hp := fun b => if b = a then some o else H b
theorem upd_same {H : Hp} {a : Addr} {o : HO} : upd H a o a = some o := by unfold upd; rw [if_pos rfl]
theorem upd_ne {H : Hp} {a b : Addr} {o : HO} (h : b ≠ a) : upd H a o b = H b := by unfold upd; rw [if_neg h]
theorem ne_of {H : Hp} {a b : Addr} {o u : HO} (h : H a = some o) (h' : H b = some u) (d : o ≠ u) : a ≠ b := by
  intro e; subst e; rw [h] at h'; exact d (Option.some.inj h')
theorem ne_of_none {H : Hp} {a b : Addr} {o : HO} (h : H a = some o) (h' : H b = none) : a ≠ b := by
  intro e; subst e; rw [h] at h'; cases h'
section
variable (P : Program) (w : World)
def ObjOk (H : Hp) (h : Heap) (a : Addr) : HO → Prop
  | .lst xs => xs.length ≤ sizeLine ∧ ∃ (its : List Value) (n : Nat), Vals xs its ∧ h.get? a = some { cls := .type "list", data := .seq its.toArray n }
  | .tup xs => xs.length ≤ sizeLine ∧ ∃ its : List Value, Vals xs its ∧ IsTup h a its.toArray
  | .dK kvs => kvs.length ≤ sizeLine ∧ (a == sysModules) = false ∧ ∃ vs, KV kvs vs ∧ h.DictOf (mixKind P w) a vs
  | .dT kvs => kvs.length ≤ sizeLine ∧ (a == sysModules) = false ∧ ∃ xs : List (List Key × Addr × Value),
      Paired (fun (p : List Key × V) (q : List Key × Addr × Value) => p.1 = q.1 ∧ H q.2.1 = some (.tup (p.1.map kV)) ∧ RelV p.2 q.2.2) kvs xs ∧
      ∃ o es ep, h.get? a = some o ∧ o.ExactDict ∧ o.data = .dict es ep ∧ es.toList = xs.map (entryOfKey (tupleKind (mixKind P w))) ∧ (xs.map (·.1)).Nodup
  | .set S n => h.SetOf (intKind P w) a S n
  | .ins C dx fs => H dx = some (.own a) ∧ fs.length ≤ 1000 ∧ dx ≠ a ∧ h.get? a = some (PySem.W.instObj C dx) ∧
      ∃ mA, h.Ns1 dx mA ∧ (∀ f, RelO (fs.lookup f) (mA f)) ∧ PySem.Within mA (fs.map (·.1))
  | .own _ => ∃ o, h.get? a = some o
  | .xd fs => ∃ mA, h.Ns1 a mA ∧ ∀ f, RelO (fs.lookup f) (mA f)
  | .rng lo hi => ∃ t u v, h.get? a = some { cls := .type "range", data := .fields #[.int lo t, .int hi u, .int 1 v] }
  | .frz o u => h.get? a = some o ∧ ObjOk H h a u
  | .tbl ps => h.get? a = some { cls := .none, data := .fields ps }
  | .met f x => h.get? a = some (PySem.W.methodObj (.ref f) (.ref x))
  | .ext φ => φ h ∧ (∃ o, h.get? a = some o) ∧ ∀ h1 h2 : Heap, φ h1 → (∀ o, h1.get? a = some o → h2.get? a = some o) → φ h2
def HOk (H : Hp) (h : Heap) : Prop := ∀ a o, H a = some o → ObjOk P w H h a o
end
section
variable {P : Program} {w : World} {H H' : Hp} {h h' : Heap} {a : Addr} {o : HO}
theorem ObjOk.lt (x : ObjOk P w H h a o) : a < h.objs.size := by
  cases o with
  | lst xs => obtain ⟨_, _, _, _, e⟩ := x; exact Heap.lt_size e
  | tup xs => obtain ⟨_, _, _, p⟩ := x; exact p.lt
  | dK kvs => obtain ⟨_, _, _, _, o, _, _, e, _⟩ := x; exact Heap.lt_size e
  | dT kvs => obtain ⟨_, _, _, _, o, _, _, e, _⟩ := x; exact Heap.lt_size e
  | set S n => obtain ⟨o, _, _, _, e, _⟩ := x; exact Heap.lt_size e
  | ins C dx fs => obtain ⟨_, _, _, e, _⟩ := x; exact Heap.lt_size e
  | own y => obtain ⟨_, e⟩ := x; exact Heap.lt_size e
  | xd fs => obtain ⟨_, ⟨_, _, _, e, _⟩, _⟩ := x; exact Heap.lt_size e
  | rng lo hi => obtain ⟨_, _, _, e⟩ := x; exact Heap.lt_size e
  | frz ob u => obtain ⟨e, _⟩ := x; exact Heap.lt_size e
  | tbl ps => exact Heap.lt_size (show h.get? a = some _ from x)
  | met f y => exact Heap.lt_size (show h.get? a = some _ from x)
  | ext φ => obtain ⟨_, ⟨_, e⟩, _⟩ := x; exact Heap.lt_size e
theorem Paired.mapP {α β : Type} {F G : α → β → Prop} : ∀ {l₁ : List α} {l₂ : List β}, Paired F l₁ l₂ → (∀ a b, F a b → G a b) → Paired G l₁ l₂
  | _, _, .nil, _ => .nil
  | _, _, .cons r t, f => .cons (f _ _ r) (Paired.mapP t f)
theorem ObjOk.stay (x : ObjOk P w H h a o) (k : ∀ b u, (b = a ∨ H b = some (.own a)) → h.get? b = some u → h'.get? b = some u)
    (ho : ∀ b, H b = some (.own a) → H' b = some (.own a)) (ht : ∀ b xs, H b = some (.tup xs) → H' b = some (.tup xs)) : ObjOk P w H' h' a o := by
  induction o with
  | lst xs => obtain ⟨z, its, n, r, e⟩ := x; exact ⟨z, its, n, r, k _ _ (.inl rfl) e⟩
  | tup xs => obtain ⟨z, its, r, ob, e, c⟩ := x; exact ⟨z, its, r, ob, k _ _ (.inl rfl) e, c⟩
  | dK kvs => obtain ⟨z, y, vs, r, ob, es, ep, e, c⟩ := x; exact ⟨z, y, vs, r, ob, es, ep, k _ _ (.inl rfl) e, c⟩
  | dT kvs =>
    obtain ⟨z, y, xs, r, ob, es, ep, e, c⟩ := x
    exact ⟨z, y, xs, Paired.mapP r fun p q z => ⟨z.1, ht _ _ z.2.1, z.2.2⟩, ob, es, ep, k _ _ (.inl rfl) e, c⟩
  | set S n => obtain ⟨ob, es, ep, t, e, c⟩ := x; exact ⟨ob, es, ep, t, k _ _ (.inl rfl) e, c⟩
  | ins C dx fs =>
    obtain ⟨d, z, ne, e, mA, ⟨od, es, ep, e2, c⟩, r⟩ := x
    exact ⟨ho _ d, z, ne, k _ _ (.inl rfl) e, mA, ⟨od, es, ep, k _ _ (.inr d) e2, c⟩, r⟩
  | own y => obtain ⟨ob, e⟩ := x; exact ⟨ob, k _ _ (.inl rfl) e⟩
  | xd fs => obtain ⟨mA, ⟨od, es, ep, e, c⟩, r⟩ := x; exact ⟨mA, ⟨od, es, ep, k _ _ (.inl rfl) e, c⟩, r⟩
  | rng lo hi => obtain ⟨t, u, v, e⟩ := x; exact ⟨t, u, v, k _ _ (.inl rfl) e⟩
  | frz ob u ih => obtain ⟨e, q⟩ := x; exact ⟨k _ _ (.inl rfl) e, ih q⟩
  | tbl ps =>
    have e : h.get? a = some { cls := .none, data := .fields ps } := x
    show h'.get? a = some { cls := .none, data := .fields ps }
    exact k a _ (.inl rfl) e
  | met f y =>
    have e : h.get? a = some (PySem.W.methodObj (.ref f) (.ref y)) := x
    show h'.get? a = some (PySem.W.methodObj (.ref f) (.ref y))
    exact k a _ (.inl rfl) e
  | ext φ => obtain ⟨p, ⟨o, e⟩, st⟩ := x; exact ⟨st _ _ p fun o q => k _ _ (.inl rfl) q, ⟨o, k _ _ (.inl rfl) e⟩, st⟩
theorem HOk.lt (x : HOk P w H h) (e : H a = some o) : a < h.objs.size := (x a o e).lt
theorem HOk.fresh (x : HOk P w H h) (e : h.objs.size ≤ a) : H a = none := by
  cases q : H a with
  | none => rfl
  | some u => exact absurd (Nat.lt_of_lt_of_le (x.lt q) e) (Nat.lt_irrefl _)
theorem HOk.kept (x : HOk P w H h) (k : ∀ b u, h.get? b = some u → h'.get? b = some u) : HOk P w H h' := fun a o e =>
  (x a o e).stay (fun b u _ q => k b u q) (fun _ q => q) fun _ _ q => q
theorem HOk.laid (x : HOk P w H h) (k : ∀ b u, h.get? b = some u → h'.get? b = some u) (hp : h.objs.size ≤ a) (new : ObjOk P w (upd H a o) h' a o) : HOk P w (upd H a o) h' := fun b u e => by
  have hn := x.fresh hp
  by_cases hb : b = a
  · subst hb; rw [upd_same] at e; cases e; exact new
  · rw [upd_ne hb] at e
    exact (x b u e).stay (fun c v _ q => k c v q) (fun c q => by rw [upd_ne (ne_of_none q hn)]; exact q) fun c xs q => by rw [upd_ne (ne_of_none q hn)]; exact q
end
def Rd (H : Hp) (a : Addr) (u : HO) : Prop := H a = some u ∨ ∃ o, H a = some (.frz o u)
theorem Rd.ok {P : Program} {w : World} {H : Hp} {h : Heap} {a : Addr} {u : HO} (r : Rd H a u) (x : HOk P w H h) : ObjOk P w H h a u := by
  rcases r with r | ⟨o, r⟩
  · exact x a u r
  · obtain ⟨_, q⟩ := x a _ r
    exact q
def Mut : Option HO → Prop
  | some (.lst _) => True
  | some (.dK _) => True
  | some (.dT _) => True
  | some (.set _ _) => True
  | some (.ins _ _ _) => True
  | some (.ext _) => True
  | _ => False
section
variable {P : Program} {w : World} {H : Hp} {h h' : Heap} {x e : Addr} {o' : HO}
theorem HOk.write (ok : HOk P w H h) (mu : Mut (H x)) (he : e = x ∨ H e = some (.own x)) (k : ∀ b u, b ≠ e → h.get? b = some u → h'.get? b = some u) (heo : ∃ u, h'.get? e = some u)
    (new : ObjOk P w (upd H x o') h' x o') : HOk P w (upd H x o') h' := fun b u q => by
  have nown : ∀ c y, H c = some (.own y) → c ≠ x := fun c y r z => by subst z; rw [r] at mu; exact mu
  have ntup : ∀ c xs, H c = some (.tup xs) → c ≠ x := fun c xs r z => by subst z; rw [r] at mu; exact mu
  by_cases hb : b = x
  · subst hb; rw [upd_same] at q; cases q; exact new
  · rw [upd_ne hb] at q
    by_cases hbe : b = e
    · have q' : H b = some (.own x) := by
        rcases he with z | z
        · exact absurd (hbe.trans z) hb
        · rw [hbe]; exact z
      rw [q] at q'; cases q'
      obtain ⟨v, hv⟩ := heo
      exact ⟨v, by rw [hbe]; exact hv⟩
    · refine (ok b u q).stay (fun c v hc r => k c v ?_ r) (fun c r => by rw [upd_ne (nown c b r)]; exact r) fun c xs r => by rw [upd_ne (ntup c xs r)]; exact r
      rcases hc with rfl | hc
      · exact hbe
      · rintro rfl
        rcases he with z | z
        · exact nown c b hc z
        · rw [hc] at z; cases z; exact hb rfl
end
structure Un (fs ex : List Addr) (H H' : Hp) (h h' : Heap) : Prop where
  keep : ∀ b o, h.get? b = some o → H b = none → b ∉ fs → b ∉ ex → h'.get? b = some o
  slot : ∀ b o, h.get? b = some o → H b = none → b ∈ fs → b ∉ ex → ∃ sl, h'.get? b = some { o with slots := sl }
  free : ∀ b o, h.get? b = some o → H b = none → b ∉ ex → H' b = none
  there : ∀ b o, h.get? b = some o → b ∉ ex → ∃ o', h'.get? b = some o'
  tups : ∀ b xs, H b = some (.tup xs) → H' b = some (.tup xs)
  frzs : ∀ b o u, H b = some (.frz o u) → H' b = some (.frz o u)
  tbls : ∀ b ps, H b = some (.tbl ps) → ∃ more, H' b = some (.tbl (ps ++ more))
section
variable {fs fs' ex ex' : List Addr} {H H1 H2 : Hp} {h h1 h2 h' : Heap} {a x e : Addr} {o : HO}
theorem Un.any (u : Un fs ex H H1 h h1) {b : Addr} {ob : Obj} (q : h.get? b = some ob) (n : H b = none) (hx : b ∉ ex) : ∃ sl, h1.get? b = some { ob with slots := sl } := by
  by_cases hb : b ∈ fs
  · exact u.slot b ob q n hb hx
  · exact ⟨ob.slots, u.keep b ob q n hb hx⟩
theorem Un.kept (k : ∀ b u, h.get? b = some u → h'.get? b = some u) : Un fs ex H H h h' :=
  ⟨fun b ob q _ _ _ => k b ob q, fun b ob q _ _ _ => ⟨ob.slots, k b ob q⟩, fun _ _ _ n _ => n, fun b ob q _ => ⟨ob, k b ob q⟩, fun _ _ q => q, fun _ _ _ q => q, fun _ ps q => ⟨#[], by rw [q]; simp⟩⟩
theorem Un.refl : Un fs ex H H h h := Un.kept fun _ _ q => q
theorem Un.laid (k : ∀ b u, h.get? b = some u → h'.get? b = some u) (hp : h.objs.size ≤ a) (hn : H a = none) : Un fs ex H (upd H a o) h h' where
  keep := fun b u q _ _ _ => k b u q
  slot := fun b u q _ _ _ => ⟨u.slots, k b u q⟩
  free := fun b u q n _ => by rw [upd_ne (Nat.ne_of_lt (Nat.lt_of_lt_of_le (Heap.lt_size q) hp))]; exact n
  there := fun b u q _ => ⟨u, k b u q⟩
  tups := fun b xs q => by rw [upd_ne (ne_of_none q hn)]; exact q
  frzs := fun b u xs q => by rw [upd_ne (ne_of_none q hn)]; exact q
  tbls := fun b ps q => ⟨#[], by rw [upd_ne (ne_of_none q hn), q]; simp⟩
theorem Un.write (mu : Mut (H x)) (he : e = x ∨ H e = some (.own x)) (k : ∀ b u, b ≠ e → h.get? b = some u → h'.get? b = some u) (heo : ∃ u, h'.get? e = some u) : Un fs ex H (upd H x o) h h' := by
  have hx : ∀ b, H b = none → b ≠ x := fun b n z => by subst z; rw [n] at mu; exact mu
  have hb : ∀ b, H b = none → b ≠ e := fun b n z => by
    subst z
    rcases he with r | r
    · exact hx b n r
    · rw [n] at r; cases r
  have hm : ∀ b u, H b = some u → ¬ Mut (some u) → b ≠ x := fun b u q nm z => by subst z; rw [q] at mu; exact nm mu
  refine ⟨fun b u q n _ _ => k b u (hb b n) q, fun b u q n _ _ => ⟨u.slots, k b u (hb b n) q⟩, fun b u q n _ => by rw [upd_ne (hx b n)]; exact n, fun b u q _ => ?_,
    fun b xs q => by rw [upd_ne (hm b _ q fun z => z)]; exact q, fun b u xs q => by rw [upd_ne (hm b _ q fun z => z)]; exact q, fun b ps q => ⟨#[], by rw [upd_ne (hm b _ q fun z => z), q]; simp⟩⟩
  by_cases hbe : b = e
  · subst hbe; exact heo
  · exact ⟨u, k b u hbe q⟩
end
def trk (h : Heap) (H : Hp) : List Addr := (List.range h.objs.size).filter fun a => (H a).isSome
def hidT (h : Heap) (H : Hp) : Heap := PySem.W.hideAll h (trk h H)
theorem hidT_size (h : Heap) (H : Hp) : (hidT h H).objs.size = h.objs.size := PySem.W.hideAll_size _ _
theorem hidT_get {h : Heap} {H : Hp} {b : Addr} {o : Obj} (e : h.get? b = some o) (n : H b = none) : (hidT h H).get? b = some o :=
  PySem.W.hideAll_get _ e fun hm => by
    have q : (H b).isSome = true := (List.mem_filter.mp hm).2
    rw [n] at q; simp at q
theorem of_hidT {h : Heap} {H : Hp} {b : Addr} {o : Obj} (e : (hidT h H).get? b = some o) : h.get? b = some o ∧ H b = none := by
  have e' : h.get? b = some o := PySem.W.of_hideAll (trk h H) e
  refine ⟨e', ?_⟩
  cases q : H b with
  | none => rfl
  | some x =>
    have hm : b ∈ trk h H := List.mem_filter.mpr ⟨List.mem_range.mpr (Heap.lt_size e'), by simp [q]⟩
    have z : (hidT h H).get? b = none := PySem.W.hideAll_none (trk h H) hm
    rw [z] at e; cases e
end L2
namespace L2
open PySem PySem.Spec PyProof.Rows
structure Mod (K : PySem.W.Frag) (mg : Str → Option Value) (base : Heap) : Prop where
  kin : K.In base
  glob : base.Ns mainGlobals mg
  blt : ∃ mb, base.Ns builtinsNs mb ∧ ∀ x : Str, x ≠ "__name__" → mb x = bootBuiltins x
  nolimit : base.NoLimit
structure Cx where
  prog : Program
  w : World
  K : PySem.W.Frag
  mg : Str → Option Value
  base : Heap
  A : Around
  N : List Str
  sZ : Shared
  HZ : Hp
  env : Env
  outer : List Env
  stack : List Env
  ex : List Addr
  fn : Str → Bool
  calm : Bool
  pn : List (Addr × Obj)
  xe : Value → Shared → Prop
def frs (l : List Env) : List Addr := l.filterMap (·.frame)
abbrev Cx.fs (X : Cx) : List Addr := frs X.outer
def Vis (sc : Scope) (x : Str) : Prop := sc.names.lookup x = some .local ∨ sc.names.lookup x = some .cell ∨ sc.names.lookup x = some .free
def Loc (sc : Scope) (x : Str) : Prop := sc.names.lookup x = some .local ∨ sc.names.lookup x = some .cell
def Look (env : Env) (h : Heap) (m : Str → Option Value) (x : Str) (u : Value) : Prop :=
  (env.kindOf x = some .local ∧ m x = some u) ∨ ((env.kindOf x = some .cell ∨ env.kindOf x = some .free) ∧ ∃ c, env.cells.lookup x = some c ∧ h.IsCell c (some u))
structure Cx.Ok (X : Cx) : Prop where
  mod : Mod X.K X.mg X.base
  kind : X.env.scope.kind = .function
  glob : X.env.globals = mainGlobals
  blt : X.env.builtins = builtinsNs
  above : X.sZ.heap.objs.size ≤ X.env.locals
  inj : ∀ x y c, X.env.cells.lookup x = some c → X.env.cells.lookup y = some c → x = y
  has : ∀ x, (X.env.kindOf x = some .cell ∨ X.env.kindOf x = some .free) → ∃ c, X.env.cells.lookup x = some c
  cab : ∀ x c, X.fn x = true → X.env.cells.lookup x = some c → X.sZ.heap.objs.size ≤ c
  hd : X.calm = true → X.A.handled = none
  frames : X.A.frames = some X.stack
  stk : X.stack = X.outer ∨ (X.stack = X.env :: X.outer ∧ X.env.frame = some X.env.locals)
  exf : ∀ b ∈ X.ex, b ≠ X.env.locals ∧ ∀ x c, X.env.cells.lookup x = some c → c ≠ b
  bs : ∀ b o, X.base.get? b = some o → X.sZ.heap.get? b = some o ∧ X.HZ b = none
  bsz : X.base.objs.size ≤ X.sZ.heap.objs.size
  noex : ∀ b o, X.base.get? b = some o → b ∉ X.ex
  exfs : ∀ b ∈ X.ex, b ∉ X.fs
  funs : X.sZ.heap.FunFrames X.base X.outer
  frf : ∀ b ∈ X.fs, X.HZ b = none
structure Inv (X : Cx) (pins : List (Addr × Obj)) (σ : List (Option V)) (H : Hp) (s : Shared) : Prop where
  ok : X.Ok
  os : s.os = X.sZ.os
  bare : AllBare s.gens
  base : Un X.fs X.ex X.HZ H X.sZ.heap s.heap
  loc : ∃ m, s.heap.Ns X.env.locals m ∧ ∀ (i : Nat) (x : Str) (v : V), X.N[i]? = some x → σ[i]? = some (some v) → Vis X.env.scope x → ∃ u, RelV v u ∧ Look X.env s.heap m x u
  cell : ∀ x c, X.env.cells.lookup x = some c → ∃ v, s.heap.IsCell c v
  free : H X.env.locals = none
  freeC : ∀ x c, X.env.cells.lookup x = some c → H c = none
  pin : ∀ p ∈ X.pn ++ pins, s.heap.get? p.1 = some p.2 ∧ H p.1 = none ∧ p.1 ≠ X.env.locals ∧ p.1 ∉ X.fs ∧ ∀ v, p.2.data ≠ .cell v
  hok : HOk X.prog X.w H s.heap
  len : σ.length = X.N.length
section
variable {X : Cx} {pins : List (Addr × Obj)} {σ : List (Option V)} {H H' : Hp} {s : Shared} {h' : Heap}
theorem Cx.Ok.nofr (ok : X.Ok) {b : Addr} {o : Obj} (e : X.base.get? b = some o) : b ∉ X.fs := fun hb => by
  have := (ok.funs.mem hb).1
  rw [e] at this; cases this
theorem Inv.bs (I : Inv X pins σ H s) : ∀ b o, X.base.get? b = some o → s.heap.get? b = some o ∧ H b = none := fun b o e =>
  ⟨I.base.keep b o (I.ok.bs b o e).1 (I.ok.bs b o e).2 (I.ok.nofr e) (I.ok.noex b o e), I.base.free b o (I.ok.bs b o e).1 (I.ok.bs b o e).2 (I.ok.noex b o e)⟩
theorem Inv.bk (I : Inv X pins σ H s) : ∀ b o, X.base.get? b = some o → s.heap.get? b = some o := fun b o e => (I.bs b o e).1
theorem Inv.mod (I : Inv X pins σ H s) : Mod X.K X.mg X.base := I.ok.mod
theorem Inv.kIn (I : Inv X pins σ H s) : X.K.In s.heap := I.ok.mod.kin.keeps I.bk
theorem Inv.fr (I : Inv X pins σ H s) : ∃ m, Fr X.base X.env.locals s.heap m :=
  let ⟨m, hn, _⟩ := I.loc
  ⟨m, hn, I.bk, Nat.le_trans I.ok.bsz I.ok.above⟩
theorem Inv.lt (I : Inv X pins σ H s) : X.env.locals < s.heap.objs.size := let ⟨_, hn, _⟩ := I.loc; hn.lt
theorem Inv.sz (I : Inv X pins σ H s) : X.sZ.heap.objs.size ≤ s.heap.objs.size := Nat.le_trans I.ok.above (Nat.le_of_lt I.lt)
theorem Inv.nofs (I : Inv X pins σ H s) {a : Addr} (h : s.heap.objs.size ≤ a) : a ∉ X.fs := fun hb => by
  obtain ⟨_, o, ho, _⟩ := I.ok.funs.mem hb
  exact absurd (Nat.lt_of_lt_of_le (Heap.lt_size ho) (Nat.le_trans I.sz h)) (Nat.lt_irrefl _)
theorem Inv.cne (I : Inv X pins σ H s) : ∀ x c, X.env.cells.lookup x = some c → c ≠ X.env.locals := fun x c e z => by
  obtain ⟨v, o, ho, hd⟩ := I.cell x c e
  obtain ⟨m, ⟨o', es, ep, ho', hd', _⟩, _⟩ := I.loc
  rw [z, ho'] at ho; cases ho; rw [hd'] at hd; cases hd
theorem Inv.funs (I : Inv X pins σ H s) : s.heap.FunFrames X.base X.outer := by
  have all : ∀ (l : List Env), (∀ b ∈ frs l, b ∈ X.fs) → X.sZ.heap.FunFrames X.base l → s.heap.FunFrames X.base l := by
    intro l
    induction l with
    | nil => intro _ _; trivial
    | cons env r ih =>
      intro hs hl
      obtain ⟨hk, ⟨L, o, hf, hn, ho, hd⟩, hr⟩ := hl
      have hL : L ∈ X.fs := hs L (by unfold frs; rw [List.filterMap_cons, hf]; exact List.mem_cons_self)
      obtain ⟨sl, e⟩ := I.base.slot L o ho (I.ok.frf L hL) hL fun z => I.ok.exfs L z hL
      exact ⟨hk, ⟨L, _, hf, hn, e, hd⟩, ih (fun b hb => hs b (by unfold frs; rw [List.filterMap_cons, hf]; exact List.mem_cons_of_mem _ hb)) hr⟩
  exact all X.outer (fun _ hb => hb) I.ok.funs
theorem Inv.stack (I : Inv X pins σ H s) : s.heap.FunFrames X.base X.stack := by
  rcases I.ok.stk with e | ⟨e, hf⟩
  · rw [e]; exact I.funs
  · rw [e]
    obtain ⟨m, hn, _⟩ := I.loc
    refine .cons (by rw [I.ok.kind]; decide) hf hn ?_ I.funs
    exact Heap.get?_none_of_le (Nat.le_trans I.ok.bsz I.ok.above)
theorem Inv.stkSub (I : Inv X pins σ H s) : ∀ b ∈ frs X.stack, b ∈ X.env.locals :: X.fs := fun b hb => by
  rcases I.ok.stk with e | ⟨e, hf⟩
  · rw [e] at hb; exact List.mem_cons_of_mem _ hb
  · rw [e] at hb
    unfold frs at hb
    rw [List.filterMap_cons, hf] at hb
    exact hb
theorem Inv.stkFree (I : Inv X pins σ H s) : ∀ b ∈ frs X.stack, H b = none := fun b hb => by
  rcases List.mem_cons.mp (I.stkSub b hb) with e | hb
  · rw [e]; exact I.free
  · obtain ⟨_, o, ho, _⟩ := I.ok.funs.mem hb
    exact I.base.free b o ho (I.ok.frf b hb) fun z => I.ok.exfs b z hb
theorem Inv.step {g' : Array GenState} {t' : Nat} {d' : Drawn} {ch : List Addr} (I : Inv X pins σ H s)
    (hch : ∀ b ∈ ch, (b ∈ X.ex ∨ X.sZ.heap.objs.size ≤ b) ∧ b ≠ X.env.locals ∧ (∀ x c, X.env.cells.lookup x = some c → c ≠ b) ∧ ∀ p ∈ X.pn ++ pins, p.1 ≠ b)
    (keep : ∀ b o, b ≠ X.env.locals → b ∉ X.fs → b ∉ ch → s.heap.get? b = some o → H b = none → h'.get? b = some o)
    (slot : ∀ b o, b ≠ X.env.locals → b ∈ X.fs → b ∉ ch → s.heap.get? b = some o → H b = none → ∃ sl, h'.get? b = some { o with slots := sl }) (free : ∀ b o, b ∉ ch → s.heap.get? b = some o → H b = none → H' b = none)
    (there : ∀ b o, b ∉ ch → s.heap.get? b = some o → ∃ o', h'.get? b = some o')
    (tups : ∀ b xs, H b = some (.tup xs) → H' b = some (.tup xs)) (frzs : ∀ b o u, H b = some (.frz o u) → H' b = some (.frz o u)) (tbls : ∀ b ps, H b = some (.tbl ps) → ∃ more, H' b = some (.tbl (ps ++ more)))
    (ns : ∀ m, s.heap.Ns X.env.locals m → h'.Ns X.env.locals m) (hok : HOk X.prog X.w H' h') (hg : AllBare g') :
    Inv X pins σ H' { s with heap := h', gens := g', drawn := d', toks := t' } := by
  have neL : ∀ b o, X.sZ.heap.get? b = some o → b ≠ X.env.locals := fun b o e => Nat.ne_of_lt (Nat.lt_of_lt_of_le (Heap.lt_size e) I.ok.above)
  have neC : ∀ b o, X.sZ.heap.get? b = some o → b ∉ X.ex → b ∉ ch := fun b o e hx hb => by
    rcases (hch b hb).1 with z | z
    · exact hx z
    · exact absurd (Nat.lt_of_lt_of_le (Heap.lt_size e) z) (Nat.lt_irrefl _)
  have cellK : ∀ x c, X.env.cells.lookup x = some c → ∀ v, s.heap.IsCell c v → h'.IsCell c v := fun x c e v ⟨o, ho, hd⟩ => by
    have nch : c ∉ ch := fun z => (hch c z).2.2.1 x c e rfl
    by_cases hc : c ∈ X.fs
    · obtain ⟨sl, q⟩ := slot c o (I.cne x c e) hc nch ho (I.freeC x c e)
      exact ⟨_, q, hd⟩
    · exact ⟨o, keep c o (I.cne x c e) hc nch ho (I.freeC x c e), hd⟩
  refine ⟨I.ok, I.os, hg, ⟨fun b o e n hb hx => ?_, fun b o e n hb hx => ?_, fun b o e n hx => ?_, fun b o e hx => ?_, fun b xs e => tups b xs (I.base.tups b xs e), fun b o xs e => frzs b o xs (I.base.frzs b o xs e), fun b ps e => ?_⟩, ?_, fun x c e => ?_, ?_, fun x c e => ?_, fun p hp => ?_, hok, I.len⟩
  · exact keep b o (neL b o e) hb (neC b o e hx) (I.base.keep b o e n hb hx) (I.base.free b o e n hx)
  · obtain ⟨sl, e1⟩ := I.base.slot b o e n hb hx
    obtain ⟨sl', e2⟩ := slot b _ (neL b o e) hb (neC b o e hx) e1 (I.base.free b o e n hx)
    exact ⟨sl', e2⟩
  · obtain ⟨o', e1⟩ := I.base.there b o e hx
    exact free b o' (neC b o e hx) e1 (I.base.free b o e n hx)
  · obtain ⟨o', e1⟩ := I.base.there b o e hx
    exact there b o' (neC b o e hx) e1
  · obtain ⟨m1, e1⟩ := I.base.tbls b ps e
    obtain ⟨m2, e2⟩ := tbls b _ e1
    exact ⟨m1 ++ m2, by rw [e2, Array.append_assoc]⟩
  · obtain ⟨m, hn, hl⟩ := I.loc
    refine ⟨m, ns m hn, fun i x v e1 e2 e3 => ?_⟩
    obtain ⟨u, r, l⟩ := hl i x v e1 e2 e3
    refine ⟨u, r, ?_⟩
    rcases l with l | ⟨k, c, e, z⟩
    · exact .inl l
    · exact .inr ⟨k, c, e, cellK x c e _ z⟩
  · obtain ⟨v, z⟩ := I.cell x c e
    exact ⟨v, cellK x c e v z⟩
  · obtain ⟨m, ⟨o, _, _, ho, _⟩, _⟩ := I.loc
    exact free _ o (fun z => (hch _ z).2.1 rfl) ho I.free
  · obtain ⟨v, o, ho, hd⟩ := I.cell x c e
    exact free c o (fun z => (hch c z).2.2.1 x c e rfl) ho (I.freeC x c e)
  · obtain ⟨e, n, ne, nf, d⟩ := I.pin p hp
    have nch : p.1 ∉ ch := fun z => (hch p.1 z).2.2.2 p hp rfl
    exact ⟨keep p.1 p.2 ne nf nch e n, free p.1 p.2 nch e n, ne, nf, d⟩
theorem Inv.un {t' : Nat} (I : Inv X pins σ H s) (u : Un X.fs [] H H' s.heap h') (hok : HOk X.prog X.w H' h') : Inv X pins σ H' { s with heap := h', toks := t' } := by
  obtain ⟨m, ⟨o, es, ep, ho, r⟩, _⟩ := id I.loc
  obtain ⟨sl, hL⟩ := u.any ho I.free (by simp)
  exact I.step (g' := s.gens) (d' := s.drawn) (ch := []) (fun _ z => nomatch z) (fun b o _ hb _ e n => u.keep b o e n hb (by simp)) (fun b o _ hb _ e n => u.slot b o e n hb (by simp)) (fun b o _ e n => u.free b o e n (by simp)) (fun b o _ e => u.there b o e (by simp)) u.tups u.frzs u.tbls (fun m' hm => by
    obtain ⟨o', es', ep', ho', r'⟩ := hm
    rw [ho] at ho'; cases ho'
    exact ⟨_, es', ep', hL, r'⟩) hok I.bare
theorem Inv.call {g' : Array GenState} {t' : Nat} {d' : Drawn} {ch : List Addr} (I : Inv X pins σ H s) (u : Un (frs X.stack) ch H H' s.heap h') (hok : HOk X.prog X.w H' h') (hg : AllBare g')
    (hch : ∀ b ∈ ch, (b ∈ X.ex ∨ X.sZ.heap.objs.size ≤ b) ∧ b ≠ X.env.locals ∧ (∀ x c, X.env.cells.lookup x = some c → c ≠ b) ∧ ∀ p ∈ X.pn ++ pins, p.1 ≠ b) :
    Inv X pins σ H' { s with heap := h', gens := g', drawn := d', toks := t' } := by
  obtain ⟨m, ⟨o, es, ep, ho, r⟩, _⟩ := id I.loc
  obtain ⟨sl, hL⟩ := u.any ho I.free fun z => (hch _ z).2.1 rfl
  exact I.step (ch := ch) hch (fun b o hL hb hc e n => u.keep b o e n (fun z => (List.mem_cons.mp (I.stkSub b z)).elim hL hb) hc) (fun b o _ _ hc e n => u.any e n hc) (fun b o hc e n => u.free b o e n hc) (fun b o hc e => u.there b o e hc) u.tups u.frzs u.tbls (fun m' hm => by
    obtain ⟨o', es', ep', ho', r'⟩ := hm
    rw [ho] at ho'; cases ho'
    exact ⟨_, es', ep', hL, r'⟩) hok hg
theorem Inv.turned {t' : Nat} {it : Addr} (I : Inv X pins σ H s) (k : ∀ b o, b ≠ it → s.heap.get? b = some o → h'.get? b = some o) (hn : H it = none) (hL : it ≠ X.env.locals)
    (h1 : it ∈ X.ex ∨ X.sZ.heap.objs.size ≤ it) (h2 : ∀ x c, X.env.cells.lookup x = some c → c ≠ it) (h3 : ∀ p ∈ X.pn ++ pins, p.1 ≠ it) : Inv X pins σ H { s with heap := h', toks := t' } := by
  have nit : ∀ b u, H b = some u → b ≠ it := fun b u e z => by rw [z, hn] at e; cases e
  refine I.step (g' := s.gens) (d' := s.drawn) (ch := [it]) (fun b hb => ?_) (fun b o _ _ hc e _ => k b o (fun z => hc (by simp [z])) e) (fun b o _ _ hc e _ => ⟨o.slots, k b o (fun z => hc (by simp [z])) e⟩) (fun _ _ _ _ n => n)
    (fun b o hc e => ⟨o, k b o (fun z => hc (by simp [z])) e⟩) (fun _ _ e => e) (fun _ _ _ e => e) (fun b ps e => ⟨#[], by rw [e]; simp⟩) (fun m hm => ?_) (fun b u e => ?_) I.bare
  · have e : b = it := by simpa using hb
    subst e
    exact ⟨h1, hL, h2, h3⟩
  · obtain ⟨o, es, ep, ho, r⟩ := hm
    exact ⟨o, es, ep, k _ o (Ne.symm hL) ho, r⟩
  · refine (I.hok b u e).stay (fun c v hc q => k c v ?_ q) (fun _ q => q) fun _ _ q => q
    rcases hc with z | z
    · rw [z]; exact nit b u e
    · exact nit c _ z
theorem Inv.tok (I : Inv X pins σ H s) (t : Nat) : Inv X pins σ H { s with toks := t } := I.un (h' := s.heap) (t' := t) Un.refl I.hok
theorem Inv.kept {t' : Nat} (I : Inv X pins σ H s) (k : ∀ b u, s.heap.get? b = some u → h'.get? b = some u) : Inv X pins σ H { s with heap := h', toks := t' } := I.un (Un.kept k) (I.hok.kept k)
theorem Inv.laid {a : Addr} {o : HO} {t' : Nat} (I : Inv X pins σ H s) (k : ∀ b u, s.heap.get? b = some u → h'.get? b = some u) (hp : s.heap.objs.size ≤ a) (new : ObjOk X.prog X.w (upd H a o) h' a o) :
    Inv X pins σ (upd H a o) { s with heap := h', toks := t' } := I.un (Un.laid k hp (I.hok.fresh hp)) (I.hok.laid k hp new)
theorem Inv.write {x e : Addr} {o : HO} {t' : Nat} (I : Inv X pins σ H s) (mu : Mut (H x)) (he : e = x ∨ H e = some (.own x)) (k : ∀ b u, b ≠ e → s.heap.get? b = some u → h'.get? b = some u) (heo : ∃ u, h'.get? e = some u)
    (new : ObjOk X.prog X.w (upd H x o) h' x o) : Inv X pins σ (upd H x o) { s with heap := h', toks := t' } := I.un (Un.write mu he k heo) (I.hok.write mu he k heo new)
theorem Inv.weak {σ' : List (Option V)} (I : Inv X pins σ H s) (hl : σ'.length = σ.length) (w : ∀ (i : Nat) v, σ'[i]? = some (some v) → σ[i]? = some (some v)) : Inv X pins σ' H s :=
  ⟨I.ok, I.os, I.bare, I.base, let ⟨m, hn, hl'⟩ := I.loc; ⟨m, hn, fun i x v e1 e2 e3 => hl' i x v e1 (w i v e2) e3⟩, I.cell, I.free, I.freeC, I.pin, I.hok, hl.trans I.len⟩
theorem Inv.pins_of {pins' : List (Addr × Obj)} (I : Inv X pins σ H s) (h : ∀ p ∈ pins', s.heap.get? p.1 = some p.2 ∧ H p.1 = none ∧ p.1 ≠ X.env.locals ∧ p.1 ∉ X.fs ∧ ∀ v, p.2.data ≠ .cell v) : Inv X pins' σ H s :=
  ⟨I.ok, I.os, I.bare, I.base, I.loc, I.cell, I.free, I.freeC, fun p hp => (List.mem_append.mp hp).elim (fun z => I.pin p (List.mem_append_left _ z)) (h p), I.hok, I.len⟩
theorem nodup_ix {N : List Str} (hN : N.Nodup) {i j : Nat} {x : Str} (a : N[i]? = some x) (b : N[j]? = some x) : i = j := by
  obtain ⟨h1, e1⟩ := List.getElem?_eq_some_iff.mp a
  obtain ⟨h2, e2⟩ := List.getElem?_eq_some_iff.mp b
  exact (List.getElem_inj hN).mp (e1.trans e2.symm)
theorem store_ok2 {M : Model} {A : Around} {E : Value → Shared → Prop} {i : Nat} {x : Str} {v : V} {u : Value} {Q : Unit → Shared → Prop} (I : Inv X pins σ H s) (hN : X.N.Nodup) (hi : X.N[i]? = some x) (hx : Loc X.env.scope x) (r : RelV v u)
    (h : ∀ s', Inv X pins (σ.set i (some v)) H s' → (∃ a, Heap.SameBut a s.heap s'.heap ∧ (a = X.env.locals ∨ X.env.cells.lookup x = some a)) → Q () s') (hf : X.fn x = true ∨ X.env.scope.names.lookup x = some .local := by first | exact .inl rfl | exact .inr rfl | assumption) : wpAny M A (storeName X.env x u) Q E s := by
  obtain ⟨m, hn, hl⟩ := id I.loc
  have hcls : (X.env.scope.kind == .class || (X.env.scope.kind == .module && X.env.locals != X.env.globals)) = false := by rw [I.ok.kind]; rfl
  have hiσ : i < σ.length := by rw [I.len]; exact (List.getElem?_eq_some_iff.mp hi).1
  have cne := I.cne
  have tracked : ∀ {a : Addr} {h' : Heap}, (∃ o, s.heap.get? a = some o ∧ H a = none) → Heap.SameBut a s.heap h' → HOk X.prog X.w H h' := fun {a h'} ha hs b ob e => by
    obtain ⟨_, _, hfree⟩ := ha
    refine (I.hok b ob e).stay (fun c w' hc q => (hs.2 c ?_).trans q) (fun _ q => q) fun _ _ q => q
    rintro rfl
    rcases hc with rfl | hc
    · rw [hfree] at e; cases e
    · rw [hfree] at hc; cases hc
  rcases hx with hk | hk
  · refine wpAny_storeName_local hk hn (fun h' hn' hs => ?_) hcls
    obtain ⟨oL, _, _, hoL, _⟩ := id hn
    refine h _ ⟨I.ok, I.os, I.bare, ⟨fun b o e n hb hx => ?_, fun b o e n hb hx => ?_, I.base.free, fun b o e hx => ?_, I.base.tups, I.base.frzs, I.base.tbls⟩, ⟨_, hn', fun j y v' e1 e2 e3 => ?_⟩, fun y c e => ?_, I.free, I.freeC, fun p hp => ?_, tracked ⟨oL, hoL, I.free⟩ hs, by simpa using I.len⟩ ⟨_, hs, .inl rfl⟩
    · exact (hs.2 b (Nat.ne_of_lt (Nat.lt_of_lt_of_le (Heap.lt_size e) I.ok.above))).trans (I.base.keep b o e n hb hx)
    · obtain ⟨sl, e1⟩ := I.base.slot b o e n hb hx
      exact ⟨sl, (hs.2 b (Nat.ne_of_lt (Nat.lt_of_lt_of_le (Heap.lt_size e) I.ok.above))).trans e1⟩
    · obtain ⟨o', e1⟩ := I.base.there b o e hx
      exact ⟨o', (hs.2 b (Nat.ne_of_lt (Nat.lt_of_lt_of_le (Heap.lt_size e) I.ok.above))).trans e1⟩
    · by_cases hj : j = i
      · subst hj
        rw [hi] at e1; cases e1
        rw [List.getElem?_set_self hiσ] at e2
        cases e2
        exact ⟨u, r, .inl ⟨hk, by simp⟩⟩
      · rw [List.getElem?_set_ne (Ne.symm hj)] at e2
        obtain ⟨u', r', q⟩ := hl j y v' e1 e2 e3
        refine ⟨u', r', ?_⟩
        rcases q with ⟨k, e⟩ | ⟨k, c, e, z⟩
        · refine .inl ⟨k, ?_⟩
          have : y ≠ x := fun e => hj (nodup_ix hN e1 (e ▸ hi))
          simp [this, e]
        · exact .inr ⟨k, c, e, z.sameBut hs (cne y c e)⟩
    · obtain ⟨w', z⟩ := I.cell y c e
      exact ⟨w', z.sameBut hs (cne y c e)⟩
    · obtain ⟨e, n, ne, nf, d⟩ := I.pin p hp
      exact ⟨(hs.2 p.1 ne).trans e, n, ne, nf, d⟩
  · have hfn : X.fn x = true := by
      rcases hf with z | z
      · exact z
      · rw [z] at hk; cases hk
    obtain ⟨c, hc⟩ := I.ok.has x (.inl hk)
    obtain ⟨w', z⟩ := I.cell x c hc
    refine wpAny_storeName_cell I.ok.kind hk hc z (fun h' hc' hs => ?_)
    obtain ⟨oc, hoc, hocd⟩ := id z
    refine h { s with heap := h' } ⟨I.ok, I.os, I.bare, ⟨fun b o e n hb hx => ?_, fun b o e n hb hx => ?_, I.base.free, fun b o e hx => ?_, I.base.tups, I.base.frzs, I.base.tbls⟩, ⟨m, hn.sameBut hs (Ne.symm (cne x c hc)), fun j y v' e1 e2 e3 => ?_⟩, fun y c' e => ?_, I.free, I.freeC, fun p hp => ?_, tracked ⟨oc, hoc, I.freeC x c hc⟩ hs, by simpa using I.len⟩ ⟨c, hs, .inr hc⟩
    · exact (hs.2 b (Nat.ne_of_lt (Nat.lt_of_lt_of_le (Heap.lt_size e) (I.ok.cab x c hfn hc)))).trans (I.base.keep b o e n hb hx)
    · obtain ⟨sl, e1⟩ := I.base.slot b o e n hb hx
      exact ⟨sl, (hs.2 b (Nat.ne_of_lt (Nat.lt_of_lt_of_le (Heap.lt_size e) (I.ok.cab x c hfn hc)))).trans e1⟩
    · obtain ⟨o', e1⟩ := I.base.there b o e hx
      exact ⟨o', (hs.2 b (Nat.ne_of_lt (Nat.lt_of_lt_of_le (Heap.lt_size e) (I.ok.cab x c hfn hc)))).trans e1⟩
    · by_cases hj : j = i
      · subst hj
        rw [hi] at e1; cases e1
        rw [List.getElem?_set_self hiσ] at e2
        cases e2
        exact ⟨u, r, .inr ⟨.inl hk, c, hc, hc'⟩⟩
      · rw [List.getElem?_set_ne (Ne.symm hj)] at e2
        obtain ⟨u', r', q⟩ := hl j y v' e1 e2 e3
        refine ⟨u', r', ?_⟩
        rcases q with q | ⟨k, c', e, z'⟩
        · exact .inl q
        · refine .inr ⟨k, c', e, z'.sameBut hs ?_⟩
          rintro rfl
          exact hj (nodup_ix hN e1 (I.ok.inj _ _ _ e hc ▸ hi))
    · by_cases hcc : c' = c
      · subst hcc; exact ⟨_, hc'⟩
      · obtain ⟨w2, z2⟩ := I.cell y c' e
        exact ⟨w2, z2.sameBut hs hcc⟩
    · obtain ⟨e, n, ne, nf, d⟩ := I.pin p hp
      refine ⟨(hs.2 p.1 ?_).trans e, n, ne, nf, d⟩
      intro q
      rw [q, hoc] at e
      have q' : oc = p.2 := Option.some.inj e
      exact d w' (by rw [← q']; exact hocd)
theorem store_ok {M : Model} {A : Around} {E : Value → Shared → Prop} {i : Nat} {x : Str} {v : V} {u : Value} {Q : Unit → Shared → Prop} (I : Inv X pins σ H s) (hN : X.N.Nodup) (hi : X.N[i]? = some x) (hx : Loc X.env.scope x) (r : RelV v u)
    (h : ∀ s', Inv X pins (σ.set i (some v)) H s' → Q () s') (hf : X.fn x = true ∨ X.env.scope.names.lookup x = some .local := by first | exact .inl rfl | exact .inr rfl | assumption) : wpAny M A (storeName X.env x u) Q E s :=
  store_ok2 I hN hi hx r (fun s' I' _ => h s' I') hf
theorem Inv.call' {s' : Shared} {ch : List Addr} (I : Inv X pins σ H s) (ho : s'.os = s.os) (u : Un (frs X.stack) ch H H' s.heap s'.heap) (hok : HOk X.prog X.w H' s'.heap) (hg : AllBare s'.gens)
    (hch : ∀ b ∈ ch, (b ∈ X.ex ∨ X.sZ.heap.objs.size ≤ b) ∧ b ≠ X.env.locals ∧ (∀ x c, X.env.cells.lookup x = some c → c ≠ b) ∧ ∀ p ∈ X.pn ++ pins, p.1 ≠ b) : Inv X pins σ H' s' := by
  obtain ⟨h', g', d', t', o'⟩ := s'
  have e : o' = s.os := ho
  subst e
  exact I.call (g' := g') (t' := t') (d' := d') u hok hg hch
end
abbrev XK := Value → Option Addr → Hp → Prop
abbrev St := List (Option V)
abbrev VK := V → Hp → Prop
abbrev TE := St → Hp → VK → Prop
abbrev TT := St → Hp → (Bool → Hp → Prop) → Prop
abbrev TA := St → Hp → (List V → Hp → Prop) → Prop
structure Ends where
  nx : St → Hp → Prop
  rt : VK
  bk : St → Hp → Prop := fun _ _ => False
  ct : St → Hp → Prop := fun _ _ => False
abbrev TS := Ends → St → Hp → Prop
def EP (X : Cx) (pins : List (Addr × Obj)) (σ : St) (Q : VK) (u : Value) (s' : Shared) : Prop := ∃ v H', Inv X pins σ H' s' ∧ RelV v u ∧ Q v H'
def TP (X : Cx) (pins : List (Addr × Obj)) (σ : St) (Q : Bool → Hp → Prop) (b : Bool) (s' : Shared) : Prop := ∃ H', Inv X pins σ H' s' ∧ Q b H'
def AP (X : Cx) (pins : List (Addr × Obj)) (σ : St) (Q : List V → Hp → Prop) (us : List Value) (s' : Shared) : Prop := ∃ vs H', Inv X pins σ H' s' ∧ Vals vs us ∧ Q vs H'
def SP (X : Cx) (pins : List (Addr × Obj)) (D : Ends) (f : Flow) (s' : Shared) : Prop :=
  match f with
  | .next => ∃ σ' H', Inv X pins σ' H' s' ∧ D.nx σ' H'
  | .brk => ∃ σ' H', Inv X pins σ' H' s' ∧ D.bk σ' H'
  | .cont => ∃ σ' H', Inv X pins σ' H' s' ∧ D.ct σ' H'
  | .ret u => ∃ v σ' H', Inv X pins σ' H' s' ∧ RelV v u ∧ D.rt v H'
def PE (X : Cx) (e : Expr) (t : TE) : Prop :=
  ∀ (pins : List (Addr × Obj)) (s : Shared) (σ : St) (H : Hp) (Q : VK), Inv X pins σ H s → t σ H Q → wpAny (model X.prog X.w) X.A (eval e X.env) (EP X pins σ Q) X.xe s
def PT (X : Cx) (e : Expr) (t : TT) : Prop :=
  ∀ (pins : List (Addr × Obj)) (s : Shared) (σ : St) (H : Hp) (Q : Bool → Hp → Prop), Inv X pins σ H s → t σ H Q → wpAny (model X.prog X.w) X.A (isTrue e X.env (eval e X.env)) (TP X pins σ Q) X.xe s
def PW (X : Cx) (e : Expr) (t : TT) : Prop :=
  ∀ (whole : Sem Value) (pins : List (Addr × Obj)) (s : Shared) (σ : St) (H : Hp) (Q : Bool → Hp → Prop), Inv X pins σ H s → t σ H Q → wpAny (model X.prog X.w) X.A (isTrue e X.env whole) (TP X pins σ Q) X.xe s
theorem PW.pt {X : Cx} {e : Expr} {t : TT} (h : PW X e t) : PT X e t := h _
def PA (X : Cx) (es : List Expr) (t : TA) : Prop :=
  ∀ (pos : Pos) (pins : List (Addr × Obj)) (s : Shared) (σ : St) (H : Hp) (Q : List V → Hp → Prop), Inv X pins σ H s → t σ H Q → wpAny (model X.prog X.w) X.A (spliced (backTo pos (starEach es X.env))) (AP X pins σ Q) X.xe s
def PS (X : Cx) (st : Stmt) (t : TS) : Prop :=
  ∀ (pins : List (Addr × Obj)) (s : Shared) (σ : St) (H : Hp) (D : Ends), Inv X pins σ H s → t D σ H → wpAny (model X.prog X.w) X.A (exec st X.env) (SP X pins D) X.xe s
def PSs (X : Cx) (st : List Stmt) (t : TS) : Prop :=
  ∀ (pins : List (Addr × Obj)) (s : Shared) (σ : St) (H : Hp) (D : Ends), Inv X pins σ H s → t D σ H → wpAny (model X.prog X.w) X.A (execs st X.env) (SP X pins D) X.xe s
theorem thn {α : Type} {t : Sem α} {Q Q' : α → Shared → Prop} {M : Model} {A : Around} {E : Value → Shared → Prop} {s : Shared} (h : wpAny M A t Q E s) (hQ : ∀ a s, Q a s → Q' a s) : wpAny M A t Q' E s := wpAny_mono h hQ fun _ _ x => x
end L2
namespace L2
open PySem PySem.Spec PyProof.Rows
section
variable {X : Cx}
theorem bin {a b : Expr} {ta tb : TE} (ha : PE X a ta) (hb : PE X b tb) {pins : List (Addr × Obj)} {s : Shared} {σ : St} {H : Hp} {R : V → V → Hp → Prop} (I : Inv X pins σ H s) (h : ta σ H fun x H1 => tb σ H1 fun y H2 => R x y H2)
    {α : Type} {Q : α → Shared → Prop} {f : Value → Value → Sem α}
    (hf : ∀ v u s2 x y H2, Inv X pins σ H2 s2 → RelV x v → RelV y u → R x y H2 → wpAny (model X.prog X.w) X.A (f v u) Q X.xe s2) :
    wpAny (model X.prog X.w) X.A (eval a X.env) (fun v s₁ => wpAny (model X.prog X.w) X.A (eval b X.env) (fun u s₂ => wpAny (model X.prog X.w) X.A (f v u) Q X.xe s₂) X.xe s₁) X.xe s := by
  refine thn (ha pins s σ H _ I h) fun v s1 ⟨x, H1, I1, r1, q1⟩ => ?_
  refine thn (hb pins s1 σ H1 _ I1 q1) fun u s2 ⟨y, H2, I2, r2, q2⟩ => ?_
  exact hf v u s2 x y H2 I2 r1 r2 q2
def tVar (i : Nat) : TE := fun σ H Q => ∃ v, σ[i]? = some (some v) ∧ Q v H
def tC (v : V) : TE := fun _ H Q => Q v H
theorem pe_var {i : Nat} {x : Str} {pos : Pos} (hN : X.N[i]? = some x) (hv : Vis X.env.scope x) (hd : (x == ("__debug__" : Str)) = false := by decide) (hcd : (x == ("__classdict__" : Str)) = false := by decide) : PE X (.Name x pos) (tVar i) := by
  intro pins s σ H Q I h
  obtain ⟨v, e, h⟩ := h
  obtain ⟨m, hn, hl⟩ := I.loc
  obtain ⟨u, r, l⟩ := hl i x v hN e hv
  have fin : EP X pins σ Q u s := ⟨v, H, I, r, h⟩
  rcases l with ⟨hk, hm⟩ | ⟨hk, c, hc, hcell⟩
  · exact wpAny_Name (wpAny_loadName_local I.ok.kind hk hn hm fin) hd
  · rcases hk with hk | hk
    · exact wpAny_Name (wpAny_loadName_cell I.ok.kind hk hc hcell fin) hd
    · exact wpAny_Name (wpAny_loadName_free I.ok.kind hk hc hcell fin hcd) hd
theorem pe_int {i j pos} : PE X (.Constant (.int i) j pos) (tC (.int i)) := fun _ _ _ H _ I h => wpAny_Constant_int ⟨.int i, H, I.tok _, ⟨_, rfl⟩, h⟩
theorem pe_bl {b j pos} : PE X (.Constant (.bool b) j pos) (tC (.bl b)) := fun _ _ _ H _ I h => Constant_bool ⟨.bl b, H, I, rfl, h⟩
theorem pe_non {j pos} : PE X (.Constant .none j pos) (tC .non) := fun _ _ _ H _ I h => Constant_none ⟨.non, H, I, rfl, h⟩
theorem pe_str {x j pos} : PE X (.Constant (.str x) j pos) (tC (.str x)) := fun _ _ _ H _ I h => Calls.Constant_str ⟨.str x, H, I.tok _, ⟨_, rfl⟩, h⟩
def Gl (X : Cx) (x : Str) : Prop := X.env.kindOf x = some .globalImplicit
theorem ld_glob {E : Value → Shared → Prop} {pins : List (Addr × Obj)} {s : Shared} {σ : St} {H : Hp} {x : Str} {u : Value} {pos : Pos} {Q : Value → Shared → Prop} (I : Inv X pins σ H s) (hg : Gl X x) (hm : X.mg x = some u) (h : Q u s)
    (hd : (x == ("__debug__" : Str)) = false := by decide) : wpAny (model X.prog X.w) X.A (eval (.Name x pos) X.env) Q E s :=
  Calls.Name_function_global I.ok.kind hg (Calls.loadGlobal_global (by rw [I.ok.glob]; exact I.mod.glob.keeps I.bk) hm h) hd
theorem ld_blt {E : Value → Shared → Prop} {pins : List (Addr × Obj)} {s : Shared} {σ : St} {H : Hp} {x : Str} {u : Value} {pos : Pos} {Q : Value → Shared → Prop} (I : Inv X pins σ H s) (hg : Gl X x) (hm : X.mg x = none) (hv : bootBuiltins x = some u) (h : Q u s)
    (hn : x ≠ "__name__" := by decide) (hd : (x == ("__debug__" : Str)) = false := by decide) : wpAny (model X.prog X.w) X.A (eval (.Name x pos) X.env) Q E s := by
  obtain ⟨mb, h1, h2⟩ := I.mod.blt
  exact Calls.Name_function_global I.ok.kind hg (Calls.loadGlobal_builtin (by rw [I.ok.glob]; exact I.mod.glob.keeps I.bk) hm (by rw [I.ok.blt]; exact h1.keeps I.bk) ((h2 x hn).trans hv) h) hd
theorem pe_glob {x : Str} {v : V} {u : Value} {pos : Pos} (hg : Gl X x) (hm : X.mg x = some u) (r : RelV v u) (hd : (x == ("__debug__" : Str)) = false := by decide) : PE X (.Name x pos) (tC v) :=
  fun _ _ _ H _ I h => ld_glob I hg hm ⟨v, H, I, r, h⟩ hd
variable {a b : Expr} {ta tb : TE} {pos : Pos}
def PC (X : Cx) (op : CmpOp) (a b : Expr) (t : TE) : Prop :=
  ∀ (pins : List (Addr × Obj)) (s : Shared) (σ : St) (H : Hp) (Q : VK), Inv X pins σ H s → t σ H Q →
    wpAny (model X.prog X.w) X.A (eval a X.env) (fun v s₁ => wpAny (model X.prog X.w) X.A (eval b X.env) (fun u s₂ => wpAny (model X.prog X.w) X.A (compareOp op v u) (EP X pins σ Q) X.xe s₂) X.xe s₁) X.xe s
def tB (t : TE) : TT := fun σ H Q => t σ H fun x H1 => ∃ c, x = .bl c ∧ Q c H1
theorem pt_cmp {op : CmpOp} {t : TE} (h : PC X op a b t) (h1 : behindInMarks op b = false := by first | exact nobehind _ (by decide) (by decide) | rfl) : PT X (.Compare a [op] [b] pos) (tB t) := by
  intro pins s σ H Q I hw
  refine wpAny_isTrue_Compare1 (thn (h pins s σ H _ I hw) fun v s1 h1 => thn h1 fun u s2 h2 => thn h2 fun c s3 ⟨x, H1, I1, r1, q1⟩ => ?_) h1
  obtain ⟨d, rfl, q⟩ := q1
  cases r1
  exact wpAny_truthy_bool ⟨H1, I1, q⟩
theorem pt_val {e : Expr} {t : TE} (h : PE X e t) (he : ∀ whole, isTrue e X.env whole = (do let v ← whole; standAt e.pos; holding [v] (truthy v)) := by intro _; rfl) : PT X e (tB t) := by
  intro pins s σ H Q I hw
  refine isTrue_plain (thn (h pins s σ H _ I hw) fun v s1 ⟨x, H1, I1, r1, q1⟩ => ?_) (he _)
  obtain ⟨d, rfl, q⟩ := q1
  cases r1
  exact wpAny_truthy_bool ⟨H1, I1, q⟩
variable {tA tB' : TT} {rest : List Expr}
def tAnd (t u : TT) : TT := fun σ H Q => t σ H fun c H1 => if c = true then u σ H1 Q else Q false H1
def tOr (t u : TT) : TT := fun σ H Q => t σ H fun c H1 => if c = true then Q true H1 else u σ H1 Q
def tNot (t : TT) : TT := fun σ H Q => t σ H fun c H1 => Q (!c) H1
theorem pw_and1 (ha : PT X a tA) : PW X (.BoolOp .And [a] pos) tA := by
  intro wh pins s σ H Q I h
  refine isTrue_and (thn (ha pins s σ H Q I h) fun c s1 e => ?_)
  cases c with
  | true => exact isTrue_and_nil e
  | false => exact e
theorem pw_or1 (ha : PT X a tA) : PW X (.BoolOp .Or [a] pos) tA := by
  intro wh pins s σ H Q I h
  refine isTrue_or (thn (ha pins s σ H Q I h) fun c s1 e => ?_)
  cases c with
  | false => exact isTrue_or_nil e
  | true => exact e
theorem pw_and (ha : PT X a tA) (hb : PW X (.BoolOp .And (b :: rest) pos) tB') : PW X (.BoolOp .And (a :: b :: rest) pos) (tAnd tA tB') := by
  intro wh pins s σ H Q I h
  refine isTrue_and (thn (ha pins s σ H _ I h) fun c s1 ⟨H1, I1, q1⟩ => ?_)
  cases c with
  | true => exact hb wh pins s1 σ H1 Q I1 q1
  | false => exact ⟨H1, I1, q1⟩
theorem pw_or (ha : PT X a tA) (hb : PW X (.BoolOp .Or (b :: rest) pos) tB') : PW X (.BoolOp .Or (a :: b :: rest) pos) (tOr tA tB') := by
  intro wh pins s σ H Q I h
  refine isTrue_or (thn (ha pins s σ H _ I h) fun c s1 ⟨H1, I1, q1⟩ => ?_)
  cases c with
  | true => exact ⟨H1, I1, q1⟩
  | false => exact hb wh pins s1 σ H1 Q I1 q1
theorem pt_not (ha : PT X a tA) : PT X (.UnaryOp .Not a pos) (tNot tA) := by
  intro pins s σ H Q I h
  exact isTrue_not (ha pins s σ H (fun c H1 => Q (!c) H1) I h)
def tAndV (ta tb : TE) : TE := fun σ H Q => ta σ H fun x H1 => ∃ c, x = .bl c ∧ if c = true then tb σ H1 Q else Q (.bl false) H1
def tOrV (ta tb : TE) : TE := fun σ H Q => ta σ H fun x H1 => ∃ c, x = .bl c ∧ if c = true then Q (.bl true) H1 else tb σ H1 Q
theorem pe_one {op} {t : TE} (h : PE X a t) : PE X (.BoolOp op [a] pos) t := fun pins s σ H Q I hw => BoolOp_one (h pins s σ H Q I hw)
theorem pe_and (ha : PE X a ta) (hb : PE X (.BoolOp .And (b :: rest) pos) tb) : PE X (.BoolOp .And (a :: b :: rest) pos) (tAndV ta tb) := by
  intro pins s σ H Q I h
  refine BoolOp_and (thn (ha pins s σ H _ I h) fun v s1 ⟨x, H1, I1, r1, q1⟩ => ?_)
  obtain ⟨c, rfl, q1⟩ := q1
  cases r1
  refine wpAny_truthy_bool ?_
  cases c with
  | true => exact hb pins s1 σ H1 Q I1 q1
  | false => exact ⟨.bl false, H1, I1, rfl, q1⟩
theorem pe_or (ha : PE X a ta) (hb : PE X (.BoolOp .Or (b :: rest) pos) tb) : PE X (.BoolOp .Or (a :: b :: rest) pos) (tOrV ta tb) := by
  intro pins s σ H Q I h
  refine BoolOp_or (thn (ha pins s σ H _ I h) fun v s1 ⟨x, H1, I1, r1, q1⟩ => ?_)
  obtain ⟨c, rfl, q1⟩ := q1
  cases r1
  refine wpAny_truthy_bool ?_
  cases c with
  | false => exact hb pins s1 σ H1 Q I1 q1
  | true => exact ⟨.bl true, H1, I1, rfl, q1⟩
def tIf (t : TT) (ta tb : TE) : TE := fun σ H Q => t σ H fun c H1 => if c = true then ta σ H1 Q else tb σ H1 Q
theorem pe_ifExp {c : Expr} (hc : PT X c tA) (ha : PE X a ta) (hb : PE X b tb) : PE X (.IfExp c a b pos) (tIf tA ta tb) := by
  intro pins s σ H Q I h
  refine wpAny_IfExp (thn (hc pins s σ H _ I h) fun d s1 ⟨H1, I1, q1⟩ => ?_)
  cases d with
  | true => exact ha pins s1 σ H1 Q I1 q1
  | false => exact hb pins s1 σ H1 Q I1 q1
end
end L2
namespace L2
open PySem PySem.Spec PyProof.Rows
def SqL (K : PySem.W.Frag) (H : Hp) (a : Addr) (xs : List V) : Prop :=
  Rd H a (.lst xs) ∨
    ∃ (o : Obj) (its : Array Value) (n : Nat), K.lookup a = some o ∧ o.cls = .type "list" ∧ o.dict = none ∧ o.data = .seq its n ∧ its.size ≤ sizeLine ∧ Vals xs its.toList
def SqT (K : PySem.W.Frag) (H : Hp) (a : Addr) (xs : List V) : Prop :=
  Rd H a (.tup xs) ∨
    ∃ (o : Obj) (its : Array Value) (n : Nat), K.lookup a = some o ∧ o.cls = .type "tuple" ∧ o.data = .seq its n ∧ its.size ≤ sizeLine ∧ Vals xs its.toList
def absV : Value → Option V
  | .none => some .non
  | .bool b => some (.bl b)
  | .int i _ => some (.int i)
  | .str x _ => some (.str x)
  | .bytes b _ => some (.byt b)
  | .float b _ => some (.flt b)
  | .ref a => some (.ref a)
  | .type n => some (.ty n)
  | _ => none
theorem RelV.abs {x : V} {u : Value} (r : RelV x u) : absV u = some x := by
  cases x with
  | non => cases r; rfl
  | bl _ => cases r; rfl
  | int _ => obtain ⟨t, rfl⟩ := r; rfl
  | str _ => obtain ⟨t, rfl⟩ := r; rfl
  | byt _ => obtain ⟨t, rfl⟩ := r; rfl
  | flt _ => obtain ⟨t, rfl⟩ := r; rfl
  | ref _ => cases r; rfl
  | ty _ => cases r; rfl
theorem RelV.inj {x y : V} {u : Value} (r : RelV x u) (q : RelV y u) : x = y := Option.some.inj (r.abs.symm.trans q.abs)
theorem Vals.inj : ∀ {xs ys : List V} {us : List Value}, Vals xs us → Vals ys us → xs = ys
  | _, _, _, .nil, .nil => rfl
  | _, _, _, .cons r t, .cons r' t' => by rw [r.inj r', Vals.inj t t']
section
variable {X : Cx} {pins : List (Addr × Obj)} {σ : St} {H : Hp} {s : Shared} {a : Addr} {xs ys : List V}
theorem SqL.of {K : PySem.W.Frag} (h : H a = some (.lst xs)) : SqL K H a xs := .inl (.inl h)
theorem SqT.of {K : PySem.W.Frag} (h : H a = some (.tup xs)) : SqT K H a xs := .inl (.inl h)
theorem Inv.list (I : Inv X pins σ H s) (h : SqL X.K H a xs) : ∃ its : List Value, Vals xs its ∧ PlainL s.heap a its.toArray ∧ xs.length ≤ sizeLine := by
  rcases h with h | ⟨o, its, n, hk, hc, hd, hs, hz, r⟩
  · obtain ⟨z, its, n, r, e⟩ := h.ok I.hok
    exact ⟨its, r, ⟨_, n, e, rfl, rfl, rfl⟩, z⟩
  · refine ⟨its.toList, r, ⟨o, n, I.kIn a o hk, hc, hd, by simpa using hs⟩, ?_⟩
    have e := r.length
    simp only [Array.length_toList] at e
    omega
theorem Inv.tuple (I : Inv X pins σ H s) (h : SqT X.K H a xs) : ∃ its : List Value, Vals xs its ∧ IsTup s.heap a its.toArray ∧ xs.length ≤ sizeLine := by
  rcases h with h | ⟨o, its, n, hk, hc, hs, hz, r⟩
  · obtain ⟨z, its, r, p⟩ := h.ok I.hok
    exact ⟨its, r, p, z⟩
  · refine ⟨its.toList, r, ⟨o, I.kIn a o hk, hc, n, by simpa using hs⟩, ?_⟩
    have e := r.length
    simp only [Array.length_toList] at e
    omega
theorem Inv.list_inj (I : Inv X pins σ H s) (h : SqL X.K H a xs) (h' : SqL X.K H a ys) : xs = ys := by
  obtain ⟨its, r, ⟨o, n, e, _, _, d⟩, _⟩ := I.list h
  obtain ⟨its', r', ⟨o', n', e', _, _, d'⟩, _⟩ := I.list h'
  rw [e] at e'; cases e'
  rw [d] at d'
  injection d' with d1 _
  have : its = its' := by simpa using congrArg Array.toList d1
  subst this
  exact r.inj r'
theorem Inv.tuple_inj (I : Inv X pins σ H s) (h : SqT X.K H a xs) (h' : SqT X.K H a ys) : xs = ys := by
  obtain ⟨its, r, ⟨o, e, _, n, d⟩, _⟩ := I.tuple h
  obtain ⟨its', r', ⟨o', e', _, n', d'⟩, _⟩ := I.tuple h'
  rw [e] at e'; cases e'
  rw [d] at d'
  injection d' with d1 _
  have : its = its' := by simpa using congrArg Array.toList d1
  subst this
  exact r.inj r'
end
abbrev Cx.wish (X : Cx) (E : Value → Shared → Prop) : Cx := { X with xe := E }
abbrev Cx.nox (X : Cx) : Cx := X.wish fun _ _ => False
theorem Cx.Ok.wish {X : Cx} (ok : X.Ok) (E : Value → Shared → Prop) : (X.wish E).Ok :=
  ⟨ok.mod, ok.kind, ok.glob, ok.blt, ok.above, ok.inj, ok.has, ok.cab, ok.hd, ok.frames, ok.stk, ok.exf, ok.bs, ok.bsz, ok.noex, ok.exfs, ok.funs, ok.frf⟩
theorem Cx.Ok.unwish {X : Cx} {E : Value → Shared → Prop} (ok : (X.wish E).Ok) : X.Ok :=
  ⟨ok.mod, ok.kind, ok.glob, ok.blt, ok.above, ok.inj, ok.has, ok.cab, ok.hd, ok.frames, ok.stk, ok.exf, ok.bs, ok.bsz, ok.noex, ok.exfs, ok.funs, ok.frf⟩
section
variable {X : Cx} {pins : List (Addr × Obj)} {σ : St} {H : Hp} {s : Shared} {E : Value → Shared → Prop}
theorem Inv.wish (I : Inv X pins σ H s) (E : Value → Shared → Prop) : Inv (X.wish E) pins σ H s := ⟨I.ok.wish E, I.os, I.bare, I.base, I.loc, I.cell, I.free, I.freeC, I.pin, I.hok, I.len⟩
theorem Inv.unwish (I : Inv (X.wish E) pins σ H s) : Inv X pins σ H s := ⟨I.ok.unwish, I.os, I.bare, I.base, I.loc, I.cell, I.free, I.freeC, I.pin, I.hok, I.len⟩
theorem SP.unwish {D : Ends} {f : Flow} {s' : Shared} (h : SP (X.wish E) pins D f s') : SP X pins D f s' := by
  cases f with
  | next => obtain ⟨σ', H', I, q⟩ := h; exact ⟨σ', H', I.unwish, q⟩
  | brk => obtain ⟨σ', H', I, q⟩ := h; exact ⟨σ', H', I.unwish, q⟩
  | cont => obtain ⟨σ', H', I, q⟩ := h; exact ⟨σ', H', I.unwish, q⟩
  | ret u => obtain ⟨v, σ', H', I, r, q⟩ := h; exact ⟨v, σ', H', I.unwish, r, q⟩
theorem PSs.nox {st : List Stmt} {t : TS} (h : PSs X.nox st t) : PSs X st t := fun pins s σ H D I hw =>
  wpAny_mono (h pins s σ H D (I.wish _) hw) (fun _ _ q => q.unwish) fun _ _ z => False.elim z
end
section
variable {X : Cx} {st : Stmt} {rest : List Stmt} {t u : TS} {e : Expr} {te : TE} {pos : Pos}
def tNext : TS := fun D σ H => D.nx σ H
def tSeq (t u : TS) : TS := fun D σ H => t { D with nx := u D } σ H
theorem pss_nil : PSs X [] tNext := fun _ _ σ H _ I h => wpAny_execs_nil ⟨σ, H, I, h⟩
theorem pss_cons (h1 : PS X st t) (h2 : PSs X rest u) : PSs X (st :: rest) (tSeq t u) := by
  intro pins s σ H D I h
  refine wpAny_execs_cons (thn (h1 pins s σ H { D with nx := u D } I h) fun f s1 q => ?_)
  cases f with
  | next =>
    obtain ⟨σ', H', I', q⟩ := q
    exact h2 pins s1 σ' H' D I' q
  | ret v => exact q
  | brk => exact q
  | cont => exact q
theorem pss_one (h1 : PS X st t) : PSs X [st] t := by
  intro pins s σ H D I h
  refine wpAny_execs_cons (thn (h1 pins s σ H D I h) fun f s1 q => ?_)
  cases f with
  | next => exact wpAny_execs_nil q
  | ret v => exact q
  | brk => exact q
  | cont => exact q
theorem Inv.quiet {pins : List (Addr × Obj)} {σ : St} {H : Hp} {s : Shared} (I : Inv X pins σ H s) : interactive X.env = false := by simp [interactive, I.ok.kind]
def tDrop (te : TE) : TS := fun D σ H => te σ H fun _ H1 => D.nx σ H1
theorem ps_expr (he : PE X e te) (hs : swapsWith e none pos.line X.env = pure false := by rfl) : PS X (.Expr e pos) (tDrop te) := by
  intro pins s σ H D I h
  exact wpAny_Expr_any (thn (he pins s σ H _ I h) fun v s1 ⟨x, H1, I1, r1, q1⟩ => ⟨σ, H1, I1, q1⟩) I.quiet hs
def tRet (te : TE) : TS := fun D σ H => te σ H D.rt
theorem ps_ret (he : PE X e te) : PS X (.Return (some e) pos) (tRet te) := by
  intro pins s σ H D I h
  exact wpAny_Return_some (thn (he pins s σ H _ I h) fun v s1 ⟨x, H1, I1, r1, q1⟩ => ⟨x, σ, H1, I1, r1, q1⟩)
def tIfS (c : TT) (t u : TS) : TS := fun D σ H => c σ H fun b H1 => if b = true then t D σ H1 else u D σ H1
theorem ps_if {c : Expr} {a b : List Stmt} {tc : TT} (hc : PT X c tc) (ha : PSs X a t) (hb : PSs X b u) : PS X (.If c a b pos) (tIfS tc t u) := by
  intro pins s σ H D I h
  refine wpAny_If (thn (hc pins s σ H _ I h) fun d s1 ⟨H1, I1, q1⟩ => ?_)
  cases d with
  | true => exact ha pins s1 σ H1 D I1 q1
  | false => exact hb pins s1 σ H1 D I1 q1
def tNever : TS := fun _ _ _ => False
theorem ps_never : PS X st tNever := fun _ _ _ _ _ _ h => h.elim
end
abbrev TG := V → St → Hp → (St → Hp → Prop) → Prop
abbrev TGs := List V → St → Hp → (St → Hp → Prop) → Prop
def PG (X : Cx) (target : Expr) (t : TG) : Prop :=
  ∀ (pins : List (Addr × Obj)) (s : Shared) (σ : St) (H : Hp) (v : V) (u : Value) (Q : St → Hp → Prop), Inv X pins σ H s → RelV v u → t v σ H Q →
    wpAny (model X.prog X.w) X.A (assign target X.env u) (fun _ s' => ∃ σ' H', Inv X pins σ' H' s' ∧ Q σ' H') X.xe s
def PGs (X : Cx) (ts : List Expr) (t : TGs) : Prop :=
  ∀ (pins : List (Addr × Obj)) (s : Shared) (σ : St) (H : Hp) (vs : List V) (us : List Value) (Q : St → Hp → Prop), Inv X pins σ H s → Vals vs us → t vs σ H Q →
    wpAny (model X.prog X.w) X.A (assignInOrder ((assignEach ts X.env).map (·.2)) us) (fun _ s' => ∃ σ' H', Inv X pins σ' H' s' ∧ Q σ' H') X.xe s
section
variable {X : Cx} {pos : Pos}
def gName (i : Nat) : TG := fun v σ H Q => Q (σ.set i (some v)) H
theorem pg_name {i : Nat} {x : Str} (hN : X.N.Nodup) (hi : X.N[i]? = some x) (hx : Loc X.env.scope x) (hf : X.fn x = true ∨ X.env.scope.names.lookup x = some .local := by first | exact .inl rfl | exact .inr rfl | assumption) : PG X (.Name x pos) (gName i) := by
  intro pins s σ H v u Q I r h
  exact wpAny_assign_Name (store_ok I hN hi hx r (fun s' I' => ⟨_, H, I', h⟩) hf)
def gNil : TGs := fun vs σ H Q => vs = [] ∧ Q σ H
def gCons (t : TG) (u : TGs) : TGs := fun vs σ H Q => ∃ v r, vs = v :: r ∧ t v σ H fun σ' H' => u r σ' H' Q
theorem pgs_nil : PGs X [] gNil := by
  intro pins s σ H vs us Q I r h
  obtain ⟨e, h⟩ := h
  subst e
  cases r
  exact assignInOrder_nil ⟨σ, H, I, h⟩
theorem pgs_cons {e : Expr} {es : List Expr} {t : TG} {u : TGs} (h1 : PG X e t) (h2 : PGs X es u)
    (hs : (assignEach (e :: es) X.env).map (·.2) = assign e X.env :: (assignEach es X.env).map (·.2) := by rfl) : PGs X (e :: es) (gCons t u) := by
  intro pins s σ H vs us Q I r h
  obtain ⟨v, vr, e1, h⟩ := h
  subst e1
  cases r with
  | cons r rr =>
    rw [hs]
    refine assignInOrder_cons (thn (h1 pins s σ H _ _ _ I r h) fun _ s1 ⟨σ1, H1, I1, q1⟩ => ?_)
    exact h2 pins s1 σ1 H1 _ _ Q I1 rr q1
def gTup (K : PySem.W.Frag) (n : Nat) (t : TGs) : TG := fun v σ H Q => ∃ a xs, v = .ref a ∧ SqT K H a xs ∧ xs.length = n ∧ t xs σ H Q
theorem pg_tup {es : List Expr} {k : Nat} {t : TGs} {n : Nat} (hc : X.calm = true) (h : PGs X es t)
    (hn : (assignEach es X.env).length = n := by rfl) (hst : (assignEach es X.env).findIdx? (·.1) = none := by rfl) : PG X (.Tuple es k pos) (gTup X.K n t) := by
  intro pins s σ H v u Q I r hw
  obtain ⟨a, xs, e1, hq, hl, hw⟩ := hw
  subst e1
  cases r
  obtain ⟨its, rv, ht, hz⟩ := I.tuple hq
  refine assign_Tuple_tuple (I.ok.hd hc) ht (by simp [hn, ← hl, rv.length]) hst fun h' hx => ?_
  have I1 : Inv X pins σ H { s with heap := h' } := I.kept (t' := s.toks) fun b o e => hx b o (Nat.ne_of_lt (Heap.lt_size e)) e
  exact h pins _ σ H xs _ Q I1 (by simpa using rv) hw
def tAsg (te : TE) (g : TG) : TS := fun D σ H => te σ H fun x H1 => g x σ H1 D.nx
theorem ps_set {i : Nat} {x : Str} {e : Expr} {te : TE} {pos' : Pos} (hN : X.N.Nodup) (hi : X.N[i]? = some x) (hx : Loc X.env.scope x) (he : PE X e te) (hs : swapsWith e (some (.Name x pos')) pos.line X.env = pure false := by rfl) (hf : X.fn x = true ∨ X.env.scope.names.lookup x = some .local := by first | exact .inl rfl | exact .inr rfl | assumption) :
    PS X (.Assign [.Name x pos'] e pos) (tAsg te (gName i)) := by
  intro pins s σ H D I h
  refine wpAny_Assign_Name (thn (he pins s σ H _ I h) fun v s1 ⟨y, H1, I1, r1, q1⟩ => ?_) hs
  exact store_ok I1 hN hi hx r1 (fun s2 I2 => ⟨_, H1, I2, q1⟩) hf
end
structure It where
  go : Nat → Hp → Prop
  yld : Nat → Hp → V → Hp → Prop
  stop : Nat → Hp → Prop
def FpOk (X : Cx) (pins : List (Addr × Obj)) (H : Hp) (b : Addr) : Prop :=
  H b = none ∧ b ≠ X.env.locals ∧ b ∉ X.fs ∧ (b ∈ X.ex ∨ X.sZ.heap.objs.size ≤ b) ∧ (∀ x c, X.env.cells.lookup x = some c → c ≠ b) ∧ ∀ p ∈ X.pn ++ pins, p.1 ≠ b
theorem Inv.fpOk {X : Cx} {pins : List (Addr × Obj)} {σ : St} {H H' : Hp} {s : Shared} {b : Addr} (I : Inv X pins σ H s) (hb : s.heap.objs.size ≤ b) (hn : H' b = none) : FpOk X pins H' b := by
  refine ⟨hn, Nat.ne_of_gt (Nat.lt_of_lt_of_le I.lt hb), I.nofs hb, .inr (Nat.le_trans I.sz hb), fun x c e z => ?_, fun p hp z => ?_⟩
  · obtain ⟨v, q⟩ := I.cell x c e
    exact absurd (Nat.lt_of_lt_of_le q.lt (by rw [z]; exact hb)) (Nat.lt_irrefl _)
  · exact absurd (Nat.lt_of_lt_of_le (Heap.lt_size (I.pin p hp).1) (by rw [z]; exact hb)) (Nat.lt_irrefl _)
structure Turn (P : Program) (w : World) (K : PySem.W.Frag) (tg : Expr) (J : It) (fp : List Addr) (it : Addr) (tn : Nat → Heap → Prop) : Prop where
  mem : it ∈ fp
  obj : ∀ i h, tn i h → ∀ b ∈ fp, ∃ o, h.get? b = some o ∧ ∀ v, o.data ≠ .cell v
  keep : ∀ i h h', tn i h → (∀ b ∈ fp, ∀ o, h.get? b = some o → h'.get? b = some o) → tn i h'
  item : ∀ (X : Cx), X.prog = P → X.w = w → X.K = K → X.calm = true → ∀ (i : Nat) (pins : List (Addr × Obj)) (s : Shared) (σ : St) (H : Hp) (E : Value → Shared → Prop), Inv X pins σ H s → (∀ b ∈ fp, FpOk X pins H b) → tn i s.heap → J.go i H →
    wpAny (model P w) X.A (pyNext (.ref it)) (fun r s1 => ∃ u, r = some u ∧
      wpAny (model P w) X.A (letOwnedTupleGo tg (.ref it) u) (fun _ s2 => ∃ x H', Inv X pins σ H' s2 ∧ RelV x u ∧ J.yld i H x H' ∧ tn (i + 1) s2.heap ∧ ∀ b ∈ fp, H' b = none) E s1) E s
  done : ∀ (X : Cx), X.prog = P → X.w = w → X.K = K → X.calm = true → ∀ (i : Nat) (pins : List (Addr × Obj)) (s : Shared) (σ : St) (H : Hp) (E : Value → Shared → Prop), Inv X pins σ H s → (∀ b ∈ fp, FpOk X pins H b) → tn i s.heap → J.stop i H →
    wpAny (model P w) X.A (pyNext (.ref it)) (fun r s1 => r = none ∧ Inv X pins σ H s1) E s
  self : ∀ (A : Around) (i : Nat) (s : Shared) (Q : Value → Shared → Prop) (E : Value → Shared → Prop), tn i s.heap → Q (.ref it) s → wpAny (model P w) A (pyIter (.ref it)) Q E s
abbrev TI := St → Hp → (It → Hp → Prop) → Prop
def PIE (X : Cx) (pins : List (Addr × Obj)) (σ : St) (tg : Expr) (R : It → Hp → Prop) (itv : Value) (s2 : Shared) : Prop :=
  ∃ (it : Addr) (fp : List Addr) (tn : Nat → Heap → Prop) (J : It) (H' : Hp), itv = .ref it ∧ Inv X pins σ H' s2 ∧ Turn X.prog X.w X.K tg J fp it tn ∧ tn 0 s2.heap ∧ (∀ b ∈ fp, FpOk X pins H' b) ∧ R J H'
def PI (X : Cx) (tg iter : Expr) (wi : TI) : Prop :=
  ∀ (pins : List (Addr × Obj)) (s : Shared) (σ : St) (H : Hp) (R : It → Hp → Prop), Inv X pins σ H s → wi σ H R →
    wpAny (model X.prog X.w) X.A (eval iter X.env) (fun v s1 => wpAny (model X.prog X.w) X.A (pyIter v) (PIE X pins σ tg R) X.xe s1) X.xe s
theorem go_of {M : Model} {A : Around} {E : Value → Shared → Prop} {s : Shared} {tg : Expr} {it : Addr} {u : Value} {o : Obj} {n : String} {vs : Array Value} {Q : Unit → Shared → Prop} (ho : s.heap.get? it = some o) (hc : o.cls = .type n) (hd : o.data = .fields vs)
    (hn : ["enumerate", "zip", "dict_itemiterator", "dict_reverseitemiterator", "odict_iterator", "itertools.zip_longest", "itertools.pairwise"].contains n = false) (hQ : Q () s) : wpAny M A (letOwnedTupleGo tg (.ref it) u) Q E s := by
  unfold letOwnedTupleGo
  cases tg <;> first
    | exact wpAny_pure hQ
    | (cases u <;> first
        | exact wpAny_pure hQ
        | (refine wpAny_bind (wpAny_load ho ?_)
           rw [hc, hd]
           show wpAny M A (if (["enumerate", "zip", "dict_itemiterator", "dict_reverseitemiterator", "odict_iterator", "itertools.zip_longest", "itertools.pairwise"].contains n && vs[0]? == some (rawInt _)) = true then _ else _) Q E s
           rw [if_neg (by intro h; rw [hn, Bool.false_and] at h; cases h)]
           exact wpAny_pure hQ))
def Itl (K : PySem.W.Frag) (a : Addr) : It :=
  ⟨fun i H => ∃ xs x, SqL K H a xs ∧ xs[i]? = some x, fun i H x H' => H' = H ∧ ∀ xs, SqL K H a xs → xs[i]? = some x, fun i H => ∃ xs, SqL K H a xs ∧ xs.length ≤ i⟩
def Itt (K : PySem.W.Frag) (a : Addr) : It :=
  ⟨fun i H => ∃ xs x, SqT K H a xs ∧ xs[i]? = some x, fun i H x H' => H' = H ∧ ∀ xs, SqT K H a xs → xs[i]? = some x, fun i H => ∃ xs, SqT K H a xs ∧ xs.length ≤ i⟩
theorem turn_list {P : Program} {w : World} {K : PySem.W.Frag} {tg : Expr} (a it : Addr) : Turn P w K tg (Itl K a) [it] it (fun i h => h.IsListIter it a i) where
  mem := by simp
  obj := fun i h st b hb => by
    have e : b = it := by simpa using hb
    subst e
    obtain ⟨o, e, c, d⟩ := st
    exact ⟨o, e, fun v z => by rw [d] at z; cases z⟩
  keep := fun i h h' st k => st.at fun o e => k it (by simp) o e
  item := by
    intro X hP hw hK hc i pins s σ H E I hf st hg
    subst hP hw hK
    obtain ⟨xs, x, hq, hx⟩ := hg
    obtain ⟨its, rv, p, hz⟩ := I.list hq
    obtain ⟨u, hu, ru⟩ := rv.get hx
    obtain ⟨f0, f1, f2, f3, f4, f5⟩ := hf it (by simp)
    refine wpAny_pyNext_list_item st p.isList (x := u) (by simpa using hu) fun h' st' sb => ?_
    have I1 : Inv X pins σ H { s with heap := h' } := I.turned (t' := s.toks) (fun b o hb e => (sb.2 b hb).trans e) f0 f1 f3 f4 f5
    obtain ⟨o, e, c, d⟩ := id st'
    exact ⟨u, rfl, go_of (s := { s with heap := h' }) e c d (by decide) ⟨x, H, I1, ru, ⟨rfl, fun ys hy => by rw [I.list_inj hy hq]; exact hx⟩, st', fun b hb => (hf b hb).1⟩⟩
  done := by
    intro X hP hw hK hc i pins s σ H E I hf st hg
    subst hP hw hK
    obtain ⟨xs, hq, hx⟩ := hg
    obtain ⟨its, rv, p, hz⟩ := I.list hq
    obtain ⟨f0, f1, f2, f3, f4, f5⟩ := hf it (by simp)
    have hl := rv.length
    exact wpAny_pyNext_list_end (I.ok.hd hc) st p.isList (by simp; omega) fun h' eb => ⟨rfl, I.turned (t' := s.toks) (fun b o hb e => eb b o hb e) f0 f1 f3 f4 f5⟩
  self := fun _ _ _ _ _ st h => wpAny_pyIter_listiter st h
theorem turn_tuple {P : Program} {w : World} {K : PySem.W.Frag} {tg : Expr} (a it : Addr) : Turn P w K tg (Itt K a) [it] it (fun i h => h.IsTupleIter it a i) where
  mem := by simp
  obj := fun i h st b hb => by
    have e : b = it := by simpa using hb
    subst e
    obtain ⟨o, e, c, d⟩ := st
    exact ⟨o, e, fun v z => by rw [d] at z; cases z⟩
  keep := fun i h h' st k => st.at fun o e => k it (by simp) o e
  item := by
    intro X hP hw hK hc i pins s σ H E I hf st hg
    subst hP hw hK
    obtain ⟨xs, x, hq, hx⟩ := hg
    obtain ⟨its, rv, p, hz⟩ := I.tuple hq
    obtain ⟨u, hu, ru⟩ := rv.get hx
    obtain ⟨f0, f1, f2, f3, f4, f5⟩ := hf it (by simp)
    refine wpAny_pyNext_tuple_item st (show s.heap.IsTuple a its.toArray from p) (x := u) (by simpa using hu) fun h' st' sb => ?_
    have I1 : Inv X pins σ H { s with heap := h' } := I.turned (t' := s.toks) (fun b o hb e => (sb.2 b hb).trans e) f0 f1 f3 f4 f5
    obtain ⟨o, e, c, d⟩ := id st'
    exact ⟨u, rfl, go_of (s := { s with heap := h' }) e c d (by decide) ⟨x, H, I1, ru, ⟨rfl, fun ys hy => by rw [I.tuple_inj hy hq]; exact hx⟩, st', fun b hb => (hf b hb).1⟩⟩
  done := by
    intro X hP hw hK hc i pins s σ H E I hf st hg
    subst hP hw hK
    obtain ⟨xs, hq, hx⟩ := hg
    obtain ⟨its, rv, p, hz⟩ := I.tuple hq
    obtain ⟨f0, f1, f2, f3, f4, f5⟩ := hf it (by simp)
    have hl := rv.length
    exact wpAny_pyNext_tuple_end (I.ok.hd hc) st (show s.heap.IsTuple a its.toArray from p) (by simp; omega) fun h' eb => ⟨rfl, I.turned (t' := s.toks) (fun b o hb e => eb b o hb e) f0 f1 f3 f4 f5⟩
  self := fun _ _ _ _ _ st h => wpAny_pyIter_tupleiter st h
end L2
namespace L2
open PySem PySem.Spec PyProof.Rows
section
variable {X : Cx} {tg : Expr}
def iList (K : PySem.W.Frag) (tl : TE) : TI := fun σ H R => tl σ H fun x H1 => ∃ a, x = .ref a ∧ (∃ xs, SqL K H1 a xs) ∧ R (Itl K a) H1
def iTup (K : PySem.W.Frag) (tl : TE) : TI := fun σ H R => tl σ H fun x H1 => ∃ a, x = .ref a ∧ (∃ xs, SqT K H1 a xs) ∧ R (Itt K a) H1
theorem pi_list {l : Expr} {tl : TE} (hl : PE X l tl) : PI X tg l (iList X.K tl) := by
  intro pins s σ H R I h
  refine thn (hl pins s σ H _ I h) fun v s1 ⟨x, H1, I1, r1, q1⟩ => ?_
  obtain ⟨a, e, ⟨xs, hq⟩, q⟩ := q1
  subst e
  cases r1
  obtain ⟨its, rv, p, hz⟩ := I1.list hq
  refine wpAny_pyIter_list p.isList ?_
  refine ⟨s1.heap.objs.size, [s1.heap.objs.size], _, _, H1, rfl, I1.kept (t' := s1.toks) fun b o e => Heap.get?_push_of_some _ e, turn_list a _, ⟨_, Heap.get?_push_size _ rfl, rfl, rfl⟩, fun b hb => ?_, q⟩
  have e : b = s1.heap.objs.size := by simpa using hb
  subst e
  exact I1.fpOk (Nat.le_refl _) (I1.hok.fresh (Nat.le_refl _))
theorem pi_tup {l : Expr} {tl : TE} (hl : PE X l tl) : PI X tg l (iTup X.K tl) := by
  intro pins s σ H R I h
  refine thn (hl pins s σ H _ I h) fun v s1 ⟨x, H1, I1, r1, q1⟩ => ?_
  obtain ⟨a, e, ⟨xs, hq⟩, q⟩ := q1
  subst e
  cases r1
  obtain ⟨its, rv, p, hz⟩ := I1.tuple hq
  refine wpAny_pyIter_tuple (show s1.heap.IsTuple a its.toArray from p) ?_
  refine ⟨s1.heap.objs.size, [s1.heap.objs.size], _, _, H1, rfl, I1.kept (t' := s1.toks) fun b o e => Heap.get?_push_of_some _ e, turn_tuple a _, ⟨_, Heap.get?_push_size _ rfl, rfl, rfl⟩, fun b hb => ?_, q⟩
  have e : b = s1.heap.objs.size := by simpa using hb
  subst e
  exact I1.fpOk (Nat.le_refl _) (I1.hok.fresh (Nat.le_refl _))
def tFor (wi : TI) (g : TG) (tb : TS) : TS := fun D σ H => wi σ H fun J H1 => ∃ W : Nat → Nat → St → Hp → Prop, (∃ m, W 0 m σ H1) ∧ ∀ i m σ H, W i m σ H →
  (J.stop i H ∧ D.nx σ H) ∨ (J.go i H ∧ ∃ N : St → Hp → Prop, (∀ σ' H', N σ' H' → ∃ m', m' < m ∧ W (i + 1) m' σ' H') ∧ ∀ x H', J.yld i H x H' → g x σ H' fun σ2 H2 => tb { D with nx := N, ct := N, bk := D.nx } σ2 H2)
def pinsAt (fp : List Addr) (h : Heap) : List (Addr × Obj) := fp.filterMap fun b => (h.get? b).map fun o => (b, o)
theorem mem_pinsAt {fp : List Addr} {h : Heap} {b : Addr} {o : Obj} (hb : b ∈ fp) (e : h.get? b = some o) : (b, o) ∈ pinsAt fp h := List.mem_filterMap.mpr ⟨b, hb, by rw [e]; rfl⟩
theorem of_pinsAt {fp : List Addr} {h : Heap} {p : Addr × Obj} (hp : p ∈ pinsAt fp h) : p.1 ∈ fp ∧ h.get? p.1 = some p.2 := by
  obtain ⟨b, hb, e⟩ := List.mem_filterMap.mp hp
  cases q : h.get? b with
  | none => rw [q] at e; cases e
  | some o =>
    rw [q] at e
    have e' : (b, o) = p := Option.some.inj e
    subst e'
    exact ⟨hb, q⟩
theorem Inv.pinned {pins : List (Addr × Obj)} {σ : St} {H : Hp} {s : Shared} {fp : List Addr} (I : Inv X pins σ H s) (hf : ∀ b ∈ fp, FpOk X pins H b) (ho : ∀ b ∈ fp, ∃ o, s.heap.get? b = some o ∧ ∀ v, o.data ≠ .cell v) : Inv X (pins ++ pinsAt fp s.heap) σ H s :=
  I.pins_of fun p hp => (List.mem_append.mp hp).elim (fun z => I.pin p (List.mem_append_right _ z)) fun z => by
    obtain ⟨hb, e⟩ := of_pinsAt z
    obtain ⟨f0, f1, f2, _⟩ := hf p.1 hb
    obtain ⟨o, e', d⟩ := ho p.1 hb
    rw [e] at e'; cases e'
    exact ⟨e, f0, f1, f2, d⟩
theorem Inv.unpinned {pins pl : List (Addr × Obj)} {σ : St} {H : Hp} {s : Shared} (I : Inv X (pins ++ pl) σ H s) : Inv X pins σ H s := I.pins_of fun p hp => I.pin p (List.mem_append_right _ (List.mem_append_left _ hp))
theorem ps_for {iter : Expr} {body : List Stmt} {wi : TI} {g : TG} {tb : TS} {pos : Pos} (hp : PassesOwn (model X.prog X.w) X.A X.env X.xe) (hc : X.calm = true) (hi : PI X tg iter wi) (hg : PG X tg g) (hb : PSs X body tb)
    (hs : ∀ x, foldedSetIterable iter X.env x = pure x := by intro _; rfl) : PS X (.For tg iter body [] pos) (tFor wi g tb) := by
  intro pins s σ H D I h
  refine wpAny_For (thn (hi pins s σ H _ I h) fun v s1 h1 => thn h1 fun itv s2 h2 => ?_) hs
  obtain ⟨it, fp, tn, J, H2, e, I2, T, st2, f2, W, ⟨m0, w0⟩, turn⟩ := h2
  subst e
  have stat : ∀ {H' : Hp}, (∀ b ∈ fp, H' b = none) → ∀ b ∈ fp, FpOk X pins H' b := fun hn b hb => ⟨hn b hb, (f2 b hb).2⟩
  refine codeAny_forLoop_any (fun n s' => ∃ i σ' H', Inv X pins σ' H' s' ∧ tn i s'.heap ∧ (∀ b ∈ fp, H' b = none) ∧ W i n σ' H') ?_ m0 ⟨0, σ, H2, I2, st2, fun b hb => (f2 b hb).1, w0⟩
  rintro n s3 ⟨i, σ3, H3, I3, st3, fr3, w3⟩
  rcases turn i n σ3 H3 w3 with ⟨stop, qn⟩ | ⟨go, N, hN, step⟩
  · refine wpAny_passesOwn hp (thn (T.done X rfl rfl rfl hc i pins s3 σ3 H3 X.xe I3 (stat fr3) st3 stop) fun r s4 ⟨hr, I4⟩ => ?_)
    subst hr
    exact wpAny_execs_nil ⟨σ3, H3, I4, qn⟩
  · refine wpAny_passesOwn hp (thn (T.item X rfl rfl rfl hc i pins s3 σ3 H3 X.xe I3 (stat fr3) st3 go) fun r s4 ⟨u, hr, h4⟩ => ?_)
    subst hr
    refine wpAny_passesOwn hp (thn h4 fun _ s5 ⟨x, H5, I5, r5, y5, st5, fr5⟩ => ?_)
    have I5' := I5.pinned (stat fr5) (T.obj _ _ st5)
    refine wpAny_passesOwn hp (thn (hg _ s5 σ3 H5 x u _ I5' r5 (step x H5 y5)) fun _ s6 ⟨σ6, H6, I6, q6⟩ => ?_)
    refine wpAny_passesOwn hp (thn (hb _ s6 σ6 H6 _ I6 q6) fun f s7 q7 => ?_)
    have again : ∀ {σ7 : St} {H7 : Hp}, Inv X (pins ++ pinsAt fp s5.heap) σ7 H7 s7 → N σ7 H7 → ∃ m, m < n ∧ ∃ i σ' H', Inv X pins σ' H' s7 ∧ tn i s7.heap ∧ (∀ b ∈ fp, H' b = none) ∧ W i m σ' H' := fun {σ7 H7} I7 n7 => by
      obtain ⟨m', hm, w7⟩ := hN σ7 H7 n7
      refine ⟨m', hm, i + 1, σ7, H7, I7.unpinned, T.keep _ _ _ st5 fun b hb o e => (I7.pin (b, o) (List.mem_append_right _ (List.mem_append_right _ (mem_pinsAt hb e)))).1, fun b hb => ?_, w7⟩
      obtain ⟨o, e, d⟩ := T.obj _ _ st5 b hb
      exact (I7.pin (b, o) (List.mem_append_right _ (List.mem_append_right _ (mem_pinsAt hb e)))).2.1
    cases f with
    | next => obtain ⟨σ7, H7, I7, n7⟩ := q7; exact again I7 n7
    | cont => obtain ⟨σ7, H7, I7, n7⟩ := q7; exact again I7 n7
    | brk => obtain ⟨σ7, H7, I7, q7⟩ := q7; exact ⟨σ7, H7, I7.unpinned, q7⟩
    | ret v => obtain ⟨x7, σ7, H7, I7, r7, q7⟩ := q7; exact ⟨x7, σ7, H7, I7.unpinned, r7, q7⟩
end
theorem for_list {K : PySem.W.Frag} {a : Addr} {xs : List V} {g : TG} {tb : TS} {D : Ends} {σ : St} {H : Hp} (Pv : Nat → St → Hp → Prop) (h0 : Pv 0 σ H) (hl : ∀ i σ H, i ≤ xs.length → Pv i σ H → SqL K H a xs)
    (hs : ∀ i x σ H, xs[i]? = some x → Pv i σ H → g x σ H fun σ2 H2 => tb { D with nx := Pv (i + 1), ct := Pv (i + 1), bk := D.nx } σ2 H2) (hd : ∀ σ H, Pv xs.length σ H → D.nx σ H) :
    ∃ W : Nat → Nat → St → Hp → Prop, (∃ m, W 0 m σ H) ∧ ∀ i m σ H, W i m σ H →
      ((Itl K a).stop i H ∧ D.nx σ H) ∨ ((Itl K a).go i H ∧ ∃ N : St → Hp → Prop, (∀ σ' H', N σ' H' → ∃ m', m' < m ∧ W (i + 1) m' σ' H') ∧ ∀ x H', (Itl K a).yld i H x H' → g x σ H' fun σ2 H2 => tb { D with nx := N, ct := N, bk := D.nx } σ2 H2) := by
  refine ⟨fun i m σ H => m = xs.length - i ∧ i ≤ xs.length ∧ Pv i σ H, ⟨xs.length, by simp, Nat.zero_le _, h0⟩, ?_⟩
  rintro i m σ H ⟨rfl, hi, p⟩
  have q := hl i σ H hi p
  by_cases hlt : i < xs.length
  · refine .inr ⟨⟨xs, xs[i], q, by simp [hlt]⟩, Pv (i + 1), fun σ' H' p' => ⟨xs.length - (i + 1), by omega, rfl, hlt, p'⟩, fun x H' y => ?_⟩
    obtain ⟨e, y⟩ := y
    subst e
    exact hs i x σ _ (y xs q) p
  · have e : i = xs.length := by omega
    subst e
    exact .inl ⟨⟨xs, q, Nat.le_refl _⟩, hd σ H p⟩
theorem for_tup {K : PySem.W.Frag} {a : Addr} {xs : List V} {g : TG} {tb : TS} {D : Ends} {σ : St} {H : Hp} (Pv : Nat → St → Hp → Prop) (h0 : Pv 0 σ H) (hl : ∀ i σ H, i ≤ xs.length → Pv i σ H → SqT K H a xs)
    (hs : ∀ i x σ H, xs[i]? = some x → Pv i σ H → g x σ H fun σ2 H2 => tb { D with nx := Pv (i + 1), ct := Pv (i + 1), bk := D.nx } σ2 H2) (hd : ∀ σ H, Pv xs.length σ H → D.nx σ H) :
    ∃ W : Nat → Nat → St → Hp → Prop, (∃ m, W 0 m σ H) ∧ ∀ i m σ H, W i m σ H →
      ((Itt K a).stop i H ∧ D.nx σ H) ∨ ((Itt K a).go i H ∧ ∃ N : St → Hp → Prop, (∀ σ' H', N σ' H' → ∃ m', m' < m ∧ W (i + 1) m' σ' H') ∧ ∀ x H', (Itt K a).yld i H x H' → g x σ H' fun σ2 H2 => tb { D with nx := N, ct := N, bk := D.nx } σ2 H2) := by
  refine ⟨fun i m σ H => m = xs.length - i ∧ i ≤ xs.length ∧ Pv i σ H, ⟨xs.length, by simp, Nat.zero_le _, h0⟩, ?_⟩
  rintro i m σ H ⟨rfl, hi, p⟩
  have q := hl i σ H hi p
  by_cases hlt : i < xs.length
  · refine .inr ⟨⟨xs, xs[i], q, by simp [hlt]⟩, Pv (i + 1), fun σ' H' p' => ⟨xs.length - (i + 1), by omega, rfl, hlt, p'⟩, fun x H' y => ?_⟩
    obtain ⟨e, y⟩ := y
    subst e
    exact hs i x σ _ (y xs q) p
  · have e : i = xs.length := by omega
    subst e
    exact .inl ⟨⟨xs, q, Nat.le_refl _⟩, hd σ H p⟩
end L2
namespace L2
open PySem PySem.Spec PyProof.Rows
abbrev R2 := V → V → Hp → VK → Prop
def OpR (X : Cx) (f : Value → Value → Sem Value) (r : R2) : Prop :=
  ∀ (pins : List (Addr × Obj)) (s : Shared) (σ : St) (H : Hp) (x y : V) (v u : Value) (Q : VK), Inv X pins σ H s → RelV x v → RelV y u → r x y H Q →
    wpAny (model X.prog X.w) X.A (f v u) (EP X pins σ Q) X.xe s
def UnR (X : Cx) (f : Value → Sem Value) (r : V → Hp → VK → Prop) : Prop :=
  ∀ (pins : List (Addr × Obj)) (s : Shared) (σ : St) (H : Hp) (x : V) (v : Value) (Q : VK), Inv X pins σ H s → RelV x v → r x H Q →
    wpAny (model X.prog X.w) X.A (f v) (EP X pins σ Q) X.xe s
def CallR (X : Cx) (f : Value) (r : List V → Hp → VK → Prop) : Prop :=
  ∀ (pins : List (Addr × Obj)) (s : Shared) (σ : St) (H : Hp) (xs : List V) (us : List Value) (Q : VK), Inv X pins σ H s → Vals xs us → r xs H Q →
    wpAny (model X.prog X.w) X.A (call f us) (EP X pins σ Q) X.xe s
def TruR (X : Cx) (r : V → Hp → (Bool → Hp → Prop) → Prop) : Prop :=
  ∀ (pins : List (Addr × Obj)) (s : Shared) (σ : St) (H : Hp) (x : V) (v : Value) (Q : Bool → Hp → Prop), Inv X pins σ H s → RelV x v → r x H Q →
    wpAny (model X.prog X.w) X.A (truthy v) (TP X pins σ Q) X.xe s
def tOp (r : R2) (ta tb : TE) : TE := fun σ H Q => ta σ H fun x H1 => tb σ H1 fun y H2 => r x y H2 Q
def tUn (r : V → Hp → VK → Prop) (ta : TE) : TE := fun σ H Q => ta σ H fun x H1 => r x H1 Q
def rI (C : Int → Int → Prop) (g : Int → Int → V) : R2 := fun x y H Q => ∃ i j, x = .int i ∧ y = .int j ∧ C i j ∧ Q (g i j) H
def rI0 (g : Int → Int → V) : R2 := fun x y H Q => ∃ i j, x = .int i ∧ y = .int j ∧ Q (g i j) H
def rU (g : Int → V) : V → Hp → VK → Prop := fun x H Q => ∃ i, x = .int i ∧ Q (g i) H
section
variable {X : Cx} {a b c : Expr} {ta tb tc : TE} {pos : Pos}
theorem binT (ha : PE X a ta) (hb : PE X b tb) {pins : List (Addr × Obj)} {s : Shared} {σ : St} {H : Hp} {R : V → V → Hp → Prop} (I : Inv X pins σ H s)
    (h : ta σ H fun x H1 => tb σ H1 fun y H2 => R x y H2) {Q : Value → Shared → Prop} {f : Value → Value → Sem Value}
    (hf : ∀ v u s2 x y H2, Inv X pins σ H2 s2 → RelV x v → RelV y u → R x y H2 → wpAny (model X.prog X.w) X.A (f v u) Q X.xe s2) :
    wpAny (model X.prog X.w) X.A (eval a X.env) (fun v s₁ => wpAny (model X.prog X.w) X.A (eval b X.env) (fun u s₂ => wpAny (model X.prog X.w) X.A (f v u) Q X.xe s₂) X.xe s₁) X.xe s := by
  refine thn (ha pins s σ H _ I h) fun v s1 ⟨x, H1, I1, r1, q1⟩ => ?_
  refine thn (hb pins s1 σ H1 _ I1 q1) fun u s2 ⟨y, H2, I2, r2, q2⟩ => ?_
  exact hf v u s2 x y H2 I2 r1 r2 q2
theorem pe_op {op : Operator} {r : R2} (ho : OpR X (binaryOp op) r) (ha : PE X a ta) (hb : PE X b tb) : PE X (.BinOp a op b pos) (tOp r ta tb) := by
  intro pins s σ H Q I h
  exact wpAny_BinOp (binT ha hb I h fun v u s2 x y H2 I2 rx ry q => ho pins s2 σ H2 x y v u Q I2 rx ry q)
theorem pe_un {op : UnaryOp} {r : V → Hp → VK → Prop} (ho : UnR X (unaryOp op) r) (ha : PE X a ta) : PE X (.UnaryOp op a pos) (tUn r ta) := by
  intro pins s σ H Q I h
  exact UnaryOp_ (thn (ha pins s σ H _ I h) fun v s1 ⟨x, H1, I1, r1, q1⟩ => ho pins s1 σ H1 x v Q I1 r1 q1)
theorem opI {f : Value → Value → Sem Value} {C : Int → Int → Prop} {g : Int → Int → Int}
    (rule : ∀ (i j : Int) (t u : Tok) (s : Shared) (Q : Value → Shared → Prop) (E : Value → Shared → Prop), C i j → Q (.int (g i j) s.toks) { s with toks := s.toks + 1 } → wpAny (model X.prog X.w) X.A (f (.int i t) (.int j u)) Q E s) :
    OpR X f (rI C fun i j => .int (g i j)) := by
  intro pins s σ H x y v u Q I rx ry h
  obtain ⟨i, j, rfl, rfl, hc, q⟩ := h
  obtain ⟨t, rfl⟩ := rx
  obtain ⟨t', rfl⟩ := ry
  exact rule i j t t' s _ _ hc ⟨.int (g i j), H, I.tok _, ⟨_, rfl⟩, q⟩
theorem opB0 {f : Value → Value → Sem Value} {g : Int → Int → Bool}
    (rule : ∀ (i j : Int) (t u : Tok) (s : Shared) (Q : Value → Shared → Prop) (E : Value → Shared → Prop), Q (.bool (g i j)) s → wpAny (model X.prog X.w) X.A (f (.int i t) (.int j u)) Q E s) :
    OpR X f (rI0 fun i j => .bl (g i j)) := by
  intro pins s σ H x y v u Q I rx ry h
  obtain ⟨i, j, rfl, rfl, q⟩ := h
  obtain ⟨t, rfl⟩ := rx
  obtain ⟨t', rfl⟩ := ry
  exact rule i j t t' s _ _ ⟨.bl (g i j), H, I, rfl, q⟩
theorem op_mod : OpR X (binaryOp .Mod) (rI (fun _ j => 0 < j) fun i j => .int (i % j)) := opI fun i j _ _ _ _ _ hc q => by
  have h1 : (0 : Int) < j := hc
  exact mod_int' (by omega) (by rw [Int.fmod_eq_emod_of_nonneg i (by omega)]; exact q)
theorem unI {f : Value → Sem Value} {g : Int → Int}
    (rule : ∀ (i : Int) (t : Tok) (s : Shared) (Q : Value → Shared → Prop) (E : Value → Shared → Prop), Q (.int (g i) s.toks) { s with toks := s.toks + 1 } → wpAny (model X.prog X.w) X.A (f (.int i t)) Q E s) :
    UnR X f (rU fun i => .int (g i)) := by
  intro pins s σ H x v Q I rx h
  obtain ⟨i, rfl, q⟩ := h
  obtain ⟨t, rfl⟩ := rx
  exact rule i t s _ _ ⟨.int (g i), H, I.tok _, ⟨_, rfl⟩, q⟩
theorem un_neg : UnR X (unaryOp .USub) (rU fun i => .int (-i)) := unI fun _ _ _ _ _ q => neg_int q
end
def scal : V → V → Bool
  | .non, .non => true | .non, .int _ => true | .int _, .non => true | .non, .bl _ => true | .bl _, .non => true | .non, .str _ => true | .str _, .non => true
  | .int _, .int _ => true | .bl _, .bl _ => true | .str _, .str _ => true | .byt _, .byt _ => true
  | .int _, .str _ => true | .str _, .int _ => true | .bl _, .str _ => true | .str _, .bl _ => true
  | _, _ => false
def rEq : R2 := fun x y H Q => scal x y = true ∧ Q (.bl (decide (x = y))) H
def rNe : R2 := fun x y H Q => scal x y = true ∧ Q (.bl (!decide (x = y))) H
theorem dec_int {i j : Int} : decide (V.int i = V.int j) = (i == j) := by
  rw [Bool.eq_iff_iff]
  simp
theorem dec_bl {i j : Bool} : decide (V.bl i = V.bl j) = (i == j) := by
  rw [Bool.eq_iff_iff]
  simp
theorem dec_str {i j : Str} : decide (V.str i = V.str j) = (i == j) := by
  rw [Bool.eq_iff_iff]
  simp
theorem dec_byt {i j : Array UInt8} : decide (V.byt i = V.byt j) = (i.toList == j.toList) := by
  rw [Bool.eq_iff_iff]
  cases i
  cases j
  simp
section
variable {X : Cx} {a b c : Expr} {ta tb tc : TE} {pos : Pos}
theorem fin_bl {pins : List (Addr × Obj)} {σ : St} {H : Hp} {s : Shared} {Q : VK} {k k' : Bool} (I : Inv X pins σ H s) (q : Q (.bl k) H) (e : k = k') : EP X pins σ Q (.bool k') s := by
  subst e
  exact ⟨.bl k, H, I, rfl, q⟩
theorem op_eq : OpR X (compareOp .Eq) rEq := by
  intro pins s σ H x y v u Q I rx ry h
  obtain ⟨hs, q⟩ := h
  cases x with
  | non =>
    cases rx
    cases y with
    | non => cases ry; exact PySem.EqNone.eq_none_none (fin_bl I q (by simp))
    | bl j => cases ry; exact PySem.EqNone.eq_none_bool (fin_bl I q (by simp))
    | int j => obtain ⟨t', rfl⟩ := ry; exact PySem.EqNone.eq_none_int (fin_bl I q (by simp))
    | str j => obtain ⟨t', rfl⟩ := ry; exact PySem.EqNone.eq_none_str (fin_bl I q (by simp))
    | _ => exact absurd (show false = true from hs) Bool.false_ne_true
  | bl i =>
    cases rx
    cases y with
    | non => cases ry; exact PySem.EqNone.eq_bool_none (fin_bl I q (by simp))
    | bl j => cases ry; exact eq_bool (fin_bl I q dec_bl)
    | str j => obtain ⟨t', rfl⟩ := ry; exact PySem.EqMixed.eq_bool_str (fin_bl I q (by simp))
    | _ => exact absurd (show false = true from hs) Bool.false_ne_true
  | int i =>
    obtain ⟨t, rfl⟩ := rx
    cases y with
    | non => cases ry; exact PySem.EqNone.eq_int_none (fin_bl I q (by simp))
    | int j => obtain ⟨t', rfl⟩ := ry; exact eq_int (fin_bl I q dec_int)
    | str j => obtain ⟨t', rfl⟩ := ry; exact PySem.EqMixed.eq_int_str (fin_bl I q (by simp))
    | _ => exact absurd (show false = true from hs) Bool.false_ne_true
  | str i =>
    obtain ⟨t, rfl⟩ := rx
    cases y with
    | non => cases ry; exact PySem.EqNone.eq_str_none (fin_bl I q (by simp))
    | bl j => cases ry; exact PySem.EqMixed.eq_str_bool (fin_bl I q (by simp))
    | int j => obtain ⟨t', rfl⟩ := ry; exact PySem.EqMixed.eq_str_int (fin_bl I q (by simp))
    | str j => obtain ⟨t', rfl⟩ := ry; exact eq_str (fin_bl I q dec_str)
    | _ => exact absurd (show false = true from hs) Bool.false_ne_true
  | byt i =>
    obtain ⟨t, rfl⟩ := rx
    cases y with
    | byt j => obtain ⟨t', rfl⟩ := ry; exact PySem.W.eq_bytes (fin_bl I q dec_byt)
    | _ => exact absurd (show false = true from hs) Bool.false_ne_true
  | _ => cases y <;> exact absurd (show false = true from hs) Bool.false_ne_true
theorem op_ne : OpR X (compareOp .NotEq) rNe := by
  intro pins s σ H x y v u Q I rx ry h
  obtain ⟨hs, q⟩ := h
  cases x with
  | non =>
    cases rx
    cases y with
    | non => cases ry; exact PySem.EqNone.ne_none_none (fin_bl I q (by simp))
    | bl j => cases ry; exact PySem.EqNone.ne_none_bool (fin_bl I q (by simp))
    | int j => obtain ⟨t', rfl⟩ := ry; exact PySem.EqNone.ne_none_int (fin_bl I q (by simp))
    | str j => obtain ⟨t', rfl⟩ := ry; exact PySem.EqNone.ne_none_str (fin_bl I q (by simp))
    | _ => exact absurd (show false = true from hs) Bool.false_ne_true
  | bl i =>
    cases rx
    cases y with
    | non => cases ry; exact PySem.EqNone.ne_bool_none (fin_bl I q (by simp))
    | bl j => cases ry; exact ne_bool (fin_bl I q (congrArg not dec_bl))
    | str j => obtain ⟨t', rfl⟩ := ry; exact PySem.EqMixed.ne_bool_str (fin_bl I q (by simp))
    | _ => exact absurd (show false = true from hs) Bool.false_ne_true
  | int i =>
    obtain ⟨t, rfl⟩ := rx
    cases y with
    | non => cases ry; exact PySem.EqNone.ne_int_none (fin_bl I q (by simp))
    | int j => obtain ⟨t', rfl⟩ := ry; exact ne_int (fin_bl I q (congrArg not dec_int))
    | str j => obtain ⟨t', rfl⟩ := ry; exact PySem.EqMixed.ne_int_str (fin_bl I q (by simp))
    | _ => exact absurd (show false = true from hs) Bool.false_ne_true
  | str i =>
    obtain ⟨t, rfl⟩ := rx
    cases y with
    | non => cases ry; exact PySem.EqNone.ne_str_none (fin_bl I q (by simp))
    | bl j => cases ry; exact PySem.EqMixed.ne_str_bool (fin_bl I q (by simp))
    | int j => obtain ⟨t', rfl⟩ := ry; exact PySem.EqMixed.ne_str_int (fin_bl I q (by simp))
    | str j => obtain ⟨t', rfl⟩ := ry; exact ne_str (fin_bl I q (congrArg not dec_str))
    | _ => exact absurd (show false = true from hs) Bool.false_ne_true
  | byt i =>
    obtain ⟨t, rfl⟩ := rx
    cases y with
    | byt j => obtain ⟨t', rfl⟩ := ry; exact PySem.W.ne_bytes (fin_bl I q (congrArg not dec_byt))
    | _ => exact absurd (show false = true from hs) Bool.false_ne_true
  | _ => cases y <;> exact absurd (show false = true from hs) Bool.false_ne_true
theorem op_le : OpR X (compareOp .LtE) (rI0 fun i j => .bl (decide (i ≤ j))) := opB0 fun _ _ _ _ _ _ _ q => le_int q
theorem op_gt : OpR X (compareOp .Gt) (rI0 fun i j => .bl (decide (j < i))) := opB0 fun _ _ _ _ _ _ _ q => gt_int q
theorem op_in_str : OpR X (compareOp .In) (fun x y H Q => ∃ i j, x = .str i ∧ y = .str j ∧ Q (.bl (!(Builtin.Str.occurrences j i 0 j.length 1).isEmpty)) H) := by
  intro pins s σ H x y v u Q I rx ry h
  obtain ⟨i, j, rfl, rfl, q⟩ := h
  obtain ⟨t, rfl⟩ := rx
  obtain ⟨t', rfl⟩ := ry
  exact in_str (fin_bl I q rfl)
theorem op_isN : OpR X (compareOp .Is) (fun x y H Q => y = .non ∧ Q (.bl (decide (x = .non))) H) := by
  intro pins s σ H x y v u Q I rx ry h
  obtain ⟨rfl, q⟩ := h
  cases ry
  refine is_none_gen (fin_bl I q ?_)
  cases x <;> first
    | (cases rx; rfl)
    | (obtain ⟨t, rfl⟩ := rx; rfl)
theorem op_notN : OpR X (compareOp .IsNot) (fun x y H Q => y = .non ∧ Q (.bl (!decide (x = .non))) H) := by
  intro pins s σ H x y v u Q I rx ry h
  obtain ⟨rfl, q⟩ := h
  cases ry
  refine isnot_none_gen (fin_bl I q ?_)
  cases x <;> first
    | (cases rx; rfl)
    | (obtain ⟨t, rfl⟩ := rx; rfl)
theorem OpR.or {f : Value → Value → Sem Value} {r r' : R2} (h : OpR X f r) (h' : OpR X f r') : OpR X f (fun x y H Q => r x y H Q ∨ r' x y H Q) := by
  intro pins s σ H x y v u Q I rx ry q
  rcases q with q | q
  · exact h pins s σ H x y v u Q I rx ry q
  · exact h' pins s σ H x y v u Q I rx ry q
theorem nomark (b : Expr) {op : CmpOp} (h : op ≠ .In := by decide) (h2 : op ≠ .NotIn := by decide) : behindInMarks op b = false := by
  have e1 : (op == CmpOp.In) = false := by cases op <;> first | rfl | exact absurd rfl h
  have e2 : (op == CmpOp.NotIn) = false := by cases op <;> first | rfl | exact absurd rfl h2
  cases b <;> simp [behindInMarks, e1, e2]
theorem pe_cmpR {op : CmpOp} {r : R2} (ho : OpR X (compareOp op) r) (ha : PE X a ta) (hb : PE X b tb) (hm : behindInMarks op b = false) : PE X (.Compare a [op] [b] pos) (tOp r ta tb) := by
  intro pins s σ H Q I h
  exact wpAny_Compare1 (binT ha hb I h fun v u s2 x y H2 I2 rx ry q => ho pins s2 σ H2 x y v u Q I2 rx ry q) hm
def tTest (t : TE) : TT := fun σ H Q => t σ H fun x H' => ∃ k, x = .bl k ∧ Q k H'
theorem pt_cmpR {op : CmpOp} {r : R2} (ho : OpR X (compareOp op) r) (ha : PE X a ta) (hb : PE X b tb) (hm : behindInMarks op b = false) : PT X (.Compare a [op] [b] pos) (tTest (tOp r ta tb)) := by
  intro pins s σ H Q I h
  refine wpAny_isTrue_Compare1 (thn (ha pins s σ H _ I h) fun v s1 ⟨x, H1, I1, r1, q1⟩ => thn (hb pins s1 σ H1 _ I1 q1) fun u s2 ⟨y, H2, I2, r2, q2⟩ =>
    thn (ho pins s2 σ H2 x y v u _ I2 r1 r2 q2) fun c s3 ⟨z, H3, I3, r3, k, e, q3⟩ => ?_) hm
  subst e
  cases r3
  exact wpAny_truthy_bool ⟨H3, I3, q3⟩
def tChain (r r' : R2) (ta tb tc : TE) : TE := fun σ H Q => ta σ H fun x H1 => tb σ H1 fun y H2 => r x y H2 fun z H3 => ∃ k, z = .bl k ∧
  (if k = true then tc σ H3 fun w' H4 => r' y w' H4 Q else Q (.bl false) H3)
theorem pe_chain {op op' : CmpOp} {r r' : R2} (ho : OpR X (compareOp op) r) (ho' : OpR X (compareOp op') r') (ha : PE X a ta) (hb : PE X b tb) (hc : PE X c tc)
    (hm : lastMarks [op, op'] [b, c] = false := by with_unfolding_all rfl) : PE X (.Compare a [op, op'] [b, c] pos) (tChain r r' ta tb tc) := by
  intro pins s σ H Q I h
  refine Compare_chain (thn (ha pins s σ H _ I h) fun v s1 ⟨x, H1, I1, r1, q1⟩ => chain_link (thn (hb pins s1 σ H1 _ I1 q1) fun u s2 ⟨y, H2, I2, r2, q2⟩ =>
    thn (ho pins s2 σ H2 x y v u _ I2 r1 r2 q2) fun d s3 ⟨z, H3, I3, r3, k, e, q3⟩ => ?_)) hm
  subst e
  cases r3
  refine wpAny_truthy_bool ?_
  cases k with
  | false => exact ite_ff ⟨.bl false, H3, I3, rfl, q3⟩
  | true => exact ite_tt (chain_last (thn (hc pins s3 σ H3 _ I3 q3) fun w' s4 ⟨z', H4, I4, r4, q4⟩ => ho' pins s4 σ H4 y z' u w' Q I4 r2 r4 q4))
def TruV (K : PySem.W.Frag) (x : V) (H : Hp) (k : Bool) : Prop :=
  match x with
  | .non => k = false
  | .bl b => k = b
  | .int i => k = (i != 0)
  | .str y => y.length ≤ sizeLine ∧ k = ((y.length : Int) != 0)
  | .byt y => y.size ≤ sizeLine ∧ k = ((y.size : Int) != 0)
  | .ref p => (∃ xs, SqL K H p xs ∧ k = !xs.isEmpty) ∨ (∃ xs, SqT K H p xs ∧ k = !xs.isEmpty) ∨ ∃ kvs, H p = some (.dK kvs) ∧ k = !kvs.isEmpty
  | _ => False
theorem isEmpty_kv {κ : Type} {kvs : List (κ × V)} {vs : List (κ × Value)} (r : KV kvs vs) : (!vs.isEmpty) = !kvs.isEmpty := by
  cases r <;> rfl
theorem isEmpty_of {xs : List V} {its : List Value} (r : Vals xs its) : (!its.toArray.isEmpty) = !xs.isEmpty := by
  cases r <;> simp
theorem line63 : (sizeLine : Nat) < 2 ^ 63 := by rw [sizeLine_eq]; decide
theorem tru_ok : TruR X (fun x H Q => ∃ k, TruV X.K x H k ∧ Q k H) := by
  intro pins s σ H x v Q I rx h
  obtain ⟨k, e, q⟩ := h
  have hl := line63
  have hs : sizeLine = 16777216 := sizeLine_eq
  cases x with
  | non =>
    cases rx
    have e' : k = false := e
    subst e'
    exact truthy_none ⟨H, I, q⟩
  | bl b =>
    cases rx
    have e' : k = b := e
    subst e'
    exact wpAny_truthy_bool ⟨H, I, q⟩
  | int i =>
    obtain ⟨t, rfl⟩ := rx
    have e' : k = (i != 0) := e
    subst e'
    exact PySem.P.truthy_int ⟨H, I, q⟩
  | str y =>
    obtain ⟨t, rfl⟩ := rx
    obtain ⟨hy, e'⟩ : y.length ≤ sizeLine ∧ k = ((y.length : Int) != 0) := e
    subst e'
    exact PySem.P.truthy_str (by omega) ⟨H, I.tok _, q⟩
  | byt y =>
    obtain ⟨t, rfl⟩ := rx
    obtain ⟨hy, e'⟩ : y.size ≤ sizeLine ∧ k = ((y.size : Int) != 0) := e
    subst e'
    exact PySem.W.truthy_bytes (by omega) ⟨H, I.tok _, q⟩
  | ref p =>
    cases rx
    have e' : (∃ xs, SqL X.K H p xs ∧ k = !xs.isEmpty) ∨ (∃ xs, SqT X.K H p xs ∧ k = !xs.isEmpty) ∨ ∃ kvs, H p = some (.dK kvs) ∧ k = !kvs.isEmpty := e
    rcases e' with ⟨xs, hx, e'⟩ | ⟨xs, hx, e'⟩ | ⟨kvs, hx, e'⟩
    · subst e'
      obtain ⟨its, r, pl, hz⟩ := I.list hx
      have hlen := r.length
      exact wpAny_truthy_list pl.isList (by simp only [List.size_toArray]; omega) ⟨H, I.tok _, by rw [isEmpty_of r]; exact q⟩
    · subst e'
      obtain ⟨its, r, pl, hz⟩ := I.tuple hx
      have hlen := r.length
      exact truthy_tuple pl (by simp only [List.size_toArray]; omega) ⟨H, I.tok _, by rw [isEmpty_of r]; exact q⟩
    · subst e'
      obtain ⟨hz, hS, vs, r, m⟩ : kvs.length ≤ sizeLine ∧ (p == sysModules) = false ∧ ∃ vs, KV kvs vs ∧ s.heap.DictOf (mixKind X.prog X.w) p vs := I.hok p _ hx
      have hlen : kvs.length = vs.length := Paired.length r
      exact wpAny_truthy_dict hS m (by omega) ⟨H, I.tok _, by rw [isEmpty_kv r]; exact q⟩
  | _ => exact (show False from e).elim
theorem pt_truth (ha : PE X a ta) (he : ∀ whole, isTrue a X.env whole = (do let v ← whole; standAt a.pos; holding [v] (truthy v))) :
    PT X a (fun σ H Q => ta σ H fun x H' => ∃ k, TruV X.K x H' k ∧ Q k H') := by
  intro pins s σ H Q I h
  exact isTrue_plain (thn (ha pins s σ H _ I h) fun v s1 ⟨x, H1, I1, r1, q1⟩ => tru_ok pins s1 σ H1 x v Q I1 r1 q1) (he _)
theorem vals1 {x : V} {us : List Value} (r : Vals [x] us) : ∃ u, us = [u] ∧ RelV x u := by
  cases r with
  | cons r1 r2 => cases r2; exact ⟨_, rfl, r1⟩
theorem call_str_int : CallR X (.type "str") (fun xs H Q => ∃ i, xs = [.int i] ∧ i.natAbs.log2 < 1920 ∧ Q (.str (toString i)) H) := by
  intro pins s σ H xs us Q I r h
  obtain ⟨i, rfl, hz, q⟩ := h
  obtain ⟨u, rfl, t, rfl⟩ := vals1 r
  exact PySem.P.str_of_int hz ⟨.str _, H, I.tok _, ⟨_, rfl⟩, q⟩
def LenV (K : PySem.W.Frag) (x : V) (H : Hp) (n : Nat) : Prop :=
  match x with
  | .str y => y.length ≤ sizeLine ∧ n = y.length
  | .byt y => y.size ≤ sizeLine ∧ n = y.size
  | .ref p => (∃ xs, SqL K H p xs ∧ n = xs.length) ∨ ∃ xs, SqT K H p xs ∧ n = xs.length
  | _ => False
theorem call_len : CallR X (.builtin "len") (fun xs H Q => ∃ x n, xs = [x] ∧ LenV X.K x H n ∧ Q (.int n) H) := by
  intro pins s σ H xs us Q I r h
  obtain ⟨x, n, rfl, e, q⟩ := h
  obtain ⟨u, rfl, rx⟩ := vals1 r
  have hl := line63
  have hs : sizeLine = 16777216 := sizeLine_eq
  cases x with
  | str y =>
    obtain ⟨t, rfl⟩ := rx
    obtain ⟨hy, e'⟩ : y.length ≤ sizeLine ∧ n = y.length := e
    subst e'
    exact len_str (by omega) ⟨.int _, H, I.tok _, ⟨_, rfl⟩, q⟩
  | byt y =>
    obtain ⟨t, rfl⟩ := rx
    obtain ⟨hy, e'⟩ : y.size ≤ sizeLine ∧ n = y.size := e
    subst e'
    exact PySem.W.len_bytes (by omega) ⟨.int _, H, I.tok _, ⟨_, rfl⟩, q⟩
  | ref p =>
    cases rx
    have e' : (∃ xs, SqL X.K H p xs ∧ n = xs.length) ∨ ∃ xs, SqT X.K H p xs ∧ n = xs.length := e
    rcases e' with ⟨xs, hx, e'⟩ | ⟨xs, hx, e'⟩
    · subst e'
      obtain ⟨its, r', pl, hz⟩ := I.list hx
      have hlen := r'.length
      exact Calls.call_len_list pl.isList (by simp only [List.size_toArray]; omega) ⟨.int xs.length, H, I.tok _, ⟨_, by simp only [List.size_toArray]; rw [hlen]⟩, q⟩
    · subst e'
      obtain ⟨its, r', pl, hz⟩ := I.tuple hx
      have hlen := r'.length
      exact len_tuple pl (by simp only [List.size_toArray]; omega) ⟨.int xs.length, H, I.tok _, ⟨_, by simp only [List.size_toArray]; rw [hlen]⟩, q⟩
  | _ => exact (show False from e).elim
end
end L2
namespace L2
open PySem PySem.Spec PyProof.Rows
structure ObjM (h : Heap) (x dx C : Addr) (mA : Str → Option Value) : Prop where
  obj : h.get? x = some (PySem.W.instObj C dx)
  ns : h.Ns1 dx mA
  ne : dx ≠ x
theorem lookIn_ns {h : Heap} {dx : Addr} {mA : Str → Option Value} (n : h.Ns1 dx mA) : ∃ od, h.get? dx = some od ∧ ∀ name, PySem.W.lookIn name od = some (mA name) := by
  obtain ⟨o, es, ep, ho, hd, hk, _, hm⟩ := n
  refine ⟨o, ho, fun name => ?_⟩
  have e := hm name
  unfold nsFind findBy at e
  rw [← Array.find?_toList] at e
  unfold PySem.W.lookIn
  rw [hd]
  dsimp only
  split
  · rename_i y q
    rw [q] at e
    exact congrArg some e
  · rename_i q
    rw [q] at e
    have a : es.toList.any (·.refKey) = false := by
      rw [List.any_eq_false]
      intro y hy
      obtain ⟨z, t, hkey⟩ := hk y (Array.mem_toList_iff.mp hy)
      simp [DictEntry.refKey, hkey]
    have a' : ¬ es.toList.any (·.refKey) = true := by rw [a]; exact Bool.false_ne_true
    rw [if_neg a']
    exact congrArg some e
theorem ObjM.look {h : Heap} {x dx C : Addr} {mA : Str → Option Value} (I : ObjM h x dx C mA) : ∃ od, PySem.W.InstAt h x (PySem.W.instObj C dx) C (some od) ∧ ∀ name, PySem.W.lookIn name od = some (mA name) :=
  let ⟨od, ho, hl⟩ := lookIn_ns I.ns
  ⟨od, ⟨I.obj, rfl, rfl, ho⟩, hl⟩
section
variable {prog : Program} {w : World} {A : Around} {E : Value → Shared → Prop} {s : Shared} {K : PySem.W.Frag} {x dx C f : Addr} {mA : Str → Option Value} {name : Str} {v : Value}
theorem get_map {expr : Bool} {Q : Value → Shared → Prop} (X : K.In s.heap) (I : ObjM s.heap x dx C mA) (hg : PySem.W.plainGet K C name = true) (hh : PySem.W.hasDictIn K C = true)
    (ha : PySem.W.findIn K (.ref C) name = some none) (hv : mA name = some v) (hv' : PySem.W.handedIn v = true) (h : Q v { s with toks := s.toks + 1 }) :
    wpAny (model prog w) A (getAttr (.ref x) name expr) Q E s := by
  obtain ⟨od, J, hl⟩ := I.look
  exact PySem.W.get_value X J (PySem.W.plainGet_of hg).1 (PySem.W.findObj_own hh ha rfl (by rw [hl, hv])) hv' h
theorem get_meth {pl : Sem Bool} {Q : Value × List Value → Shared → Prop} (X : K.In s.heap) (I : ObjM s.heap x dx C mA) (hg : PySem.W.plainGet K C name = true)
    (hf : PySem.W.findIn K (.ref C) name = some (some (.ref f))) (ht : PySem.W.isFn K (.ref f) = true) (hv : mA name = none) (h : Q (.ref f, [.ref x]) s) :
    wpAny (model prog w) A (getMethod (.ref x) name pl) Q E s := by
  obtain ⟨od, J, hl⟩ := I.look
  exact PySem.W.method_fn X J (PySem.W.plainGet_of hg).1 (PySem.W.plainGet_of hg).2 hf (beq_iff_eq.mp ht) (by show (PySem.W.lookIn name od).map (·.isSome) = some false; rw [hl, hv]; rfl) h
theorem set_map {ns : List Str} {Q : Unit → Shared → Prop} (X : K.In s.heap) (I : ObjM s.heap x dx C mA)
    (hs : PySem.W.findIn K (.ref C) "__setattr__" = some (some (.builtin "object.__setattr__"))) (hp : PySem.W.plainOver K C = true) (ht : PySem.W.takerIn K C name = some none) (hh : PySem.W.hasDictIn K C = true)
    (hw : PySem.Within mA ns) (hsz : ns.length ≤ sizeLine)
    (h : ∀ h', ObjM h' x dx C (fun y => if y = name then some v else mA y) → Heap.SameBut dx s.heap h' → Q () { s with heap := h', toks := s.toks + 2 }) :
    wpAny (model prog w) A (setAttr (.ref x) name v) Q E s := by
  obtain ⟨od, J, hl⟩ := I.look
  refine PySem.W.set_plain X J hs (PySem.W.osa_open (s := { s with toks := s.toks + 1 }) (r := none) X J hp ht fun b => ?_)
  obtain ⟨cd, hc, hd'⟩ := PySem.W.any_some hh
  have hx : s.heap.get? x = some ⟨.ref C, some dx, .plain, #[]⟩ := I.obj
  refine wpAny_bind (wpAny_pure (wpAny_bind (wpAny_bind (wpAny_loadPart hx (wpAny_bind (PySem.W.Looks.here (s := { s with toks := s.toks + 1 }) (PySem.W.looks_clsIn X hc) ?_))))))
  rw [hd']
  refine wpAny_pure (a := some dx) (wpAny_bind (wpAny_pure (wpAny_bind ?_)))
  refine wpAny_nsSet1 (s := { s with toks := s.toks + 1 }) I.ns fun h' hn2 hs2 => ?_
  obtain ⟨oD, esD, epD, hoD, hdD, hcD⟩ := hn2.count (PySem.Within.cons name v hw)
  refine wpAny_bind (wpAny_lookBehind hoD (by rw [hdD]; exact pastItsLine_dict (Nat.le_trans hcD (by rw [List.length_cons]; omega))) ?_)
  exact wpAny_pure (h _ ⟨(hs2.2 _ (Ne.symm I.ne)).trans I.obj, hn2, I.ne⟩ hs2)
theorem make_map {R : Result → Shared → Prop} {vs : List Value} {kw : List (Str × Value)} (X : K.In s.heap) (hm : PySem.W.makesIn K C = true)
    (hi : PySem.W.findIn K (.ref C) "__init__" = some (some (.ref f))) (hf : PySem.W.typeIn K (.ref f) = some (.type "function"))
    (h : codeAny (model prog w) (A.under (.builtin "type.__call__" ⟨.ref C :: vs, kw⟩)) (.call (.ref f) ⟨.ref (s.heap.objs.size + 1) :: vs, kw⟩) (PySem.W.InitBack (s.heap.objs.size + 1) R)
      { s with heap := (s.heap.push PySem.W.emptyDict).push (PySem.W.instObj C s.heap.objs.size) }) :
    codeAny (model prog w) A (.call (.ref C) ⟨vs, kw⟩) R s := by
  obtain ⟨hh, g, d, t, os⟩ := s
  exact PySem.W.make_core (PySem.W.makes_of X hm) (PySem.W.looks_findIn X hi) (fun self => PySem.W.bind_fn X self hf) (.inl rfl) h
end
def putF (f : Str) (v : V) : List (Str × V) → List (Str × V)
  | [] => [(f, v)]
  | (g, x) :: r => if g = f then (g, v) :: r else (g, x) :: putF f v r
theorem lookup_putF (f g : Str) (v : V) : ∀ fs : List (Str × V), (putF f v fs).lookup g = if g = f then some v else fs.lookup g
  | [] => by
    show List.lookup g [(f, v)] = _
    by_cases h : g = f
    · have hb : (g == f) = true := beq_iff_eq.mpr h
      simp only [List.lookup, hb, if_pos h]
    · have hb : (g == f) = false := beq_eq_false_iff_ne.mpr h
      simp only [List.lookup, hb, if_neg h]
  | (k, x) :: r => by
    have ih := lookup_putF f g v r
    rw [show putF f v ((k, x) :: r) = (if k = f then (k, v) :: r else (k, x) :: putF f v r) from rfl]
    by_cases hk : k = f
    · rw [if_pos hk]
      by_cases h : g = k
      · have hb : (g == k) = true := beq_iff_eq.mpr h
        simp only [List.lookup, hb, if_pos (h.trans hk)]
      · have hb : (g == k) = false := beq_eq_false_iff_ne.mpr h
        simp only [List.lookup, hb, if_neg (fun e : g = f => h (e.trans hk.symm))]
    · rw [if_neg hk]
      by_cases h : g = k
      · have hb : (g == k) = true := beq_iff_eq.mpr h
        simp only [List.lookup, hb, if_neg (fun e : g = f => hk (h.symm.trans e))]
      · have hb : (g == k) = false := beq_eq_false_iff_ne.mpr h
        simp only [List.lookup, hb]
        exact ih
theorem keys_putF (f : Str) (v : V) : ∀ fs : List (Str × V), f ∈ (putF f v fs).map (·.1) ∧ ∀ g, g ∈ fs.map (·.1) → g ∈ (putF f v fs).map (·.1)
  | [] => ⟨by simp [putF], fun g h => by simp at h⟩
  | (k, x) :: r => by
    obtain ⟨i1, i2⟩ := keys_putF f v r
    rw [show putF f v ((k, x) :: r) = (if k = f then (k, v) :: r else (k, x) :: putF f v r) from rfl]
    by_cases hk : k = f
    · rw [if_pos hk]
      subst hk
      exact ⟨by simp, fun g h => by simpa using h⟩
    · rw [if_neg hk]
      refine ⟨?_, fun g h => ?_⟩
      · rw [List.map_cons]
        exact List.mem_cons_of_mem _ i1
      · rw [List.map_cons] at h ⊢
        rcases List.mem_cons.mp h with e | e
        · exact List.mem_cons.mpr (.inl e)
        · exact List.mem_cons_of_mem _ (i2 g e)
theorem length_putF (f : Str) (v : V) : ∀ fs : List (Str × V), (putF f v fs).length ≤ fs.length + 1
  | [] => by simp [putF]
  | (k, x) :: r => by
    have ih := length_putF f v r
    rw [show putF f v ((k, x) :: r) = (if k = f then (k, v) :: r else (k, x) :: putF f v r) from rfl]
    by_cases hk : k = f
    · rw [if_pos hk, List.length_cons, List.length_cons]; omega
    · rw [if_neg hk, List.length_cons, List.length_cons]; omega
theorem RelO.some_of {v : V} {o : Option Value} (r : RelO (some v) o) : ∃ u, o = some u ∧ RelV v u := by
  cases o with
  | none => exact (show False from r).elim
  | some u => exact ⟨u, rfl, r⟩
theorem RelO.none_of {o : Option Value} (r : RelO none o) : o = none := by
  cases o with
  | none => rfl
  | some u => exact (show False from r).elim
theorem handed_of {v : V} {u : Value} (r : RelV v u) : PySem.W.handedIn u = true := by
  cases v with
  | non => cases (show u = Value.none from r); rfl
  | bl b => cases (show u = Value.bool b from r); rfl
  | int i => obtain ⟨t, e⟩ := (show ∃ t, u = Value.int i t from r); cases e; rfl
  | str x => obtain ⟨t, e⟩ := (show ∃ t, u = Value.str x t from r); cases e; rfl
  | byt b => obtain ⟨t, e⟩ := (show ∃ t, u = Value.bytes b t from r); cases e; rfl
  | flt b => obtain ⟨t, e⟩ := (show ∃ t, u = Value.float b t from r); cases e; rfl
  | ref a => cases (show u = Value.ref a from r); rfl
  | ty n => cases (show u = Value.type n from r); rfl
section
variable {P : Program} {w : World} {H H' : Hp} {h h' : Heap} {a C dx : Addr} {fs fs' : List (Str × V)}
theorem ins_get (hok : HOk P w H h) (e : H a = some (.ins C dx fs)) : ∃ mA, ObjM h a dx C mA ∧ (∀ f, RelO (fs.lookup f) (mA f)) ∧ PySem.Within mA (fs.map (·.1)) ∧ fs.length ≤ 1000 ∧ H dx = some (.own a) := by
  obtain ⟨d, z, ne, ob, mA, n, r, q⟩ := (show ObjOk P w H h a (.ins C dx fs) from hok a _ e)
  exact ⟨mA, ⟨ob, n, ne⟩, r, q, z, d⟩
end
structure Cls (K : PySem.W.Frag) (C : Addr) : Prop where
  pg : PySem.W.plainGet K C Str.empty = true
  hd : PySem.W.hasDictIn K C = true
  po : PySem.W.plainOver K C = true
  sa : PySem.W.findIn K (.ref C) "__setattr__" = some (some (.builtin "object.__setattr__"))
theorem Cls.get {K : PySem.W.Frag} {C : Addr} (c : Cls K C) (f : Str) : PySem.W.plainGet K C f = true := c.pg
def NoAttr (K : PySem.W.Frag) (C : Addr) (f : Str) : Prop := PySem.W.findIn K (.ref C) f = some none
theorem NoAttr.taker {K : PySem.W.Frag} {C : Addr} {f : Str} (n : NoAttr K C f) : PySem.W.takerIn K C f = some none := by
  unfold PySem.W.takerIn
  rw [show PySem.W.findIn K (.ref C) f = some none from n]
  rfl
structure Meth (K : PySem.W.Frag) (C : Addr) (m : Str) (f : Addr) : Prop where
  at_ : PySem.W.findIn K (.ref C) m = some (some (.ref f))
  fn : PySem.W.isFn K (.ref f) = true
  kp : PySem.W.keepIn K (.ref f) = true
section
variable {X : Cx} {pins : List (Addr × Obj)} {σ : St} {H : Hp} {s : Shared} {a C dx : Addr} {fs : List (Str × V)} {f : Str} {v : V} {A : Around} {E : Value → Shared → Prop}
theorem getattr_ok {b : Bool} {Q : Value → Shared → Prop} (I : Inv X pins σ H s) (e : H a = some (.ins C dx fs)) (c : Cls X.K C) (n : NoAttr X.K C f) (l : fs.lookup f = some v)
    (h : ∀ u s', Inv X pins σ H s' → RelV v u → Q u s') : wpAny (model X.prog X.w) A (getAttr (.ref a) f b) Q E s := by
  obtain ⟨mA, O, r, _, _, _⟩ := ins_get I.hok e
  obtain ⟨u, hu, ru⟩ := RelO.some_of (v := v) (o := mA f) (by rw [← l]; exact r f)
  exact get_map I.kIn O (c.get f) c.hd n hu (handed_of ru) (h u _ (I.tok _) ru)
theorem getmeth_ok {m : Str} {g : Addr} {pl : Sem Bool} {Q : Value × List Value → Shared → Prop} (I : Inv X pins σ H s) (e : H a = some (.ins C dx fs)) (c : Cls X.K C) (k : Meth X.K C m g) (l : fs.lookup m = none)
    (h : Q (.ref g, [.ref a]) s) : wpAny (model X.prog X.w) A (getMethod (.ref a) m pl) Q E s := by
  obtain ⟨mA, O, r, _, _, _⟩ := ins_get I.hok e
  have hn : mA m = none := RelO.none_of (by rw [← l]; exact r m)
  exact get_meth I.kIn O (c.get m) k.at_ k.fn hn h
theorem setattr_ok {y : V} {u : Value} {Q : Unit → Shared → Prop} (I : Inv X pins σ H s) (e : H a = some (.ins C dx fs)) (c : Cls X.K C) (n : NoAttr X.K C f) (hl : fs.length < 1000) (ry : RelV y u)
    (h : ∀ s', Inv X pins σ (upd H a (.ins C dx (putF f y fs))) s' → Q () s') : wpAny (model X.prog X.w) A (setAttr (.ref a) f u) Q E s := by
  obtain ⟨mA, O, r, wi, _, ho⟩ := ins_get I.hok e
  have hz : (fs.map (·.1)).length ≤ sizeLine := by rw [List.length_map, sizeLine_eq]; omega
  refine set_map I.kIn O c.sa c.po n.taker c.hd wi hz fun h' O' sb => h _ ?_
  have hd : ∃ o, h'.get? dx = some o := let ⟨o, _, _, e', _⟩ := O'.ns; ⟨o, e'⟩
  refine I.write (x := a) (e := dx) (by rw [e]; exact True.intro) (.inr ho) (fun b q hb z => (sb.2 b hb).trans z) hd ?_
  refine ⟨by rw [upd_ne O.ne]; exact ho, ?_, O.ne, O'.obj, _, O'.ns, fun g => ?_, fun g hg => ?_⟩
  · have := length_putF f y fs; omega
  · show RelO ((putF f y fs).lookup g) (if g = f then some u else mA g)
    rw [lookup_putF]
    by_cases q : g = f
    · rw [if_pos q, if_pos q]; exact ry
    · rw [if_neg q, if_neg q]; exact r g
  · by_cases q : g = f
    · rw [q]; exact (keys_putF f y fs).1
    · refine (keys_putF f y fs).2 g (wi g fun z => hg ?_)
      show (if g = f then some u else mA g) = none
      rw [if_neg q]; exact z
theorem Inv.made (I : Inv X pins σ H s) : Inv X pins σ (upd (upd H s.heap.objs.size (.own (s.heap.objs.size + 1))) (s.heap.objs.size + 1) (.ins C s.heap.objs.size []))
    { s with heap := (s.heap.push PySem.W.emptyDict).push (PySem.W.instObj C s.heap.objs.size) } := by
  have e1 : (s.heap.push PySem.W.emptyDict).get? s.heap.objs.size = some PySem.W.emptyDict := Heap.get?_push_size s.heap rfl
  have e2 : ((s.heap.push PySem.W.emptyDict).push (PySem.W.instObj C s.heap.objs.size)).get? (s.heap.objs.size + 1) = some (PySem.W.instObj C s.heap.objs.size) := by
    have := Heap.get?_push_size (s.heap.push PySem.W.emptyDict) (o := PySem.W.instObj C s.heap.objs.size) rfl
    rwa [Heap.size_push] at this
  have e3 : (s.heap.push PySem.W.emptyDict).Ns s.heap.objs.size (fun _ => none) := ⟨PySem.W.emptyDict, #[], _, e1, rfl, (fun e he => absurd he (by simp)), fun _ => rfl⟩
  have I1 := I.laid (a := s.heap.objs.size) (o := .own (s.heap.objs.size + 1)) (h' := s.heap.push PySem.W.emptyDict) (t' := s.toks) (fun b u q => Heap.get?_push_of_some _ q) (Nat.le_refl _) ⟨_, e1⟩
  refine I1.laid (a := s.heap.objs.size + 1) (o := .ins C s.heap.objs.size []) (t' := s.toks) (fun b u q => Heap.get?_push_of_some _ q) (Nat.le_of_eq (Heap.size_push _ _)) ?_
  have ne : s.heap.objs.size ≠ s.heap.objs.size + 1 := Nat.ne_of_lt (Nat.lt_succ_self _)
  refine ⟨by rw [upd_ne ne, upd_same], Nat.zero_le _, ne, e2, fun _ => none, (Heap.Ns1.of_empty e3).at fun o q => Heap.get?_push_of_some _ q, fun _ => True.intro, fun y hy => absurd rfl hy⟩
theorem attr_of {prog : Program} {w : World} {env : Env} {e : Expr} {f : Str} {pos : Pos} {s : Shared} {Q : Value → Shared → Prop} (hb : attributeBase e f env (eval e env) = eval e env)
    (h : wpAny (model prog w) A (eval e env) (fun o s₁ => wpAny (model prog w) A (getAttr o f true) Q E s₁) E s) : wpAny (model prog w) A (eval (.Attribute e f pos) env) Q E s :=
  Attribute_any_ h (by rw [arm_eval_Attribute, hb])
end
def tFld (K : PySem.W.Frag) (ta : TE) (f : Str) : TE := fun σ H Q => ta σ H fun x H1 => ∃ a C dx fs v, x = .ref a ∧ H1 a = some (.ins C dx fs) ∧ Cls K C ∧ NoAttr K C f ∧ fs.lookup f = some v ∧ Q v H1
def sFld (K : PySem.W.Frag) (ta tv : TE) (f : Str) : TS := fun D σ H => tv σ H fun y H1 => ta σ H1 fun x H2 => ∃ a C dx fs, x = .ref a ∧ H2 a = some (.ins C dx fs) ∧ Cls K C ∧ NoAttr K C f ∧ fs.length < 1000 ∧
  D.nx σ (upd H2 a (.ins C dx (putF f y fs)))
section
variable {X : Cx} {o e value : Expr} {f : Str} {pos pos' tpos : Pos} {ta tv : TE}
theorem pe_fld (he : PE X e ta) (hb : attributeBase e f X.env (eval e X.env) = eval e X.env) : PE X (.Attribute e f pos) (tFld X.K ta f) := by
  intro pins s σ H Q I h
  refine attr_of hb (thn (he pins s σ H _ I h) fun u s1 ⟨x, H1, I1, rx, a, C, dx, fs, v, ex, ea, c, n, l, q⟩ => ?_)
  subst ex
  obtain rfl : u = Value.ref a := rx
  exact getattr_ok I1 ea c n l fun u' s2 I2 ru => ⟨v, H1, I2, ru, q⟩
theorem ps_fld (ha : PE X o ta) (hv : PE X value tv) (hs : swapsWith value (some (.Attribute o f pos')) pos.line X.env = pure false) : PS X (.Assign [.Attribute o f pos'] value pos) (sFld X.K ta tv f) := by
  intro pins s σ H D I h
  refine plainObj_wpAny_Assign_Attribute (thn (hv pins s σ H _ I h) fun u s1 ⟨y, H1, I1, ry, q⟩ => thn (ha pins s1 σ H1 _ I1 q) fun ov s2 ⟨x, H2, I2, rx, a, C, dx, fs, ex, ea, c, n, l, q2⟩ => ?_) hs
  subst ex
  obtain rfl : ov = Value.ref a := rx
  exact setattr_ok I2 ea c n l ry fun s3 I3 => ⟨σ, _, I3, q2⟩
theorem methcall_of {pl : Sem Bool} {m : Str} {apos : Pos} {args : List Expr} {pins : List (Addr × Obj)} {s : Shared} {σ : St} {H : Hp} {Q : Value → Shared → Prop} {te : TE} (he : PE X e te) (I : Inv X pins σ H s)
    (h : te σ H fun x H1 => ∃ a C dx fs g, x = .ref a ∧ H1 a = some (.ins C dx fs) ∧ Cls X.K C ∧ Meth X.K C m g ∧ fs.lookup m = none ∧
      ∀ s1, Inv X pins σ H1 s1 → wpAny (model X.prog X.w) X.A (callWith pos (.ref g) [.ref a] (backTo pos (starEach args X.env)) (backToKw pos (keywordEach [] X.env))) Q X.xe s1)
    (ht : eval (.Call (.Attribute e m apos) args [] pos) X.env = (do
      let ov ← eval e X.env
      standAt apos.atName
      let (f, first) ← holding [ov] (getMethod ov m pl)
      callWith pos f first (backTo pos (starEach args X.env)) (backToKw pos (keywordEach [] X.env)))) :
    wpAny (model X.prog X.w) X.A (eval (.Call (.Attribute e m apos) args [] pos) X.env) Q X.xe s := by
  refine PySem.W.methodCall_KW (pl := pl) (thn (he pins s σ H _ I h) fun u s1 ⟨x, H1, I1, rx, a, C, dx, fs, g, ex, ea, c, k, l, q⟩ => ?_) ht
  subst ex
  obtain rfl : u = Value.ref a := rx
  exact getmeth_ok I1 ea c k l (q s1 I1)
end
end L2
namespace L2
open PySem PySem.Spec PyProof.Rows
structure Room (k : Nat) (A : Around) : Prop where
  hd : A.handled = none
  dp : A.depth + 3 * k + 5 < recursionLimit
  un : A.units + 16 * k + 200 < cLine
theorem Room.mono {j k : Nat} {A : Around} (r : Room k A) (h : j ≤ k) : Room j A := ⟨r.hd, by have := r.dp; omega, by have := r.un; omega⟩
theorem Room.deeper {k : Nat} {A : Around} (r : Room (k + 1) A) (env : Env) : Room k (A.deeper env) :=
  ⟨r.hd, by have := r.dp; show A.depth + 1 + 3 * k + 5 < _; omega, by have := r.un; show A.units + 3 + 16 * k + 200 < _; omega⟩
theorem make_depth {A : Around} {C : Addr} {us : List Value} {kw : List (Str × Value)} : (A.under (.builtin "type.__call__" ⟨.ref C :: us, kw⟩)).depth = A.depth + 1 := by
  first | rfl | simp [Around.under, Code.weight, Code.isCreation, Code.isGuard, Code.isCaller, Code.frames, Code.isFrame, guardIds]
theorem make_units {A : Around} {C : Addr} {us : List Value} {kw : List (Str × Value)} : (A.under (.builtin "type.__call__" ⟨.ref C :: us, kw⟩)).units = A.units + 1 := by
  first | rfl | simp [Around.under, Code.cUnits, Code.frames, Code.isFrame]
theorem Room.make {k : Nat} {A : Around} (r : Room (k + 1) A) (C : Addr) (us : List Value) (kw : List (Str × Value)) : Room k (A.under (.builtin "type.__call__" ⟨.ref C :: us, kw⟩)) :=
  ⟨r.hd, by have := r.dp; rw [make_depth]; omega, by have := r.un; rw [make_units]; omega⟩
theorem Room.depth {k : Nat} {A : Around} (r : Room k A) : A.depth < recursionLimit := by have := r.dp; omega
theorem Room.units {k : Nat} {A : Around} (r : Room k A) : A.units + 64 < cLine := by have := r.un; omega
def tNil : TA := fun _ H Q => Q [] H
def tCons (ta : TE) (tr : TA) : TA := fun σ H Q => ta σ H fun x H1 => tr σ H1 fun xs H2 => Q (x :: xs) H2
section
variable {X : Cx} {e : Expr} {es : List Expr} {te : TE} {t : TA} {pos : Pos}
theorem pa_nil : PA X [] tNil := fun _ _ _ _ H Q I h => Calls.spliced_nil ⟨[], H, I, .nil, h⟩
theorem pa_cons (ha : PE X e te) (hr : PA X es t) (hs : starEach (e :: es) X.env = (false, eval e X.env) :: starEach es X.env := by rfl) : PA X (e :: es) (tCons te t) := by
  intro pos pins s σ H Q I h
  rw [hs]
  show wpAny _ _ (spliced ((false, eval e X.env) :: backTo pos (starEach es X.env))) _ _ s
  refine Calls.spliced_cons (thn (ha pins s σ H _ I h) fun u s1 ⟨x, H1, I1, r1, q1⟩ => ?_)
  exact thn (hr pos pins s1 σ H1 _ I1 q1) fun us s2 ⟨xs, H2, I2, r2, q2⟩ => ⟨x :: xs, H2, I2, .cons r1 r2, q2⟩
def tTup (t : TA) : TE := fun σ H Q => t σ H fun xs H1 => xs.length ≤ sizeLine ∧ ∀ p, H1 p = none → Q (.ref p) (upd H1 p (.tup xs))
def tLst (t : TA) : TE := fun σ H Q => t σ H fun xs H1 => xs.length ≤ sizeLine ∧ ∀ p, H1 p = none → Q (.ref p) (upd H1 p (.lst xs))
theorem pe_tup {x1} (h : PA X es t) : PE X (.Tuple es x1 pos) (tTup t) := by
  intro pins s σ H Q I hq
  refine wpAny_Tuple_spliced (thn (h pos pins s σ H _ I hq) fun us s1 ⟨xs, H1, I1, r, z, q⟩ => ⟨by rw [← r.length]; exact z, ?_⟩)
  have hf : H1 s1.heap.objs.size = none := I1.hok.fresh (Nat.le_refl _)
  refine ⟨.ref s1.heap.objs.size, upd H1 s1.heap.objs.size (.tup xs), I1.laid (t' := s1.toks) (fun b u e => Heap.get?_push_of_some _ e) (Nat.le_refl _) ?_, rfl, q _ hf⟩
  exact ⟨z, us, r, ⟨_, Heap.get?_push_size _ rfl, rfl, _, rfl⟩⟩
theorem pe_lst (h : PA X es t) : PE X (.List es pos) (tLst t) := by
  intro pins s σ H Q I hq
  refine wpAny_List_spliced (thn (h pos pins s σ H _ I hq) fun us s1 ⟨xs, H1, I1, r, z, q⟩ => ⟨by rw [← r.length]; exact z, ?_⟩)
  have hf : H1 s1.heap.objs.size = none := I1.hok.fresh (Nat.le_refl _)
  refine ⟨.ref s1.heap.objs.size, upd H1 s1.heap.objs.size (.lst xs), I1.laid (t' := s1.toks) (fun b u e => Heap.get?_push_of_some _ e) (Nat.le_refl _) ?_, rfl, q _ hf⟩
  exact ⟨z, us, 0, r, Heap.get?_push_size _ rfl⟩
end
abbrev Sp := List V → Hp → VK → XK → Prop
abbrev CXT := List Env → Hp → Shared → XK → Value → Shared → Prop
structure Env0 (P : Program) (w : World) (K : PySem.W.Frag) (mg : Str → Option Value) (base : Heap) (A : Around) (outer : List Env) (s : Shared) (H : Hp) : Prop where
  frames : A.frames = some outer
  mod : Mod K mg base
  bs : ∀ b o, base.get? b = some o → s.heap.get? b = some o ∧ H b = none
  bsz : base.objs.size ≤ s.heap.objs.size
  funs : s.heap.FunFrames base outer
  frf : ∀ b ∈ frs outer, H b = none
  hok : HOk P w H s.heap
  bare : AllBare s.gens
def CE (outer : List Env) (P : Program) (w : World) (H : Hp) (s : Shared) (Q : VK) (u : Value) (s' : Shared) : Prop :=
  ∃ v H', s'.os = s.os ∧ AllBare s'.gens ∧ Un (frs outer) [] H H' s.heap s'.heap ∧ HOk P w H' s'.heap ∧ RelV v u ∧ Q v H'
def CR (CX : CXT) (outer : List Env) (P : Program) (w : World) (H : Hp) (s : Shared) (Q : VK) (E : XK) (r : Result) (s' : Shared) : Prop :=
  match r with
  | .ok (.ret u) => CE outer P w H s Q u s'
  | .ok _ => False
  | .error e => CX outer H s E e s'
structure FnOk (P : Program) (w : World) (K : PySem.W.Frag) (mg : Str → Option Value) (base : Heap) (CX : CXT) (k : Nat) (f : Addr) (fd : FuncData) (ps : List Str) (sp : Sp) : Prop where
  len : ∀ vs H Q E, sp vs H Q E → vs.length = ps.length
  run : ∀ (A : Around) (outer : List Env) (s : Shared) (H : Hp) (args : Args) (us : List Value) (vs : List V) (Q : VK) (E : XK), Room k A → Env0 P w K mg base A outer s H → BindsTo s fd args (ps.zip us) → Vals vs us → sp vs H Q E →
    codeAny (model P w) A (.call (.ref f) args) (CR CX outer P w H s Q E) s
theorem Env0.make {P : Program} {w : World} {K : PySem.W.Frag} {mg : Str → Option Value} {base : Heap} {A : Around} {outer : List Env} {s : Shared} {H : Hp} (e : Env0 P w K mg base A outer s H) (C : Addr) (us : List Value) (kw : List (Str × Value)) :
    Env0 P w K mg base (A.under (.builtin "type.__call__" ⟨.ref C :: us, kw⟩)) outer s H := ⟨by first | exact e.frames | (simpa [Around.under, Code.envs, Code.isFrame, pushEnvs] using e.frames), e.mod, e.bs, e.bsz, e.funs, e.frf, e.hok, e.bare⟩
section
variable {X : Cx} {pins : List (Addr × Obj)} {σ : St} {H : Hp} {s s' : Shared}
theorem Inv.env0 (I : Inv X pins σ H s) : Env0 X.prog X.w X.K X.mg X.base X.A X.stack s H :=
  ⟨I.ok.frames, I.ok.mod, I.bs, Nat.le_trans I.ok.bsz I.sz, I.stack, I.stkFree, I.hok, I.bare⟩
theorem Inv.after {Q : VK} {u : Value} (I : Inv X pins σ H s) (h : CE X.stack X.prog X.w H s Q u s') : EP X pins σ Q u s' := by
  obtain ⟨v, H', os, bare, un, hok, r, q⟩ := h
  obtain ⟨hh, g, d, t, os'⟩ := s'
  obtain rfl : os' = s.os := os
  exact ⟨v, H', I.call (h' := hh) (g' := g) (d' := d) (t' := t) (ch := []) un hok bare (fun b z => absurd z (by simp)), r, q⟩
end
def tCall (sp : Sp) (dvs : List V) (E : XK) (t : TA) : TE := fun σ H Q => t σ H fun vs H1 => sp (vs ++ dvs) H1 Q E
def tMeth (C : Addr) (m : Str) (sp : Sp) (dvs : List V) (E : XK) (ta : TE) (t : TA) : TE := fun σ H Q => ta σ H fun x H1 => ∃ a dx fs, x = .ref a ∧ H1 a = some (.ins C dx fs) ∧ fs.lookup m = none ∧
  t σ H1 fun vs H2 => sp (x :: (vs ++ dvs)) H2 Q E
def tMake (C : Addr) (sp : Sp) (dvs : List V) (E : XK) (t : TA) : TE := fun σ H Q => t σ H fun vs H1 => ∀ x dx, H1 x = none → H1 dx = none → dx ≠ x →
  sp (.ref x :: (vs ++ dvs)) (upd (upd H1 dx (.own x)) x (.ins C dx [])) (fun v H2 => v = .non ∧ Q (.ref x) H2) E
def Binds (K : PySem.W.Frag) (fd : FuncData) (ps : List Str) (ds : List Value) : Prop :=
  ∀ (s : Shared) (us : List Value), K.In s.heap → (us ++ ds).length = ps.length → BindsTo s fd ⟨us, []⟩ (ps.zip (us ++ ds))
theorem Binds.all {K : PySem.W.Frag} {fd : FuncData} {ps : List Str} (h : ∀ us : List Value, us.length = ps.length → bindArgs fd ⟨us, []⟩ = pure (ps.zip us)) : Binds K fd ps [] := fun s us _ hl => by
  rw [List.append_nil] at hl ⊢
  exact .of_eq (h us hl)
def Passes (CX : CXT) (X : Cx) (E : XK) : Prop := ∀ (pins : List (Addr × Obj)) (σ : St) (H : Hp) (s : Shared) (e : Value) (s' : Shared), Inv X pins σ H s → CX X.stack H s E e s' → X.xe e s'
section
variable {X : Cx} {CX : CXT} {k : Nat} {f C : Addr} {fd : FuncData} {ps : List Str} {sp : Sp} {dvs : List V} {ds : List Value} {E : XK} {x m : Str} {p pos apos : Pos} {e o : Expr} {es : List Expr} {ta : TE} {t : TA}
theorem run_fn {pins : List (Addr × Obj)} {σ : St} {H : Hp} {s : Shared} {Q : VK} {us : List Value} {vs : List V} (F : FnOk X.prog X.w X.K X.mg X.base CX k f fd ps sp) (hr : Room k X.A) (hb : Binds X.K fd ps ds) (hd : Vals dvs ds) (hx : Passes CX X E)
    (I : Inv X pins σ H s) (r : Vals vs us) (h : sp (vs ++ dvs) H Q E) : wpAny (model X.prog X.w) X.A (call (.ref f) us) (EP X pins σ Q) X.xe s := by
  have r2 : Vals (vs ++ dvs) (us ++ ds) := r.append hd
  have hl : (us ++ ds).length = ps.length := by rw [← r2.length]; exact F.len _ _ _ _ h
  refine wpAny_call (codeAny_mono (F.run X.A X.stack s H ⟨us, []⟩ (us ++ ds) (vs ++ dvs) Q E hr I.env0 (hb s us I.kIn hl) r2 h) fun r s' hq => ?_)
  cases r with
  | error e => exact hx pins σ H s e s' I hq
  | ok fl =>
    cases fl with
    | ret u => exact I.after hq
    | next => exact False.elim hq
    | brk => exact False.elim hq
    | cont => exact False.elim hq
theorem pe_call (F : FnOk X.prog X.w X.K X.mg X.base CX k f fd ps sp) (hr : Room k X.A) (hg : Gl X x) (hm : X.mg x = some (.ref f)) (hk : PySem.W.keepIn X.K (.ref f) = true) (hb : Binds X.K fd ps ds) (hd : Vals dvs ds) (hx : Passes CX X E)
    (ha : PA X (e :: es) t) (hdb : (x == ("__debug__" : Str)) = false := by decide) (he : starEach (e :: es) X.env = (false, eval e X.env) :: starEach es X.env := by rfl) (hpl : (backTo pos (starEach es X.env)).any (·.1) = false := by rfl) :
    PE X (.Call (.Name x p) (e :: es) [] pos) (tCall sp dvs E t) := by
  intro pins s σ H Q I h
  refine wpAny_Call_Name_kw (ld_glob I hg hm ?_ hdb)
  refine PySem.W.callWith_K (h₀ := X.base) I.ok.mod.kin hk (thn (ha pos pins s σ H _ I h) fun us s1 ⟨vs, H1, I1, r, q⟩ => ⟨I1.kIn, ?_⟩) he hpl
  exact run_fn F hr hb hd hx I1 r q
theorem pe_meth {pl : Sem Bool} (he : PE X o ta) (c : Cls X.K C) (hm : Meth X.K C m f) (F : FnOk X.prog X.w X.K X.mg X.base CX k f fd ps sp) (hr : Room k X.A) (hb : Binds X.K fd ps ds) (hd : Vals dvs ds) (hx : Passes CX X E) (ha : PA X (e :: es) t)
    (hst : starEach (e :: es) X.env = (false, eval e X.env) :: starEach es X.env := by rfl) (hpl : (backTo pos (starEach es X.env)).any (·.1) = false := by rfl)
    (ht : eval (.Call (.Attribute o m apos) (e :: es) [] pos) X.env = (do
      let ov ← eval o X.env
      standAt apos.atName
      let (f, first) ← holding [ov] (getMethod ov m pl)
      callWith pos f first (backTo pos (starEach (e :: es) X.env)) (backToKw pos (keywordEach [] X.env))) := by rfl) :
    PE X (.Call (.Attribute o m apos) (e :: es) [] pos) (tMeth C m sp dvs E ta t) := by
  intro pins s σ H Q I h
  refine PySem.W.methodCall_KW (pl := pl) (thn (he pins s σ H _ I h) fun u s1 ⟨x, H1, I1, rx, a, dx, fs, ex, ea, l, q⟩ => ?_) ht
  subst ex
  obtain rfl : u = Value.ref a := rx
  refine getmeth_ok I1 ea c hm l ?_
  refine PySem.W.callWith_K (first := [.ref a]) (h₀ := X.base) I.ok.mod.kin hm.kp (thn (ha pos pins s1 σ H1 _ I1 q) fun us s2 ⟨vs, H2, I2, r, q2⟩ => ⟨I2.kIn, ?_⟩) hst hpl
  exact run_fn (us := .ref a :: us) (vs := .ref a :: vs) F hr hb hd hx I2 (.cons rfl r) q2
structure Mk (K : PySem.W.Frag) (C f : Addr) : Prop where
  makes : PySem.W.makesIn K C = true
  init : PySem.W.findIn K (.ref C) "__init__" = some (some (.ref f))
  fn : PySem.W.isFn K (.ref f) = true
  kp : PySem.W.keepIn K (.ref C) = true
theorem run_make {pins : List (Addr × Obj)} {σ : St} {H : Hp} {s : Shared} {Q : VK} {us : List Value} {vs : List V} (M : Mk X.K C f) (F : FnOk X.prog X.w X.K X.mg X.base CX k f fd ps sp) (hr : Room (k + 1) X.A) (hb : Binds X.K fd ps ds) (hd : Vals dvs ds)
    (hx : Passes CX X E) (I : Inv X pins σ H s) (r : Vals vs us)
    (h : ∀ x dx, H x = none → H dx = none → dx ≠ x → sp (.ref x :: (vs ++ dvs)) (upd (upd H dx (.own x)) x (.ins C dx [])) (fun v H2 => v = .non ∧ Q (.ref x) H2) E) :
    wpAny (model X.prog X.w) X.A (call (.ref C) us) (EP X pins σ Q) X.xe s := by
  have hq := h (s.heap.objs.size + 1) s.heap.objs.size (I.hok.fresh (Nat.le_succ _)) (I.hok.fresh (Nat.le_refl _)) (Nat.ne_of_lt (Nat.lt_succ_self _))
  have I2 := Inv.made (C := C) I
  have r2 : Vals (V.ref (s.heap.objs.size + 1) :: (vs ++ dvs)) (Value.ref (s.heap.objs.size + 1) :: (us ++ ds)) := .cons rfl (r.append hd)
  have hl : (Value.ref (s.heap.objs.size + 1) :: us ++ ds).length = ps.length := by
    have e := r2.length
    rw [F.len _ _ _ _ hq] at e
    exact e.symm
  refine wpAny_call (make_map (f := f) I.kIn M.makes M.init (beq_iff_eq.mp M.fn) (codeAny_mono (F.run _ X.stack _ _ ⟨Value.ref (s.heap.objs.size + 1) :: us, []⟩ (Value.ref (s.heap.objs.size + 1) :: (us ++ ds)) _ _ E (hr.make C us [])
    (I2.env0.make C us []) (hb _ (Value.ref (s.heap.objs.size + 1) :: us) I2.kIn hl) r2 hq) fun r s' hq' => ?_))
  cases r with
  | error e => exact hx pins σ _ _ e s' I2 hq'
  | ok fl =>
    cases fl with
    | ret u =>
      obtain ⟨v, H', I3, rv, ev, q3⟩ := I2.after hq'
      subst ev
      exact ⟨rv, ⟨V.ref (s.heap.objs.size + 1), H', I3, rfl, q3⟩⟩
    | next => exact False.elim hq'
    | brk => exact False.elim hq'
    | cont => exact False.elim hq'
theorem pe_make0 (M : Mk X.K C f) (F : FnOk X.prog X.w X.K X.mg X.base CX k f fd ps sp) (hr : Room (k + 1) X.A) (hg : Gl X x) (hm : X.mg x = some (.ref C)) (hb : Binds X.K fd ps ds) (hd : Vals dvs ds) (hx : Passes CX X E)
    (hdb : (x == ("__debug__" : Str)) = false := by decide) : PE X (.Call (.Name x p) [] [] pos) (tMake C sp dvs E tNil) := by
  intro pins s σ H Q I h
  refine wpAny_Call_Name_kw (ld_glob I hg hm ?_ hdb)
  exact PySem.W.callWith_K0 I.kIn M.kp (run_make (us := []) M F hr hb hd hx I .nil h)
end
def PK (X : Cx) (kws : List Keyword) (t : TA) : Prop :=
  ∀ (pos : Pos) (pins : List (Addr × Obj)) (s : Shared) (σ : St) (H : Hp) (Q : List V → Hp → Prop), Inv X pins σ H s → t σ H Q → wpAny (model X.prog X.w) X.A (evalAll ((backToKw pos (keywordEach kws X.env)).map (·.2))) (AP X pins σ Q) X.xe s
section
variable {X : Cx} {CX : CXT} {k : Nat} {f C : Addr} {fd : FuncData} {ps ks : List Str} {sp : Sp} {E : XK} {x m : Str} {p pos apos kpos : Pos} {e o : Expr} {es : List Expr} {kws : List Keyword} {te ta : TE} {t tk : TA} {nm : Option Str}
theorem pk_nil : PK X [] tNil := fun _ _ _ _ H Q I h => wpAny_evalAll_nil ⟨[], H, I, .nil, h⟩
theorem pk_cons (ha : PE X e te) (hr : PK X kws t) : PK X (⟨nm, e, kpos⟩ :: kws) (tCons te t) := by
  intro pos pins s σ H Q I h
  show wpAny _ _ (evalAll ((do let v ← eval e X.env; standAt pos; pure v) :: (backToKw pos (keywordEach kws X.env)).map (·.2))) _ _ s
  refine wpAny_evalAll_cons (wpAny_bind (thn (ha pins s σ H _ I h) fun u s1 ⟨x, H1, I1, r1, q1⟩ => wpAny_bind (wpAny_standAt (wpAny_pure ?_))))
  exact thn (hr pos pins s1 σ H1 _ I1 q1) fun us s2 ⟨xs, H2, I2, r2, q2⟩ => ⟨x :: xs, H2, I2, .cons r1 r2, q2⟩
variable {g : List Value → List Value → List Value} {gV : List V → List V → List V}
end
structure FnScope (N P : List Str) (sc : Scope) : Prop where
  kind : sc.kind = .function
  co : sc.isCoroutine = false
  gen : sc.isGenerator = false
  nd : N.Nodup
  pre : N.take P.length = P
  par : ∀ x ∈ P, sc.names.lookup x = some .local ∨ sc.names.lookup x = some .cell
  nofree : ∀ y ∈ sc.names, y.2 ≠ .free
theorem bindL_out {kindOf : Str → Option NameKind} {x : Str} : ∀ {binds : List (Str × Value)} {m : Str → Option Value}, (∀ v, (x, v) ∉ binds) → bindL kindOf binds m x = m x
  | [], _, _ => rfl
  | (n, v) :: r, m, h => by
    unfold bindL
    rw [bindL_out fun w hw => h w (List.mem_cons_of_mem _ hw)]
    split
    · have : x ≠ n := by rintro rfl; exact h v List.mem_cons_self
      simp [this]
    · rfl
theorem bindC_out {kindOf : Str → Option NameKind} {x : Str} : ∀ {binds : List (Str × Value)} {m : Str → Option Value}, (∀ v, (x, v) ∉ binds) → bindC kindOf binds m x = m x
  | [], _, _ => rfl
  | (n, v) :: r, m, h => by
    unfold bindC
    rw [bindC_out fun w hw => h w (List.mem_cons_of_mem _ hw)]
    split
    · rfl
    · have : x ≠ n := by rintro rfl; exact h v List.mem_cons_self
      simp [this]
theorem bindL_get {kindOf : Str → Option NameKind} {x : Str} {v : Value} : ∀ {P : List Str} {vs : List Value} {i : Nat} {m : Str → Option Value}, P.Nodup → P[i]? = some x → vs[i]? = some v → kindOf x = some .local →
    bindL kindOf (P.zip vs) m x = some v
  | [], _, _, _, _, h, _, _ => by simp at h
  | _ :: _, [], _, _, _, _, h, _ => by simp at h
  | p :: P, w :: vs, 0, m, nd, h1, h2, hk => by
    simp at h1 h2; subst h1; subst h2
    show bindL kindOf ((p, w) :: P.zip vs) m p = _
    unfold bindL
    rw [bindL_out fun v hv => (List.nodup_cons.mp nd).1 (List.of_mem_zip hv).1, if_pos hk]
    simp
  | p :: P, w :: vs, i + 1, m, nd, h1, h2, hk => by
    show bindL kindOf ((p, w) :: P.zip vs) m x = _
    unfold bindL
    exact bindL_get (i := i) (List.nodup_cons.mp nd).2 (by simpa using h1) (by simpa using h2) hk
theorem bindC_get {kindOf : Str → Option NameKind} {x : Str} {v : Value} : ∀ {P : List Str} {vs : List Value} {i : Nat} {m : Str → Option Value}, P.Nodup → P[i]? = some x → vs[i]? = some v → kindOf x ≠ some .local →
    bindC kindOf (P.zip vs) m x = some v
  | [], _, _, _, _, h, _, _ => by simp at h
  | _ :: _, [], _, _, _, _, h, _ => by simp at h
  | p :: P, w :: vs, 0, m, nd, h1, h2, hk => by
    simp at h1 h2; subst h1; subst h2
    show bindC kindOf ((p, w) :: P.zip vs) m p = _
    unfold bindC
    rw [bindC_out fun v hv => (List.nodup_cons.mp nd).1 (List.of_mem_zip hv).1, if_neg hk]
    simp
  | p :: P, w :: vs, i + 1, m, nd, h1, h2, hk => by
    show bindC kindOf ((p, w) :: P.zip vs) m x = _
    unfold bindC
    exact bindC_get (i := i) (List.nodup_cons.mp nd).2 (by simpa using h1) (by simpa using h2) hk
def start (N : List Str) (vs : List V) : St := vs.map some ++ List.replicate (N.length - vs.length) none
def cxOf (CX : CXT) (P : Program) (w : World) (K : PySem.W.Frag) (mg : Str → Option Value) (base : Heap) (N : List Str) (qual : Str) (scope : Scope) (f : Addr) (cd : Value) (A : Around) (outer : List Env) (s : Shared) (H : Hp) (E : XK) : Cx where
  prog := P
  w := w
  K := K
  mg := mg
  base := base
  A := A.deeper (envOfC qual scope s.heap.objs.size f cd)
  N := N
  sZ := s
  HZ := H
  env := envOfC qual scope s.heap.objs.size f cd
  outer := outer
  stack := envOfC qual scope s.heap.objs.size f cd :: outer
  ex := []
  calm := true
  fn := fun _ => true
  pn := []
  xe := fun e s' => wpAny (model P w) (A.deeper (envOfC qual scope s.heap.objs.size f cd)) (leaving (envOfC qual scope s.heap.objs.size f cd) e) (fun _ s'' => CX outer H s E e s'') (fun e' s'' => CX outer H s E e' s'') s'
theorem cell_has {sc : Scope} {n : Nat} {x : Str} (h : sc.names.lookup x = some .cell) : ∃ c, (cellsFrom n sc.names []).lookup x = some c := by
  have q := PySem.W.cellsFrom_some sc.names n [] (.inl h)
  exact Option.isSome_iff_exists.mp q
theorem inv_start {CX : CXT} {P : Program} {w : World} {K : PySem.W.Frag} {mg : Str → Option Value} {base : Heap} {N ps : List Str} {qual : Str} {scope : Scope} {f : Addr} {cd : Value} {A : Around} {outer : List Env} {s s1 : Shared} {H : Hp} {E : XK} {us : List Value} {vs : List V}
    (S : FnScope N ps scope) (hd : A.handled = none) (e0 : Env0 P w K mg base A outer s H) (hl : vs.length = ps.length) (r : Vals vs us)
    (x : InCallC s s.heap.objs.size (bindL (envOfC qual scope s.heap.objs.size f cd).kindOf (ps.zip us) fun _ => none) (cellsFrom (s.heap.objs.size + 1) scope.names []) (bindC (envOfC qual scope s.heap.objs.size f cd).kindOf (ps.zip us) fun _ => none) s1) :
    Inv (cxOf CX P w K mg base N qual scope f cd A outer s H E) [] (start N vs) H s1 := by
  have hpl : ps.length ≤ N.length := by have := congrArg List.length S.pre; rw [List.length_take] at this; omega
  obtain ⟨h1, tk, rfl, hk⟩ := x.done
  have noA : ∀ b : Addr, b ∉ (cxOf CX P w K mg base N qual scope f cd A outer s H E).ex := fun b z => absurd (show b ∈ ([] : List Addr) from z) (by simp)
  refine ⟨⟨e0.mod, S.kind, rfl, rfl, Nat.le_refl _, fun y z c h1 h2 => ?_, fun y hy => ?_, fun y c _ h => ?_, fun _ => hd, Around.frames_deeper e0.frames, .inr ⟨rfl, rfl⟩, fun b z => absurd z (noA b), e0.bs, e0.bsz, fun b _ _ => noA b, fun b z => absurd z (noA b), e0.funs, e0.frf⟩,
    rfl, e0.bare, Un.kept hk, ⟨_, x.toInCall.ns, fun i y v h1 h2 h3 => ?_⟩, fun y c h => ⟨_, x.cell y c h⟩, e0.hok.fresh (Nat.le_refl _), fun y c h => ?_, fun p hp => absurd (show p ∈ ([] : List (Addr × Obj)) from hp) (by simp), e0.hok.kept hk, ?_⟩
  · exact name_of_addr x.apart (PySem.mem_of_lookup h1) (PySem.mem_of_lookup h2)
  · have hy : scope.names.lookup y = some .cell ∨ scope.names.lookup y = some .free := hy
    rcases hy with hy | hy
    · exact cell_has hy
    · exact absurd rfl (S.nofree _ (PySem.mem_of_lookup hy))
  · exact Nat.le_of_lt (x.above y c (PySem.mem_of_lookup h))
  · have hi : i < vs.length := by
      unfold start at h2
      by_cases hi : i < vs.length
      · exact hi
      · rw [List.getElem?_append_right (by simpa using hi)] at h2
        rw [List.getElem?_replicate] at h2
        split at h2 <;> cases h2
    have ha : vs[i]? = some v := by
      unfold start at h2
      rw [List.getElem?_append_left (by simpa using hi), List.getElem?_map] at h2
      cases e : vs[i]? with
      | none => rw [e] at h2; cases h2
      | some a => rw [e] at h2; cases h2; rfl
    obtain ⟨u, hu, rv⟩ := r.get ha
    have hp : ps[i]? = some y := by
      rw [← S.pre, List.getElem?_take_of_lt (by omega)]; exact h1
    have ndP : ps.Nodup := by rw [← S.pre]; exact S.nd.sublist (List.take_sublist _ _)
    refine ⟨u, rv, ?_⟩
    rcases S.par y (List.mem_of_getElem? hp) with k | k
    · exact .inl ⟨k, bindL_get ndP hp hu k⟩
    · obtain ⟨c, e⟩ := cell_has (n := s.heap.objs.size + 1) k
      refine .inr ⟨.inl k, c, e, ?_⟩
      have q := x.cell y c e
      rw [bindC_get ndP hp hu (by show scope.names.lookup y ≠ _; rw [k]; decide)] at q
      exact q
  · exact e0.hok.fresh (Nat.le_of_lt (x.above y c (PySem.mem_of_lookup h)))
  · unfold start
    show _ = N.length
    rw [List.length_append, List.length_map, List.length_replicate]
    omega
theorem fn_of {CX : CXT} {P : Program} {w : World} {K : PySem.W.Frag} {mg : Str → Option Value} {base : Heap} {k : Nat} {f : Addr} {name qual : Str} {params : Arguments} {body : List Stmt} {scope : Scope} {dV kV doc pm cdv ct oc : Value} {an od : Option Addr}
    {osl : Array (Option Value)} {N ps : List Str} {sp : Sp} (lk : K.lookup f = some ⟨oc, od, .func (PySem.W.fnOf name qual params body scope dV kV doc pm an cdv ct), osl⟩) (hcd : PySem.W.codeIn K cdv qual = true) (S : FnScope N ps scope)
    (len : ∀ vs H Q E, sp vs H Q E → vs.length = ps.length)
    (hbody : ∀ (A : Around) (outer : List Env) (s : Shared) (H : Hp) (vs : List V) (Q : VK) (E : XK), Room k (A.deeper (envOfC qual scope s.heap.objs.size f cdv)) → sp vs H Q E →
      ∃ t, PSs (cxOf CX P w K mg base N qual scope f cdv A outer s H E) body t ∧ t { nx := fun _ H' => Q .non H', rt := Q } (start N vs) H) :
    FnOk P w K mg base CX (k + 1) f (PySem.W.fnOf name qual params body scope dV kV doc pm an cdv ct) ps sp := by
  refine ⟨len, fun A outer s H args us vs Q E hr e0 hb r hsp => ?_⟩
  have hl := len _ _ _ _ hsp
  have KX : K.In s.heap := e0.mod.kin.keeps fun b o e => (e0.bs b o e).1
  have lim : s.heap.NoLimit := e0.mod.nolimit.keeps fun b o e => (e0.bs b o e).1
  have hkind : ∀ y ∈ ps.zip us, scope.names.lookup y.1 = some .local ∨ (scope.names.lookup y.1 = some .cell ∧ ((cellsFrom (s.heap.objs.size + 1) scope.names []).lookup y.1).isSome = true) := fun ⟨n, v⟩ hy => by
    rcases S.par n (List.of_mem_zip hy).1 with q | q
    · exact .inl q
    · exact .inr ⟨q, PySem.W.cellsFrom_some _ _ _ (.inl q)⟩
  refine codeAny_call_function hr.depth (KX _ _ lk) rfl S.co S.gen rfl (PySem.W.codeRec_of KX hcd) (hb _ _ _ _ ?_)
  refine wpAny_newFunctionEnv_cells S.kind hkind fun env he s1 x => ?_
  subst he
  refine ⟨lim.keeps x.toInCall.keep, codeAny_func ?_⟩
  obtain ⟨t, ht, hq⟩ := hbody A outer s H vs Q E (hr.deeper _) hsp
  have I : Inv (cxOf CX P w K mg base N qual scope f cdv A outer s H E) [] (start N vs) H s1 := inv_start S hr.hd e0 hl r x
  refine wpAny_mono (ht [] s1 (start N vs) H _ I hq) (fun fl s' hs => ?_) fun e s' hs => hs
  have fin : ∀ {σ' : St} {H' : Hp} {v : V} {u : Value}, Inv (cxOf CX P w K mg base N qual scope f cdv A outer s H E) [] σ' H' s' → RelV v u → Q v H' → CE outer P w H s Q u s' :=
    fun {σ' H' v u} J rv q => ⟨v, H', J.os, J.bare, J.base, J.hok, rv, q⟩
  cases fl with
  | ret u =>
    obtain ⟨v, σ', H', J, rv, q⟩ := hs
    exact fin J rv q
  | next =>
    obtain ⟨σ', H', J, q⟩ := hs
    exact fin (v := V.non) (u := Value.none) J rfl q
  | brk =>
    obtain ⟨_, _, _, q⟩ := hs
    exact False.elim q
  | cont =>
    obtain ⟨_, _, _, q⟩ := hs
    exact False.elim q
end L2
namespace L2
open PySem PySem.Spec PyProof.Rows
section
variable {X : Cx} {x : Str} {p pos : Pos} {e : Expr} {es : List Expr} {t : TA} {id T : String} {r : List V → Hp → VK → Prop}
def tCB (r : List V → Hp → VK → Prop) (t : TA) : TE := fun σ H Q => t σ H fun vs H1 => r vs H1 Q
theorem pe_callB (hc : CallR X (.builtin id) r) (hg : Gl X x) (hm : X.mg x = none) (hv : bootBuiltins x = some (.builtin id)) (ha : PA X (e :: es) t) (hn : x ≠ "__name__" := by decide) (hdb : (x == ("__debug__" : Str)) = false := by decide)
    (he : starEach (e :: es) X.env = (false, eval e X.env) :: starEach es X.env := by rfl) (hpl : (backTo pos (starEach es X.env)).any (·.1) = false := by rfl) : PE X (.Call (.Name x p) (e :: es) [] pos) (tCB r t) := by
  intro pins s σ H Q I h
  refine wpAny_Call_Name_kw (ld_blt I hg hm hv ?_ hn hdb)
  exact PyProof.Rows.callWith_builtin1 (thn (ha pos pins s σ H _ I h) fun us s1 ⟨vs, H1, I1, r1, q1⟩ => hc pins s1 σ H1 vs us Q I1 r1 q1) he hpl
theorem pe_callTy (hc : CallR X (.type T) r) (hg : Gl X x) (hm : X.mg x = none) (hv : bootBuiltins x = some (.type T)) (ha : PA X (e :: es) t) (hn : x ≠ "__name__" := by decide) (hdb : (x == ("__debug__" : Str)) = false := by decide)
    (he : starEach (e :: es) X.env = (false, eval e X.env) :: starEach es X.env := by rfl) (hpl : (backTo pos (starEach es X.env)).any (·.1) = false := by rfl) : PE X (.Call (.Name x p) (e :: es) [] pos) (tCB r t) := by
  intro pins s σ H Q I h
  refine wpAny_Call_Name_kw (ld_blt I hg hm hv ?_ hn hdb)
  exact PyProof.Rows.callWith_type1 (thn (ha pos pins s σ H _ I h) fun us s1 ⟨vs, H1, I1, r1, q1⟩ => hc pins s1 σ H1 vs us Q I1 r1 q1) he hpl
end
end L2
namespace HT
open PySem PyProof.Rows
section
variable {prog : Program} {w : World} {A : Around} {E : Value → Shared → Prop} {s : Shared}
def sIx (n d : Nat) : Option Int → Nat
  | none => d
  | some v => if v < 0 then (v + (n : Int)).toNat else min v.toNat n
theorem sIx_le (n d : Nat) (hd : d ≤ n) (o : Option Int) : sIx n d o ≤ n := by
  cases o with
  | none => exact hd
  | some v =>
    show (if v < 0 then (v + (n : Int)).toNat else min v.toNat n) ≤ n
    by_cases hv : v < 0
    · rw [if_pos hv]; omega
    · rw [if_neg hv]; exact Nat.min_le_right _ _
theorem clip_eq (v : Int) (n d : Nat) : (if v < 0 then max (v + (n : Int)) 0 else min v (n : Int)) = ((sIx n d (some v) : Nat) : Int) := by
  show (if v < 0 then max (v + (n : Int)) 0 else min v (n : Int)) = (((if v < 0 then (v + (n : Int)).toNat else min v.toNat n) : Nat) : Int)
  by_cases hv : v < 0
  · simp only [if_pos hv]; omega
  · simp only [if_neg hv]; omega
theorem adjust_gen (lo hi : Option Int) (n : Nat) : Builtin.Slice.sliceAdjust lo hi 1 (n : Int) = (((sIx n 0 lo : Nat) : Int), ((sIx n n hi : Nat) : Int)) := by
  have h1 : ¬ ((1 : Int) < 0) := by omega
  unfold Builtin.Slice.sliceAdjust
  simp only [h1, if_false]
  refine Prod.ext ?_ ?_
  · cases lo with
    | none => rfl
    | some v => exact clip_eq v n 0
  · cases hi with
    | none => rfl
    | some v => exact clip_eq v n n
theorem places_gen (i j : Nat) : Builtin.Slice.slicePlaces (i : Int) (j : Int) 1 = j - i := by
  unfold Builtin.Slice.slicePlaces
  have h1 : (1 : Int) > 0 := by omega
  simp only [h1, if_true, Int.ediv_one]
  split <;> omega
theorem slicePart_ {v : Value} {o : Option Int} {Q : Option Int → Shared → Prop} (p : IsPart v o) (h : Q o s) : wpAny (model prog w) A (Builtin.Slice.slicePartIndex v) Q E s := by
  cases p with
  | none => exact slicePart_none h
  | int i t => exact slicePart_int h
theorem sliceApplied_gen {sl : Addr} {vl vu : Value} {lo hi : Option Int} {n : Nat} {Q : Int × Int × Nat → Shared → Prop} (hs : s.heap.IsSliceOf sl vl vu .none) (pl : IsPart vl lo) (pu : IsPart vu hi)
    (h : Q (((sIx n 0 lo : Nat) : Int), 1, sIx n n hi - sIx n 0 lo) s) : wpAny (model prog w) A (Builtin.Slice.sliceApplied (.ref sl) (pure (n : Int))) Q E s := by
  obtain ⟨os, hos, hcs, hds⟩ := id hs
  unfold Builtin.Slice.sliceApplied Builtin.Slice.sliceFields
  refine wpAny_bind (wpAny_bind (wpAny_field hos hds (x := vl) rfl (wpAny_bind (wpAny_field hos hds (x := vu) rfl (wpAny_bind (wpAny_field hos hds (x := .none) rfl (wpAny_pure ?_)))))))
  refine wpAny_bind (slicePart_none ?_)
  show wpAny _ _ (if ((1 : Int) == 0) = true then _ else _) _ _ s
  rw [if_neg (by decide)]
  refine wpAny_bind (slicePart_ pl (wpAny_bind (slicePart_ pu (wpAny_bind (wpAny_pure ?_)))))
  show wpAny _ _ (match Builtin.Slice.sliceAdjust lo hi 1 (n : Int) with | (lo, hi) => pure (lo, (1 : Int), Builtin.Slice.slicePlaces lo hi 1)) _ _ s
  rw [adjust_gen lo hi n]
  show wpAny _ _ (pure (((sIx n 0 lo : Nat) : Int), (1 : Int), Builtin.Slice.slicePlaces ((sIx n 0 lo : Nat) : Int) ((sIx n n hi : Nat) : Int) 1)) _ _ s
  rw [places_gen]
  exact wpAny_pure h
theorem pick_gen (xs : Array Value) (i k : Nat) : ((List.range k).filterMap fun (m : Nat) => xs[((i : Int) + (m : Int) * 1).toNat]?).toArray = ((xs.toList.drop i).take k).toArray := by
  have e : (fun (m : Nat) => xs[((i : Int) + (m : Int) * 1).toNat]?) = fun m => xs[i + m]? := by
    funext m
    have : ((i : Int) + (m : Int) * 1).toNat = i + m := by omega
    rw [this]
  rw [e]
  have := pick_run xs i k
  rw [List.filterMap_map] at this
  have e2 : ((fun x => xs[x]?) ∘ fun x => i + x) = fun m => xs[i + m]? := rfl
  rw [e2] at this
  rw [this]
theorem getItem_tuple_cut {t sl : Addr} {items : Array Value} {vl vu : Value} {lo hi : Option Int} {Q : Value → Shared → Prop} (ht : IsTup s.heap t items) (hs : s.heap.IsSliceOf sl vl vu .none) (pl : IsPart vl lo) (pu : IsPart vu hi)
    (hw : ¬ (sIx items.size 0 lo = 0 ∧ sIx items.size items.size hi = items.size))
    (h : Q (.ref s.heap.objs.size) { s with heap := s.heap.push { cls := .type "tuple", data := .seq ((items.toList.drop (sIx items.size 0 lo)).take (sIx items.size items.size hi - sIx items.size 0 lo)).toArray } })
    (hsz : items.size ≤ sizeLine) : wpAny (model prog w) A (getItem (.ref t) (.ref sl)) Q E s := by
  have htake : sizeOk (.seq ((items.toList.drop (sIx items.size 0 lo)).take (sIx items.size items.size hi - sIx items.size 0 lo)).toArray) := by
    show ((items.toList.drop (sIx items.size 0 lo)).take (sIx items.size items.size hi - sIx items.size 0 lo)).toArray.size ≤ sizeLine
    rw [List.size_toArray, List.length_take, List.length_drop, Array.length_toList]
    omega
  have hj : sIx items.size items.size hi ≤ items.size := sIx_le _ _ (Nat.le_refl _) hi
  obtain ⟨os, hos, hcs, hds⟩ := id hs
  have hTs : s.TypeIs (.ref sl) "slice" := ⟨os, hos, hcs⟩
  unfold getItem
  try with_reducible refine wpAny_holding ?_
  first | refine wpAny_bind (wpAny_pure ?_) | skip
  refine wpAny_bind (wpAny_sequenceKey ht.typeIs (by decide) ?_)
  refine wpAny_bind (wpAny_callSpecial?_slot (name := Str.ofString "__getitem__") ht.typeIs PyProof.Rows.slot_tuple_getitem
    (wpAny_call_entry PyProof.Rows.slot_tuple_getitem ht.typeIs entry_tuple_getitem ?_ (args_tuple_getitem _ _)))
  show wpAny _ _ (Builtin.Tuple.tupleItemsOf (.ref t) >>= _) _ _ s
  refine wpAny_bind (tupleItemsOf_ ht ?_)
  refine wpAny_bind (wpAny_typeOf hTs ?_)
  rw [if_pos (by decide)]
  refine wpAny_bind (sliceApplied_gen hs pl pu ?_)
  have hno : ¬ ((((sIx items.size 0 lo : Nat) : Int) == 0 && (1 : Int) == 1 && (sIx items.size items.size hi - sIx items.size 0 lo) == items.size) = true) := by
    intro q
    rw [Bool.and_eq_true, Bool.and_eq_true] at q
    have q1 : ((sIx items.size 0 lo : Nat) : Int) = 0 := eq_of_beq q.1.1
    have q2 : sIx items.size items.size hi - sIx items.size 0 lo = items.size := eq_of_beq q.2
    exact hw ⟨by omega, by omega⟩
  show wpAny _ _ (if (((sIx items.size 0 lo : Nat) : Int) == 0 && (1 : Int) == 1 && (sIx items.size items.size hi - sIx items.size 0 lo) == items.size) = true then _ else _) _ _ s
  rw [if_neg hno, pick_gen]
  first
    | exact wpAny_bind (m := Builtin.Tuple.tupleExact _) (wpAny_newObj_type (wpAny_pure ⟨_, rfl, wpAny_pure h⟩) htake)
    | exact wpAny_bind (m := Builtin.Tuple.tupleExact _) (wpAny_newObj_type (wpAny_bind (wpAny_pure (wpAny_pure ⟨_, rfl, wpAny_pure h⟩))) htake)
    | exact wpAny_bind (wpAny_bind (m := Builtin.Tuple.tupleExact _) (wpAny_newObj_type (wpAny_pure (wpAny_pure ⟨_, rfl, wpAny_pure h⟩)) htake))
    | exact wpAny_bind (wpAny_bind (m := Builtin.Tuple.tupleExact _) (wpAny_newObj_type (wpAny_pure ⟨_, rfl, wpAny_pure h⟩) htake))
end
end HT
namespace L2
open PySem PySem.Spec PyProof.Rows
abbrev TO := St → Hp → (Option Int → Hp → Prop) → Prop
def PO (X : Cx) (e : Option Expr) (t : TO) : Prop :=
  ∀ (pins : List (Addr × Obj)) (s : Shared) (σ : St) (H : Hp) (Q : Option Int → Hp → Prop), Inv X pins σ H s → t σ H Q →
    wpAny (model X.prog X.w) X.A (evalPart e X.env) (fun u s' => ∃ o H', Inv X pins σ H' s' ∧ IsPart u o ∧ Q o H') X.xe s
def tNoPart : TO := fun _ H Q => Q none H
def tPart (t : TE) : TO := fun σ H Q => t σ H fun x H1 => ∃ i, x = .int i ∧ Q (some i) H1
theorem intsAre_of {ns : List Int} : ∀ {us : List Value}, Vals (ns.map V.int) us → IntsAre us ns := by
  induction ns with
  | nil => intro us r; rw [List.map_nil] at r; cases r; exact .nil
  | cons n ns ih =>
    intro us r
    rw [List.map_cons] at r
    cases r with
    | cons r1 r2 =>
      obtain ⟨t, e⟩ := r1
      subst e
      exact .cons n t (ih r2)
section
variable {X : Cx} {e : Expr} {te : TE} {lo hi : Option Expr} {tl th : TO} {pos p2 : Pos}
theorem po_none : PO X none tNoPart := by
  intro pins s σ H Q I h
  rw [evalPart_none]
  exact wpAny_pure ⟨none, H, I, .none, h⟩
theorem po_some (h : PE X e te) : PO X (some e) (tPart te) := by
  intro pins s σ H Q I hw
  rw [evalPart_some]
  refine thn (h pins s σ H _ I hw) fun u s1 ⟨x, H1, I1, r1, q1⟩ => ?_
  obtain ⟨i, rfl, q⟩ := q1
  obtain ⟨t, rfl⟩ := r1
  exact ⟨some i, H1, I1, .int i t, q⟩
def SlR (X : Cx) (r : V → Option Int → Option Int → Hp → VK → Prop) : Prop :=
  ∀ (pins : List (Addr × Obj)) (s : Shared) (σ : St) (H : Hp) (x : V) (v vl vu : Value) (lo hi : Option Int) (sl : Addr) (Q : VK), Inv X pins σ H s → RelV x v → s.heap.IsSliceOf sl vl vu .none → IsPart vl lo → IsPart vu hi → r x lo hi H Q →
    ∃ T id, typeLookup (.type T) "__getitem__" = pure (some (.builtin id)) ∧ s.TypeIs v T ∧ wpAny (model X.prog X.w) X.A (getItem v (.ref sl)) (EP X pins σ Q) X.xe s
theorem SlR.or {r r' : V → Option Int → Option Int → Hp → VK → Prop} (h : SlR X r) (h' : SlR X r') : SlR X (fun x lo hi H Q => r x lo hi H Q ∨ r' x lo hi H Q) := by
  intro pins s σ H x v vl vu lo hi sl Q I rx hs pl pu q
  rcases q with q | q
  · exact h pins s σ H x v vl vu lo hi sl Q I rx hs pl pu q
  · exact h' pins s σ H x v vl vu lo hi sl Q I rx hs pl pu q
def tSl (r : V → Option Int → Option Int → Hp → VK → Prop) (te : TE) (tl th : TO) : TE := fun σ H Q => te σ H fun x H1 => tl σ H1 fun l H2 => th σ H2 fun u H3 => r x l u H3 Q
theorem pe_slice {r : V → Option Int → Option Int → Hp → VK → Prop} (hr : SlR X r) (he : PE X e te) (hl : PO X lo tl) (hu : PO X hi th) : PE X (.Subscript e (.Slice lo hi none p2) pos) (tSl r te tl th) := by
  intro pins s σ H Q I h
  refine Subscript_ (thn (he pins s σ H _ I h) fun v s1 ⟨x, H1, I1, r1, q1⟩ => ?_)
  refine wpAny_Slice (thn (hl pins s1 σ H1 _ I1 q1) fun vl s2 ⟨l, H2, I2, pl, q2⟩ => thn (hu pins s2 σ H2 _ I2 q2) fun vu s3 ⟨u, H3, I3, pu, q3⟩ => ?_)
  rw [evalPart_none]
  refine wpAny_pure ?_
  have I4 : Inv X pins σ H3 { s3 with heap := s3.heap.push { cls := .type "slice", data := .fields #[vl, vu, .none] } } := I3.kept (t' := s3.toks) fun b ob q => Heap.get?_push_of_some _ q
  obtain ⟨T, id, hT, ht, hg⟩ := hr pins { s3 with heap := s3.heap.push { cls := .type "slice", data := .fields #[vl, vu, .none] } } σ H3 x v vl vu l u s3.heap.objs.size Q I4 r1 (Heap.IsSliceOf.new ..) pl pu q3
  show wpAny (model X.prog X.w) X.A (subscriptTail e (.Slice lo hi none p2) v (.ref s3.heap.objs.size)) (EP X pins σ Q) X.xe { s3 with heap := s3.heap.push { cls := .type "slice", data := .fields #[vl, vu, .none] } }
  exact tail_any (ops := [.ref s3.heap.objs.size, v]) ht hT hg (by with_unfolding_all rfl)
def cutV (xs : List V) (lo hi : Option Int) : List V := (xs.drop (HT.sIx xs.length 0 lo)).take (HT.sIx xs.length xs.length hi - HT.sIx xs.length 0 lo)
theorem cutV_length (xs : List V) (lo hi : Option Int) : (cutV xs lo hi).length ≤ xs.length := by
  unfold cutV
  rw [List.length_take, List.length_drop]
  omega
def rSlT (K : PySem.W.Frag) : V → Option Int → Option Int → Hp → VK → Prop := fun x lo hi H Q => ∃ a xs, x = .ref a ∧ SqT K H a xs ∧
  ¬ (HT.sIx xs.length 0 lo = 0 ∧ HT.sIx xs.length xs.length hi = xs.length) ∧ ∀ p, H p = none → Q (.ref p) (upd H p (.tup (cutV xs lo hi)))
theorem sl_tup : SlR X (rSlT X.K) := by
  intro pins s σ H x v vl vu lo hi sl Q I rx hs pl pu h
  obtain ⟨a, xs, rfl, hx, hw, q⟩ := h
  cases rx
  obtain ⟨its, r, ht, hz⟩ := I.tuple hx
  have hlen : its.toArray.size = xs.length := by rw [List.size_toArray]; exact r.length.symm
  refine ⟨"tuple", _, PyProof.Rows.slot_tuple_getitem.lookup, ht.typeIs, ?_⟩
  refine HT.getItem_tuple_cut ht hs pl pu (by rw [hlen]; exact hw) ?_ (by rw [hlen]; exact hz)
  rw [hlen]
  refine ⟨.ref s.heap.objs.size, _, I.laid (t' := s.toks) (o := .tup (cutV xs lo hi)) (fun b ob q => Heap.get?_push_of_some _ q) (Nat.le_refl _) ?_, rfl, q _ (I.hok.fresh (Nat.le_refl _))⟩
  exact ⟨Nat.le_trans (cutV_length xs lo hi) hz, _, (r.drop (HT.sIx xs.length 0 lo)).take (HT.sIx xs.length xs.length hi - HT.sIx xs.length 0 lo), IsTup.new _ _⟩
end
end L2
namespace L2
open PySem PySem.Spec PyProof.Rows
def ixN (n : Nat) (i : Int) : Option Nat := if 0 ≤ i then (if i < n then some i.toNat else none) else if -(n : Int) ≤ i then some (i + n).toNat else none
def atI {α : Type} (xs : List α) (i : Int) : Option α := (ixN xs.length i).bind fun j => xs[j]?
theorem ixN_seq {n : Nat} {i : Int} {j : Nat} (h : ixN n i = some j) : seqIndex? i n = some j ∧ j < n ∧ -(n : Int) ≤ i ∧ i < n := by
  unfold ixN at h
  by_cases h0 : 0 ≤ i
  · rw [if_pos h0] at h
    by_cases h1 : i < n
    · rw [if_pos h1] at h
      have e : i.toNat = j := Option.some.inj h
      exact ⟨by rw [seqIndex_of h0 h1, e], by omega, by omega, h1⟩
    · rw [if_neg h1] at h; cases h
  · rw [if_neg h0] at h
    by_cases h1 : -(n : Int) ≤ i
    · rw [if_pos h1] at h
      have e : (i + n).toNat = j := Option.some.inj h
      exact ⟨by rw [seqIndex_neg (by omega) h1, e], by omega, h1, by omega⟩
    · rw [if_neg h1] at h; cases h
theorem atI_get {α : Type} {xs : List α} {i : Int} {v : α} (h : atI xs i = some v) : ∃ j, seqIndex? i xs.length = some j ∧ xs[j]? = some v ∧ j < xs.length ∧ -(xs.length : Int) ≤ i ∧ i < xs.length := by
  unfold atI at h
  cases e : ixN xs.length i with
  | none => rw [e] at h; cases h
  | some j =>
    rw [e] at h
    obtain ⟨h1, h2, h3, h4⟩ := ixN_seq e
    exact ⟨j, h1, h, h2, h3, h4⟩
theorem atI_nat {α : Type} {xs : List α} {j : Nat} {v : α} (h : xs[j]? = some v) : atI xs (j : Int) = some v := by
  have hj : j < xs.length := (List.getElem?_eq_some_iff.mp h).1
  have e : ixN xs.length (j : Int) = some j := by
    unfold ixN
    rw [if_pos (by omega), if_pos (by omega)]; simp
  unfold atI; rw [e]; exact h
def PlainIx (b : Expr) : Prop := ∀ o i, subscripted b false o i = operate [o, i] (getItem o i)
def IxR (X : Cx) (r : R2) : Prop :=
  ∀ (value slice : Expr) (pins : List (Addr × Obj)) (s : Shared) (σ : St) (H : Hp) (x y : V) (v u : Value) (Q : VK), Inv X pins σ H s → RelV x v → RelV y u → r x y H Q →
    subscripted slice false v u = operate [v, u] (getItem v u) → wpAny (model X.prog X.w) X.A (subscriptTail value slice v u) (EP X pins σ Q) X.xe s
def MtR (X : Cx) (id : String) (r : V → List V → Hp → VK → Prop) : Prop :=
  ∀ (pins : List (Addr × Obj)) (s : Shared) (σ : St) (H : Hp) (x : V) (xs : List V) (v : Value) (us : List Value) (Q : VK), Inv X pins σ H s → RelV x v → Vals xs us → r x xs H Q →
    wpAny (model X.prog X.w) X.A (call (.builtin id) (v :: us)) (EP X pins σ Q) X.xe s
section
variable {X : Cx} {a b : Expr} {ta tb : TE} {pos : Pos}
theorem IxR.or {r r' : R2} (h : IxR X r) (h' : IxR X r') : IxR X (fun x y H Q => r x y H Q ∨ r' x y H Q) := by
  intro value slice pins s σ H x y v u Q I rx ry q hs
  rcases q with q | q
  · exact h value slice pins s σ H x y v u Q I rx ry q hs
  · exact h' value slice pins s σ H x y v u Q I rx ry q hs
theorem pe_ix {r : R2} (hr : IxR X r) (ha : PE X a ta) (hb : PE X b tb) (hs : PlainIx b) : PE X (.Subscript a b pos) (tOp r ta tb) := by
  intro pins s σ H Q I h
  exact Subscript_ (binT ha hb I h fun v u s2 x y H2 I2 rx ry q => hr a b pins s2 σ H2 x y v u Q I2 rx ry q (hs _ _))
def rIxL (K : PySem.W.Frag) : R2 := fun x y H Q => ∃ p xs i v, x = .ref p ∧ y = .int i ∧ SqL K H p xs ∧ atI xs i = some v ∧ Q v H
def rIxT (K : PySem.W.Frag) : R2 := fun x y H Q => ∃ p xs i v, x = .ref p ∧ y = .int i ∧ SqT K H p xs ∧ atI xs i = some v ∧ Q v H
def rIxS : R2 := fun x y H Q => ∃ z i c, x = .str z ∧ y = .int i ∧ z.length ≤ sizeLine ∧ atI z.cps.toList i = some c ∧ Q (.str ⟨#[c]⟩) H
theorem ix_list : IxR X (rIxL X.K) := by
  intro value slice pins s σ H x y v u Q I rx ry h hs
  obtain ⟨p, xs, i, z, rfl, rfl, hq, he, q⟩ := h
  cases rx
  obtain ⟨t, rfl⟩ := ry
  obtain ⟨its, r, pl, hz⟩ := I.list hq
  obtain ⟨j, h1, h2, h3, h4, h5⟩ := atI_get he
  obtain ⟨w, ew, rw'⟩ := r.get h2
  have hl := r.length
  have hn := line63
  have fin : EP X pins σ Q w s := ⟨z, H, I, rw', q⟩
  by_cases h0 : 0 ≤ i
  · have hj : i.toNat = j := by
      rw [seqIndex_of h0 h5] at h1
      exact Option.some.inj h1
    exact item_listR pl.isList h0 (by omega) (by rw [hj]; simpa using ew) fin hs
  · have hj : (i + (its.toArray.size : Int)).toNat = j := by
      rw [seqIndex_neg (by omega) h4] at h1
      rw [List.size_toArray, ← hl]
      exact Option.some.inj h1
    exact subscriptTail_builtinR (x := w) pl.isList.typeIs slot_list_getitem.lookup
      (wpAny_getItem_list_neg (Q := fun r s' => r = w ∧ EP X pins σ Q r s') pl.isList (by omega) (by rw [List.size_toArray] <;> omega) (by omega) (by rw [hj]; simpa using ew) ⟨rfl, fin⟩) hs
theorem ix_tup : IxR X (rIxT X.K) := by
  intro value slice pins s σ H x y v u Q I rx ry h hs
  obtain ⟨p, xs, i, z, rfl, rfl, hq, he, q⟩ := h
  cases rx
  obtain ⟨t, rfl⟩ := ry
  obtain ⟨its, r, pl, hz⟩ := I.tuple hq
  obtain ⟨j, h1, h2, h3, h4, h5⟩ := atI_get he
  obtain ⟨w, ew, rw'⟩ := r.get h2
  have hl := r.length
  have hn := line63
  have fin : EP X pins σ Q w s := ⟨z, H, I, rw', q⟩
  exact subscriptTail_builtinR (x := w) pl.typeIs slot_tuple_getitem.lookup
    (getItem_tuple (j := j) (Q := fun r s' => r = w ∧ EP X pins σ Q r s') pl (by omega) (by omega) (by rw [List.size_toArray, ← hl]; exact h1) (by simpa using ew) ⟨rfl, fin⟩) hs
theorem ix_str : IxR X rIxS := by
  intro value slice pins s σ H x y v u Q I rx ry h hs
  obtain ⟨z, i, c, rfl, rfl, hz, he, q⟩ := h
  obtain ⟨t, rfl⟩ := rx
  obtain ⟨t', rfl⟩ := ry
  obtain ⟨j, h1, h2, h3, h4, h5⟩ := atI_get he
  have hl : z.cps.toList.length = z.length := by simp [Str.length]
  rw [hl] at h1 h4 h5
  have hn := line63
  exact tail_any (typeIs_str s z t) slot_str_getitem.lookup (getItem_str (c := c) (by
    have e1 : decide (i < -(2 ^ 63 : Int)) = false := decide_eq_false (by omega)
    have e2 : decide (i ≥ 2 ^ 63) = false := decide_eq_false (by omega)
    rw [e1, e2, Bool.or_false]) (by rw [h1]; simpa using h2) ⟨.str ⟨#[c]⟩, H, I.tok _, ⟨_, rfl⟩, q⟩) hs
def rIx (K : PySem.W.Frag) : R2 := fun x y H Q => rIxL K x y H Q ∨ rIxT K x y H Q ∨ rIxS x y H Q
theorem ix_seq : IxR X (rIx X.K) := ix_list.or (ix_tup.or ix_str)
theorem slice_bounds (lo hi : Option Int) (n : Nat) : (sliceBounds lo hi none n).1 = ((HT.sIx n 0 lo : Nat) : Int) ∧ (sliceBounds lo hi none n).2.1 = ((HT.sIx n n hi : Nat) : Int) ∧ (sliceBounds lo hi none n).2.2 = 1 := by
  refine ⟨?_, ?_, rfl⟩
  · cases lo with
    | none => simp [sliceBounds, HT.sIx]
    | some i =>
      simp only [sliceBounds, HT.sIx, Option.getD_none, show (1 : Int) > 0 by decide, if_true]
      by_cases h : i < 0
      · simp only [h, if_true] <;> omega
      · simp only [h, if_false] <;> omega
  · cases hi with
    | none => simp [sliceBounds, HT.sIx]
    | some i =>
      simp only [sliceBounds, HT.sIx, Option.getD_none, show (1 : Int) > 0 by decide, if_true]
      by_cases h : i < 0
      · simp only [h, if_true] <;> omega
      · simp only [h, if_false] <;> omega
theorem slicePick_cut (its : List Value) (lo hi : Option Int) : slicePick its.toArray lo hi none = ((its.drop (HT.sIx its.length 0 lo)).take (HT.sIx its.length its.length hi - HT.sIx its.length 0 lo)).toArray := by
  obtain ⟨h1, h2, h3⟩ := slice_bounds lo hi its.toArray.size
  unfold slicePick
  rw [h1, h2, h3]
  simp only [sliceRange_one, pick_run, List.size_toArray] <;> rfl
def rSlL (K : PySem.W.Frag) : V → Option Int → Option Int → Hp → VK → Prop := fun x lo hi H Q => ∃ a xs, x = .ref a ∧ SqL K H a xs ∧ ∀ p, H p = none → Q (.ref p) (upd H p (.lst (cutV xs lo hi)))
theorem sl_list : SlR X (rSlL X.K) := by
  intro pins s σ H x v vl vu lo hi sl Q I rx hs pl pu h
  obtain ⟨a, xs, rfl, hx, q⟩ := h
  cases rx
  obtain ⟨its, r, ht, hz⟩ := I.list hx
  have hlen := r.length
  refine ⟨"list", _, slot_list_getitem.lookup, ht.isList.typeIs, ?_⟩
  refine wpAny_getItem_list_slice ht.isList hs pl pu .none (by simp) ?_ (by rw [List.size_toArray] <;> omega)
  rw [slicePick_cut, ← hlen]
  refine ⟨.ref s.heap.objs.size, _, I.laid (t' := s.toks) (o := .lst (cutV xs lo hi)) (fun b ob q => Heap.get?_push_of_some _ q) (Nat.le_refl _) ?_, rfl, q _ (I.hok.fresh (Nat.le_refl _))⟩
  exact ⟨Nat.le_trans (cutV_length xs lo hi) hz, _, 0, (r.drop (HT.sIx xs.length 0 lo)).take (HT.sIx xs.length xs.length hi - HT.sIx xs.length 0 lo), Heap.get?_push_size _ rfl⟩
def flatV : V → Bool
  | .non => true
  | .bl _ => true
  | .int _ => true
  | .str _ => true
  | _ => false
def eqV : V → V → Bool
  | .non, .non => true
  | .bl a, .bl b => a == b
  | .bl a, .int b => (if a then 1 else 0) == b
  | .int a, .bl b => a == (if b then 1 else 0)
  | .int a, .int b => a == b
  | .str a, .str b => a == b
  | _, _ => false
theorem eqAt_V {A : Around} {s : Shared} {y x : V} {u v : Value} (ry : RelV y u) (rx : RelV x v) (fy : flatV y = true) (fx : flatV x = true) : SeqAt.EqAt A s u v (eqV y x) := by
  cases y with
  | non =>
    cases ry
    cases x with
    | non => cases rx; exact SeqAt.EqAt.same _
    | bl b => cases rx; exact SeqAt.EqAt.none_bool b
    | int b => obtain ⟨t, rfl⟩ := rx; exact SeqAt.EqAt.none_int b t
    | str b => obtain ⟨t, rfl⟩ := rx; exact SeqAt.EqAt.none_str b t
    | _ => exact absurd (show false = true from fx) Bool.false_ne_true
  | bl a =>
    cases ry
    cases x with
    | non => cases rx; exact SeqAt.EqAt.bool_none a
    | bl b => cases rx; exact SeqAt.EqAt.bool_bool a b
    | int b => obtain ⟨t, rfl⟩ := rx; exact SeqAt.EqAt.bool_int a b t
    | str b => obtain ⟨t, rfl⟩ := rx; exact SeqAt.EqAt.bool_str a b t
    | _ => exact absurd (show false = true from fx) Bool.false_ne_true
  | int a =>
    obtain ⟨t', rfl⟩ := ry
    cases x with
    | non => cases rx; exact SeqAt.EqAt.int_none a t'
    | bl b => cases rx; exact SeqAt.EqAt.int_bool a t' b
    | int b => obtain ⟨t, rfl⟩ := rx; exact SeqAt.EqAt.int_int a t' b t
    | str b => obtain ⟨t, rfl⟩ := rx; exact SeqAt.EqAt.int_str a t' b t
    | _ => exact absurd (show false = true from fx) Bool.false_ne_true
  | str a =>
    obtain ⟨t', rfl⟩ := ry
    cases x with
    | non => cases rx; exact SeqAt.EqAt.str_none a t'
    | bl b => cases rx; exact SeqAt.EqAt.str_bool a t' b
    | int b => obtain ⟨t, rfl⟩ := rx; exact SeqAt.EqAt.str_int a t' b t
    | str b => obtain ⟨t, rfl⟩ := rx; exact SeqAt.EqAt.str_str a t' b t
    | _ => exact absurd (show false = true from fx) Bool.false_ne_true
  | _ => exact absurd (show false = true from fy) Bool.false_ne_true
def eqU (x : V) (u : Value) : Bool := match u with
  | .none => eqV .non x
  | .bool b => eqV (.bl b) x
  | .int i _ => eqV (.int i) x
  | .str z _ => eqV (.str z) x
  | _ => false
theorem eqU_of {x y : V} {u : Value} (r : RelV y u) (f : flatV y = true) : eqU x u = eqV y x := by
  cases y with
  | non => cases r; rfl
  | bl b => cases r; rfl
  | int i => obtain ⟨t, rfl⟩ := r; rfl
  | str z => obtain ⟨t, rfl⟩ := r; rfl
  | _ => exact absurd (show false = true from f) Bool.false_ne_true
theorem any_eqU {x : V} : ∀ {xs : List V} {us : List Value}, Vals xs us → xs.all flatV = true → us.any (eqU x) = xs.any fun y => eqV y x
  | _, _, .nil, _ => rfl
  | y :: xs, u :: us, .cons r t, f => by
    rw [List.all_cons, Bool.and_eq_true] at f
    rw [List.any_cons, List.any_cons, eqU_of r f.1, any_eqU t f.2]
theorem mem_eqAt {A : Around} {s : Shared} {x : V} {v : Value} (rx : RelV x v) (fx : flatV x = true) : ∀ {xs : List V} {us : List Value}, Vals xs us → xs.all flatV = true → ∀ u ∈ us, SeqAt.EqAt A s u v (eqU x u)
  | _, _, .nil, _ => fun u hu => by cases hu
  | y :: xs, u :: us, .cons r t, f => fun u' hu => by
    rw [List.all_cons, Bool.and_eq_true] at f
    rcases List.mem_cons.mp hu with rfl | hu
    · rw [eqU_of r f.1]; exact eqAt_V r rx f.1 fx
    · exact mem_eqAt rx fx t f.2 u' hu
def inV (x : V) (xs : List V) : Bool := xs.any fun y => eqV y x
def rIn (K : PySem.W.Frag) (neg : Bool) : R2 := fun x y H Q => ∃ p xs, y = .ref p ∧ (SqL K H p xs ∨ SqT K H p xs) ∧ flatV x = true ∧ xs.all flatV = true ∧ Q (.bl (if neg then !inV x xs else inV x xs)) H
theorem op_in_seq : OpR X (compareOp .In) (rIn X.K false) := by
  intro pins s σ H x y v u Q I rx ry h
  obtain ⟨p, xs, rfl, hq, fx, fs, q⟩ := h
  cases ry
  rcases hq with hq | hq
  · obtain ⟨its, r, pl, hz⟩ := I.list hq
    refine SeqAt.in_listAt (eqU x) pl.isList (fun w hw => mem_eqAt rx fx r fs w (by simpa using hw)) ⟨.bl _, H, I, rfl, ?_⟩
    rw [show its.toArray.any (eqU x) = its.any (eqU x) by simp, any_eqU r fs]
    exact q
  · obtain ⟨its, r, pl, hz⟩ := I.tuple hq
    refine SeqAt.in_tupleAt (eqU x) pl (fun w hw => mem_eqAt rx fx r fs w (by simpa using hw)) ⟨.bl _, H, I, rfl, ?_⟩
    rw [show its.toArray.any (eqU x) = its.any (eqU x) by simp, any_eqU r fs]
    exact q
theorem call_tuple_of : CallR X (.type "tuple") (fun xs H Q => ∃ p ys, xs = [.ref p] ∧ ((SqL X.K H p ys ∧ ∀ l, H l = none → Q (.ref l) (upd H l (.tup ys))) ∨ (SqT X.K H p ys ∧ Q (.ref p) H))) := by
  intro pins s σ H xs us Q I r h
  obtain ⟨p, ys, rfl, h⟩ := h
  obtain ⟨u, rfl, rx⟩ := vals1 r
  cases rx
  rcases h with ⟨hq, q⟩ | ⟨hq, q⟩
  · obtain ⟨its, r', pl, hz⟩ := I.list hq
    have hlen := r'.length
    refine call_tuple_list pl.isList (fun h' kp => ?_) (by simp only [List.size_toArray] <;> omega)
    have I1 : Inv X pins σ H { s with heap := h' } := I.kept (t' := s.toks) kp
    have I2 : Inv X pins σ (upd H h'.objs.size (.tup ys)) { s with heap := h'.push { cls := .type "tuple", data := .seq its.toArray } } :=
      I1.laid (t' := s.toks) (fun b o e => Heap.get?_push_of_some _ e) (Nat.le_refl _) (show ObjOk X.prog X.w _ _ _ (.tup ys) from ⟨hz, its, r', IsTup.new _ _⟩)
    exact ⟨.ref h'.objs.size, _, I2, rfl, q _ (I1.hok.fresh (Nat.le_refl _))⟩
  · obtain ⟨its, r', pl, hz⟩ := I.tuple hq
    exact call_tuple_same pl ⟨.ref p, H, I, rfl, q⟩
def tyV (K : PySem.W.Frag) (T : String) (x : V) (H : Hp) : Prop := match x with
  | .str _ => T = "str"
  | .int _ => T = "int"
  | .ref p => (T = "list" ∧ ∃ xs, SqL K H p xs) ∨ (T = "tuple" ∧ ∃ o, K.lookup p = some o ∧ o.cls = .type "tuple" ∧ o.dict = none) ∨
      (T = "dict" ∧ ((∃ kvs, H p = some (.dK kvs)) ∨ ∃ kvs, H p = some (.dT kvs))) ∨ (T = "set" ∧ ∃ S n, H p = some (.set S n))
  | _ => False
theorem tyV_is {pins : List (Addr × Obj)} {σ : St} {H : Hp} {s : Shared} {T : String} {x : V} {v : Value} (I : Inv X pins σ H s) (r : RelV x v) (ty : tyV X.K T x H) :
    s.TypeIs v T ∧ ∀ a, v = .ref a → ∃ ob, s.heap.get? a = some ob ∧ ob.dict = none := by
  cases x with
  | str z =>
    obtain ⟨t, rfl⟩ := r
    cases (show T = "str" from ty)
    exact ⟨typeIs_str s z t, fun _ e => nomatch e⟩
  | int i =>
    obtain ⟨t, rfl⟩ := r
    cases (show T = "int" from ty)
    exact ⟨typeIs_int s i t, fun _ e => nomatch e⟩
  | ref p =>
    cases r
    rcases ty with ⟨rfl, xs, hq⟩ | ⟨rfl, o, hk, hc, hd⟩ | ⟨rfl, hk⟩ | ⟨rfl, S, n, hk⟩
    · obtain ⟨its, _, pl, _⟩ := I.list hq
      refine ⟨pl.isList.typeIs, fun a e => ?_⟩
      cases e
      obtain ⟨o, n, e, c, hd, _⟩ := pl
      exact ⟨o, e, hd⟩
    · refine ⟨⟨o, I.kIn p o hk, hc⟩, fun a e => ?_⟩
      cases e
      exact ⟨o, I.kIn _ o hk, hd⟩
    · have z : ∃ o, s.heap.get? p = some o ∧ o.ExactDict := by
        rcases hk with ⟨kvs, hk⟩ | ⟨kvs, hk⟩
        · obtain ⟨_, _, _, _, o, _, _, e, ex, _⟩ := I.hok p _ hk
          exact ⟨o, e, ex⟩
        · obtain ⟨_, _, _, _, o, _, _, e, ex, _⟩ := I.hok p _ hk
          exact ⟨o, e, ex⟩
      obtain ⟨o, e, ex⟩ := z
      refine ⟨⟨o, e, ex.1⟩, fun a e2 => ?_⟩
      cases e2
      exact ⟨o, e, ex.2.1⟩
    · obtain ⟨o, _, _, _, e, ex, _⟩ := I.hok p _ hk
      refine ⟨⟨o, e, ex.1⟩, fun a e2 => ?_⟩
      cases e2
      exact ⟨o, e, ex.2.1⟩
  | _ => exact False.elim ty
def tBM (K : PySem.W.Frag) (T : String) (r : V → List V → Hp → VK → Prop) (to : TE) (t : TA) : TE := fun σ H Q => to σ H fun x H1 => tyV K T x H1 ∧ t σ H1 fun xs H2 => r x xs H2 Q
variable {o e : Expr} {es : List Expr} {to : TE} {t : TA} {name : Str} {apos cpos : Pos} {T id : String} {r : V → List V → Hp → VK → Prop}
theorem pe_bm (pa : PlainAttrs T) (slot : Slot T name id) (hty : typeOf (.builtin id) = pure (.type "method_descriptor")) (hm : MtR X id r) (ho : PE X o to) (ha : PA X (e :: es) t)
    (hbase : attributeBase o name X.env (eval o X.env) = eval o X.env := by rfl)
    (hfew : ((backTo cpos (starEach (e :: es) X.env)).all (fun x => !x.1) && (backToKw cpos (keywordEach [] X.env)).all (fun x => x.1.isSome)
      && decide ((e :: es).length + ([] : List Keyword).length + (if ([] : List Keyword).isEmpty then 0 else 1) < 30)) = true := by rfl)
    (hline : (apos.endLine == cpos.line) = true := by rfl) (hs : starEach (e :: es) X.env = (false, eval e X.env) :: starEach es X.env := by rfl) (hplain : (backTo cpos (starEach es X.env)).any (·.1) = false := by rfl) :
    PE X (.Call (.Attribute o name apos) (e :: es) [] cpos) (tBM X.K T r to t) := by
  intro pins s σ H Q I h
  refine wpAny_Call_method_late hbase hfew hline rfl (thn (ho pins s σ H _ I h) fun v s1 ⟨x, H1, I1, r1, ty, q1⟩ => ?_)
  obtain ⟨h1, h2⟩ := tyV_is I1 r1 ty
  refine ⟨T, id, pa, slot, hty, h1, h2, ?_⟩
  have hA := ha cpos pins s1 σ H1 _ I1 q1
  rw [hs] at hA ⊢
  refine Calls.callWith_builtin (by show (false || (backTo cpos (starEach es X.env)).any (·.1)) = false; rw [hplain] <;> rfl) (Calls.evalArgs_plain ?_)
  exact thn hA fun us s2 ⟨vs, H2, I2, r2, q2⟩ => hm pins s2 σ H2 x vs v us Q I2 r1 r2 q2
end
end L2
namespace L2
open PySem PySem.Spec PyProof.Rows
def MtM (X : Cx) (id : String) (r : V → List V → Hp → VK → Prop) : Prop :=
  ∀ (pins : List (Addr × Obj)) (s : Shared) (σ : St) (H : Hp) (x : V) (xs : List V) (v : Value) (us : List Value) (Q : VK), Inv X pins σ H s → RelV x v → Vals xs us → r x xs H Q →
    wpAny (model X.prog X.w) X.A (call (.builtin id) (v :: us)) (EP X pins σ Q) X.xe s
theorem Vals.one : ∀ {x : V} {us : List Value}, Vals [x] us → ∃ u, us = [u] ∧ RelV x u
  | _, _, .cons r .nil => ⟨_, rfl, r⟩
section
variable {X : Cx} {pins : List (Addr × Obj)} {σ : St} {H : Hp} {s : Shared} {l b : Addr} {xs ys zs : List V}
theorem Inv.lset {its its' : List Value} {n : Nat} {f : Array Value → Array Value} {t' : Nat} (I : Inv X pins σ H s) (hH : H l = some (.lst xs))
    (e : s.heap.get? l = some { cls := .type "list", data := .seq its.toArray n }) (hf : f its.toArray = its'.toArray) (hv : Vals ys its') (hz : ys.length ≤ sizeLine) :
    Inv X pins σ (upd H l (.lst ys)) { s with heap := s.heap.update l (Obj.mapSeq f), toks := t' } := by
  have q := PySem.IsL.update e f
  rw [hf] at q
  refine I.write (x := l) (e := l) (by rw [hH]; exact trivial) (.inl rfl) (fun b' u hb hu => (Heap.get?_update_other s.heap (Obj.mapSeq f) (Ne.symm hb)).trans hu) ⟨_, q⟩ ?_
  exact ⟨hz, its', _, hv, q⟩
theorem Inv.lstM (I : Inv X pins σ H s) (hH : H l = some (.lst xs)) : xs.length ≤ sizeLine ∧ ∃ (its : List Value) (n : Nat), Vals xs its ∧ xs.length = its.length ∧ s.heap.get? l = some { cls := .type "list", data := .seq its.toArray n } := by
  obtain ⟨z, its, n, r, e⟩ := I.hok l _ hH
  exact ⟨z, its, n, r, r.length, e⟩
end
section
variable {X : Cx}
def rAppend : V → List V → Hp → VK → Prop := fun x vs H Q => ∃ l xs y, x = .ref l ∧ vs = [y] ∧ H l = some (.lst xs) ∧ xs.length < sizeLine ∧ Q .non (upd H l (.lst (xs ++ [y])))
theorem mt_append : MtM X "list.append" rAppend := by
  intro pins s σ H x vs v us Q I rx rv h
  obtain ⟨l, xs, y, rfl, rfl, hH, hz, q⟩ := h
  cases rx
  obtain ⟨u, rfl, ru⟩ := rv.one
  obtain ⟨z, its, n, r, hl, e⟩ := I.lstM hH
  refine call_meets F.slot_list_append ⟨_, e, rfl⟩ F.entry_list_append (F.args_list_append_2 _ _) (PySem.list_append l its.toArray n u (by rw [List.size_toArray]; omega)) ⟨e, ?_⟩
  refine ⟨.non, _, I.lset (its' := its ++ [u]) hH e (by simp) (r.append (.cons ru .nil)) ?_, rfl, q⟩
  rw [List.length_append, List.length_singleton]
  omega
end
end L2
namespace Att
open PySem PySem.W PySem.Calls PyProof.Rows
theorem ints_of_wellAll {P : Params} {h : Heap} : ∀ (ns : List Int) (vs : List Value), WellAll P h vs (ns.map WData.int) → IntsAre vs ns := by
  intro ns
  induction ns with
  | nil =>
    intro vs w
    rw [List.map_nil] at w
    cases w
    exact .nil
  | cons n ns ih =>
    intro vs w
    rw [List.map_cons] at w
    cases w with
    | cons a b =>
      cases a
      exact .cons _ _ (ih _ b)
theorem script_of {l : OpenLaw} {n : Nat} (hn : l.most = some n) {P : Params} {h : Heap} {args : List WData} {vals : List Value}
    (hpre : l.row.toRowW.claim.pre args = true) (hwl : WellAll P h vals args) :
    ∃ a vs ns, vals = [Value.ref a] ∧ args = [WData.list (ns.map WData.int)] ∧ h.get? a = some { cls := .type "list", data := .seq vs.toArray } ∧ IntsAre vs ns ∧ ns.length ≤ n := by
  have hsh : WShape.hasAll [] args [.list .int] = true := (pre_splitW hpre).1
  have hc : l.pre.holds [] { args := args } = true := (pre_splitW hpre).2
  obtain ⟨d, r, rfl, h1, h2⟩ := hasAllW_cons hsh
  obtain rfl := hasAllW_nil h2
  obtain ⟨xs, rfl, h3⟩ := hasW_list h1
  obtain ⟨ns, rfl⟩ := items_int h3
  have hlen : ns.length ≤ n := by
    unfold OpenLaw.pre at hc
    have h4 : (WTm.not (.lt (.lit (.int (n : Int))) (.len (.arg 0)))).holds [] { args := [.list (ns.map .int)] } = true := by
      have h4 := (holds_andW hc).1
      rw [hn] at h4
      exact h4
    have h5 := condW_of h4 (w_not (w_lt w_lit (w_len_list (w_arg rfl))))
    rw [List.length_map] at h5
    refine Nat.le_of_not_lt fun q => ?_
    have q' : (n : Int) < ((ns.length : Nat) : Int) := by omega
    first
      | (rw [decide_eq_true q'] at h5; exact absurd h5 (by decide))
      | (simp at h5; omega)
  cases hwl with
  | cons w1 w2 =>
    cases w2
    cases w1 with
    | list ho hall => exact ⟨_, _, ns, rfl, rfl, ho, ints_of_wellAll ns _ hall, hlen⟩
theorem post_true (l : OpenLaw) (args : List WData) : l.row.toRowW.claim.post args (.bool true) args = true :=
  postW_of (r := l.row.toRowW) (X := (true == true))
    (show WShape.has [] (.bool true) .bool = true by first | rfl | decide | simp [WShape.has, WShape.arms, WShape.armsAll])
    (show (WTm.eq .res (.lit (.bool true))).value [] { args := args, res := some (.bool true), after := args } = some (.bool (true == true)) from w_eq_bool (w_res rfl) w_lit) rfl
theorem attach_call {l : OpenLaw} {n : Nat} {q : Program} {loose : List Str} {XP : (Str → Option Value) → Heap → Prop} {YP : World → Heap → Prop} {d : DefRec}
    (hn : l.most = some n) (hdf : d.params.defaults = [])
    (call : ∀ (w : World) (sZ s₁ : Shared) (mg mb : Str → Option Value) (fa : Addr) (o : Obj) (pm cd doc : Value) (a : Addr) (vs : List Value) (ns : List Int),
      Ground q loose [] XP w sZ mg mb s₁.heap → YP w s₁.heap →
      s₁.heap.get? fa = some o → o.data = .func (docDef d.name d.params d.body d.scope pm cd doc) → s₁.heap.CodeRec cd d.name → mg d.name = some (.ref fa) →
      s₁.heap.get? a = some { cls := .type "list", data := .seq vs.toArray } → IntsAre vs ns → ns.length ≤ n → s₁.gens = #[] →
      codeAny (model l.prog w) callerA (.call (.ref fa) ⟨[.ref a], []⟩) (fun r s' => r = .ok (.ret (.bool true)) ∧ OldK s₁.heap s'.heap ∧ s'.os = s₁.os ∧ AllBare s'.gens) s₁) :
    WalkO q loose XP YP l.row.toRowW d [] (fun f vs => PySem.call f vs) := by
  intro w sZ s₁ mg mb G Y fa o pm cd doc dV kV ho hd hcd hD hmg hg args vals as hpre hlay hrd hwl hlo
  obtain rfl : dV = .none := Dflts.none hD hdf
  obtain rfl : kV = .none := Dflts.noKw hD
  obtain ⟨a, vs, ns, rfl, rfl, hobj, hints, hlen⟩ := script_of hn hpre hwl
  refine enter_call (codeAny_mono (call w sZ s₁ mg mb fa o pm cd doc a vs ns G Y ho (fd_plain hd) hcd hmg hobj hints hlen hg) fun r s' hq => ?_)
  obtain ⟨rfl, h2, h3, h4⟩ := hq
  exact ⟨.inl ⟨.bool true, .bool true, [], rfl, fun _ => rfl, .bool true, post_true l _, fun _ => ⟨List.Pairwise.nil, fun _ hm => (nomatch hm)⟩⟩, h2, h3, h4⟩
end Att
namespace L2
open PySem PySem.Spec PyProof.Rows
theorem vals_ints : ∀ {vs : List Value} {ns : List Int}, IntsAre vs ns → Vals (ns.map V.int) vs
  | _, _, .nil => .nil
  | _, _, .cons n t h => .cons ⟨t, rfl⟩ (vals_ints h)
def Only (H : Hp) : Prop := ∀ b, H b = none ∨ ∃ o xs, H b = some (.frz o (.lst xs))
theorem law_call {P : Program} {w : World} {K : PySem.W.Frag} {mg mb : Str → Option Value} {CX : CXT} {k : Nat} {fa a : Addr} {fd : FuncData} {x : Str} {sp : Sp} {s₁ : Shared} {vs : List Value} {ns : List Int}
    (KX : K.In s₁.heap) (hns : s₁.heap.Ns mainGlobals mg) (hb : s₁.heap.Ns builtinsNs mb) (hbb : ∀ x : Str, x ≠ "__name__" → mb x = bootBuiltins x) (hlim : s₁.heap.NoLimit) (hg : s₁.gens = #[])
    (ha : s₁.heap.get? a = some { cls := .type "list", data := .seq vs.toArray }) (hi : IntsAre vs ns) (hl : ns.length ≤ sizeLine) (hr : Room k callerA)
    (F : ∀ base : Heap, K.In base → base.Ns mainGlobals mg → FnOk P w K mg base CX k fa fd [x] sp) (hbind : ∀ (s : Shared) (u : Value), BindsTo s fd ⟨[u], []⟩ [(x, u)])
    (hsp : ∀ H : Hp, Only H → SqL K H a (ns.map V.int) → sp [.ref a] H (fun v _ => v = .bl true) fun _ _ _ => False)
    (hCX : ∀ H e s', CX [] H s₁ (fun _ _ _ => False) e s' → False) :
    codeAny (model P w) callerA (.call (.ref fa) ⟨[.ref a], []⟩) (fun r s' => r = .ok (.ret (.bool true)) ∧ OldK s₁.heap s'.heap ∧ s'.os = s₁.os ∧ AllBare s'.gens) s₁ := by
  have rv := vals_ints hi
  have lenV := hi.length
  have core : ∀ H : Hp, Only H → SqL K H a (ns.map V.int) → HOk P w H s₁.heap → (∀ b, H b ≠ none → b = a) → (H a ≠ none → K.lookup a = none) →
      codeAny (model P w) callerA (.call (.ref fa) ⟨[.ref a], []⟩) (fun r s' => r = .ok (.ret (.bool true)) ∧ OldK s₁.heap s'.heap ∧ s'.os = s₁.os ∧ AllBare s'.gens) s₁ := by
    intro H hO hS hok hA hK
    have base_of : ∀ {b : Addr} {o : Obj}, s₁.heap.get? b = some o → H b = none → (hidT s₁.heap H).get? b = some o := fun e n => hidT_get e n
    have noA : ∀ {b : Addr} {o : Obj} {es : Array DictEntry} {ep : Nat}, s₁.heap.get? b = some o → o.data = .dict es ep → H b = none := fun {b o es ep} e d => by
      cases q : H b with
      | none => rfl
      | some u =>
        have e' : b = a := hA b (by rw [q]; simp)
        subst e'
        rw [ha] at e; cases e
        have d' : Data.seq vs.toArray _ = Data.dict es ep := d
        cases d'
    have nsK : ∀ {b : Addr} {m : Str → Option Value}, s₁.heap.Ns b m → (hidT s₁.heap H).Ns b m := fun {b m} ⟨o, es, ep, e, d, r⟩ => ⟨o, es, ep, base_of e (noA e d), d, r⟩
    have hKb : K.In (hidT s₁.heap H) := fun b o e => base_of (KX b o e) (by
      cases q : H b with
      | none => rfl
      | some u =>
        have e' : b = a := hA b (by rw [q]; simp)
        subst e'
        rw [hK (by rw [q]; simp)] at e; cases e)
    have hM : Mod K mg (hidT s₁.heap H) := ⟨hKb, nsK hns, ⟨mb, nsK hb, hbb⟩, let ⟨mc, h1, h2⟩ := hlim; ⟨mc, nsK h1, h2⟩⟩
    have e0 : Env0 P w K mg (hidT s₁.heap H) callerA [] s₁ H := ⟨rfl, hM, fun b o e => of_hidT e, Nat.le_of_eq (hidT_size _ _), trivial, fun b hb => absurd (show b ∈ ([] : List Addr) from hb) (by simp), hok, .of_eq hg⟩
    refine codeAny_mono ((F _ hKb (nsK hns)).run callerA [] s₁ H ⟨[.ref a], []⟩ [.ref a] [.ref a] _ _ hr e0 (hbind s₁ (.ref a)) (.cons rfl .nil) (hsp H hO hS)) fun r s' h => ?_
    cases r with
    | error e => exact (hCX H e s' h).elim
    | ok fl =>
      cases fl with
      | next => exact False.elim h
      | brk => exact False.elim h
      | cont => exact False.elim h
      | ret u =>
        obtain ⟨v, H', os, bare, un, hok', r', q⟩ := h
        have q' : v = .bl true := q
        subst q'
        obtain rfl : u = Value.bool true := r'
        refine ⟨rfl, OldK.of_keep fun b o e => ?_, os, bare⟩
        cases q : H b with
        | none => exact un.keep b o e q (by intro z; exact absurd (show b ∈ ([] : List Addr) from z) (by simp)) (by simp)
        | some u =>
          rcases hO b with z | ⟨ob, xs, z⟩
          · rw [q] at z; cases z
          · have z2 := un.frzs b ob _ z
            obtain ⟨e1, _⟩ := hok b _ z
            obtain ⟨e2, _⟩ := hok' b _ z2
            rw [e] at e1; cases e1
            exact e2
  cases hk : K.lookup a with
  | some o =>
    have e := KX a o hk
    rw [ha] at e
    cases e
    refine core (fun _ => none) (fun _ => .inl rfl) (.inr ⟨_, vs.toArray, _, hk, rfl, rfl, rfl, by rw [List.size_toArray, lenV]; exact hl, by simpa using rv⟩) (fun b u z => by have z' : (none : Option HO) = some u := z; cases z') (fun b z => absurd rfl z) fun z => absurd rfl z
  | none =>
    refine core (fun b => if b = a then some (.frz { cls := .type "list", data := .seq vs.toArray } (.lst (ns.map V.int))) else none) (fun b => ?_) (.inl (.inr ⟨{ cls := .type "list", data := .seq vs.toArray }, if_pos rfl⟩)) (fun b u z => ?_) (fun b z => ?_) fun _ => hk
    · by_cases hb : b = a
      · exact .inr ⟨_, _, if_pos hb⟩
      · exact .inl (if_neg hb)
    · by_cases hb : b = a
      · have z' := (if_pos hb).symm.trans z
        cases z'
        subst hb
        exact ⟨ha, by rw [List.length_map]; exact hl, vs, _, rv, ha⟩
      · have z' := (if_neg hb).symm.trans z
        cases z'
    · by_cases hb : b = a
      · exact hb
      · exact absurd (if_neg hb) z
end L2
namespace L2
open PySem PySem.Spec PyProof.Rows
abbrev KOf {K : PySem.W.Frag} {h : Heap} (_ : K.In h) : PySem.W.Frag := K
theorem walk_of {l : PySem.W.OpenLaw} {n k : Nat} {q : Program} {loose : List Str} {XP : (Str → Option Value) → Heap → Prop} {YP : World → Heap → Prop} {d : DefRec} {K : Params → PySem.W.Frag} {CX : World → CXT} {sp : World → Sp} {x : Str}
    (hn : l.most = some n) (hn2 : n ≤ sizeLine) (hdf : d.params.defaults = []) (hr : Room k callerA)
    (hY : ∀ (w : World) (h : Heap), YP w h → (K w.params).In h)
    (F : ∀ (w : World) (mg : Str → Option Value) (fa : Addr) (h : Heap), (K w.params).In h → h.Ns mainGlobals mg → mg d.name = some (.ref fa) →
      ∃ fd : FuncData, (∀ (s : Shared) (u : Value), BindsTo s fd ⟨[u], []⟩ [(x, u)]) ∧
        ∀ base : Heap, (K w.params).In base → base.Ns mainGlobals mg → FnOk l.prog w (K w.params) mg base (CX w) k fa fd [x] (sp w))
    (hsp : ∀ (w : World) (H : Hp) (a : Addr) (ns : List Int), ns.length ≤ n → Only H → SqL (K w.params) H a (ns.map V.int) → sp w [.ref a] H (fun v _ => v = .bl true) fun _ _ _ => False)
    (hCX : ∀ (w : World) (H : Hp) (s : Shared) (e : Value) (s' : Shared), CX w [] H s (fun _ _ _ => False) e s' → False) :
    PySem.W.WalkO q loose XP YP l.row.toRowW d [] (fun f vs => PySem.call f vs) := by
  refine Att.attach_call hn hdf fun w sZ s₁ mg mb fa o pm cd doc a vs ns G Y ho hd hcd hmg hobj hints hlen hg => ?_
  have KX := hY w _ Y
  obtain ⟨fd, hb, hF⟩ := F w mg fa _ KX G.T.g hmg
  exact law_call KX G.T.g G.T.b G.T.builtins G.T.nolimit hg hobj hints (Nat.le_trans hlen hn2) hr hF hb (fun H hO hS => hsp w H a ns hlen hO hS) fun H e s' => hCX w H s₁ e s'
end L2
namespace L2
open PySem PySem.Spec PyProof.Rows
def inClass (s : Stmt) (j : Nat) : Stmt := match s with
  | .ClassDef _ _ _ body _ _ _ _ _ _ _ => body.getD j (.Pass ⟨0, 0, 0, 0⟩)
  | _ => .Pass ⟨0, 0, 0, 0⟩
def defArgs (s : Stmt) : Arguments := match s with
  | .FunctionDef _ a _ _ _ _ _ _ _ _ => a
  | _ => { posonlyargs := [], args := [], vararg := none, kwonlyargs := [], kw_defaults := [], kwarg := none, defaults := [] }
def defBody (s : Stmt) : List Stmt := match s with
  | .FunctionDef _ _ b _ _ _ _ _ _ _ => b
  | _ => []
def defScope (s : Stmt) : Scope := match s with
  | .FunctionDef _ _ _ _ _ _ sc _ _ _ => sc
  | _ => { kind := .function, names := [], isGenerator := false, isCoroutine := false }
abbrev CX0 : CXT := fun _ _ _ _ _ _ => False
abbrev E0 : XK := fun _ _ _ => False
theorem pass0 {X : Cx} : Passes CX0 X E0 := fun _ _ _ _ _ _ _ h => h.elim
structure Fun (K : PySem.W.Frag) (x qual : Str) (st : Stmt) (f : Addr) (fd : FuncData) : Prop where
  ex : ∃ (oc : Value) (od : Option Addr) (kV doc pm : Value) (an : Option Addr) (cdv ct : Value) (osl : Array (Option Value)),
    fd = PySem.W.fnOf x qual (defArgs st) (defBody st) (defScope st) .none kV doc pm an cdv ct ∧ K.lookup f = some ⟨oc, od, .func fd, osl⟩ ∧ PySem.W.codeIn K cdv qual = true
  kp : PySem.W.keepIn K (.ref f) = true
section
variable {P : Program} {w : World} {K : PySem.W.Frag} {mg : Str → Option Value} {base : Heap}
theorem Fun.ok {x qual : Str} {st : Stmt} {f : Addr} {fd : FuncData} {N ps : List Str} {k : Nat} {sp : Sp} (F : Fun K x qual st f fd) (S : FnScope N ps (defScope st)) (len : ∀ vs H Q E, sp vs H Q E → vs.length = ps.length)
    (hbody : ∀ (cdv : Value) (A : Around) (outer : List Env) (s : Shared) (H : Hp) (vs : List V) (Q : VK) (E : XK), Room k (A.deeper (envOfC qual (defScope st) s.heap.objs.size f cdv)) → sp vs H Q E →
      ∃ t, PSs (cxOf CX0 P w K mg base N qual (defScope st) f cdv A outer s H E).nox (defBody st) t ∧ t { nx := fun _ H' => Q .non H', rt := Q } (start N vs) H) : FnOk P w K mg base CX0 (k + 1) f fd ps sp := by
  obtain ⟨oc, od, kV, doc, pm, an, cdv, ct, osl, rfl, lk, hcd⟩ := F.ex
  refine fn_of lk hcd S len fun A outer s H vs Q E hr hsp => ?_
  obtain ⟨t, h, q⟩ := hbody cdv A outer s H vs Q E hr hsp
  exact ⟨t, h.nox, q⟩
theorem Fun.binds {x qual : Str} {st : Stmt} {f : Addr} {fd : FuncData} {ps : List Str} (F : Fun K x qual st f fd)
    (h : ∀ (kV doc pm : Value) (an : Option Addr) (cdv ct : Value) (us : List Value), us.length = ps.length → bindArgs (PySem.W.fnOf x qual (defArgs st) (defBody st) (defScope st) .none kV doc pm an cdv ct) ⟨us, []⟩ = pure (ps.zip us)) : Binds K fd ps [] := by
  obtain ⟨oc, od, kV, doc, pm, an, cdv, ct, osl, rfl, lk, hcd⟩ := F.ex
  exact .all (h kV doc pm an cdv ct)
theorem fun_mk {x qual : Str} {st : Stmt} {f : Addr} {oc : Value} {od an : Option Addr} {osl : Array (Option Value)} {kV doc pm cdv ct : Value} (l : K.lookup f = some ⟨oc, od, .func (PySem.W.fnOf x qual (defArgs st) (defBody st) (defScope st) .none kV doc pm an cdv ct), osl⟩)
    (c : PySem.W.codeIn K cdv qual = true) (k : PySem.W.keepIn K (.ref f) = true) : Fun K x qual st f (PySem.W.fnOf x qual (defArgs st) (defBody st) (defScope st) .none kV doc pm an cdv ct) := ⟨⟨oc, od, kV, doc, pm, an, cdv, ct, osl, rfl, l, c⟩, k⟩
end
section
variable {X : Cx}
theorem pv (i : Nat) {x : Str} {pos : Pos} (hN : X.N[i]? = some x := by rfl) (hv : Vis X.env.scope x := by first | exact Or.inl rfl | exact Or.inr (Or.inl rfl) | exact Or.inr (Or.inr rfl)) (hd : (x == ("__debug__" : Str)) = false := by decide)
    (hcd : (x == ("__classdict__" : Str)) = false := by decide) : PE X (.Name x pos) (tVar i) := pe_var hN hv hd hcd
end
theorem iteF {A B : Prop} (h : B) : if false = true then A else B := by
  rw [if_neg Bool.false_ne_true]
  exact h
theorem iteT {A B : Prop} (h : A) : if true = true then A else B := by
  rw [if_pos rfl]
  exact h
theorem ite2 {c A B : Prop} [Decidable c] (h1 : c → A) (h2 : ¬ c → B) : if c then A else B := by
  by_cases h : c
  · rw [if_pos h]
    exact h1 h
  · rw [if_neg h]
    exact h2 h
def Same (H H' : Hp) : Prop := ∀ b o, H b = some o → H' b = some o
theorem Same.refl (H : Hp) : Same H H := fun _ _ h => h
theorem Same.trans {H H1 H2 : Hp} (a : Same H H1) (b : Same H1 H2) : Same H H2 := fun c o h => b c o (a c o h)
theorem Same.seq {K : PySem.W.Frag} {H H' : Hp} {a : Addr} {xs : List V} (e : Same H H') (h : SqL K H a xs) : SqL K H' a xs := by
  rcases h with (h | ⟨o, h⟩) | h
  · exact .inl (.inl (e _ _ h))
  · exact .inl (.inr ⟨o, e _ _ h⟩)
  · exact .inr h
end L2
namespace L2
open PySem PySem.Spec PyProof.Rows
def clOf (cells : List (Str × Addr)) : List (Str × NameKind) → List (Str × Addr) → List (Str × Addr)
  | [], acc => acc
  | (n, k) :: r, acc => if k == .free then (match cells.lookup n with | some a => clOf cells r ((n, a) :: acc) | none => clOf cells r acc) else clOf cells r acc
theorem clOf_for {env : Env} (f : Str × NameKind → List (Str × Addr) → Sem (ForInStep (List (Str × Addr))))
    (hf : ∀ n k cs, f (n, k) cs = if k == .free then (do let a ← cellOf env n; pure (.yield ((n, a) :: cs))) else pure (.yield cs)) :
    ∀ (names : List (Str × NameKind)) (acc : List (Str × Addr)), (∀ y ∈ names, y.2 = .free → ∃ c, env.cells.lookup y.1 = some c) → forIn names acc f = pure (clOf env.cells names acc)
  | [], acc, _ => by rw [List.forIn_nil]; rfl
  | (n, k) :: r, acc, h => by
    have hr : ∀ y ∈ r, y.2 = .free → ∃ c, env.cells.lookup y.1 = some c := fun y hy => h y (List.mem_cons_of_mem _ hy)
    rw [List.forIn_cons, hf]
    unfold clOf
    by_cases hk : k = .free
    · subst hk
      obtain ⟨c, hc⟩ := h (n, .free) List.mem_cons_self rfl
      have hc' : env.cells.lookup n = some c := hc
      have e1 : cellOf env n = pure c := by unfold cellOf; rw [hc']
      have ef : (NameKind.free == NameKind.free) = true := rfl
      rw [if_pos ef, if_pos ef, e1, hc']
      exact clOf_for f hf r ((n, c) :: acc) hr
    · have hb : (k == NameKind.free) = false := by simpa using hk
      rw [hb, if_neg Bool.false_ne_true, if_neg Bool.false_ne_true]
      exact clOf_for f hf r acc hr
theorem closureFor_cl {scope : Scope} {env : Env} (h : ∀ y ∈ scope.names, y.2 = .free → ∃ c, env.cells.lookup y.1 = some c) : closureFor scope env = pure (clOf env.cells scope.names []) := by
  have e := clOf_for (env := env) (fun x cs => match x with | (n, k) => if k == .free then (do let a ← cellOf env n; pure (.yield ((n, a) :: cs))) else pure (.yield cs)) (fun _ _ _ => rfl) scope.names [] h
  show (forIn scope.names [] _ >>= fun cs => pure cs) = _
  refine Eq.trans (congrArg (· >>= fun cs => pure cs) (Eq.trans ?_ e)) rfl
  refine congrArg _ (funext fun x => funext fun cs => ?_)
  obtain ⟨n, k⟩ := x
  cases hk : k == NameKind.free <;> simp [hk]
theorem lookup_clOf {cells : List (Str × Addr)} : ∀ {names : List (Str × NameKind)} {acc : List (Str × Addr)}, (∀ n c, acc.lookup n = some c → cells.lookup n = some c) → ∀ n c, (clOf cells names acc).lookup n = some c → cells.lookup n = some c
  | [], _, h, n, c, e => h n c e
  | (m, k) :: r, acc, h, n, c, e => by
    unfold clOf at e
    split at e
    · split at e
      · rename_i a ha
        refine lookup_clOf (names := r) (acc := (m, a) :: acc) (fun x d q => ?_) n c e
        rw [List.lookup_cons] at q
        cases hb : x == m with
        | true => rw [hb] at q; cases q; rw [beq_iff_eq.mp hb]; exact ha
        | false => rw [hb] at q; exact h x d q
      · exact lookup_clOf (names := r) h n c e
    · exact lookup_clOf (names := r) h n c e
theorem clOf_acc {cells : List (Str × Addr)} {n : Str} : ∀ {names : List (Str × NameKind)} {acc : List (Str × Addr)}, (∃ c, acc.lookup n = some c) → ∃ c, (clOf cells names acc).lookup n = some c
  | [], _, h => h
  | (m, k) :: r, acc, h => by
    unfold clOf
    split
    · split
      · rename_i a ha
        refine clOf_acc (names := r) ?_
        rw [List.lookup_cons]
        cases hb : n == m with
        | true => exact ⟨a, rfl⟩
        | false => exact h
      · exact clOf_acc (names := r) h
    · exact clOf_acc (names := r) h
theorem clOf_has {cells : List (Str × Addr)} {n : Str} {c : Addr} (hc : cells.lookup n = some c) : ∀ {names : List (Str × NameKind)} {acc : List (Str × Addr)}, (n, NameKind.free) ∈ names → ∃ d, (clOf cells names acc).lookup n = some d
  | (m, k) :: r, acc, h => by
    unfold clOf
    rcases List.mem_cons.mp h with e | h
    · cases e
      rw [if_pos (show (NameKind.free == NameKind.free) = true from rfl), hc]
      exact clOf_acc (names := r) ⟨c, by rw [List.lookup_cons, beq_self_eq_true]⟩
    · split
      · split
        · exact clOf_has hc h
        · exact clOf_has hc h
      · exact clOf_has hc h
theorem cellsFrom_not {y : Str} : ∀ {names : List (Str × NameKind)} {n : Nat} {acc : List (Str × Addr)}, (∀ p ∈ names, p.2 = .cell → p.1 ≠ y) → (cellsFrom n names acc).lookup y = acc.lookup y
  | [], _, _, _ => rfl
  | (m, k) :: r, n, acc, h => by
    have hr : ∀ p ∈ r, p.2 = .cell → p.1 ≠ y := fun p hp => h p (List.mem_cons_of_mem _ hp)
    unfold cellsFrom
    by_cases hk : k = .cell
    · subst hk
      rw [if_pos (show (NameKind.cell == NameKind.cell) = true from rfl), cellsFrom_not hr, List.lookup_cons]
      have : (y == m) = false := by simpa using Ne.symm (h (m, .cell) List.mem_cons_self rfl)
      rw [this]
    · rw [if_neg (by simpa using hk)]
      exact cellsFrom_not hr
theorem cellsFrom_new : ∀ {names : List (Str × NameKind)} {h : Heap} {acc : List (Str × Addr)} {y : Str} {c : Addr}, (cellsFrom h.objs.size names acc).lookup y = some c →
    (h.objs.size ≤ c ∧ (pushCells h names).IsCell c none) ∨ acc.lookup y = some c
  | [], _, _, _, _, e => .inr e
  | (m, k) :: r, h, acc, y, c, e => by
    unfold cellsFrom at e
    unfold pushCells
    by_cases hk : (k == NameKind.cell) = true
    · rw [if_pos hk] at e ⊢
      have e' : (cellsFrom (h.push { cls := .type "cell", data := .cell none }).objs.size r ((m, h.objs.size) :: acc)).lookup y = some c := by rw [Heap.size_push]; exact e
      rcases cellsFrom_new e' with ⟨q1, q2⟩ | q
      · rw [Heap.size_push] at q1
        exact .inl ⟨Nat.le_of_succ_le q1, q2⟩
      · rw [List.lookup_cons] at q
        cases hb : y == m with
        | true =>
          rw [hb] at q; cases q
          exact .inl ⟨Nat.le_refl _, Heap.IsCell.keeps ⟨_, Heap.get?_push_size _ rfl, rfl⟩ (pushCells_keeps _ _)⟩
        | false => rw [hb] at q; exact .inr q
    · rw [if_neg hk] at e ⊢
      exact cellsFrom_new e
theorem cellsFrom_inj : ∀ {names : List (Str × NameKind)} {n : Nat} {acc : List (Str × Addr)}, (∀ x y c, acc.lookup x = some c → acc.lookup y = some c → x = y) → (∀ x c, acc.lookup x = some c → c < n) →
    ∀ x y c, (cellsFrom n names acc).lookup x = some c → (cellsFrom n names acc).lookup y = some c → x = y
  | [], _, _, h, _ => h
  | (m, k) :: r, n, acc, h, lt => by
    unfold cellsFrom
    by_cases hk : (k == NameKind.cell) = true
    · rw [if_pos hk]
      have one : ∀ x c, ((m, n) :: acc).lookup x = some c → (x = m ∧ c = n) ∨ acc.lookup x = some c := fun x c e => by
        rw [List.lookup_cons] at e
        cases hb : x == m with
        | true => rw [hb] at e; cases e; exact .inl ⟨beq_iff_eq.mp hb, rfl⟩
        | false => rw [hb] at e; exact .inr e
      refine cellsFrom_inj (fun x y c ex ey => ?_) fun x c e => ?_
      · rcases one x c ex with ⟨a1, a2⟩ | a <;> rcases one y c ey with ⟨b1, b2⟩ | b
        · rw [a1, b1]
        · exact absurd (lt y c b) (by rw [a2]; exact Nat.lt_irrefl _)
        · exact absurd (lt x c a) (by rw [b2]; exact Nat.lt_irrefl _)
        · exact h x y c a b
      · rcases one x c e with ⟨_, a2⟩ | a
        · rw [a2]; exact Nat.lt_succ_self _
        · exact Nat.lt_succ_of_lt (lt x c a)
    · rw [if_neg hk]
      exact cellsFrom_inj h lt
theorem cellsFrom_acc {y : Str} : ∀ {names : List (Str × NameKind)} {n : Nat} {acc : List (Str × Addr)}, (∃ c, acc.lookup y = some c) → ∃ c, (cellsFrom n names acc).lookup y = some c
  | [], _, _, h => h
  | (m, k) :: r, n, acc, h => by
    unfold cellsFrom
    split
    · refine cellsFrom_acc ?_
      rw [List.lookup_cons]
      cases y == m with
      | true => exact ⟨_, rfl⟩
      | false => exact h
    · exact cellsFrom_acc h
theorem cellsFrom_has {y : Str} : ∀ {names : List (Str × NameKind)} {n : Nat} {acc : List (Str × Addr)}, (y, NameKind.cell) ∈ names → ∃ c, (cellsFrom n names acc).lookup y = some c
  | (m, k) :: r, n, acc, h => by
    unfold cellsFrom
    rcases List.mem_cons.mp h with e | h
    · cases e
      rw [if_pos (show (NameKind.cell == NameKind.cell) = true from rfl)]
      exact cellsFrom_acc ⟨n, by rw [List.lookup_cons, beq_self_eq_true]⟩
    · split
      · exact cellsFrom_has h
      · exact cellsFrom_has h
theorem cellsFrom_ge {y : Str} {lo : Nat} : ∀ {names : List (Str × NameKind)} {n : Nat} {acc : List (Str × Addr)} {c : Addr}, lo ≤ n → ((y, NameKind.cell) ∈ names ∨ ∀ d, acc.lookup y = some d → lo ≤ d) → (cellsFrom n names acc).lookup y = some c → lo ≤ c
  | [], n, acc, c, hn, h, e => h.elim (fun z => nomatch z) fun z => z c e
  | (m, k) :: r, n, acc, c, hn, h, e => by
    unfold cellsFrom at e
    by_cases hk : (k == NameKind.cell) = true
    · rw [if_pos hk] at e
      have k' : k = .cell := beq_iff_eq.mp hk
      subst k'
      refine cellsFrom_ge (names := r) (Nat.le_succ_of_le hn) ?_ e
      by_cases hm : (y, NameKind.cell) ∈ r
      · exact .inl hm
      · refine .inr fun d q => ?_
        rw [List.lookup_cons] at q
        cases hb : y == m with
        | true => rw [hb] at q; cases q; exact hn
        | false =>
          rw [hb] at q
          rcases h with z | z
          · rcases List.mem_cons.mp z with z | z
            · cases z; simp at hb
            · exact absurd z hm
          · exact z d q
    · rw [if_neg hk] at e
      refine cellsFrom_ge (names := r) hn ?_ e
      rcases h with z | z
      · rcases List.mem_cons.mp z with z | z
        · cases z; exact absurd rfl hk
        · exact .inl z
      · exact .inr z
section
variable {M : Model} {A : Around} {E : Value → Shared → Prop} {s : Shared}
theorem newCompEnv {scope : Scope} {globals : Addr} {cl : List (Str × Addr)} {qual : Str} {env : Env} {Q : Env → Shared → Prop}
    (h : Q { scope := scope, locals := s.heap.objs.size, globals := globals, cells := cellsFrom (s.heap.objs.size + 1) scope.names cl, qual := qual, func := none, code := env.code, frame := env.frame, builtins := env.builtins }
      { s with heap := pushCells (s.heap.push { cls := .type "dict", data := .dict #[] }) scope.names }) :
    wpAny M A (newFunctionEnv scope globals cl [] qual none .none (some env)) Q E s := by
  simp only [newFunctionEnv, Option.isSome_some, if_true]
  refine wpAny_bind (wpAny_alloc ?_)
  refine wpAny_bind (wpAny_layCells _ (fun name kind cells => by cases hkc : kind == NameKind.cell <;> simp [hkc]) _ _ _ _ ?_)
  rw [show ({ s with heap := s.heap.push { cls := .type "dict", data := .dict #[] } } : Shared).heap.objs.size = s.heap.objs.size + 1 from Heap.size_push ..]
  refine wpAny_bind ?_
  rw [List.forIn_nil]
  exact wpAny_pure (wpAny_pure h)
end
theorem kindOf_relabel {env : Env} : ∀ (names : List (Str × NameKind)) (x : Str),
    (names.map fun (n, k) => if (k == NameKind.free && env.scope.kind == .function && env.kindOf n == some .cell) then (n, NameKind.cell) else (n, k)).lookup x =
      (names.lookup x).map fun k => if (k == NameKind.free && env.scope.kind == .function && env.kindOf x == some .cell) then NameKind.cell else k
  | [], _ => rfl
  | (n, k) :: r, x => by
    rw [List.map_cons]
    show List.lookup x ((if (k == NameKind.free && env.scope.kind == .function && env.kindOf n == some .cell) = true then (n, NameKind.cell) else (n, k)) :: _) = _
    cases hx : x == n with
    | true =>
      have e := beq_iff_eq.mp hx
      subst e
      by_cases hc : (k == NameKind.free && env.scope.kind == .function && env.kindOf x == some .cell) = true
      · rw [if_pos hc, List.lookup_cons, List.lookup_cons, beq_self_eq_true]
        show _ = some (if (k == NameKind.free && env.scope.kind == .function && env.kindOf x == some .cell) = true then NameKind.cell else k)
        rw [if_pos hc]
      · rw [if_neg hc, List.lookup_cons, List.lookup_cons, beq_self_eq_true]
        show _ = some (if (k == NameKind.free && env.scope.kind == .function && env.kindOf x == some .cell) = true then NameKind.cell else k)
        rw [if_neg hc]
    | false =>
      have ih := kindOf_relabel (env := env) r x
      by_cases hc : (k == NameKind.free && env.scope.kind == .function && env.kindOf n == some .cell) = true
      · rw [if_pos hc, List.lookup_cons, List.lookup_cons, hx]; exact ih
      · rw [if_neg hc, List.lookup_cons, List.lookup_cons, hx]; exact ih
def sel (idx : List Nat) (σ : St) : St := idx.map fun j => (σ[j]?).join
def Cx.comp (X : Cx) (scope : Scope) (cells : List (Str × Addr)) (C : Addr) (N' : List Str) (s2 : Shared) (H2 : Hp) (fp : List Addr) : Cx where
  prog := X.prog
  w := X.w
  K := X.K
  mg := X.mg
  base := X.base
  A := X.A
  N := N'
  sZ := s2
  HZ := H2
  env := compEnvC scope cells C X.env
  outer := X.stack
  stack := X.stack
  ex := fp
  fn := fun y => scope.names.lookup y == some .cell
  calm := X.calm
  pn := []
  xe := fun _ _ => False
structure CompOk (X : Cx) (scope : Scope) (M : List Str) (idx : List Nat) : Prop where
  kind : scope.kind = .function
  loc : ∀ y ∈ scope.names, y.2 = .local → scope.names.lookup y.1 = some .local
  cel : ∀ y ∈ scope.names, y.2 = .cell → scope.names.lookup y.1 = some .cell
  fre : ∀ y ∈ scope.names, y.2 = .free → X.env.kindOf y.1 = some .cell ∨ X.env.kindOf y.1 = some .free
  len : idx.length = M.length
  cap : ∀ (j : Nat) (y : Str), M[j]? = some y → scope.names.lookup y = some .free ∧ ∃ k, idx[j]? = some k ∧ X.N[k]? = some y
theorem sel_get {idx : List Nat} {σ : St} {j : Nat} {v : V} (h : (sel idx σ)[j]? = some (some v)) : ∃ k, idx[j]? = some k ∧ σ[k]? = some (some v) := by
  unfold sel at h
  rw [List.getElem?_map] at h
  cases e : idx[j]? with
  | none => rw [e] at h; cases h
  | some k =>
    rw [e] at h
    refine ⟨k, rfl, ?_⟩
    have h' : (σ[k]?).join = some v := Option.some.inj h
    cases q : σ[k]? with
    | none => rw [q] at h'; cases h'
    | some o =>
      rw [q] at h'
      have h'' : o = some v := h'
      rw [h'']
section
variable {X : Cx} {pins : List (Addr × Obj)} {σ : St} {H : Hp} {s : Shared}
theorem comp_start {scope : Scope} {M : List Str} {idx : List Nat} {fp : List Addr} {x : Str} (ok : CompOk X scope M idx) (hc : X.calm = true) (I : Inv X pins σ H s) (hf : ∀ b ∈ fp, FpOk X pins H b)
    (ho : ∀ b ∈ fp, ∃ o, s.heap.get? b = some o) :
    Inv (X.comp scope (cellsFrom (s.heap.objs.size + 2) scope.names (clOf X.env.cells scope.names [])) (s.heap.objs.size + 1) (x :: M) s H fp) [] (none :: sel idx σ) H
      { s with heap := pushCells ((s.heap.push { cls := .type "list", dict := none, data := .seq ([] : List Value).toArray }).push { cls := .type "dict", data := .dict #[] }) scope.names } := by
  have sz2 : ((s.heap.push { cls := .type "list", dict := none, data := .seq ([] : List Value).toArray }).push { cls := .type "dict", data := .dict #[] }).objs.size = s.heap.objs.size + 2 := by rw [Heap.size_push, Heap.size_push]
  have keep : ∀ b o, s.heap.get? b = some o → (pushCells ((s.heap.push { cls := .type "list", dict := none, data := .seq ([] : List Value).toArray }).push { cls := .type "dict", data := .dict #[] }) scope.names).get? b = some o :=
    fun b o e => pushCells_keeps _ _ _ _ (Heap.get?_push_of_some _ (Heap.get?_push_of_some _ e))
  have clLook : ∀ n c, (clOf X.env.cells scope.names []).lookup n = some c → X.env.cells.lookup n = some c := lookup_clOf fun n c e => by simp at e
  have clLt : ∀ n c, (clOf X.env.cells scope.names []).lookup n = some c → c < s.heap.objs.size := fun n c e => by
    obtain ⟨v, z⟩ := I.cell n c (clLook n c e)
    exact z.lt
  have look : ∀ n c, (cellsFrom (s.heap.objs.size + 2) scope.names (clOf X.env.cells scope.names [])).lookup n = some c →
      (s.heap.objs.size + 2 ≤ c ∧ (pushCells ((s.heap.push { cls := .type "list", dict := none, data := .seq ([] : List Value).toArray }).push { cls := .type "dict", data := .dict #[] }) scope.names).IsCell c none) ∨ X.env.cells.lookup n = some c := fun n c e => by
    have e' : (cellsFrom ((s.heap.push { cls := .type "list", dict := none, data := .seq ([] : List Value).toArray }).push { cls := .type "dict", data := .dict #[] }).objs.size scope.names (clOf X.env.cells scope.names [])).lookup n = some c := by rw [sz2]; exact e
    rcases cellsFrom_new e' with ⟨q1, q2⟩ | q
    · rw [sz2] at q1; exact .inl ⟨q1, q2⟩
    · exact .inr (clLook n c q)
  have fresh : ∀ a, s.heap.objs.size ≤ a → H a = none := fun a h => I.hok.fresh h
  have fpLt : ∀ b ∈ fp, b < s.heap.objs.size := fun b hb => let ⟨_, e⟩ := ho b hb; Heap.lt_size e
  have fpStk : ∀ b ∈ fp, b ∉ frs X.stack := fun b hb z => by
    obtain ⟨_, f1, f2, _⟩ := hf b hb
    exact (List.mem_cons.mp (I.stkSub b z)).elim f1 f2
  have hasFree : ∀ y ∈ scope.names, y.2 = .free → ∃ c, X.env.cells.lookup y.1 = some c := fun y hy e => I.ok.has y.1 (ok.fre y hy e)
  have kindR : ∀ y, (compEnvC scope (cellsFrom (s.heap.objs.size + 2) scope.names (clOf X.env.cells scope.names [])) (s.heap.objs.size + 1) X.env).kindOf y =
      (scope.names.lookup y).map fun k => if (k == NameKind.free && X.env.scope.kind == .function && X.env.kindOf y == some .cell) then NameKind.cell else k := fun y => kindOf_relabel scope.names y
  refine ⟨⟨I.ok.mod, ok.kind, I.ok.glob, I.ok.blt, Nat.le_succ _, ?_, fun y hy => ?_, fun y c hfn e => ?_, I.ok.hd, I.ok.frames, .inl rfl, fun b hb => ⟨?_, fun y c e => ?_⟩, I.bs, Nat.le_trans I.ok.bsz I.sz, fun b o e hb => ?_, fun b hb => fpStk b hb, I.stack, I.stkFree⟩,
    rfl, I.bare, Un.kept keep, ⟨fun _ => none, ?_, fun i y v h1 h2 h3 => ?_⟩, fun y c e => ?_, fresh _ (Nat.le_succ _), fun y c e => ?_, fun p hp => absurd (show p ∈ ([] : List (Addr × Obj)) from hp) (by simp), I.hok.kept keep, ?_⟩
  · exact cellsFrom_inj (fun a b c h1 h2 => I.ok.inj a b c (clLook a c h1) (clLook b c h2)) fun a c h1 => Nat.lt_of_lt_of_le (clLt a c h1) (Nat.le_add_right _ _)
  · -- has
    rw [show (X.comp scope (cellsFrom (s.heap.objs.size + 2) scope.names (clOf X.env.cells scope.names [])) (s.heap.objs.size + 1) (x :: M) s H fp).env.kindOf y = _ from kindR y] at hy
    show ∃ c, (cellsFrom (s.heap.objs.size + 2) scope.names (clOf X.env.cells scope.names [])).lookup y = some c
    cases hk : scope.names.lookup y with
    | none => rw [hk] at hy; rcases hy with z | z <;> cases z
    | some k =>
      have mem := PySem.mem_of_lookup hk
      by_cases k1 : k = .cell
      · subst k1; exact cellsFrom_has mem
      by_cases k2 : k = .free
      · subst k2
        obtain ⟨c, ec⟩ := hasFree _ mem rfl
        exact cellsFrom_acc (clOf_has ec mem)
      · rw [hk] at hy
        have hb : (k == NameKind.free) = false := by simpa using k2
        rw [Option.map_some, hb, Bool.false_and, Bool.false_and, if_neg Bool.false_ne_true] at hy
        rcases hy with z | z
        · exact absurd (Option.some.inj z) k1
        · exact absurd (Option.some.inj z) k2
  · -- cab
    have hl : scope.names.lookup y = some .cell := by simpa [Cx.comp] using hfn
    exact cellsFrom_ge (lo := s.heap.objs.size) (by omega) (.inl (PySem.mem_of_lookup hl)) e
  · -- exf
    exact Nat.ne_of_lt (Nat.lt_succ_of_lt (fpLt b hb))
  · rcases look y c e with ⟨q, _⟩ | q
    · exact fun z => absurd (fpLt b hb) (by rw [← z]; exact Nat.not_lt.mpr (Nat.le_trans (Nat.le_add_right _ 2) q))
    · exact (hf b hb).2.2.2.2.1 y c q
  · -- noex
    rcases (hf b hb).2.2.2.1 with z | z
    · exact I.ok.noex b o e z
    · exact absurd (Nat.lt_of_lt_of_le (Heap.lt_size e) (Nat.le_trans I.ok.bsz z)) (Nat.lt_irrefl _)
  · -- the new map
    have e0 : (s.heap.push { cls := .type "list", dict := none, data := .seq ([] : List Value).toArray }).objs.size = s.heap.objs.size + 1 := Heap.size_push ..
    have q := (Heap.Ns.new (s.heap.push { cls := .type "list", dict := none, data := .seq ([] : List Value).toArray }) (.type "dict")).keeps (pushCells_keeps scope.names _)
    rw [e0] at q
    exact q
  · -- names
    cases i with
    | zero => cases h2
    | succ j =>
      have h2' : (sel idx σ)[j]? = some (some v) := h2
      have h1' : M[j]? = some y := h1
      obtain ⟨k, ek, ev⟩ := sel_get h2'
      obtain ⟨hl, k', ek', eN⟩ := ok.cap j y h1'
      rw [ek] at ek'; cases ek'
      have mem := PySem.mem_of_lookup hl
      have hk := ok.fre _ mem rfl
      obtain ⟨m, hn, hloc⟩ := I.loc
      have vis : Vis X.env.scope y := hk.elim (fun z => .inr (.inl z)) fun z => .inr (.inr z)
      obtain ⟨u, r, l⟩ := hloc k y v eN ev vis
      refine ⟨u, r, ?_⟩
      rcases l with ⟨z, _⟩ | ⟨_, c, ec, hcell⟩
      · rw [z] at hk; rcases hk with z | z <;> cases z
      · refine .inr ⟨?_, c, ?_, hcell.keeps keep⟩
        · rw [show (X.comp scope (cellsFrom (s.heap.objs.size + 2) scope.names (clOf X.env.cells scope.names [])) (s.heap.objs.size + 1) (x :: M) s H fp).env.kindOf y = _ from kindR y, hl, Option.map_some]
          by_cases hcc : (NameKind.free == NameKind.free && X.env.scope.kind == .function && X.env.kindOf y == some .cell) = true
          · rw [if_pos hcc]; exact .inl rfl
          · rw [if_neg hcc]; exact .inr rfl
        · show (cellsFrom (s.heap.objs.size + 2) scope.names (clOf X.env.cells scope.names [])).lookup y = some c
          rw [cellsFrom_not]
          · obtain ⟨d, ed⟩ := clOf_has (acc := []) ec mem
            rw [ed, ← clLook y d ed, ec]
          · intro p hp hpc hpy
            have := ok.cel p hp hpc
            rw [hpy, hl] at this
            cases this
  · rcases look y c e with ⟨_, q⟩ | q
    · exact ⟨_, q⟩
    · obtain ⟨v, z⟩ := I.cell y c q
      exact ⟨v, z.keeps keep⟩
  · rcases look y c e with ⟨q, _⟩ | q
    · exact fresh _ (by omega)
    · exact I.freeC y c q
  · show (none :: sel idx σ).length = (x :: M).length
    unfold sel
    rw [List.length_cons, List.length_cons, List.length_map, ok.len]
theorem compLoop_any {prog : Program} {w : World} {A : Around} {R : Result → Shared → Prop} {s : Shared} {elt target iter : Expr} {ifs : List Expr} {scope : Scope} {pos : Pos} {it acc : Value} {env : Env} (I : Nat → Shared → Prop)
    (turn : ∀ n s, I n s → wpAny (model prog w) A (pyNext it) (fun r s₁ => match r with
      | none => R (.ok .next) s₁
      | some v => wpAny (model prog w) A (letOwnedTupleGo target it v) (fun _ s₁' => wpAny (model prog w) A (assign target env v) (fun _ s₂ =>
          wpAny (model prog w) A (forIn ifs true fun c r => if r = true then do let ok ← isTrue c env (eval c env); pure (ForInStep.yield ok) else pure (ForInStep.yield r)) (fun ok s₃ =>
            if ok = true then wpAny (model prog w) A (eval elt env) (fun x s₄ =>
              wpAny (model prog w) A (call (.builtin "list.append") [acc, x]) (fun _ s₅ => ∃ m, m < n ∧ I m s₅) (fun _ _ => False) s₄) (fun _ _ => False) s₃
            else ∃ m, m < n ∧ I m s₃) (fun _ _ => False) s₂) (fun _ _ => False) s₁') (fun _ _ => False) s₁) (fun _ _ => False) s)
    (n : Nat) (h : I n s) :
    codeAny (model prog w) A (.compLoop (.ListComp elt [⟨target, iter, ifs, 0⟩] scope pos) 0 it acc env) R s := by
  refine codeAny_loop rfl I (fun n s hI => ?_) n h
  show wpAny _ A ((compTurn (.ListComp elt [⟨target, iter, ifs, 0⟩] scope pos) 0 it acc env).onRaise (fun x => do noteFrame x env; theTreesLotGoes x)) _ _ s
  refine wpAny_noted ?_
  rw [compTurn_list]
  refine wpAny_bind (wpAny_standAt (wpAny_bind (wpAny_mono (turn n s hI) (fun r s₁ h₁ => ?_) fun _ _ h' => h'.elim)))
  cases r with
  | none => exact wpAny_pure h₁
  | some v =>
    refine wpAny_bind (wpAny_mono h₁ (fun _ s₁' h₁' => ?_) fun _ _ h' => h'.elim)
    refine wpAny_bind (wpAny_mono h₁' (fun _ s₂ h₂ => wpAny_bind (wpAny_mono h₂ (fun ok s₃ h₃ => ?_) fun _ _ h' => h'.elim)) fun _ _ h' => h'.elim)
    cases ok with
    | false => exact wpAny_pure ⟨rfl, h₃⟩
    | true =>
      exact wpAny_bind (wpAny_bind (wpAny_mono h₃ (fun x s₄ h₄ => wpAny_bind (wpAny_mono h₄ (fun _ s₅ h₅ => wpAny_pure (wpAny_pure ⟨rfl, h₅⟩)) fun _ _ h' => h'.elim)) fun _ _ h' => h'.elim))
def PTs (X : Cx) (cs : List Expr) (t : TT) : Prop :=
  ∀ (pins : List (Addr × Obj)) (s : Shared) (σ : St) (H : Hp) (Q : Bool → Hp → Prop), Inv X pins σ H s → t σ H Q →
    wpAny (model X.prog X.w) X.A (forIn cs true fun c r => if r = true then do let ok ← isTrue c X.env (eval c X.env); pure (ForInStep.yield ok) else pure (ForInStep.yield r)) (TP X pins σ Q) X.xe s
def ttTrue : TT := fun _ H Q => Q true H
theorem pts_nil : PTs X [] ttTrue := fun _ _ _ H _ I h => wpAny_tests_nil ⟨H, I, h⟩
theorem pts_one {c : Expr} {t : TT} (h : PT X c t) : PTs X [c] t := fun pins s σ H Q I hq => wpAny_tests_one (h pins s σ H Q I hq)
def CompW (J : It) (H1 : Hp) (one : V → Hp → (Option V → Hp → Prop) → Prop) (Q : List V → Hp → Prop) : Prop :=
  ∃ (n : Nat) (W : Nat → List V → Hp → Prop), W 0 [] H1 ∧ n ≤ sizeLine ∧ ∀ i ys H', W i ys H' → (J.stop i H' ∧ Q ys H') ∨
    (J.go i H' ∧ i < n ∧ ∃ N : Option V → Hp → Prop, (∀ o H3, N o H3 → W (i + 1) (ys ++ o.toList) H3) ∧ ∀ x H2, J.yld i H' x H2 → one x H2 N)
def oneOf (tc : TT) (te : TE) (σ : St) (x : V) (H : Hp) (k : Option V → Hp → Prop) : Prop :=
  tc (some x :: σ) H fun b H1 => if b = true then te (some x :: σ) H1 fun v H2 => k (some v) H2 else k none H1
def tCompIf (wi : TI) (idx : List Nat) (tc : TT) (te : TE) : TE := fun σ H Q => wi σ H fun J H1 => CompW J H1 (oneOf tc te (sel idx σ)) fun ys H' => ∀ p, H' p = none → Q (.ref p) (upd H' p (.lst ys))
theorem comp_block {elt iter : Expr} {ifs : List Expr} {scope : Scope} {pos : Pos} {x : Str} {px : Pos} {M : List Str} {idx : List Nat} {tc : TT} {te : TE} {itv : Value} {Q : List V → Hp → Prop}
    {RR : Value → Addr → Result → Shared → Prop} 
    (hc : X.calm = true) (ok : CompOk X scope M idx) (hN : (x :: M).Nodup) (hx : scope.names.lookup x = some .local ∨ scope.names.lookup x = some .cell)
    (ht : ∀ cells C s2 H2 fp, PTs (X.comp scope cells C (x :: M) s2 H2 fp) ifs tc) (he : ∀ cells C s2 H2 fp, PE (X.comp scope cells C (x :: M) s2 H2 fp) elt te)
    (h : PIE X pins σ (.Name x px) (fun J H1 => CompW J H1 (oneOf tc te (sel idx σ)) Q) itv s)
    (hR : ∀ (D C : Addr) (ys : List V) (H' : Hp) (s' : Shared), s.heap.objs.size ≤ D → s.heap.objs.size ≤ C → D ≠ C → H' D = none → H' C = none → Q ys H' → (∃ m, s'.heap.Ns C m) →
      (∀ h' tk, Heap.SameBut C s'.heap h' → Inv X pins σ (upd H' D (.lst ys)) { s' with heap := h', toks := tk }) → RR (.ref D) C (.ok .next) s') :
    wpAny (model X.prog X.w) X.A (newList []) (fun acc s₃ => wpAny (model X.prog X.w) X.A (newFunctionEnv scope X.env.globals (clOf X.env.cells scope.names []) [] X.env.qual none .none (some X.env)) (fun cenv s₄ =>
      codeAny (model X.prog X.w) X.A (.compStart (.ListComp elt [⟨.Name x px, iter, ifs, 0⟩] scope pos) 0 itv acc { cenv with scope := relabel scope X.env }) (RR acc cenv.locals) s₄) X.xe s₃) X.xe s := by
  obtain ⟨it, fp, tn, J, H2, e, I2, T, st2, f2, n, W, w0, hn, turn⟩ := h
  subst e
  have ho : ∀ b ∈ fp, ∃ o, s.heap.get? b = some o := fun b hb => let ⟨o, e, _⟩ := T.obj 0 _ st2 b hb; ⟨o, e⟩
  have I3 := comp_start (x := x) ok hc I2 f2 ho
  have sz1 : (s.heap.push { cls := .type "list", dict := none, data := .seq ([] : List Value).toArray }).objs.size = s.heap.objs.size + 1 := Heap.size_push ..
  have keep0 : ∀ b o, s.heap.get? b = some o → (pushCells ((s.heap.push { cls := .type "list", dict := none, data := .seq ([] : List Value).toArray }).push { cls := .type "dict", data := .dict #[] }) scope.names).get? b = some o :=
    fun b o e => pushCells_keeps _ _ _ _ (Heap.get?_push_of_some _ (Heap.get?_push_of_some _ e))
  have acc0 : (pushCells ((s.heap.push { cls := .type "list", dict := none, data := .seq ([] : List Value).toArray }).push { cls := .type "dict", data := .dict #[] }) scope.names).PlainList s.heap.objs.size ([] : List Value).toArray :=
    ⟨_, pushCells_keeps _ _ _ _ (Heap.get?_push_of_some _ (Heap.get?_push_size _ rfl))⟩
  have fpLt : ∀ b ∈ fp, b < s.heap.objs.size := fun b hb => let ⟨_, e⟩ := ho b hb; Heap.lt_size e
  refine wpAny_newList ?_
  refine newCompEnv ?_
  dsimp only
  rw [sz1]
  generalize hcells : cellsFrom (s.heap.objs.size + 1 + 1) scope.names (clOf X.env.cells scope.names []) = cells
  have hcells' : cellsFrom (s.heap.objs.size + 2) scope.names (clOf X.env.cells scope.names []) = cells := hcells
  rw [hcells'] at I3
  generalize hh : pushCells ((s.heap.push { cls := .type "list", dict := none, data := .seq ([] : List Value).toArray }).push { cls := .type "dict", data := .dict #[] }) scope.names = h1 at I3 keep0 acc0 ⊢
  have ht := ht cells (s.heap.objs.size + 1) s H2 fp
  have he := he cells (s.heap.objs.size + 1) s H2 fp
  have st3 : tn 0 h1 := T.keep 0 _ _ st2 fun b hb o e => keep0 b o e
  have hg : PG (X.comp scope cells (s.heap.objs.size + 1) (x :: M) s H2 fp) (.Name x px) (gName 0) := by
    refine pg_name hN rfl ?_ ?_
    · show (relabel scope X.env).names.lookup x = some .local ∨ (relabel scope X.env).names.lookup x = some .cell
      rw [show (relabel scope X.env).names.lookup x = _ from kindOf_relabel scope.names x]
      rcases hx with z | z
      · rw [z]; exact .inl rfl
      · rw [z]; exact .inr rfl
    · rcases hx with z | z
      · refine .inr ?_
        show (relabel scope X.env).names.lookup x = some .local
        rw [show (relabel scope X.env).names.lookup x = _ from kindOf_relabel scope.names x, z]
        rfl
      · refine .inl ?_
        show (scope.names.lookup x == some .cell) = true
        rw [z]; rfl
  have stat : ∀ {pins' : List (Addr × Obj)} {H' : Hp}, (∀ p ∈ pins', p.1 = s.heap.objs.size) → (∀ b ∈ fp, H' b = none) → ∀ b ∈ fp, FpOk (X.comp scope cells (s.heap.objs.size + 1) (x :: M) s H2 fp) pins' H' b := fun {pins' H'} hp hn b hb =>
    ⟨hn b hb, (I3.ok.exf b hb).1, I3.ok.exfs b hb, .inl hb, (I3.ok.exf b hb).2, fun p hp' => by
      have e := hp p (show p ∈ pins' from by simpa [Cx.comp] using hp')
      rw [e]; exact Nat.ne_of_gt (fpLt b hb)⟩
  have loop : ∀ (s₄ : Shared), s₄ = { s with heap := h1 } → codeAny (model X.prog X.w) X.A (.compLoop (.ListComp elt [⟨.Name x px, iter, ifs, 0⟩] scope pos) 0 (.ref it) (.ref s.heap.objs.size) (compEnvC scope cells (s.heap.objs.size + 1) X.env))
      (RR (.ref s.heap.objs.size) (s.heap.objs.size + 1)) s₄ := by
    rintro s₄ rfl
    refine compLoop_any (fun k s' => ∃ (i : Nat) (ys : List V) (its : List Value) (H' : Hp), Inv (X.comp scope cells (s.heap.objs.size + 1) (x :: M) s H2 fp) [] (none :: sel idx σ) H' s' ∧ tn i s'.heap ∧ (∀ b ∈ fp, H' b = none) ∧ H' s.heap.objs.size = none ∧
      s'.heap.PlainList s.heap.objs.size its.toArray ∧ Vals ys its ∧ ys.length ≤ i ∧ i ≤ n ∧ W i ys H' ∧ k = n - i) ?_ n ⟨0, [], [], H2, I3, st3, fun b hb => (f2 b hb).1, I2.hok.fresh (Nat.le_refl _), acc0, .nil, Nat.le_refl _, Nat.zero_le _, w0, rfl⟩
    rintro k s' ⟨i, ys, its, H', I', st', fr', hD', hpl', hv', hlen, hlin, w', rfl⟩
    obtain ⟨nn, hobj⟩ := id hpl'
    have pinD : ∀ {H5 : Hp} {s5 : Shared} {σ5 : St} {P5 : List (Addr × Obj)}, Inv (X.comp scope cells (s.heap.objs.size + 1) (x :: M) s H2 fp) P5 σ5 H5 s5 → s5.heap.get? s.heap.objs.size = some { cls := .type "list", data := .seq its.toArray nn } → H5 s.heap.objs.size = none →
        ∀ p ∈ [(s.heap.objs.size, ({ cls := .type "list", data := .seq its.toArray nn } : Obj))], s5.heap.get? p.1 = some p.2 ∧ H5 p.1 = none ∧ p.1 ≠ (X.comp scope cells (s.heap.objs.size + 1) (x :: M) s H2 fp).env.locals ∧ p.1 ∉ (X.comp scope cells (s.heap.objs.size + 1) (x :: M) s H2 fp).fs ∧ ∀ v, p.2.data ≠ .cell v :=
      fun {H5 s5 σ5 P5} I5 e5 n5 p hp => by
        have ep : p = (s.heap.objs.size, ({ cls := .type "list", data := .seq its.toArray nn } : Obj)) := by simpa using hp
        subst ep
        refine ⟨e5, n5, Nat.ne_of_lt (Nat.lt_succ_self _), fun z => ?_, fun v z => by cases z⟩
        obtain ⟨_, o, ho, _⟩ := I5.ok.funs.mem z
        exact absurd (Heap.lt_size ho) (Nat.lt_irrefl _)
    have ID := I'.pins_of (pinD I' hobj hD')
    have ndp : ∀ p ∈ [(s.heap.objs.size, ({ cls := .type "list", data := .seq its.toArray nn } : Obj))], p.1 = s.heap.objs.size := fun p hp => by
      have ep : p = (s.heap.objs.size, ({ cls := .type "list", data := .seq its.toArray nn } : Obj)) := by simpa using hp
      rw [ep]
    rcases turn i ys H' w' with ⟨stop, qn⟩ | ⟨go, hin, N, hNW, step⟩
    · refine thn (T.done (X.comp scope cells (s.heap.objs.size + 1) (x :: M) s H2 fp) rfl rfl rfl hc i _ s' _ H' (fun _ _ => False) ID (stat ndp fr') st' stop) fun r s4 ⟨hr, I4⟩ => ?_
      subst hr
      have pin4 := I4.pin (s.heap.objs.size, ({ cls := .type "list", data := .seq its.toArray nn } : Obj)) (by simp [Cx.comp])
      obtain ⟨m4, hm4, _⟩ := id I4.loc
      refine hR s.heap.objs.size (s.heap.objs.size + 1) ys H' s4 (Nat.le_refl _) (Nat.le_succ _) (Nat.ne_of_lt (Nat.lt_succ_self _)) pin4.2.1 I4.free qn ⟨m4, hm4⟩ fun h' tk hs' => ?_
      have neC : ∀ b, b < s.heap.objs.size → b ≠ s.heap.objs.size + 1 := fun b hb => Nat.ne_of_lt (Nat.lt_succ_of_lt hb)
      have neD : ∀ b, b < s.heap.objs.size → b ≠ s.heap.objs.size := fun b hb => Nat.ne_of_lt hb
      have u4 := I4.base
      refine I2.call' (s' := { s4 with heap := h', toks := tk }) (ch := fp) I4.os ?_ ?_ I4.bare fun b hb => ?_
      · refine ⟨fun b o e1 e2 e3 e4 => ?_, fun b o e1 e2 e3 e4 => ?_, fun b o e1 e2 e3 => ?_, fun b o e1 e2 => ?_, fun b xs e1 => ?_, fun b o u e1 => ?_, fun b ps e1 => ?_⟩
        · exact (hs'.2 b (neC b (Heap.lt_size e1))).trans (u4.keep b o e1 e2 e3 e4)
        · obtain ⟨sl, q⟩ := u4.slot b o e1 e2 e3 e4
          exact ⟨sl, (hs'.2 b (neC b (Heap.lt_size e1))).trans q⟩
        · rw [upd_ne (neD b (Heap.lt_size e1))]; exact u4.free b o e1 e2 e3
        · obtain ⟨o', q⟩ := u4.there b o e1 e2
          exact ⟨o', (hs'.2 b (neC b (Heap.lt_size e1))).trans q⟩
        · have q := u4.tups b xs e1
          rw [upd_ne (ne_of_none q pin4.2.1)]; exact q
        · have q := u4.frzs b o u e1
          rw [upd_ne (ne_of_none q pin4.2.1)]; exact q
        · obtain ⟨more, q⟩ := u4.tbls b ps e1
          exact ⟨more, by rw [upd_ne (ne_of_none q pin4.2.1)]; exact q⟩
      · intro b o e1
        by_cases hb : b = s.heap.objs.size
        · subst hb
          rw [upd_same] at e1; cases e1
          exact ⟨Nat.le_trans hlen (Nat.le_trans hlin hn), its, nn, hv', (hs'.2 _ (Nat.ne_of_lt (Nat.lt_succ_self _))).trans pin4.1⟩
        · rw [upd_ne hb] at e1
          refine (I4.hok b o e1).stay (fun c u hcu q => (hs'.2 c ?_).trans q) (fun c q => by rw [upd_ne (ne_of_none q pin4.2.1)]; exact q) fun c xs q => by rw [upd_ne (ne_of_none q pin4.2.1)]; exact q
          rintro rfl
          rcases hcu with z | z
          · rw [← z] at e1
            have z2 := I4.free
            rw [show (X.comp scope cells (s.heap.objs.size + 1) (x :: M) s H2 fp).env.locals = s.heap.objs.size + 1 from rfl, e1] at z2
            cases z2
          · have z2 := I4.free
            rw [show (X.comp scope cells (s.heap.objs.size + 1) (x :: M) s H2 fp).env.locals = s.heap.objs.size + 1 from rfl, z] at z2
            cases z2
      · obtain ⟨_, g1, g2, g3, g4, g5⟩ := f2 b hb
        exact ⟨g3, g1, g4, g5⟩
    · refine thn (T.item (X.comp scope cells (s.heap.objs.size + 1) (x :: M) s H2 fp) rfl rfl rfl hc i _ s' _ H' (fun _ _ => False) ID (stat ndp fr') st' go) fun r s4 ⟨u, hr, h4⟩ => ?_
      subst hr
      refine thn h4 fun _ s5 ⟨y, H5, I5, r5, y5, st5, fr5⟩ => ?_
      have I5' := I5.pinned (stat ndp fr5) (T.obj _ _ st5)
      refine thn (hg _ s5 _ H5 y u (fun σ' H6 => σ' = some y :: sel idx σ ∧ H6 = H5) I5' r5 ⟨rfl, rfl⟩) fun _ s6 ⟨σ6, H6, I6, e6, e6'⟩ => ?_
      subst e6 e6'
      have fin : ∀ {H8 : Hp} {s8 : Shared} {σ8 : St}, Inv (X.comp scope cells (s.heap.objs.size + 1) (x :: M) s H2 fp) ([(s.heap.objs.size, ({ cls := .type "list", data := .seq its.toArray nn } : Obj))] ++ pinsAt fp s5.heap) σ8 H8 s8 →
          s8.heap.PlainList s.heap.objs.size its.toArray ∧ H8 s.heap.objs.size = none ∧ tn (i + 1) s8.heap ∧ ∀ b ∈ fp, H8 b = none := fun {H8 s8 σ8} I8 => by
        have p8 := I8.pin (s.heap.objs.size, ({ cls := .type "list", data := .seq its.toArray nn } : Obj)) (by simp [Cx.comp])
        refine ⟨⟨nn, p8.1⟩, p8.2.1, T.keep _ _ _ st5 fun b hb o e => (I8.pin (b, o) (List.mem_append_right _ (List.mem_append_right _ (mem_pinsAt hb e)))).1, fun b hb => ?_⟩
        obtain ⟨o, e, _⟩ := T.obj _ _ st5 b hb
        exact (I8.pin (b, o) (List.mem_append_right _ (List.mem_append_right _ (mem_pinsAt hb e)))).2.1
      have back : ∀ {H8 : Hp} {s8 : Shared} {P8 : List (Addr × Obj)}, Inv (X.comp scope cells (s.heap.objs.size + 1) (x :: M) s H2 fp) P8 (some y :: sel idx σ) H8 s8 → Inv (X.comp scope cells (s.heap.objs.size + 1) (x :: M) s H2 fp) [] (none :: sel idx σ) H8 s8 := fun I8 =>
        (I8.pins_of fun p hp => absurd hp (by simp)).weak rfl fun j v e => by
          cases j with
          | zero => cases e
          | succ j => exact e
      refine thn (ht _ s6 _ _ _ I6 (step y _ y5)) fun b s7 ⟨H7, I7, q7⟩ => ?_
      cases b with
      | false =>
        have q7' : W (i + 1) (ys ++ []) H7 := hNW none H7 q7
        rw [List.append_nil] at q7'
        obtain ⟨g1, g2, g3, g4⟩ := fin I7
        refine show (if false = true then _ else _) from ?_
        rw [if_neg Bool.false_ne_true]
        exact ⟨n - (i + 1), by omega, i + 1, ys, its, H7, back I7, g3, g4, g2, g1, hv', Nat.le_succ_of_le hlen, hin, q7', rfl⟩
      | true =>
        refine show (if true = true then _ else _) from ?_
        rw [if_pos rfl]
        have q7' : te (some y :: sel idx σ) H7 fun v H3 => N (some v) H3 := q7
        refine thn (he _ s7 _ _ _ I7 q7') fun u8 s8 ⟨v8, H8, I8, r8, w8⟩ => ?_
        have w8 : W (i + 1) (ys ++ [v8]) H8 := hNW (some v8) H8 w8
        obtain ⟨g1, g2, g3, g4⟩ := fin I8
        refine wpAny_list_append_plain g1 (fun h' hpl hs' => ?_) (by
          rw [List.size_toArray, ← hv'.length]
          exact Nat.le_trans hlen (Nat.le_trans hlin hn))
        have I9 := back I8
        have hpl2 : h'.PlainList s.heap.objs.size (its ++ [u8]).toArray := by
          have e : (its ++ [u8]).toArray = its.toArray.push u8 := by simp
          rw [e]; exact hpl
        refine ⟨n - (i + 1), by omega, i + 1, ys ++ [v8], its ++ [u8], H8, I9.turned (it := s.heap.objs.size) (t' := s8.toks) (fun b o hb e => (hs'.2 b hb).trans e) g2 (Nat.ne_of_lt (Nat.lt_succ_self _)) (.inr (Nat.le_refl _)) (fun z c ec hcz => ?_) (fun p hp => absurd hp (by simp [Cx.comp])),
          T.keep _ _ _ g3 (fun b hb o e => (hs'.2 b (Nat.ne_of_lt (fpLt b hb))).trans e), g4, g2, hpl2, hv'.append (.cons r8 .nil), by rw [List.length_append]; exact Nat.succ_le_succ hlen, hin, w8, rfl⟩
        obtain ⟨v, o, ho, hd⟩ := I9.cell z c ec
        obtain ⟨n9, g9⟩ := g1
        rw [hcz, g9] at ho
        cases ho
        cases hd
  exact codeAny_compStart_list (loop _ rfl) (T.self _ 0 _ _ _ st3 (loop _ rfl))
theorem pe_compIf {elt iter : Expr} {ifs : List Expr} {scope : Scope} {pos : Pos} {x : Str} {px : Pos} {M : List Str} {idx : List Nat} {wi : TI} {tc : TT} {te : TE}
    (hc : X.calm = true) (hi : PI X (.Name x px) iter wi) (ok : CompOk X scope M idx) (hN : (x :: M).Nodup) (hx : scope.names.lookup x = some .local ∨ scope.names.lookup x = some .cell)
    (ht : ∀ cells C s2 H2 fp, PTs (X.comp scope cells C (x :: M) s2 H2 fp) ifs tc) (he : ∀ cells C s2 H2 fp, PE (X.comp scope cells C (x :: M) s2 H2 fp) elt te)
    (hs : ∀ x, foldedSetIterable iter X.env x = pure x := by intro _; rfl) : PE X (.ListComp elt [⟨.Name x px, iter, ifs, 0⟩] scope pos) (tCompIf wi idx tc te) := by
  intro pins s σ H Q I h
  rw [eval_ListComp]
  refine wpAny_comprehension_free (use := none) rfl hs (closureFor_cl fun y hy e => I.ok.has y.1 (ok.fre y hy e)) ok.kind ok.loc (thn (hi pins s σ H _ I h) fun v s1 h1 => thn h1 fun itv s2 h2 => ?_)
  refine comp_block (RR := fun acc C => compPost (model X.prog X.w) X.A X.xe none (EP X pins σ Q) acc C) hc ok hN hx ht he h2 fun D C ys H' s' hD hC hDC nD nC q hm hI => ?_
  obtain ⟨m, hm⟩ := hm
  exact ⟨m, hm, fun h' hs' => ⟨.ref D, upd H' D (.lst ys), hI h' s'.toks hs', rfl, q D nD⟩⟩
end
theorem compW_list {K : PySem.W.Frag} {a : Addr} {xs : List V} {H : Hp} {one : V → Hp → (Option V → Hp → Prop) → Prop} {Q : List V → Hp → Prop} (Pv : Nat → List V → Hp → Prop) (h0 : Pv 0 [] H) (hn : xs.length ≤ sizeLine)
    (hl : ∀ i ys H, i ≤ xs.length → Pv i ys H → SqL K H a xs) (hs : ∀ i x ys H, xs[i]? = some x → Pv i ys H → one x H fun o H2 => Pv (i + 1) (ys ++ o.toList) H2) (hd : ∀ ys H, Pv xs.length ys H → Q ys H) : CompW (Itl K a) H one Q := by
  refine ⟨xs.length, fun i ys H => i ≤ xs.length ∧ Pv i ys H, ⟨Nat.zero_le _, h0⟩, hn, ?_⟩
  rintro i ys H ⟨hi, p⟩
  have q := hl i ys H hi p
  by_cases hlt : i < xs.length
  · refine .inr ⟨⟨xs, xs[i], q, by simp [hlt]⟩, hlt, fun o H3 => Pv (i + 1) (ys ++ o.toList) H3, fun o H3 z => ⟨hlt, z⟩, fun x H2 y => ?_⟩
    obtain ⟨e, y⟩ := y
    subst e
    exact hs i x ys _ (y xs q) p
  · have e : i = xs.length := by omega
    subst e
    exact .inl ⟨⟨xs, q, Nat.le_refl _⟩, hd ys H p⟩
theorem compW_tup {K : PySem.W.Frag} {a : Addr} {xs : List V} {H : Hp} {one : V → Hp → (Option V → Hp → Prop) → Prop} {Q : List V → Hp → Prop} (Pv : Nat → List V → Hp → Prop) (h0 : Pv 0 [] H) (hn : xs.length ≤ sizeLine)
    (hl : ∀ i ys H, i ≤ xs.length → Pv i ys H → SqT K H a xs) (hs : ∀ i x ys H, xs[i]? = some x → Pv i ys H → one x H fun o H2 => Pv (i + 1) (ys ++ o.toList) H2) (hd : ∀ ys H, Pv xs.length ys H → Q ys H) : CompW (Itt K a) H one Q := by
  refine ⟨xs.length, fun i ys H => i ≤ xs.length ∧ Pv i ys H, ⟨Nat.zero_le _, h0⟩, hn, ?_⟩
  rintro i ys H ⟨hi, p⟩
  have q := hl i ys H hi p
  by_cases hlt : i < xs.length
  · refine .inr ⟨⟨xs, xs[i], q, by simp [hlt]⟩, hlt, fun o H3 => Pv (i + 1) (ys ++ o.toList) H3, fun o H3 z => ⟨hlt, z⟩, fun x H2 y => ?_⟩
    obtain ⟨e, y⟩ := y
    subst e
    exact hs i x ys _ (y xs q) p
  · have e : i = xs.length := by omega
    subst e
    exact .inl ⟨⟨xs, q, Nat.le_refl _⟩, hd ys H p⟩
end L2
namespace L2
open PySem PySem.Spec PyProof.Rows
mutual
inductive IsD (H : Hp) : V → PyData → Prop
  | non : IsD H .non .none
  | bl (b : Bool) : IsD H (.bl b) (.bool b)
  | int (i : Int) : IsD H (.int i) (.int i)
  | str (x : Str) : IsD H (.str x) (.str x)
  | tup {a : Addr} {xs : List V} {ds : List PyData} : H a = some (.tup xs) → IsDs H xs ds → IsD H (.ref a) (.tuple ds)
inductive IsDs (H : Hp) : List V → List PyData → Prop
  | nil : IsDs H [] []
  | cons {x : V} {xs : List V} {d : PyData} {ds : List PyData} : IsD H x d → IsDs H xs ds → IsDs H (x :: xs) (d :: ds)
end
def KeepT (H H' : Hp) : Prop := ∀ a xs, H a = some (.tup xs) → H' a = some (.tup xs)
mutual
theorem IsD.keep {H H' : Hp} (k : KeepT H H') : ∀ {v : V} {d : PyData}, IsD H v d → IsD H' v d
  | _, _, .non => .non
  | _, _, .bl b => .bl b
  | _, _, .int i => .int i
  | _, _, .str x => .str x
  | _, _, .tup h r => .tup (k _ _ h) (IsDs.keep k r)
theorem IsDs.keep {H H' : Hp} (k : KeepT H H') : ∀ {xs : List V} {ds : List PyData}, IsDs H xs ds → IsDs H' xs ds
  | _, _, .nil => .nil
  | _, _, .cons h r => .cons (IsD.keep k h) (IsDs.keep k r)
end
theorem IsDs.length {H : Hp} : ∀ {xs : List V} {ds : List PyData}, IsDs H xs ds → xs.length = ds.length
  | _, _, .nil => rfl
  | _, _, .cons _ r => by rw [List.length_cons, List.length_cons, IsDs.length r]
theorem IsDs.get {H : Hp} : ∀ {xs : List V} {ds : List PyData} {i : Nat} {d : PyData}, IsDs H xs ds → ds[i]? = some d → ∃ x, xs[i]? = some x ∧ IsD H x d
  | _, _, i, d, .nil, e => by simp at e
  | _, _, 0, d, .cons h _, e => by simp at e; subst e; exact ⟨_, rfl, h⟩
  | _, _, i + 1, d, .cons _ r, e => by
    obtain ⟨x, e1, h⟩ := IsDs.get (i := i) (d := d) r (by simpa using e)
    exact ⟨x, by simpa using e1, h⟩
theorem IsDs.append {H : Hp} : ∀ {xs ys : List V} {ds es : List PyData}, IsDs H xs ds → IsDs H ys es → IsDs H (xs ++ ys) (ds ++ es)
  | _, _, _, _, .nil, s => s
  | _, _, _, _, .cons h r, s => .cons h (IsDs.append r s)
theorem IsD.tuple_inv {H : Hp} {v : V} {ds : List PyData} (h : IsD H v (.tuple ds)) : ∃ a xs, v = .ref a ∧ H a = some (.tup xs) ∧ IsDs H xs ds := by
  cases h with
  | tup e r => exact ⟨_, _, rfl, e, r⟩
section
variable {X : Cx} {pins : List (Addr × Obj)} {σ : St} {H : Hp} {s : Shared}
mutual
theorem IsD.reads {P : Program} {w : World} {h : Heap} {H : Hp} (I : HOk P w H h) : ∀ {v : V} {d : PyData} {u : Value}, IsD H v d → RelV v u → ∃ as, Reads h u d as
  | _, _, u, .non, r => by cases (show u = Value.none from r); exact ⟨_, .none⟩
  | _, _, u, .bl b, r => by cases (show u = Value.bool b from r); exact ⟨_, .bool b⟩
  | _, _, u, .int i, r => by obtain ⟨t, rfl⟩ := (show ∃ t, u = Value.int i t from r); exact ⟨_, .int i t⟩
  | _, _, u, .str x, r => by obtain ⟨t, rfl⟩ := (show ∃ t, u = Value.str x t from r); exact ⟨_, .str x t⟩
  | _, _, u, .tup (a := a) (xs := xs) e rs, r => by
    cases (show u = Value.ref a from r)
    obtain ⟨_, its, rv, o, h1, h2, n, h3⟩ := (show ObjOk P w H h a (.tup xs) from I a _ e)
    obtain ⟨as, hr⟩ := IsDs.reads I rs rv
    exact ⟨as, .tuple h1 h2 h3 (by simpa using hr)⟩
theorem IsDs.reads {P : Program} {w : World} {h : Heap} {H : Hp} (I : HOk P w H h) : ∀ {xs : List V} {ds : List PyData} {us : List Value}, IsDs H xs ds → Vals xs us → ∃ as, ReadsAll h us ds as
  | _, _, _, .nil, .nil => ⟨_, .nil⟩
  | _, _, _, .cons h r, .cons v vs => by
    obtain ⟨as, h1⟩ := IsD.reads I h v
    obtain ⟨bs, h2⟩ := IsDs.reads I r vs
    exact ⟨_, .cons h1 h2⟩
end
def CmpD (u : Nat) (dx dy : PyData) : Prop := dx.canLay0 = true ∧ dy.canLay0 = true ∧ dx.depth ≤ 20
def rEqD (u : Nat) : R2 := fun x y H Q => ∃ dx dy, IsD H x dx ∧ IsD H y dy ∧ CmpD u dx dy ∧ Q (.bl (PyData.eqv dx dy)) H
def rNeD (u : Nat) : R2 := fun x y H Q => ∃ dx dy, IsD H x dx ∧ IsD H y dy ∧ CmpD u dx dy ∧ Q (.bl (!PyData.eqv dx dy)) H
theorem unitsD {A : Around} {a b : Nat} (hu : A.units + 64 < cLine) (h : a ≤ 20) : A.units + min a b < cLine := by
  have : min a b ≤ a := Nat.min_le_left _ _
  omega
theorem op_eqD (hu : X.A.units + 64 < cLine) : OpR X (compareOp .Eq) (rEqD 0) := by
  intro pins s σ H x y v u Q I rx ry h
  obtain ⟨dx, dy, hx, hy, ⟨c1, c2, c3⟩, q⟩ := h
  obtain ⟨as, r1⟩ := hx.reads I.hok rx
  obtain ⟨bs, r2⟩ := hy.reads I.hok ry
  exact PySem.SeqAt.compareEq_reads r1 r2 c1 c2 (unitsD hu c3) ⟨.bl _, H, I, rfl, q⟩
theorem op_neD (hu : X.A.units + 64 < cLine) : OpR X (compareOp .NotEq) (rNeD 0) := by
  intro pins s σ H x y v u Q I rx ry h
  obtain ⟨dx, dy, hx, hy, ⟨c1, c2, c3⟩, q⟩ := h
  obtain ⟨as, r1⟩ := hx.reads I.hok rx
  obtain ⟨bs, r2⟩ := hy.reads I.hok ry
  exact PySem.SeqAt.compareNe_reads r1 r2 c1 c2 (unitsD hu c3) ⟨.bl _, H, I, rfl, q⟩
theorem call_sum (hc : X.calm = true) : CallR X (.builtin "sum") (fun xs H Q => ∃ (p : Addr) (ns : List Int), xs = [.ref p] ∧ SqL X.K H p (ns.map V.int) ∧ Q (.int ns.sum) H) := by
  intro pins s σ H xs us Q I r h
  obtain ⟨p, ns, rfl, hS, q⟩ := h
  obtain ⟨u, rfl, e⟩ := vals1 r
  obtain rfl : u = Value.ref p := e
  obtain ⟨its, hv, ⟨o, n, h1, h2, h3, h4⟩, _⟩ := I.list hS
  have hi : IntsAre its ns := intsAre_of hv
  obtain ⟨xs, hx⟩ := hi.allInts.items
  have hl : s.heap.IsList p its.toArray := ⟨o, h1, h2, n, h4⟩
  refine sum_intListG (I.ok.hd hc) (hx ▸ hl) fun h' tk t' hk => ⟨.int ns.sum, H, I.kept hk, ⟨t', ?_⟩, q⟩
  have e1 : ns = xs.toList.map (·.1) := by
    rw [← nums_intItems, ← hx]
    exact (show numsOf its.toArray.toList = ns from hi.numsOf).symm
  rw [preSum_eq, List.take_of_length_le (by simp), e1]
theorem bools_of : ∀ {bs : List Bool} {us : List Value}, Vals (bs.map V.bl) us → LSm.BoolsAre us bs
  | [], _, .nil => .nil
  | b :: bs, _, .cons r t => by
    cases (show _ = Value.bool b from r)
    exact .cons b (bools_of t)
theorem call_all (hc : X.calm = true) : CallR X (.builtin "all") (fun xs H Q => ∃ (p : Addr) (bs : List Bool), xs = [.ref p] ∧ SqL X.K H p (bs.map V.bl) ∧ Q (.bl (bs.all id)) H) := by
  intro pins s σ H xs us Q I r h
  obtain ⟨p, bs, rfl, hS, q⟩ := h
  obtain ⟨u, rfl, e⟩ := vals1 r
  obtain rfl : u = Value.ref p := e
  obtain ⟨its, hv, ⟨o, n, h1, h2, h3, h4⟩, _⟩ := I.list hS
  have hb := bools_of hv
  have hl : s.heap.IsList p its.toArray := ⟨o, h1, h2, n, h4⟩
  have hlt : p < s.heap.objs.size := Heap.lt_size h1
  refine call_all_walk (wpAny_pyIter_list hl ?_)
  refine ⟨s.heap.objs.size, [s.heap.objs.size, p], [s.heap.objs.size], its.toArray.size, _, _, fun i => (bs[i]?).getD true, rfl, Walks.list (A := X.A.in1) (I.ok.hd hc) _ p (Nat.ne_of_lt hlt) its.toArray,
    ⟨⟨_, Heap.get?_push_size _ rfl, rfl, rfl⟩, hl.push _⟩, fun i v s' Q' E' hP hQ => ?_, fun h' tk hk => ?_⟩
  · obtain ⟨b, e, rfl⟩ := hb.get i v (by simpa using hP)
    simp only [e, Option.getD_some] at hQ
    exact wpAny_truthy_bool hQ
  · have e : ((List.range its.toArray.size).all fun i => (bs[i]?).getD true) = bs.all id := by
      rw [List.size_toArray, hb.length]; exact LSm.range_all bs
    rw [e]
    exact ⟨.bl _, H, I.kept (LSm.kept_iter hk), rfl, q⟩
end
end L2
namespace L2
open PySem PySem.Spec PyProof.Rows
def Raw (K : PySem.W.Frag) (mg : Str → Option Value) (x : Str) (ps : List Str) (st : Stmt) : Prop :=
  ∃ (f : Addr) (fd : FuncData), Fun K x x st f fd ∧ mg x = some (.ref f) ∧ Binds K fd ps []
def Df (P : Program) (w : World) (K : PySem.W.Frag) (mg : Str → Option Value) (base : Heap) (k : Nat) (x : Str) (ps : List Str) (sp : Sp) : Prop :=
  ∃ (f : Addr) (fd : FuncData), FnOk P w K mg base CX0 k f fd ps sp ∧ mg x = some (.ref f) ∧ PySem.W.keepIn K (.ref f) = true ∧ Binds K fd ps [] ∧ ∃ st, Fun K x x st f fd
section
variable {P : Program} {w : World} {K : PySem.W.Frag} {mg : Str → Option Value} {base : Heap}
theorem Raw.ok {x : Str} {ps N : List Str} {st : Stmt} {k : Nat} {sp : Sp} (R : Raw K mg x ps st) (S : FnScope N ps (defScope st)) (len : ∀ vs H Q E, sp vs H Q E → vs.length = ps.length)
    (hbody : ∀ (f : Addr) (cdv : Value) (A : Around) (outer : List Env) (s : Shared) (H : Hp) (vs : List V) (Q : VK) (E : XK), Room k (A.deeper (envOfC x (defScope st) s.heap.objs.size f cdv)) → sp vs H Q E →
      ∃ t, PSs (cxOf CX0 P w K mg base N x (defScope st) f cdv A outer s H E).nox (defBody st) t ∧ t { nx := fun _ H' => Q .non H', rt := Q } (start N vs) H) : Df P w K mg base (k + 1) x ps sp := by
  obtain ⟨f, fd, F, m, b⟩ := R
  exact ⟨f, fd, F.ok S len (fun cdv A outer s H vs Q E hr h => hbody f cdv A outer s H vs Q E hr h), m, F.kp, b, st, F⟩
end
theorem pe_df {X : Cx} {k : Nat} {x : Str} {ps : List Str} {sp : Sp} {p pos : Pos} {e : Expr} {es : List Expr} {t : TA} (D : Df X.prog X.w X.K X.mg X.base k x ps sp) (hr : Room k X.A) (ha : PA X (e :: es) t) (hg : Gl X x := by rfl)
    (hdb : (x == ("__debug__" : Str)) = false := by decide) (he : starEach (e :: es) X.env = (false, eval e X.env) :: starEach es X.env := by rfl) (hpl : (backTo pos (starEach es X.env)).any (·.1) = false := by rfl) :
    PE X (.Call (.Name x p) (e :: es) [] pos) (tCall sp [] E0 t) := by
  obtain ⟨f, fd, F, m, kp, b, _⟩ := D
  exact pe_call F hr hg m kp b .nil pass0 ha hdb he hpl
def KeepBut (d : Addr) (H H' : Hp) : Prop := ∀ b o, H b = some o → b ≠ d → H' b = some o
theorem KeepBut.refl (d : Addr) (H : Hp) : KeepBut d H H := fun _ _ h _ => h
theorem KeepBut.trans {d : Addr} {H H1 H2 : Hp} (a : KeepBut d H H1) (b : KeepBut d H1 H2) : KeepBut d H H2 := fun c o h n => b c o (a c o h n) n
theorem KeepBut.upd {d p : Addr} {H H1 : Hp} {o : HO} (a : KeepBut d H H1) (hp : H1 p = none) : KeepBut d H (upd H1 p o) := fun c u h n => by
  rw [upd_ne (ne_of_none (a c u h n) hp)]; exact a c u h n
structure DeckAt (H : Hp) (d c : Addr) (ns : List Int) (k : Nat) (r : Int) (m : Nat) (t : Int) : Prop where
  deck : H d = some (.lst [.ref c, .int k, .int r, .int m, .int t])
  cut : H c = some (.lst (ns.map V.int))
  kle : k ≤ ns.length
  few : ns.length ≤ 63
  rnn : 0 ≤ r
def Deck (H : Hp) (d : Addr) (n : Nat) : Prop := ∃ c ns k r m t, DeckAt H d c ns k r m t ∧ m ≤ n
theorem Deck.more {H : Hp} {d : Addr} {n m : Nat} (D : Deck H d n) (h : n ≤ m) : Deck H d m := let ⟨c, ns, k, r, j, t, D, hj⟩ := D; ⟨c, ns, k, r, j, t, D, Nat.le_trans hj h⟩
theorem Deck.keep {H H' : Hp} {d : Addr} {n : Nat} (D : Deck H d n) (h : Same H H') : Deck H' d n :=
  let ⟨c, ns, k, r, m, t, D, hm⟩ := D; ⟨c, ns, k, r, m, t, ⟨h _ _ D.deck, h _ _ D.cut, D.kle, D.few, D.rnn⟩, hm⟩
theorem Deck.upd {H : Hp} {d p : Addr} {n : Nat} {o : HO} (D : Deck H d n) (hp : H p = none) : Deck (upd H p o) d n := D.keep fun b u e => by rw [upd_ne (ne_of_none e hp)]; exact e
theorem same_upd {H : Hp} {p : Addr} {o : HO} (hp : H p = none) : Same H (upd H p o) := fun b u e => by rw [upd_ne (ne_of_none e hp)]; exact e
theorem Same.tups {H H' : Hp} (s : Same H H') : KeepT H H' := fun a xs e => s a _ e
theorem Same.but {H H' : Hp} (s : Same H H') (d : Addr) : KeepBut d H H' := fun a o e _ => s a o e
end L2
namespace L2
open PySem PySem.Spec PyProof.Rows
section
variable {X : Cx} {tg l : Expr}
theorem op_eqA (hu : X.A.units + 64 < cLine) : OpR X (compareOp .Eq) (fun x y H Q => rEq x y H Q ∨ rEqD 0 x y H Q) := op_eq.or (op_eqD hu)
theorem op_neA (hu : X.A.units + 64 < cLine) : OpR X (compareOp .NotEq) (fun x y H Q => rNe x y H Q ∨ rNeD 0 x y H Q) := op_ne.or (op_neD hu)
theorem pi_or {w1 w2 : TI} (h1 : PI X tg l w1) (h2 : PI X tg l w2) : PI X tg l (fun σ H R => w1 σ H R ∨ w2 σ H R) := fun pins s σ H R I h => h.elim (h1 pins s σ H R I) (h2 pins s σ H R I)
theorem pi_seq {tl : TE} (hl : PE X l tl) : PI X tg l (fun σ H R => iList X.K tl σ H R ∨ iTup X.K tl σ H R) := pi_or (pi_list hl) (pi_tup hl)
end
theorem bt_tuple : bootBuiltins "tuple" = some (.type "tuple") := by decide +kernel
theorem bt_int : bootBuiltins "int" = some (.type "int") := by decide +kernel
theorem bt_str : bootBuiltins "str" = some (.type "str") := by decide +kernel
theorem bt_len : bootBuiltins "len" = some (.builtin "len") := by decide +kernel
theorem bt_sum : bootBuiltins "sum" = some (.builtin "sum") := by decide +kernel
theorem bt_all : bootBuiltins "all" = some (.builtin "all") := by decide +kernel
end L2
namespace L2
open PySem PySem.Spec PyProof.Rows
def compB (outer : List (Str × NameKind)) (scope : Scope) (M : List Str) (idx : List Nat) (N : List Str) : Bool :=
  scope.kind == .function && (scope.names.all fun y => (y.2 != .local || scope.names.lookup y.1 == some .local) && (y.2 != .cell || scope.names.lookup y.1 == some .cell) && (y.2 != .free || (outer.lookup y.1 == some .cell || outer.lookup y.1 == some .free)))
    && idx.length == M.length && (M.zip idx).all fun p => scope.names.lookup p.1 == some .free && N[p.2]? == some p.1
theorem compOk {X : Cx} {scope : Scope} {M : List Str} {idx : List Nat} (h : compB X.env.scope.names scope M idx X.N = true) : CompOk X scope M idx := by
  unfold compB at h
  simp only [Bool.and_eq_true] at h
  obtain ⟨⟨⟨h1, h2⟩, h3⟩, h4⟩ := h
  have h2' := List.all_eq_true.mp h2
  refine ⟨by simpa using h1, fun y hy e => ?_, fun y hy e => ?_, fun y hy e => ?_, by simpa using h3, fun j y ej => ?_⟩
  · have := h2' y hy
    simp [e] at this
    exact this
  · have := h2' y hy
    simp [e] at this
    exact this
  · have := h2' y hy
    simp [e] at this
    exact this
  · have hl : idx.length = M.length := by simpa using h3
    have hj : j < M.length := (List.getElem?_eq_some_iff.mp ej).1
    have hk : idx[j]? = some (idx[j]'(by omega)) := by simp [hl, hj]
    have hz : (M.zip idx)[j]? = some (y, idx[j]'(by omega)) := by
      rw [List.getElem?_zip_eq_some]
      exact ⟨ej, hk⟩
    have := List.all_eq_true.mp h4 _ (List.mem_of_getElem? hz)
    simp only [Bool.and_eq_true, beq_iff_eq] at this
    exact ⟨this.1, _, hk, this.2⟩
end L2
namespace L2
open PySem PySem.Spec PyProof.Rows
def SpLaw (K : PySem.W.Frag) : Sp := fun vs H Q _ => ∃ (a : Addr) (ns : List Int), vs = [.ref a] ∧ SqL K H a (ns.map V.int) ∧ ns.length ≤ 63 ∧ ∀ H', Q (.bl true) H'
theorem walk_df {l : PySem.W.OpenLaw} {k : Nat} {q : Program} {loose : List Str} {XP : (Str → Option Value) → Heap → Prop} {YP : World → Heap → Prop} {d : DefRec} {K : Params → PySem.W.Frag} {st : Stmt}
    (hn : l.most = some 63) (hdf : d.params.defaults = []) (hdn : d.name = "law") (hr : Room k callerA)
    (hY : ∀ (w : World) (h : Heap), YP w h → (K w.params).In h)
    (hbind : ∀ (kV doc pm : Value) (an : Option Addr) (cdv ct v : Value), bindArgs (PySem.W.fnOf "law" "law" (defArgs st) (defBody st) (defScope st) .none kV doc pm an cdv ct) ⟨[v], []⟩ = pure [(("script" : Str), v)])
    (F : ∀ (w : World) (mg : Str → Option Value) (h : Heap), (K w.params).In h → h.Ns mainGlobals mg → Raw (K w.params) mg "law" ["script"] st ∧ ∀ base : Heap, Df l.prog w (K w.params) mg base k "law" ["script"] (SpLaw (K w.params))) :
    PySem.W.WalkO q loose XP YP l.row.toRowW d [] (fun f vs => PySem.call f vs) := by
  refine L2.walk_of (n := 63) (k := k) (x := "script") (CX := fun _ => CX0) (sp := fun w => SpLaw (K w.params)) hn (by decide) hdf hr hY (fun w mg fa h KX G hmg => ?_) (fun w H a ns hl _ hS => ⟨a, ns, rfl, hS, hl, fun _ => rfl⟩) fun _ _ _ _ _ z => z
  obtain ⟨⟨f, fd, R, m, b⟩, D⟩ := F w mg h KX G
  rw [hdn] at hmg
  have e := hmg.symm.trans m
  cases e
  obtain ⟨oc, od, kV, doc, pm, an, cdv, ct, osl, e1, e2, _⟩ := R.ex
  refine ⟨fd, fun s v => .of_eq (by rw [e1]; exact hbind kV doc pm an cdv ct v), fun base _ _ => ?_⟩
  obtain ⟨f', fd', G', m', _, _, st', R'⟩ := D base
  have e := hmg.symm.trans m'
  cases e
  obtain ⟨oc', od', kV', doc', pm', an', cdv', ct', osl', e1', e2', _⟩ := R'.ex
  rw [e2] at e2'
  cases e2'
  exact G'
end L2
namespace L2
open PySem PySem.Spec PyProof.Rows
end L2
namespace L2
theorem tSeq_cut {t u : TS} {D : Ends} {σ : St} {H : Hp} (R : St → Hp → Prop) (hu : ∀ σ H, R σ H → u D σ H) (ht : (∀ σ H, R σ H → u D σ H) → t { D with nx := u D } σ H) : tSeq t u D σ H := ht hu
end L2
namespace L2
open PySem PySem.Spec PyProof.Rows
section
variable {X : Cx} {K : PySem.W.Frag} {tg l a b : Expr} {ta tb tl : TE} {pos : Pos}
theorem call_lenK (h : X.K = K) : CallR X (.builtin "len") (fun xs H Q => ∃ x n, xs = [x] ∧ LenV K x H n ∧ Q (.int n) H) := by subst h; exact call_len
theorem call_tupleK (h : X.K = K) : CallR X (.type "tuple") (fun xs H Q => ∃ p ys, xs = [.ref p] ∧ ((SqL K H p ys ∧ ∀ l, H l = none → Q (.ref l) (upd H l (.tup ys))) ∨ (SqT K H p ys ∧ Q (.ref p) H))) := by subst h; exact call_tuple_of
theorem call_sumK (h : X.K = K) (hc : X.calm = true) : CallR X (.builtin "sum") (fun xs H Q => ∃ (p : Addr) (ns : List Int), xs = [.ref p] ∧ SqL K H p (ns.map V.int) ∧ Q (.int ns.sum) H) := by subst h; exact call_sum hc
theorem call_allK (h : X.K = K) (hc : X.calm = true) : CallR X (.builtin "all") (fun xs H Q => ∃ (p : Addr) (bs : List Bool), xs = [.ref p] ∧ SqL K H p (bs.map V.bl) ∧ Q (.bl (bs.all id)) H) := by subst h; exact call_all hc
theorem ix_seqK (h : X.K = K) : IxR X (rIx K) := by subst h; exact ix_seq
theorem pi_seqK (h : X.K = K) (hl : PE X l tl) : PI X tg l (fun σ H R => iList K tl σ H R ∨ iTup K tl σ H R) := by subst h; exact pi_seq hl
theorem pt_truthK (h : X.K = K) (ha : PE X a ta) (he : ∀ whole, isTrue a X.env whole = (do let v ← whole; standAt a.pos; holding [v] (truthy v))) :
    PT X a (fun σ H Q => ta σ H fun x H' => ∃ k, TruV K x H' k ∧ Q k H') := by subst h; exact pt_truth ha he
theorem pg_tupK {es : List Expr} {k : Nat} {t : TGs} {n : Nat} (h : X.K = K) (hc : X.calm = true) (hg : PGs X es t)
    (hn : (assignEach es X.env).length = n := by rfl) (hst : (assignEach es X.env).findIdx? (·.1) = none := by rfl) : PG X (.Tuple es k pos) (gTup K n t) := by subst h; exact pg_tup hc hg hn hst
end
end L2
namespace L2
theorem oneT {te : TE} {σ : St} {x : V} {H : Hp} {k : Option V → Hp → Prop} (h : te (some x :: σ) H fun v H2 => k (some v) H2) : oneOf ttTrue te σ x H k := by
  show if true = true then (te (some x :: σ) H fun v H2 => k (some v) H2) else k none H
  rw [if_pos rfl]
  exact h
end L2
namespace L2
open PySem PySem.Spec PyProof.Rows
end L2
namespace L2
end L2
namespace L2
end L2
namespace L2
open PySem PySem.Spec PyProof.Rows
def cellV : Option Int → V
  | none => .non
  | some i => .int i
def cellD : Option Int → PyData
  | none => .none
  | some i => .int i
def rowD (r : List (Option Int)) : PyData := .tuple (r.map cellD)
def fieldD (F : List (List (Option Int))) : PyData := .tuple (F.map rowD)
theorem isCell {H : Hp} : ∀ c : Option Int, IsD H (cellV c) (cellD c)
  | none => .non
  | some i => .int i
theorem isCells {H : Hp} : ∀ r : List (Option Int), IsDs H (r.map cellV) (r.map cellD)
  | [] => .nil
  | c :: r => .cons (isCell c) (isCells r)
theorem IsD.cell_inv {H : Hp} {v : V} : ∀ {c : Option Int}, IsD H v (cellD c) → v = cellV c
  | none, h => by cases h; rfl
  | some i, h => by cases h; rfl
theorem IsDs.cells_inv {H : Hp} : ∀ {xs : List V} {r : List (Option Int)}, IsDs H xs (r.map cellD) → xs = r.map cellV
  | _, [], h => by cases h; rfl
  | _, c :: r, h => by
    cases h with
    | cons h1 h2 => rw [IsD.cell_inv h1, IsDs.cells_inv h2]; rfl
theorem isRow_inv {H : Hp} {v : V} {r : List (Option Int)} (h : IsD H v (rowD r)) : ∃ a, v = .ref a ∧ H a = some (.tup (r.map cellV)) := by
  obtain ⟨a, xs, e, h1, h2⟩ := h.tuple_inv
  rw [IsDs.cells_inv h2] at h1
  exact ⟨a, e, h1⟩
theorem isField_inv {H : Hp} {v : V} {F : List (List (Option Int))} (h : IsD H v (fieldD F)) : ∃ a xs, v = .ref a ∧ H a = some (.tup xs) ∧ IsDs H xs (F.map rowD) := h.tuple_inv
theorem isRows_get {H : Hp} {xs : List V} {F : List (List (Option Int))} {i : Nat} (h : IsDs H xs (F.map rowD)) (hi : i < F.length) : ∃ a, xs[i]? = some (.ref a) ∧ H a = some (.tup (F[i].map cellV)) := by
  obtain ⟨x, e1, e2⟩ := h.get (i := i) (d := rowD F[i]) (by simp [hi])
  obtain ⟨a, e3, e4⟩ := isRow_inv e2
  exact ⟨a, by rw [e1, e3], e4⟩
end L2
namespace L2
open PySem PySem.Spec PyProof.Rows
end L2
namespace L2
open PySem PySem.Spec PyProof.Rows
end L2
namespace L2
open PySem PySem.Spec PyProof.Rows
end L2
namespace L2
open PySem PySem.Spec PyProof.Rows
end L2
namespace L2
open PySem PySem.Spec PyProof.Rows
end L2
namespace L2
open PySem PySem.Spec PyProof.Rows
end L2
namespace L2
end L2
namespace HT
open PySem PyProof.Rows
section
variable {prog : Program} {w : World} {A : Around} {E : Value → Shared → Prop} {s : Shared}
set_option maxHeartbeats 4000000 in
theorem getItem_tuple_whole {t sl : Addr} {items : Array Value} {vl vu : Value} {lo hi : Option Int} {Q : Value → Shared → Prop} (ht : IsTup s.heap t items) (hs : s.heap.IsSliceOf sl vl vu .none) (pl : IsPart vl lo) (pu : IsPart vu hi)
    (hw : sIx items.size 0 lo = 0 ∧ sIx items.size items.size hi = items.size) (h : Q (.ref t) s) : wpAny (model prog w) A (getItem (.ref t) (.ref sl)) Q E s := by
  obtain ⟨os, hos, hcs, hds⟩ := id hs
  have hTs : s.TypeIs (.ref sl) "slice" := ⟨os, hos, hcs⟩
  unfold getItem
  try with_reducible refine wpAny_holding ?_
  first | refine wpAny_bind (wpAny_pure ?_) | skip
  refine wpAny_bind (wpAny_sequenceKey ht.typeIs (by decide) ?_)
  refine wpAny_bind (wpAny_callSpecial?_slot (name := Str.ofString "__getitem__") ht.typeIs PyProof.Rows.slot_tuple_getitem
    (wpAny_call_entry PyProof.Rows.slot_tuple_getitem ht.typeIs entry_tuple_getitem ?_ (args_tuple_getitem _ _)))
  show wpAny _ _ (Builtin.Tuple.tupleItemsOf (.ref t) >>= _) _ _ s
  refine wpAny_bind (tupleItemsOf_ ht ?_)
  refine wpAny_bind (wpAny_typeOf hTs ?_)
  rw [if_pos (by decide)]
  refine wpAny_bind (sliceApplied_gen hs pl pu ?_)
  rw [hw.1, hw.2]
  show wpAny _ _ (if ((((0 : Nat) : Int) == 0 && (1 : Int) == 1 && (items.size - 0) == items.size) = true) then _ else _) _ _ s
  rw [if_pos (by simp)]
  refine wpAny_bind ?_
  unfold Builtin.Tuple.tupleIsExact
  refine wpAny_bind (wpAny_typeOf ht.typeIs (wpAny_pure ?_))
  rw [if_pos (by decide)]
  first
    | exact wpAny_bind (wpAny_rule (wpAny_bind (wpAny_pure (wpAny_pure ⟨_, rfl, wpAny_pure h⟩))))
    | exact wpAny_bind (wpAny_rule (wpAny_pure ⟨_, rfl, wpAny_pure h⟩))
    | exact wpAny_rule (wpAny_bind (wpAny_pure (wpAny_pure ⟨_, rfl, wpAny_pure h⟩)))
end
end HT
namespace L2
open PySem PySem.Spec PyProof.Rows
section
variable {X : Cx}
def rSlTA : V → Option Int → Option Int → Hp → VK → Prop := fun x lo hi H Q => ∃ a xs, x = .ref a ∧ H a = some (.tup xs) ∧ ∀ p H', Same H H' → H' p = some (.tup (cutV xs lo hi)) → Q (.ref p) H'
theorem sl_tupA : SlR X rSlTA := by
  intro pins s σ H x v vl vu lo hi sl Q I rx hs pl pu h
  obtain ⟨a, xs, rfl, hx, q⟩ := h
  by_cases hw : HT.sIx xs.length 0 lo = 0 ∧ HT.sIx xs.length xs.length hi = xs.length
  · cases rx
    obtain ⟨its, r, ht, hz⟩ := I.tuple (SqT.of hx)
    have hlen : its.toArray.size = xs.length := by rw [List.size_toArray]; exact r.length.symm
    refine ⟨"tuple", _, PyProof.Rows.slot_tuple_getitem.lookup, ht.typeIs, ?_⟩
    refine HT.getItem_tuple_whole ht hs pl pu (by rw [hlen]; exact hw) ⟨.ref a, H, I, rfl, q a H (Same.refl H) ?_⟩
    rw [hx]
    unfold cutV
    rw [hw.1, hw.2, List.drop_zero, Nat.sub_zero, List.take_of_length_le (Nat.le_refl _)]
  · exact sl_tup pins s σ H _ v vl vu lo hi sl Q I rx hs pl pu ⟨a, xs, rfl, SqT.of hx, hw, fun p hp => q p _ (same_upd hp) upd_same⟩
def rEqL : R2 := fun x y H Q => ∃ p q xs ys dx dy, x = .ref p ∧ y = .ref q ∧ H p = some (.lst xs) ∧ H q = some (.lst ys) ∧ IsDs H xs dx ∧ IsDs H ys dy ∧ CmpD 0 (.list dx) (.list dy) ∧ Q (.bl (PyData.eqvAll dx dy)) H
theorem list_reads {P : Program} {w : World} {H : Hp} {h : Heap} (I : HOk P w H h) {p : Addr} {xs : List V} {dx : List PyData} (hp : H p = some (.lst xs)) (hd : IsDs H xs dx) : ∃ as, Reads h (.ref p) (.list dx) as := by
  obtain ⟨_, its, n, r, e⟩ := (show ObjOk P w H h p (.lst xs) from I p _ hp)
  obtain ⟨as, hr⟩ := hd.reads I r
  exact ⟨_, .list e rfl rfl (by simpa using hr)⟩
theorem op_eqL (hu : X.A.units + 64 < cLine) : OpR X (compareOp .Eq) rEqL := by
  intro pins s σ H x y v u Q I rx ry h
  obtain ⟨p, q, xs, ys, dx, dy, rfl, rfl, hp, hq, hx, hy, ⟨c1, c2, c3⟩, qq⟩ := h
  cases rx
  cases ry
  obtain ⟨as, r1⟩ := list_reads I.hok hp hx
  obtain ⟨bs, r2⟩ := list_reads I.hok hq hy
  exact PySem.SeqAt.compareEq_reads r1 r2 c1 c2 (unitsD hu c3) ⟨.bl _, H, I, rfl, qq⟩
theorem op_eqX (hu : X.A.units + 64 < cLine) : OpR X (compareOp .Eq) (fun x y H Q => (rEq x y H Q ∨ rEqD 0 x y H Q) ∨ rEqL x y H Q) := (op_eqA hu).or (op_eqL hu)
theorem sl_X {K : PySem.W.Frag} (h : X.K = K) : SlR X (fun x lo hi H Q => rSlL K x lo hi H Q ∨ rSlTA x lo hi H Q) := by subst h; exact sl_list.or sl_tupA
end
end L2
namespace L2
open PySem PySem.Spec PyProof.Rows
theorem IsDs.take {H : Hp} : ∀ {xs : List V} {ds : List PyData} (n : Nat), IsDs H xs ds → IsDs H (xs.take n) (ds.take n)
  | _, _, 0, _ => by rw [List.take_zero, List.take_zero]; exact .nil
  | _, _, _ + 1, .nil => .nil
  | _, _, n + 1, .cons h r => .cons h (IsDs.take n r)
end L2
namespace L2
open PySem PySem.Spec PyProof.Rows PySem.Builtin PySem.Builtin.Str
section
variable {X : Cx}
theorem vals_strsFrom : ∀ (xs : List Str) (t : Nat), Vals (xs.map V.str) (strsFrom t xs)
  | [], _ => .nil
  | x :: xs, t => .cons ⟨t, rfl⟩ (vals_strsFrom xs (t + 1))
def rSplit : V → List V → Hp → VK → Prop := fun x vs H Q => ∃ a b : Str, x = .str a ∧ vs = [.str b] ∧ (b.length == 0) = false ∧ a.length ≤ 1000000 ∧ ∀ l, H l = none → Q (.ref l) (upd H l (.lst ((Txt.split a b).map V.str)))
theorem mt_split : MtM X "str.split" rSplit := by
  intro pins s σ H x vs v us Q I rx rv h
  obtain ⟨a, b, rfl, rfl, hb, ha, q⟩ := h
  obtain ⟨t, rfl⟩ := rx
  obtain ⟨u, rfl, ⟨t', rfl⟩⟩ := rv.one
  have fin : ∀ (its : List Value) (tk : Nat), Vals ((Txt.split a b).map V.str) its → EP X pins σ Q (.ref s.heap.objs.size) { s with heap := s.heap.push { cls := .type "list", data := .seq its.toArray }, toks := tk } := fun its tk hv =>
    ⟨.ref s.heap.objs.size, _, I.laid (o := .lst ((Txt.split a b).map V.str)) (fun c o e => Heap.get?_push_of_some _ e) (Nat.le_refl _) ⟨by
      rw [List.length_map]
      exact Nat.le_trans (split_le a b) (Nat.le_trans (show a.length + 2 ≤ 1000002 by omega) (by decide)), its, _, hv, Heap.get?_push_size _ rfl⟩, rfl, q _ (I.hok.fresh (Nat.le_refl _))⟩
  have hsz : a.length ≤ sizeLine := Nat.le_trans ha (by decide)
  by_cases h1 : (decide (a.length < b.length) || decide (strKind a < strKind b)) = true
  · have e : Txt.split a b = [a] := by unfold Txt.split; rw [if_pos h1]
    refine call_meets F.slot_str_split (typeIs_str s a t) F.entry_str_split (F.args_str_split_2 _ _) (meets_str_split_cannot_occur a b t t' h1) ?_
    exact fin [.str a t] s.toks (by rw [e]; exact .cons ⟨t, rfl⟩ .nil)
  · have h1' : (decide (a.length < b.length) || decide (strKind a < strKind b)) = false := by simpa using h1
    by_cases h2 : (occurrences a b 0 a.length (a.length + 1)).isEmpty = true
    · have e : Txt.split a b = [a] := by unfold Txt.split; rw [if_neg h1, if_pos h2]
      refine call_meets F.slot_str_split (typeIs_str s a t) F.entry_str_split (F.args_str_split_2 _ _) (meets_str_split_not_found a b t t' h1' hb h2) ?_
      exact fin [.str a t] s.toks (by rw [e]; exact .cons ⟨t, rfl⟩ .nil)
    · have e : Txt.split a b = partsBetween a (occurrences a b 0 a.length (a.length + 1)) b.length := by unfold Txt.split; rw [if_neg h1, if_neg h2]
      have hn : (partsBetween a (occurrences a b 0 a.length (a.length + 1)) b.length).length ≤ sizeLine := by
        rw [← e]
        exact Nat.le_trans (split_le a b) (Nat.le_trans (show a.length + 2 ≤ 1000002 by omega) (by decide))
      refine call_meets F.slot_str_split (typeIs_str s a t) F.entry_str_split (F.args_str_split_2 _ _) (meets_str_split_sep a b t t' h1' hb (by simpa using h2) hsz hn) ?_
      exact fin _ _ (by rw [e]; exact vals_strsFrom _ _)
def rStarts : V → List V → Hp → VK → Prop := fun x vs H Q => ∃ a b : Str, x = .str a ∧ vs = [.str b] ∧ Q (.bl (decide (0 + b.length ≤ a.length) && subAt a b 0)) H
theorem mt_startswith : MtM X "str.startswith" rStarts := by
  intro pins s σ H x vs v us Q I rx rv h
  obtain ⟨a, b, rfl, rfl, q⟩ := h
  obtain ⟨t, rfl⟩ := rx
  obtain ⟨u, rfl, ⟨t', rfl⟩⟩ := rv.one
  exact call_gives F.slot_str_startswith (typeIs_str s a t) F.entry_str_startswith (F.args_str_startswith_2 _ _) (gives_str_startswith a b t t') ⟨.bl _, H, I, rfl, q⟩
def rJoin (K : PySem.W.Frag) : V → List V → Hp → VK → Prop := fun x vs H Q => ∃ (a : Str) (p : Addr) (ys : List Str), x = .str a ∧ vs = [.ref p] ∧ SqL K H p (ys.map V.str) ∧ (ys.map (·.length)).sum + ys.length * a.length ≤ 1000000 ∧ Q (.str (Txt.join a ys)) H
theorem strs_of : ∀ {ys : List Str} {us : List Value}, Vals (ys.map V.str) us → StrsAre us ys
  | [], _, .nil => .nil
  | y :: ys, _, .cons r t => by
    obtain ⟨k, rfl⟩ := r
    exact .cons _ _ (strs_of t)
theorem mt_join : MtM X "str.join" (rJoin X.K) := by
  intro pins s σ H x vs v us Q I rx rv h
  obtain ⟨a, p, ys, rfl, rfl, hS, hz, q⟩ := h
  obtain ⟨t, rfl⟩ := rx
  obtain ⟨u, rfl, e⟩ := rv.one
  cases (show u = Value.ref p from e)
  obtain ⟨its, hv, ⟨o, n, h1, h2, h3, h4⟩, _⟩ := I.list hS
  exact join_list ⟨o, h1, h2, n, h4⟩ (strs_of hv) (Nat.le_trans hz (by decide)) fun t' k => ⟨.str _, H, I.tok _, ⟨_, rfl⟩, q⟩
end
end L2
namespace L2
open PySem PySem.Spec PyProof.Rows
end L2
namespace HT
open PySem PyProof.Rows
end HT
namespace L2
open PySem PySem.Spec PyProof.Rows
end L2
namespace L2
open PySem PySem.Spec PyProof.Rows
end L2
namespace L2
open PySem
def dg (n : Nat) : List Nat := if h : n < 10 then [48 + n] else dg (n / 10) ++ [48 + n % 10]
termination_by n
decreasing_by omega
theorem dg_low {n : Nat} (h : n < 10) : dg n = [48 + n] := by rw [dg, dif_pos h]
theorem dg_high {n : Nat} (h : ¬ n < 10) : dg n = dg (n / 10) ++ [48 + n % 10] := by rw [dg, dif_neg h]
theorem dg_ind {p : Nat → Prop} (h1 : ∀ n, n < 10 → p n) (h2 : ∀ n, ¬ n < 10 → p (n / 10) → p n) (n : Nat) : p n := by
  induction n using Nat.strongRecOn with
  | ind n ih =>
    by_cases h : n < 10
    · exact h1 n h
    · exact h2 n h (ih (n / 10) (by omega))
theorem dg_all (n : Nat) : ∀ c ∈ dg n, 48 ≤ c ∧ c ≤ 57 := by
  induction n using dg_ind with
  | h1 n h => rw [dg_low h]; intro c hc; have : c = 48 + n := by simpa using hc
              omega
  | h2 n h ih =>
    rw [dg_high h]
    intro c hc
    rcases List.mem_append.mp hc with z | z
    · exact ih c z
    · have : c = 48 + n % 10 := by simpa using z
      omega
theorem dg_ne (n : Nat) : dg n ≠ [] := by
  by_cases h : n < 10
  · rw [dg_low h]; simp
  · rw [dg_high h]; simp
theorem dg_val (n : Nat) : (dg n).foldl (fun acc c => acc * 10 + (c - 48)) 0 = n := by
  induction n using dg_ind with
  | h1 n h => rw [dg_low h]; simp
  | h2 n h ih =>
    rw [dg_high h, List.foldl_append, ih]
    simp
    omega
theorem dg_head (n : Nat) : (dg n).head? = some 48 → n = 0 := by
  induction n using dg_ind with
  | h1 n h => rw [dg_low h]; intro z; have : 48 + n = 48 := by simpa using z
              omega
  | h2 n h ih =>
    rw [dg_high h]
    intro z
    have e : (dg (n / 10)).head? = some 48 := by
      cases q : dg (n / 10) with
      | nil => exact absurd q (dg_ne _)
      | cons a r => rw [q] at z; simpa using z
    have := ih e
    omega
theorem dg_len : ∀ (k n : Nat), n < 10 ^ (k + 1) → (dg n).length ≤ k + 1
  | 0, n, h => by rw [dg_low (by simpa using h)]; simp
  | k + 1, n, h => by
    by_cases z : n < 10
    · rw [dg_low z]; simp
    · rw [dg_high z, List.length_append]
      have := dg_len k (n / 10) (by rw [Nat.pow_succ] at h; omega)
      simp
      omega
def wordL : Option Int → List Nat
  | none => [46]
  | some i => (if i < 0 then [45] else []) ++ dg i.natAbs
def wordOf (c : Option Int) : Str := ⟨(wordL c).toArray⟩
theorem wordL_free (c : Option Int) : 32 ∉ wordL c ∧ 10 ∉ wordL c := by
  cases c with
  | none => simp [wordL]
  | some i =>
    have a := dg_all i.natAbs
    unfold wordL
    constructor
    · intro h
      rcases List.mem_append.mp h with z | z
      · split at z <;> simp at z
      · have := a _ z; omega
    · intro h
      rcases List.mem_append.mp h with z | z
      · split at z <;> simp at z
      · have := a _ z; omega
theorem wordL_len (c : Option Int) (h : ∀ i, c = some i → -10000000000 < i ∧ i < 10000000000) : (wordL c).length ≤ 11 := by
  cases c with
  | none => simp [wordL]
  | some i =>
    have := h i rfl
    have := dg_len 9 i.natAbs (by show i.natAbs < 10000000000; omega)
    unfold wordL
    rw [List.length_append]
    split <;> simp <;> omega
def joinL (c : Nat) : List (List Nat) → List Nat
  | [] => []
  | [x] => x
  | x :: y :: r => x ++ c :: joinL c (y :: r)
theorem take_free {c : Nat} : ∀ {x y r s : List Nat}, c ∉ x → c ∉ y → x ++ c :: r = y ++ c :: s → x = y ∧ r = s
  | [], [], r, s, _, _, h => by simpa using h
  | [], b :: y, r, s, _, hy, h => by
    have : c = b := by simpa using (List.cons.inj h).1
    exact absurd (by simp [this]) hy
  | a :: x, [], r, s, hx, _, h => by
    have : a = c := by simpa using (List.cons.inj h).1
    exact absurd (by simp [this]) hx
  | a :: x, b :: y, r, s, hx, hy, h => by
    have e := List.cons.inj h
    have := take_free (x := x) (y := y) (fun z => hx (List.mem_cons_of_mem _ z)) (fun z => hy (List.mem_cons_of_mem _ z)) e.2
    exact ⟨by rw [e.1, this.1], this.2⟩
theorem mem_joinL {c : Nat} {x y : List Nat} (r : List (List Nat)) : c ∈ joinL c (x :: y :: r) := by
  show c ∈ x ++ c :: joinL c (y :: r)
  simp
theorem joinL_inj {c : Nat} : ∀ {p q : List (List Nat)}, p ≠ [] → q ≠ [] → (∀ x ∈ p, c ∉ x) → (∀ x ∈ q, c ∉ x) → joinL c p = joinL c q → p = q
  | [], _, h, _, _, _, _ => absurd rfl h
  | _, [], _, h, _, _, _ => absurd rfl h
  | [x], [y], _, _, _, _, h => by rw [show x = y from h]
  | [x], y :: z :: r, _, _, hx, _, h => absurd (show c ∈ x from by rw [show x = _ from h]; exact mem_joinL r) (hx x (by simp))
  | x :: z :: r, [y], _, _, _, hy, h => absurd (show c ∈ y from by rw [← show _ = y from h]; exact mem_joinL r) (hy y (by simp))
  | x :: x2 :: r, y :: y2 :: s, _, _, hx, hy, h => by
    have e := take_free (hx x (by simp)) (hy y (by simp)) h
    have := joinL_inj (p := x2 :: r) (q := y2 :: s) (by simp) (by simp) (fun z hz => hx z (List.mem_cons_of_mem _ hz)) (fun z hz => hy z (List.mem_cons_of_mem _ hz)) e.2
    rw [e.1, this]
theorem join_cps (c : Nat) : ∀ p : List Str, (Str.join ⟨#[c]⟩ p).cps.toList = joinL c (p.map (·.cps.toList))
  | [] => rfl
  | [x] => rfl
  | x :: y :: r => by
    show ((x ++ ⟨#[c]⟩ ++ Str.join ⟨#[c]⟩ (y :: r) : Str)).cps.toList = x.cps.toList ++ c :: joinL c ((y :: r).map (·.cps.toList))
    rw [← join_cps c (y :: r)]
    show (x.cps ++ #[c] ++ (Str.join ⟨#[c]⟩ (y :: r)).cps).toList = _
    simp
theorem split_join (c : Nat) {p : List Str} (h : p ≠ []) (hp : ∀ x ∈ p, c ∉ x.cps.toList) : Txt.split (Str.join ⟨#[c]⟩ p) ⟨#[c]⟩ = p := by
  have e := StrLaws.join_split (Str.join ⟨#[c]⟩ p) ⟨#[c]⟩
  have f := StrLaws.split_free (Str.join ⟨#[c]⟩ p) c
  have n : Txt.split (Str.join ⟨#[c]⟩ p) ⟨#[c]⟩ ≠ [] := by
    unfold Txt.split
    split
    · simp
    · split
      · simp
      · unfold PySem.Builtin.Str.partsBetween
        simp
  generalize Txt.split (Str.join ⟨#[c]⟩ p) ⟨#[c]⟩ = q at e f n
  have e2 := congrArg (fun x : Str => x.cps.toList) e
  simp only [join_cps] at e2
  have := joinL_inj (c := c) (by simpa using n) (by simpa using h) (by simpa using f) (by simpa using hp) e2
  refine (List.map_inj_right (fun a b h => ?_)).mp this
  cases a
  cases b
  exact congrArg Str.mk (Array.toList_inj.mp h)
theorem toDigits_dg (m : Nat) : (Nat.toDigits 10 m).map Char.toNat = dg m := by
  have back : ∀ d : Nat, d < 10 → (Nat.digitChar d).toNat = 48 + d := by decide
  induction m using dg_ind with
  | h1 m h =>
    rw [Nat.toDigits_of_lt_base h, dg_low h]
    show [(Nat.digitChar m).toNat] = _
    rw [back m h]
  | h2 m h ih =>
    have hm : m % 10 < 10 := Nat.mod_lt m (by decide)
    have t : Nat.toDigits 10 (m / 10) ++ Nat.toDigits 10 (m % 10) = Nat.toDigits 10 (10 * (m / 10) + m % 10) := Nat.toDigits_append_toDigits (by decide) (by omega) hm
    rw [Nat.div_add_mod] at t
    rw [← t, List.map_append, Nat.toDigits_of_lt_base hm, ih, dg_high h]
    show _ ++ [(Nat.digitChar (m % 10)).toNat] = _
    rw [back _ hm]
theorem str_word (i : Int) : Str.ofString (toString i) = wordOf (some i) := by
  rw [Str.ofString_eq_toList]
  unfold wordOf wordL
  congr 1
  cases i with
  | ofNat m =>
    show ((Nat.repr m).toList.map Char.toNat).toArray = _
    rw [Nat.toList_repr, toDigits_dg]
    dsimp only
    rw [if_neg (by show ¬ ((m : Int) < 0); omega)]
    rfl
  | negSucc m =>
    show (("-" ++ Nat.repr (m + 1)).toList.map Char.toNat).toArray = _
    rw [String.toList_append, List.map_append, Nat.toList_repr, toDigits_dg]
    dsimp only
    rw [if_pos (Int.negSucc_lt_zero m)]
    rfl
end L2
namespace L2
open PySem PySem.Spec PyProof.Rows
section
variable {X : Cx} {pins : List (Addr × Obj)} {σ : St} {H : Hp} {s : Shared} {h' : Heap}
theorem Inv.turnedL {t' : Nat} {fp : List Addr} (I : Inv X pins σ H s) (k : ∀ b o, b ∉ fp → s.heap.get? b = some o → h'.get? b = some o) (hf : ∀ b ∈ fp, FpOk X pins H b) : Inv X pins σ H { s with heap := h', toks := t' } := by
  have nit : ∀ b u, H b = some u → b ∉ fp := fun b u e z => by rw [(hf b z).1] at e; cases e
  refine I.step (g' := s.gens) (d' := s.drawn) (ch := fp) (fun b hb => ?_) (fun b o _ _ hc e _ => k b o hc e) (fun b o _ _ hc e _ => ⟨o.slots, k b o hc e⟩) (fun _ _ _ _ n => n)
    (fun b o hc e => ⟨o, k b o hc e⟩) (fun _ _ e => e) (fun _ _ _ e => e) (fun b ps e => ⟨#[], by rw [e]; simp⟩) (fun m hm => ?_) (fun b u e => ?_) I.bare
  · obtain ⟨f0, f1, f2, f3, f4, f5⟩ := hf b hb
    exact ⟨f3, f1, f4, f5⟩
  · obtain ⟨o, es, ep, ho, r⟩ := hm
    exact ⟨o, es, ep, k _ o (fun z => (hf _ z).2.1 rfl) ho, r⟩
  · refine (I.hok b u e).stay (fun c v hc q => k c v ?_ q) (fun _ q => q) fun _ _ q => q
    rcases hc with z | z
    · rw [z]; exact nit b u e
    · exact nit c _ z
end
def Ite (K : PySem.W.Frag) (a : Addr) : It :=
  ⟨fun i H => ∃ xs x, SqL K H a xs ∧ xs[i]? = some x, fun i H v H' => ∃ t y, H t = none ∧ v = .ref t ∧ H' = upd H t (.tup [.int i, y]) ∧ ∀ xs, SqL K H a xs → xs[i]? = some y, fun i H => ∃ xs, SqL K H a xs ∧ xs.length ≤ i⟩
theorem turn_enum {P : Program} {w : World} {K : PySem.W.Frag} {elts : List Expr} {k : Nat} {pos : Pos} (a e it : Addr) (hei : e ≠ it) :
    Turn P w K (.Tuple elts k pos) (Ite K a) [e, it] e (fun i h => (∃ old, IsEnum h e it i old) ∧ h.IsListIter it a i) where
  mem := by simp
  obj := fun i h st b hb => by
    obtain ⟨⟨old, he⟩, o, e', c, d⟩ := st
    rcases List.mem_cons.mp hb with rfl | hb
    · exact ⟨_, he, fun v z => by cases z⟩
    · have : b = it := by simpa using hb
      subst this
      exact ⟨o, e', fun v z => by rw [d] at z; cases z⟩
  keep := fun i h h' st kk => by
    obtain ⟨⟨old, he⟩, hit⟩ := st
    exact ⟨⟨old, kk e (by simp) _ he⟩, hit.at fun o x => kk it (by simp) o x⟩
  item := by
    intro X hP hw hK hc i pins s σ H E I hf st hg
    subst hP hw hK
    obtain ⟨xs, x, hq, hx⟩ := hg
    obtain ⟨its, rv, p, hz⟩ := I.list hq
    obtain ⟨u, hu, ru⟩ := rv.get hx
    obtain ⟨⟨old, he⟩, hit⟩ := st
    have helt : e < s.heap.objs.size := Heap.lt_size he
    have hilt : it < s.heap.objs.size := by obtain ⟨_, z, _⟩ := hit; exact Heap.lt_size z
    refine wpAny_pyNext_enum_item he hit p.isList (x := u) (by simpa using hu) hei fun h' ho hit' hT hsz hk => ?_
    refine ⟨_, rfl, wpAny_letOwnedTupleGo_enum ho fun h2 he2 sb => ?_⟩
    have T2 : h2.get? s.heap.objs.size = some { cls := .type "tuple", data := .seq #[.int i s.toks, u] } := (sb.2 _ (Nat.ne_of_gt helt)).trans hT
    have new : ObjOk X.prog X.w (upd H s.heap.objs.size (.tup [.int i, x])) (s.heap.push { cls := .type "tuple", data := .seq #[.int i s.toks, u] }) s.heap.objs.size (.tup [.int i, x]) :=
      ⟨(by show 2 ≤ sizeLine; decide), [.int i s.toks, u], .cons ⟨_, rfl⟩ (.cons ru .nil), _, Heap.get?_push_size _ rfl, rfl, _, rfl⟩
    have I1 : Inv X pins σ (upd H s.heap.objs.size (.tup [.int i, x])) { s with heap := s.heap.push { cls := .type "tuple", data := .seq #[.int i s.toks, u] }, toks := s.toks + 1 } :=
      I.laid (fun b o z => Heap.get?_push_of_some _ z) (Nat.le_refl _) new
    have hf1 : ∀ b ∈ [e, it], FpOk X pins (upd H s.heap.objs.size (.tup [.int i, x])) b := fun b hb => by
      obtain ⟨f0, f⟩ := hf b hb
      refine ⟨?_, f⟩
      have : b ≠ s.heap.objs.size := by
        rcases List.mem_cons.mp hb with rfl | hb
        · exact Nat.ne_of_lt helt
        · have : b = it := by simpa using hb
          subst this
          exact Nat.ne_of_lt hilt
      rw [upd_ne this]
      exact f0
    have I2 : Inv X pins σ (upd H s.heap.objs.size (.tup [.int i, x])) { s with heap := h2, toks := s.toks + 1 } := by
      have I3 := I1.turnedL (t' := s.toks + 1) (h' := h2) (fp := [e, it]) (fun b o hb z => ?_) hf1
      · exact I3
      have b1 : b ≠ e := fun z => hb (by simp [z])
      have b2 : b ≠ it := fun z => hb (by simp [z])
      rcases Heap.get?_push_cases z with ⟨rfl, rfl⟩ | z
      · exact T2
      · exact (sb.2 b b1).trans (hk b o b1 b2 z)
    refine ⟨.ref s.heap.objs.size, _, I2, rfl, ⟨s.heap.objs.size, x, I.hok.fresh (Nat.le_refl _), rfl, rfl, fun ys hy => by rw [I.list_inj hy hq]; exact hx⟩, ⟨⟨_, by simpa using he2⟩, hit'.at fun o z => (sb.2 it hei.symm).trans z⟩, fun b hb => (hf1 b hb).1⟩
  done := by
    intro X hP hw hK hc i pins s σ H E I hf st hg
    subst hP hw hK
    obtain ⟨xs, hq, hx⟩ := hg
    obtain ⟨its, rv, p, hz⟩ := I.list hq
    obtain ⟨⟨old, he⟩, hit⟩ := st
    have hl := rv.length
    exact wpAny_pyNext_enum_end (I.ok.hd hc) he hit p.isList (by simp; omega) fun h' eb => ⟨rfl, I.turnedL (t' := s.toks) (fp := [e, it]) (fun b o hb z => eb b o (fun y => hb (by simp [y])) z) hf⟩
  self := fun _ _ _ _ _ st h => by
    obtain ⟨⟨old, he⟩, _⟩ := st
    exact wpAny_pyIter_enum he h
theorem bt_enumerate : bootBuiltins "enumerate" = some (.type "enumerate") := by decide +kernel
def iEnum (K : PySem.W.Frag) (ta : TA) : TI := fun σ H R => ta σ H fun vs H1 => ∃ a, vs = [.ref a] ∧ (∃ xs, SqL K H1 a xs) ∧ R (Ite K a) H1
section
variable {X : Cx}
theorem pi_enum {K : PySem.W.Frag} {elts : List Expr} {k : Nat} {pt : Pos} {a : Expr} {ta : TA} {p pos : Pos} (hK : X.K = K) (hg : Gl X "enumerate") (hm : X.mg "enumerate" = none) (ha : PA X [a] ta) (hs : starEach [a] X.env = [(false, eval a X.env)] := by rfl) :
    PI X (.Tuple elts k pt) (.Call (.Name "enumerate" p) [a] [] pos) (iEnum K ta) := by
  subst hK
  intro pins s σ H R I h
  refine Call_ (ld_blt I hg hm bt_enumerate (PyProof.Rows.callWith_type1 (thn (ha pos pins s σ H _ I h) fun us s1 ⟨vs, H1, I1, r1, q1⟩ => ?_) hs rfl))
  obtain ⟨l, rfl, ⟨xs, hq⟩, q⟩ := q1
  obtain ⟨u, rfl, e⟩ := vals1 r1
  obtain rfl : u = Value.ref l := e
  obtain ⟨its, rv, pl, hz⟩ := I1.list hq
  refine call_enumerate_list pl.isList fun h' he hit hsz hk => ?_
  refine wpAny_pyIter_enum he ?_
  refine ⟨s1.heap.objs.size + 1, [s1.heap.objs.size + 1, s1.heap.objs.size], _, _, H1, rfl, I1.kept (t' := s1.toks) hk, turn_enum l _ _ (Nat.ne_of_gt (Nat.lt_succ_self _)), ⟨⟨_, he⟩, hit⟩, fun b hb => ?_, q⟩
  rcases List.mem_cons.mp hb with rfl | hb
  · exact I1.fpOk (Nat.le_succ _) (I1.hok.fresh (Nat.le_succ _))
  · have : b = s1.heap.objs.size := by simpa using hb
    subst this
    exact I1.fpOk (Nat.le_refl _) (I1.hok.fresh (Nat.le_refl _))
end
theorem for_enum {K : PySem.W.Frag} {a : Addr} {xs : List V} {g : TG} {tb : TS} {D : Ends} {σ : St} {H : Hp} (Pv : Nat → St → Hp → Prop) (h0 : Pv 0 σ H) (hl : ∀ i σ H, i ≤ xs.length → Pv i σ H → SqL K H a xs)
    (hs : ∀ i x σ H t, xs[i]? = some x → Pv i σ H → H t = none → g (.ref t) σ (upd H t (.tup [.int i, x])) fun σ2 H2 => tb { D with nx := Pv (i + 1), ct := Pv (i + 1), bk := D.nx } σ2 H2) (hd : ∀ σ H, Pv xs.length σ H → D.nx σ H) :
    ∃ W : Nat → Nat → St → Hp → Prop, (∃ m, W 0 m σ H) ∧ ∀ i m σ H, W i m σ H →
      ((Ite K a).stop i H ∧ D.nx σ H) ∨ ((Ite K a).go i H ∧ ∃ N : St → Hp → Prop, (∀ σ' H', N σ' H' → ∃ m', m' < m ∧ W (i + 1) m' σ' H') ∧ ∀ x H', (Ite K a).yld i H x H' → g x σ H' fun σ2 H2 => tb { D with nx := N, ct := N, bk := D.nx } σ2 H2) := by
  refine ⟨fun i m σ H => m = xs.length - i ∧ i ≤ xs.length ∧ Pv i σ H, ⟨xs.length, by simp, Nat.zero_le _, h0⟩, ?_⟩
  rintro i m σ H ⟨rfl, hi, p⟩
  have q := hl i σ H hi p
  by_cases hlt : i < xs.length
  · refine .inr ⟨⟨xs, xs[i], q, by simp [hlt]⟩, Pv (i + 1), fun σ' H' p' => ⟨xs.length - (i + 1), by omega, rfl, hlt, p'⟩, fun x H' y => ?_⟩
    obtain ⟨t, z, ht, rfl, rfl, y⟩ := y
    exact hs i z σ H t (y xs q) p ht
  · have e : i = xs.length := by omega
    subst e
    exact .inl ⟨⟨xs, q, Nat.le_refl _⟩, hd σ H p⟩
def Itx (x : Str) : It := ⟨fun i _ => i < x.cps.size, fun i H v H' => H' = H ∧ ∃ c, x.cps[i]? = some c ∧ v = .str ⟨#[c]⟩, fun i _ => x.cps.size ≤ i⟩
theorem turn_str {P : Program} {w : World} {K : PySem.W.Frag} {tg : Expr} (it : Addr) (x : Str) (t : Tok) : Turn P w K tg (Itx x) [it] it (fun i h => h.IsStrIter it "str_ascii_iterator" x t i) where
  mem := by simp
  obj := fun i h st b hb => by
    have e : b = it := by simpa using hb
    subst e
    obtain ⟨o, e, c, d⟩ := st
    exact ⟨o, e, fun v z => by rw [d] at z; cases z⟩
  keep := fun i h h' st k => let ⟨o, e, r⟩ := st; ⟨o, k it (by simp) o e, r⟩
  item := by
    intro X hP hw hK hc i pins s σ H E I hf st hg
    subst hP hw hK
    obtain ⟨f0, f1, f2, f3, f4, f5⟩ := hf it (by simp)
    have hi : i < x.cps.size := hg
    refine wpAny_pyNext_ascii_item st (c := x.cps[i]) (by simp [hi]) fun h' st' sb => ?_
    have I1 : Inv X pins σ H { s with heap := h', toks := s.toks + 1 } := I.turned (t' := s.toks + 1) (fun b o hb e => (sb.2 b hb).trans e) f0 f1 f3 f4 f5
    obtain ⟨o, e, c, d⟩ := id st'
    exact ⟨_, rfl, go_of (s := { s with heap := h', toks := s.toks + 1 }) e c d (by decide) ⟨.str ⟨#[x.cps[i]]⟩, H, I1, ⟨_, rfl⟩, ⟨rfl, _, by simp [hi], rfl⟩, st', fun b hb => (hf b hb).1⟩⟩
  done := by
    intro X hP hw hK hc i pins s σ H E I hf st hg
    subst hP hw hK
    obtain ⟨f0, f1, f2, f3, f4, f5⟩ := hf it (by simp)
    have hi : x.cps.size ≤ i := hg
    exact wpAny_pyNext_ascii_end (I.ok.hd hc) st (by simp [hi]) fun h' eb => ⟨rfl, I.turned (t' := s.toks) (fun b o hb e => eb b o hb e) f0 f1 f3 f4 f5⟩
  self := fun _ _ _ _ _ st h => wpAny_pyIter_striter_ascii st h
def iStr (tl : TE) : TI := fun σ H R => tl σ H fun v H1 => ∃ x, v = .str x ∧ x.cps.all (· < 128) = true ∧ R (Itx x) H1
section
variable {X : Cx} {tg : Expr}
theorem pi_str {l : Expr} {tl : TE} (hl : PE X l tl) : PI X tg l (iStr tl) := by
  intro pins s σ H R I h
  refine thn (hl pins s σ H _ I h) fun v s1 ⟨x, H1, I1, r1, q1⟩ => ?_
  obtain ⟨y, rfl, ha, q⟩ := q1
  obtain ⟨t, rfl⟩ := r1
  refine wpAny_pyIter_ascii ha ?_
  refine ⟨s1.heap.objs.size, [s1.heap.objs.size], _, _, H1, rfl, I1.kept (t' := s1.toks) fun b o e => Heap.get?_push_of_some _ e, turn_str _ y t, ⟨_, Heap.get?_push_size _ rfl, rfl, rfl⟩, fun b hb => ?_, q⟩
  have e : b = s1.heap.objs.size := by simpa using hb
  subst e
  exact I1.fpOk (Nat.le_refl _) (I1.hok.fresh (Nat.le_refl _))
end
theorem compW_str {x : Str} {H : Hp} {one : V → Hp → (Option V → Hp → Prop) → Prop} {Q : List V → Hp → Prop} (Pv : Nat → List V → Hp → Prop) (h0 : Pv 0 [] H) (hn : x.cps.size ≤ sizeLine)
    (hs : ∀ i c ys H, x.cps[i]? = some c → Pv i ys H → one (.str ⟨#[c]⟩) H fun o H2 => Pv (i + 1) (ys ++ o.toList) H2) (hd : ∀ ys H, Pv x.cps.size ys H → Q ys H) : CompW (Itx x) H one Q := by
  refine ⟨x.cps.size, fun i ys H => i ≤ x.cps.size ∧ Pv i ys H, ⟨Nat.zero_le _, h0⟩, hn, ?_⟩
  rintro i ys H ⟨hi, p⟩
  by_cases hlt : i < x.cps.size
  · refine .inr ⟨hlt, hlt, fun o H3 => Pv (i + 1) (ys ++ o.toList) H3, fun o H3 z => ⟨hlt, z⟩, fun v H2 y => ?_⟩
    obtain ⟨e, c, hc, rfl⟩ := y
    subst e
    exact hs i c ys _ hc p
  · have e : i = x.cps.size := by omega
    subst e
    exact .inl ⟨Nat.le_refl _, hd ys H p⟩
section
variable {X : Cx} {K : PySem.W.Frag}
theorem call_int_text : CallR X (.type "int") (fun xs H Q => ∃ (x : Str) (n : Int), xs = [.str x] ∧ PySem.intText? x = some n ∧ x.length ≤ 640 ∧ Q (.int n) H) := by
  intro pins s σ H xs us Q I r h
  obtain ⟨x, n, rfl, hn, hl, q⟩ := h
  obtain ⟨u, rfl, ⟨t, rfl⟩⟩ := vals1 r
  exact PySem.W.KIN.call_text hn hl ⟨.int n, H, I.tok _, ⟨_, rfl⟩, q⟩
theorem slice1 (n : Nat) (h : 1 ≤ n) : Builtin.Str.strSliceIndices (some 1) none 1 n = (List.range (n - 1)).map (fun k => 1 + k) := by
  rw [← PySem.StrLaws.strSliceIndices_plain (a := 1) (b := n) h (Nat.le_refl _)]
  have h2 : ¬ ((n : Int) < 0) := by omega
  have e1 : max (0 : Int) (min (n : Int) (n : Int)) = n := by omega
  simp only [Builtin.Str.strSliceIndices, sliceRange, h2, if_false, e1, show ((1 : Int) > 0) = True from by simp, if_true]
  rfl
def rSl1 : V → Option Int → Option Int → Hp → VK → Prop := fun x lo hi H Q => ∃ z : Str, x = .str z ∧ lo = some 1 ∧ hi = none ∧ 1 ≤ z.length ∧ z.length ≤ sizeLine ∧ Q (.str ⟨(z.cps.toList.drop 1).toArray⟩) H
theorem sl_str1 : SlR X rSl1 := by
  intro pins s σ H x v vl vu lo hi sl Q I rx hs pl pu h
  obtain ⟨z, rfl, rfl, rfl, h1, h2, q⟩ := h
  obtain ⟨t, rfl⟩ := rx
  obtain ⟨tl, rfl⟩ : ∃ tl, vl = .int 1 tl := by cases pl; exact ⟨_, rfl⟩
  obtain rfl : vu = .none := by cases pu; rfl
  refine ⟨"str", _, PySem.F.slot_str_getitem.lookup, typeIs_str s z t, ?_⟩
  obtain ⟨o, ho, hc, hd⟩ := hs
  refine wpAny_getItem_str_slice (l := some (1, tl)) (u := none) (st := none) ⟨o, ho, hc, hd⟩ rfl ?_
  have e : slicePicked z (some (1, tl)) none none = (List.range (z.length - 1)).map (fun k => 1 + k) := slice1 _ h1
  have e3 : ((List.range (z.length - 1)).map (fun k => 1 + k)).filterMap (z.cps[·]?) = z.cps.toList.drop 1 := by
    have := PySem.StrLaws.picks z.cps.toList (z.length - 1) 1 (by simp [Str.length] at h1 ⊢; omega)
    rw [List.take_of_length_le (by simp [Str.length])] at this
    simpa using this
  unfold sliceMade
  rw [e, if_neg (by rw [List.length_map, List.length_range, Bool.and_eq_true]; intro z2; have := z2.2; simp at this; omega), e3]
  refine ⟨?_, ⟨.str _, H, I.tok _, ⟨_, rfl⟩, q⟩⟩
  show (List.drop 1 z.cps.toList).toArray.size ≤ sizeLine
  rw [List.size_toArray, List.length_drop]
  have : z.cps.toList.length = z.length := by simp [Str.length]
  omega
theorem mt_joinK (h : X.K = K) : MtM X "str.join" (rJoin K) := by subst h; exact mt_join
theorem int_word {i : Int} (h : -10000000000 < i ∧ i < 10000000000) : PySem.intText? (wordOf (some i)) = some i := by
  have l := wordL_len (some i) (fun j e => by cases e; exact h)
  have hl : (wordOf (some i)).length ≤ 4300 := by
    show (wordL (some i)).toArray.size ≤ 4300
    rw [List.size_toArray]; omega
  by_cases hi : i < 0
  · have e : (wordOf (some i)).cps.toList = 45 :: dg i.natAbs := by
      show (wordL (some i)).toArray.toList = _
      unfold wordL
      dsimp only
      rw [if_pos hi]
      simp
    rw [PySem.intText_neg e (dg_all _) (dg_ne _) hl]
    have : PySem.NumText.digitsVal (dg i.natAbs) = i.natAbs := dg_val _
    rw [this]
    congr 1
    omega
  · have e : (wordOf (some i)).cps.toList = dg i.natAbs := by
      show (wordL (some i)).toArray.toList = _
      unfold wordL
      dsimp only
      rw [if_neg hi]
      simp
    rw [PySem.intText_digits (by rw [e]; exact dg_all _) (by rw [e]; exact dg_ne _) hl, e]
    have : PySem.NumText.digitsVal (dg i.natAbs) = i.natAbs := dg_val _
    rw [this]
    congr 1
    omega
theorem pe_bmK {o e : Expr} {es : List Expr} {to : TE} {t : TA} {name : Str} {apos cpos : Pos} {T id : String} {r : V → List V → Hp → VK → Prop} (hK : X.K = K) (pa : PlainAttrs T) (slot : Slot T name id) (hty : typeOf (.builtin id) = pure (.type "method_descriptor")) (hm : MtR X id r) (ho : PE X o to) (ha : PA X (e :: es) t)
    (hbase : attributeBase o name X.env (eval o X.env) = eval o X.env := by rfl)
    (hfew : ((backTo cpos (starEach (e :: es) X.env)).all (fun x => !x.1) && (backToKw cpos (keywordEach [] X.env)).all (fun x => x.1.isSome)
      && decide ((e :: es).length + ([] : List Keyword).length + (if ([] : List Keyword).isEmpty then 0 else 1) < 30)) = true := by rfl)
    (hline : (apos.endLine == cpos.line) = true := by rfl) (hs : starEach (e :: es) X.env = (false, eval e X.env) :: starEach es X.env := by rfl) (hplain : (backTo cpos (starEach es X.env)).any (·.1) = false := by rfl) :
    PE X (.Call (.Attribute o name apos) (e :: es) [] cpos) (tBM K T r to t) := by
  subst hK
  exact pe_bm pa slot hty hm ho ha hbase hfew hline hs hplain
theorem pe_globE {x : Str} {v : V} {pos : Pos} (hg : Gl X x) (h : ∃ u, X.mg x = some u ∧ RelV v u) (hd : (x == ("__debug__" : Str)) = false := by decide) : PE X (.Name x pos) (tC v) := by
  obtain ⟨u, hm, r⟩ := h
  exact pe_glob hg hm r hd
theorem word_none : wordOf none = ("." : Str) := by decide +kernel
theorem word_dot (i : Int) : ¬ wordOf (some i) = ("." : Str) := by
  intro h
  have e := congrArg (fun x : Str => x.cps.toList) h
  have e2 : (wordOf (some i)).cps.toList = wordL (some i) := by show (wordL (some i)).toArray.toList = _; simp
  have e3 : (("." : Str)).cps.toList = [46] := by decide +kernel
  simp only [e2, e3] at e
  unfold wordL at e
  dsimp only at e
  have a := dg_all i.natAbs
  have n := dg_ne i.natAbs
  cases hd : dg i.natAbs with
  | nil => exact n hd
  | cons c r =>
    rw [hd] at e a
    have := a c (by simp)
    by_cases hi : i < 0
    · rw [if_pos hi] at e; simp at e
    · rw [if_neg hi] at e
      have : c = 46 := by simpa using (List.cons.inj e).1
      omega
def tFv (ta : TE) : TE := fun σ H Q => ta σ H fun x H1 => ∃ i : Int, x = .int i ∧ i.natAbs.log2 < 1920 ∧ Q (.str (Str.ofString (toString i))) H1
theorem pe_fv {a : Expr} {ta : TE} {pos : Pos} (ha : PE X a ta) : PE X (.FormattedValue a (-1) none pos) (tFv ta) := by
  intro pins s σ H Q I h
  refine wpAny_FormattedValue_plain (thn (ha pins s σ H _ I h) fun v s1 ⟨x, H1, I1, r1, q1⟩ => ?_)
  obtain ⟨i, rfl, hi, q⟩ := q1
  obtain ⟨t, rfl⟩ := r1
  exact wpAny_formatField_int hi ⟨.str _, H1, I1.tok _, ⟨_, rfl⟩, q⟩
abbrev TJ := Str → St → Hp → VK → Prop
def PJ (X : Cx) (es : List Expr) (t : TJ) : Prop := ∀ (acc : Str) (pins : List (Addr × Obj)) (s : Shared) (σ : St) (H : Hp) (Q : VK), Inv X pins σ H s → t acc σ H Q →
  Joins (model X.prog X.w) X.A X.xe (evalEach es X.env) acc (fun out s1 => out.length ≤ sizeLine ∧ EP X pins σ Q (.str out s1.toks) { s1 with toks := s1.toks + 1 }) s
theorem pj_nil : PJ X [] (fun acc _ H Q => acc.length ≤ sizeLine ∧ Q (.str acc) H) := by
  intro acc pins s σ H Q I h
  exact ⟨h.1, .str acc, H, I.tok _, ⟨_, rfl⟩, h.2⟩
theorem pj_cons {e : Expr} {es : List Expr} {te : TE} {t : TJ} (he : PE X e te) (hr : PJ X es t) : PJ X (e :: es) (fun acc σ H Q => te σ H fun x H1 => ∃ y : Str, x = .str y ∧ (acc ++ y).length ≤ sizeLine ∧ t (acc ++ y) σ H1 Q) := by
  intro acc pins s σ H Q I h
  show wpAny _ _ (eval e X.env) _ _ s
  refine thn (he pins s σ H _ I h) fun v s1 ⟨x, H1, I1, r1, q1⟩ => ?_
  obtain ⟨y, rfl, hz, q⟩ := q1
  obtain ⟨t', rfl⟩ := r1
  exact ⟨y, t', rfl, hz, hr _ pins s1 σ H1 Q I1 q⟩
theorem pe_fstr {e1 e2 : Expr} {es : List Expr} {t : TJ} {pos : Pos} (h : PJ X (e1 :: e2 :: es) t) : PE X (.JoinedStr (e1 :: e2 :: es) pos) (fun σ H Q => t Str.empty σ H Q) := by
  intro pins s σ H Q I hq
  exact wpAny_JoinedStr (h Str.empty pins s σ H Q I hq)
end
end L2
namespace L2
def ups (lo : Int) (n : Nat) : List Int := (List.range n).map fun i => lo + (i : Nat)
def notIn (xs ys : List Int) : List Int := xs.filter fun x => !decide (x ∈ ys)
abbrev Area := List Int × List Int
def beyond (a o : Area) : Area := if a.1 = o.1 then (a.1, notIn a.2 o.2) else (notIn a.1 o.1, a.2)
def placeAt (w k : Nat) : Int × Int := (((k / w : Nat) : Int), ((if (k / w) % 2 = 1 then w - 1 - k % w else k % w : Nat) : Int))
def areaAt (u d l r w k : Nat) : Area := (ups ((placeAt w k).1 - u) (u + d + 1), ups ((placeAt w k).2 - l) (l + r + 1))
def oldAt (u d l r w : Nat) : Nat → Area
  | 0 => ([], [])
  | k + 1 => areaAt u d l r w k
end L2
namespace L2
open PySem PySem.Spec PyProof.Rows
def Seed (H : Hp) (d : Addr) : Prop := ∃ a b n c : Int, H d = some (.lst [.int a, .int b, .int n, .int c])
theorem Seed.keep {H H' : Hp} {d : Addr} (D : Seed H d) (h : Same H H') : Seed H' d := let ⟨a, b, n, c, e⟩ := D; ⟨a, b, n, c, h _ _ e⟩
theorem Seed.upd {H : Hp} {d p : Addr} {o : HO} (D : Seed H d) (hp : H p = none) : Seed (upd H p o) d := D.keep (same_upd hp)
section
variable {X : Cx} {K : PySem.W.Frag}
theorem op_in_seqK (h : X.K = K) : OpR X (compareOp .In) (rIn K false) := by subst h; exact op_in_seq
end
def IsArea (x : Addr) (H : Hp) (v : V) (A : Area) : Prop := ∃ t a b, v = .ref t ∧ H t = some (.tup [.ref a, .ref b]) ∧ H a = some (.lst (A.1.map V.int)) ∧ H b = some (.lst (A.2.map V.int)) ∧ a ≠ x ∧ b ≠ x
def placeD (p : Int × Int) : PyData := .tuple [.int p.1, .int p.2]
def IsStep (x : Addr) (u d l r w : Nat) (H : Hp) (v : V) (k : Nat) : Prop := ∃ t pv a b, v = .ref t ∧ H t = some (.tup [pv, a, b]) ∧ IsD H pv (placeD (placeAt w k)) ∧ IsArea x H a (beyond (areaAt u d l r w k) (oldAt u d l r w k)) ∧ IsArea x H b (beyond (oldAt u d l r w k) (areaAt u d l r w k))
def IsSteps (x : Addr) (u d l r w : Nat) (H : Hp) (vs : List V) (n : Nat) : Prop := vs.length = n ∧ ∀ k, k < n → ∃ v, vs[k]? = some v ∧ IsStep x u d l r w H v k
theorem IsSteps.nil {x : Addr} {u d l r w : Nat} {H : Hp} : IsSteps x u d l r w H [] 0 := ⟨rfl, fun k hk => by omega⟩
end L2
set_option maxHeartbeats 2000000
namespace MwSet
open PySem
def Rs (xs : Array Nat) : Prop := xs.toList.Pairwise (· < ·)
structure TabOk (byText : Bool) (t : SetTable) : Prop where
  led : t.led = !byText
  rs : t.plain = true → Rs t.place
end MwSet
set_option maxHeartbeats 2000000
namespace MwSet
open PySem PyProof.Rows
def byT (w : World) : Bool := w.params.followText "set-order"
abbrev setObj (es : Array (Int × Value)) (ep : Nat) (t : SetTable) : Obj := { cls := .type "set", dict := none, data := .set es ep t, slots := #[] }
def nums (es : Array (Int × Value)) : List Int := es.toList.map fun e => numOf e.2
def IntEl (es : Array (Int × Value)) : Prop := ∀ e ∈ es.toList, ∃ k u, e = (hashInt k, Value.int k u)
def SetG (w : World) (h : Heap) (a : Addr) (ks : List Int) : Prop :=
  ∃ es ep t, h.get? a = some (setObj es ep t) ∧ IntEl es ∧ (nums es).Perm ks ∧ ks.Nodup ∧ es.size < scanBound ∧ t.fits es.size = true ∧ TabOk (byT w) t
theorem SetG.at {w : World} {h h' : Heap} {a : Addr} {ks : List Int} (S : SetG w h a ks) (k : ∀ o, h.get? a = some o → h'.get? a = some o) : SetG w h' a ks := let ⟨es, ep, t, e, r⟩ := S; ⟨es, ep, t, k _ e, r⟩
end MwSet
set_option maxHeartbeats 3200000
namespace MwSet
open PySem PySem.Spec PyProof.Rows
end MwSet
set_option maxHeartbeats 3200000
namespace MwSet
open PySem PySem.Spec PyProof.Rows
end MwSet
set_option maxHeartbeats 2000000
namespace MwSortR
open PySem PyProof.Rows
class Ranks where
  ρ : Value → Int
  κ : SortKind
  V : Value → Prop
variable [Ranks]
def K (xs : Array Keyed) (i : Nat) : Int := match xs[i]? with
  | some p => Ranks.ρ p.1
  | none => 0
end MwSortR
namespace MwSortR
open PySem PyProof.Rows
variable [Ranks]
def kf (p : Keyed) : Int := Ranks.ρ p.1
def Rise (l : List Keyed) : Prop := l.Pairwise (fun x y => kf x ≤ kf y)
def Ahead (l r : List Keyed) : Prop := ∀ x ∈ l, ∀ y ∈ r, kf x ≤ kf y
structure MI (a b out : List Keyed) (ia ib : Nat) : Prop where
  perm : out.Perm (a.take ia ++ b.take ib)
  rise : Rise out
  ahA : Ahead out (a.drop ia)
  ahB : Ahead out (b.drop ib)
theorem MI.nil {a b : List Keyed} : MI a b [] 0 0 := ⟨by simp, List.Pairwise.nil, fun x hx => absurd hx (by simp), fun x hx => absurd hx (by simp)⟩
theorem MI.len {a b out : List Keyed} {ia ib : Nat} (h : MI a b out ia ib) (h1 : ia ≤ a.length) (h2 : ib ≤ b.length) : out.length = ia + ib := by
  have := h.perm.length_eq
  rw [List.length_append, List.length_take, List.length_take] at this
  omega
structure MH (a b out : List Keyed) (na nb : Nat) : Prop where
  perm : out.Perm (a.drop na ++ b.drop nb)
  rise : Rise out.reverse
  ahA : Ahead (a.take na) out
  ahB : Ahead (b.take nb) out
theorem MH.nil {a b : List Keyed} : MH a b [] a.length b.length := ⟨by simp, List.Pairwise.nil, fun x _ y hy => absurd hy (by simp), fun x _ y hy => absurd hy (by simp)⟩
end MwSortR
set_option maxHeartbeats 2000000
namespace MwSortR
open PySem PyProof.Rows
variable [Ranks]
theorem bindC {α β : Type} {x y : StateT SortSt Sem α} {f g : α → StateT SortSt Sem β} (h1 : x = y) (h2 : ∀ c, f c = g c) : (x >>= f) = (y >>= g) := by rw [h1, funext h2]
def Stay (st st' : SortSt) : Prop := kindOf st' = kindOf st ∧ arrOf st' = arrOf st ∧ pendingOf st' = pendingOf st ∧ failedOf st' = failedOf st
theorem Stay.rfl {st : SortSt} : Stay st st := ⟨_root_.rfl, _root_.rfl, _root_.rfl, _root_.rfl⟩
end MwSortR
set_option maxHeartbeats 2000000
namespace MwSortR
open PySem PyProof.Rows
variable [Ranks]
end MwSortR
set_option maxHeartbeats 2000000
namespace MwSortR
open PySem PyProof.Rows
variable [Ranks]
end MwSortR
set_option maxHeartbeats 2000000
namespace MwSortR
open PySem PyProof.Rows
variable [Ranks]
structure Moved (lo : Nat) (st st' : SortSt) : Prop where
  kind : kindOf st' = kindOf st
  failed : failedOf st' = failedOf st
  pend : pendingOf st' = pendingOf st
  perm : (arrOf st').Perm (arrOf st)
  out : ∀ k, k < lo → K (arrOf st') k = K (arrOf st) k
theorem Moved.rfl {lo : Nat} {st : SortSt} : Moved lo st st := ⟨_root_.rfl, _root_.rfl, _root_.rfl, Array.Perm.refl _, fun _ _ => _root_.rfl⟩
end MwSortR
set_option maxHeartbeats 2000000
namespace MwSortR
open PySem PyProof.Rows
variable [Ranks]
end MwSortR
set_option maxHeartbeats 2000000
namespace MwSort
open PySem PyProof.Rows
end MwSort
set_option maxHeartbeats 3200000
namespace MwSet
open PySem PySem.Spec PyProof.Rows
end MwSet
namespace L2
open PySem PySem.Spec PyProof.Rows
end L2
namespace L2
open PySem PySem.Spec PyProof.Rows
end L2
namespace L2
open PySem PySem.Spec PyProof.Rows
end L2
namespace L2
open PySem PySem.Spec PyProof.Rows
end L2
namespace L2
open PySem PySem.Spec PyProof.Rows
end L2
namespace L2
open PySem PySem.Spec PyProof.Rows
end L2
namespace L2
open PySem PySem.Spec PyProof.Rows
end L2
namespace L2
open PySem PySem.Spec PyProof.Rows
end L2
namespace L2
open PySem PySem.Spec PyProof.Rows
end L2
namespace L2
open PySem PySem.Spec PyProof.Rows
end L2
namespace L2
open PySem PySem.Spec PyProof.Rows
end L2
namespace L2
open PySem PySem.Spec PyProof.Rows
section
variable {κ : Type} [DecidableEq κ]
def valV (kvs : List (κ × V)) (k : κ) : Option V := (kvs.find? fun kv => decide (kv.1 = k)).map (·.2)
def putK (kvs : List (κ × V)) (k : κ) (v : V) : List (κ × V) :=
  if (kvs.any fun kv => decide (kv.1 = k)) = true then kvs.map (fun kv => if kv.1 = k then (kv.1, v) else kv) else kvs ++ [(k, v)]
end
def DGet (H : Hp) (a : Addr) (y : V) (r : Option V) : Prop :=
  (∃ kvs k, Rd H a (.dK kvs) ∧ y = kV k ∧ r = valV kvs k) ∨ ∃ kvs k b, Rd H a (.dT kvs) ∧ y = .ref b ∧ H b = some (.tup (k.map kV)) ∧ r = valV kvs k
def DPut (H : Hp) (a : Addr) (y v : V) (H' : Hp) : Prop :=
  (∃ kvs k, H a = some (.dK kvs) ∧ y = kV k ∧ kvs.length < sizeLine ∧ H' = upd H a (.dK (putK kvs k v))) ∨
  ∃ kvs k b, H a = some (.dT kvs) ∧ y = .ref b ∧ H b = some (.tup (k.map kV)) ∧ kvs.length < sizeLine ∧ H' = upd H a (.dT (putK kvs k v))
theorem DGet.k {H : Hp} {a : Addr} {kvs : List (Key × V)} {k : Key} (e : H a = some (.dK kvs)) : DGet H a (kV k) (valV kvs k) := .inl ⟨kvs, k, .inl e, rfl, rfl⟩
theorem DGet.t {H : Hp} {a b : Addr} {kvs : List (List Key × V)} {k : List Key} (e : H a = some (.dT kvs)) (eb : H b = some (.tup (k.map kV))) : DGet H a (.ref b) (valV kvs k) := .inr ⟨kvs, k, b, .inl e, rfl, eb, rfl⟩
theorem DPut.k {H : Hp} {a : Addr} {kvs : List (Key × V)} {k : Key} {v : V} (e : H a = some (.dK kvs)) (hl : kvs.length < sizeLine) : DPut H a (kV k) v (upd H a (.dK (putK kvs k v))) := .inl ⟨kvs, k, e, rfl, hl, rfl⟩
theorem DPut.t {H : Hp} {a b : Addr} {kvs : List (List Key × V)} {k : List Key} {v : V} (e : H a = some (.dT kvs)) (eb : H b = some (.tup (k.map kV))) (hl : kvs.length < sizeLine) :
    DPut H a (.ref b) v (upd H a (.dT (putK kvs k v))) := .inr ⟨kvs, k, b, e, rfl, eb, hl, rfl⟩
end L2
namespace Att
open PySem PySem.W PySem.Calls PyProof.Rows
end Att
namespace L2
open PySem PySem.Spec PyProof.Rows
end L2
namespace L2
open PySem PySem.Spec PyProof.Rows
end L2
namespace L2
open PySem PySem.Spec PyProof.Rows
end L2
namespace L2
open PySem PySem.Spec PyProof.Rows
end L2
namespace L2
open PySem PySem.Spec PyProof.Rows MwSet
end L2
namespace L2
open PySem PySem.Spec PyProof.Rows MwSet
def SeqV (H : Hp) (p : Addr) (xs : List V) : Prop := H p = some (.tup xs) ∨ H p = some (.lst xs)
theorem SeqV.len {K : PySem.W.Frag} {H : Hp} {p : Addr} {xs : List V} (h : SeqV H p xs) : LenV K (.ref p) H xs.length := h.elim (fun e => .inr ⟨_, SqT.of e, rfl⟩) fun e => .inl ⟨_, SqL.of e, rfl⟩
end L2
namespace L2
open PySem PySem.Spec PyProof.Rows
theorem comp_seqV {K : PySem.W.Frag} {a : Addr} {xs : List V} {tl : TE} {σ : St} {H H1 : Hp} {one : V → Hp → (Option V → Hp → Prop) → Prop} {Q : List V → Hp → Prop} (htl : ∀ k : VK, k (.ref a) H1 → tl σ H k) (hp : SeqV H1 a xs) (Pv : Nat → List V → Hp → Prop) (h0 : Pv 0 [] H1) (hn : xs.length ≤ sizeLine)
    (hl : ∀ i ys H', i ≤ xs.length → Pv i ys H' → H' a = H1 a) (hs : ∀ i x ys H', xs[i]? = some x → Pv i ys H' → one x H' fun o H2 => Pv (i + 1) (ys ++ o.toList) H2) (hd : ∀ ys H', Pv xs.length ys H' → Q ys H') :
    iList K tl σ H (fun J H2 => CompW J H2 one Q) ∨ iTup K tl σ H (fun J H2 => CompW J H2 one Q) := by
  rcases hp with e | e
  · exact Or.inr (htl _ ⟨a, rfl, ⟨_, SqT.of e⟩, compW_tup (xs := xs) Pv h0 hn (fun i ys H' hi p => SqT.of (by rw [hl i ys H' hi p]; exact e)) hs hd⟩)
  · exact Or.inl (htl _ ⟨a, rfl, ⟨_, SqL.of e⟩, compW_list (xs := xs) Pv h0 hn (fun i ys H' hi p => SqL.of (by rw [hl i ys H' hi p]; exact e)) hs hd⟩)
theorem cell_at {r : List (Option Int)} {i : Nat} {x : V} (h : (r.map cellV)[i]? = some x) : ∃ c, r[i]? = some c ∧ x = cellV c := by
  rw [List.getElem?_map] at h
  cases e : r[i]? with
  | none => rw [e] at h; cases h
  | some c => rw [e] at h; exact ⟨c, rfl, (Option.some.inj h).symm⟩
end L2
namespace L2
open PySem PySem.Spec PyProof.Rows
end L2
namespace L2
open PySem PySem.Spec PyProof.Rows
inductive LeN : List Int → List Int → Prop
  | nil : LeN [] []
  | cons {x y : Int} {xs ys : List Int} : x ≤ y → LeN xs ys → LeN (x :: xs) (y :: ys)
theorem LeN.len : ∀ {xs ys : List Int}, LeN xs ys → xs.length = ys.length
  | _, _, .nil => rfl
  | _, _, .cons _ t => by simp [t.len]
end L2
namespace L2
open PySem PySem.Spec PyProof.Rows
end L2
namespace L2
open PySem PySem.Spec PyProof.Rows
end L2
namespace L2
open PySem PySem.Spec PyProof.Rows
end L2
namespace L2
open PySem PySem.Spec PyProof.Rows
end L2
namespace L2
open PySem PySem.Spec PyProof.Rows
end L2
namespace L2
open PySem PySem.Spec PyProof.Rows
end L2
namespace L2
open PySem PySem.Spec PyProof.Rows
def RawM (K : PySem.W.Frag) (C : Addr) (m qual : Str) (ps : List Str) (st : Stmt) : Prop := ∃ f fd, Meth K C m f ∧ Fun K m qual st f fd ∧ Binds K fd ps []
def RawI (K : PySem.W.Frag) (C : Addr) (qual : Str) (ps : List Str) (st : Stmt) : Prop := ∃ f fd, Mk K C f ∧ Fun K "__init__" qual st f fd ∧ Binds K fd ps []
def DfM (P : Program) (w : World) (K : PySem.W.Frag) (mg : Str → Option Value) (base : Heap) (k : Nat) (C : Addr) (m : Str) (ps : List Str) (sp : Sp) : Prop :=
  ∃ (f : Addr) (fd : FuncData), FnOk P w K mg base CX0 k f fd ps sp ∧ Meth K C m f ∧ Binds K fd ps [] ∧ ∃ qual st, Fun K m qual st f fd
def DfI (P : Program) (w : World) (K : PySem.W.Frag) (mg : Str → Option Value) (base : Heap) (k : Nat) (C : Addr) (ps : List Str) (sp : Sp) : Prop :=
  ∃ (f : Addr) (fd : FuncData), FnOk P w K mg base CX0 k f fd ps sp ∧ Mk K C f ∧ Binds K fd ps [] ∧ ∃ qual st, Fun K "__init__" qual st f fd
section
variable {P : Program} {w : World} {K : PySem.W.Frag} {mg : Str → Option Value} {base : Heap}
theorem RawM.ok {C : Addr} {m qual : Str} {ps N : List Str} {st : Stmt} {k : Nat} {sp : Sp} (R : RawM K C m qual ps st) (S : FnScope N ps (defScope st)) (len : ∀ vs H Q E, sp vs H Q E → vs.length = ps.length)
    (hbody : ∀ (f : Addr) (cdv : Value) (A : Around) (outer : List Env) (s : Shared) (H : Hp) (vs : List V) (Q : VK) (E : XK), Room k (A.deeper (envOfC qual (defScope st) s.heap.objs.size f cdv)) → sp vs H Q E →
      ∃ t, PSs (cxOf CX0 P w K mg base N qual (defScope st) f cdv A outer s H E).nox (defBody st) t ∧ t { nx := fun _ H' => Q .non H', rt := Q } (start N vs) H) : DfM P w K mg base (k + 1) C m ps sp := by
  obtain ⟨f, fd, M, F, b⟩ := R
  exact ⟨f, fd, F.ok S len (fun cdv A outer s H vs Q E hr h => hbody f cdv A outer s H vs Q E hr h), M, b, _, _, F⟩
theorem RawI.ok {C : Addr} {qual : Str} {ps N : List Str} {st : Stmt} {k : Nat} {sp : Sp} (R : RawI K C qual ps st) (S : FnScope N ps (defScope st)) (len : ∀ vs H Q E, sp vs H Q E → vs.length = ps.length)
    (hbody : ∀ (f : Addr) (cdv : Value) (A : Around) (outer : List Env) (s : Shared) (H : Hp) (vs : List V) (Q : VK) (E : XK), Room k (A.deeper (envOfC qual (defScope st) s.heap.objs.size f cdv)) → sp vs H Q E →
      ∃ t, PSs (cxOf CX0 P w K mg base N qual (defScope st) f cdv A outer s H E).nox (defBody st) t ∧ t { nx := fun _ H' => Q .non H', rt := Q } (start N vs) H) : DfI P w K mg base (k + 1) C ps sp := by
  obtain ⟨f, fd, M, F, b⟩ := R
  exact ⟨f, fd, F.ok S len (fun cdv A outer s H vs Q E hr h => hbody f cdv A outer s H vs Q E hr h), M, b, _, _, F⟩
end
section
variable {X : Cx} {k : Nat} {C : Addr} {m : Str} {ps : List Str} {sp : Sp} {o e : Expr} {es : List Expr} {ta : TE} {t : TA} {apos pos : Pos}
theorem pe_mt {pl : Sem Bool} (D : DfM X.prog X.w X.K X.mg X.base k C m ps sp) (c : Cls X.K C) (hr : Room k X.A) (he : PE X o ta) (ha : PA X (e :: es) t)
    (hst : starEach (e :: es) X.env = (false, eval e X.env) :: starEach es X.env := by rfl) (hpl : (backTo pos (starEach es X.env)).any (·.1) = false := by rfl)
    (ht : eval (.Call (.Attribute o m apos) (e :: es) [] pos) X.env = (do
      let ov ← eval o X.env
      standAt apos.atName
      let (f, first) ← holding [ov] (getMethod ov m pl)
      callWith pos f first (backTo pos (starEach (e :: es) X.env)) (backToKw pos (keywordEach [] X.env))) := by rfl) :
    PE X (.Call (.Attribute o m apos) (e :: es) [] pos) (tMeth C m sp [] E0 ta t) := by
  obtain ⟨f, fd, F, M, b, _⟩ := D
  exact pe_meth (pl := pl) he c M F hr b .nil pass0 ha hst hpl ht
theorem pe_fldK {K : PySem.W.Frag} {f : Str} (h : X.K = K) (he : PE X o ta) (hb : attributeBase o f X.env (eval o X.env) = eval o X.env) : PE X (.Attribute o f pos) (tFld K ta f) := by subst h; exact pe_fld he hb
end
end L2
namespace L2
open PySem PySem.Spec PyProof.Rows
def TopT (K : PySem.W.Frag) (p : Addr) (xs : List V) : Prop := ∃ (o : Obj) (its : Array Value) (n : Nat), K.lookup p = some o ∧ o.cls = .type "tuple" ∧ o.data = .seq its n ∧ its.size ≤ sizeLine ∧ Vals xs its.toList
theorem TopT.sq {K : PySem.W.Frag} {H : Hp} {p : Addr} {xs : List V} (h : TopT K p xs) : SqT K H p xs := .inr h
def tGK (K : PySem.W.Frag) (xs : List V) : TE := fun _ H Q => ∀ p, TopT K p xs → Q (.ref p) H
theorem pe_globK {X : Cx} {K : PySem.W.Frag} {x : Str} {xs : List V} {pos : Pos} (hK : X.K = K) (hg : Gl X x) (h : ∃ p, X.mg x = some (.ref p) ∧ TopT K p xs) (hd : (x == ("__debug__" : Str)) = false := by decide) : PE X (.Name x pos) (tGK K xs) := by
  obtain ⟨p, hm, hk⟩ := h
  intro pins s σ H Q I q
  exact pe_glob (v := .ref p) hg hm rfl hd pins s σ H Q I (q p hk)
end L2
namespace L2
open PySem
variable {rest es : List Expr} {env : Env} {p : Pos} {a b c : Expr}
theorem star_tup {x} : starEach (Expr.Tuple es x p :: rest) env = (false, eval (.Tuple es x p) env) :: starEach rest env := by rfl
theorem star_sub : starEach (Expr.Subscript a b p :: rest) env = (false, eval (.Subscript a b p) env) :: starEach rest env := by rfl
theorem star_call {ks} : starEach (Expr.Call a es ks p :: rest) env = (false, eval (.Call a es ks p) env) :: starEach rest env := by rfl
theorem star_un {o} : starEach (Expr.UnaryOp o a p :: rest) env = (false, eval (.UnaryOp o a p) env) :: starEach rest env := by rfl
theorem star_comp {g s} : starEach (Expr.ListComp a g s p :: rest) env = (false, eval (.ListComp a g s p) env) :: starEach rest env := by rfl
end L2
namespace L2
open PySem PySem.Spec PyProof.Rows
def tMethK (C : Addr) (m : Str) (sp : Sp) (gV : List V → List V) (ta : TE) (tk : TA) : TE := fun σ H Q => ta σ H fun x H1 => ∃ a dx fs, x = .ref a ∧ H1 a = some (.ins C dx fs) ∧ fs.lookup m = none ∧ tk σ H1 fun zs H2 => sp (x :: gV zs) H2 Q E0
section
variable {X : Cx} {k : Nat} {C : Addr} {m qual : Str} {ps ks : List Str} {sp : Sp} {st : Stmt} {o : Expr} {kws : List Keyword} {ta : TE} {tk : TA} {apos pos p : Pos} {g : List Value → List Value} {gV : List V → List V} {x : Str}
theorem pe_mtK {pl : Sem Bool} (D : DfM X.prog X.w X.K X.mg X.base k C m ps sp) (R : RawM X.K C m qual ps st) (c : Cls X.K C) (hr : Room k X.A) (he : PE X o ta)
    (hb : ∀ (kV doc pm : Value) (an : Option Addr) (cdv ct u : Value) (ws : List Value), (u :: g ws).length = ps.length → bindArgs (PySem.W.fnOf m qual (defArgs st) (defBody st) (defScope st) .none kV doc pm an cdv ct) ⟨[u], ks.zip ws⟩ = pure (ps.zip (u :: g ws)))
    (hrel : ∀ {zs : List V} {ws : List Value}, Vals zs ws → Vals (gV zs) (g ws)) (hkw : PK X kws tk)
    (hall : (backToKw pos (keywordEach kws X.env)).all (·.1.isSome) = true := by rfl) (hks : (backToKw pos (keywordEach kws X.env)).filterMap (·.1) = ks := by rfl)
    (hpl : ((backTo pos (starEach [] X.env)).any (·.1) || (backToKw pos (keywordEach kws X.env)).any (·.1.isNone)) = false := by rfl)
    (ht : eval (.Call (.Attribute o m apos) [] kws pos) X.env = (do
      let ov ← eval o X.env
      standAt apos.atName
      let (f, first) ← holding [ov] (getMethod ov m pl)
      callWith pos f first (backTo pos (starEach [] X.env)) (backToKw pos (keywordEach kws X.env))) := by rfl) :
    PE X (.Call (.Attribute o m apos) [] kws pos) (tMethK C m sp gV ta tk) := by
  obtain ⟨f, fd, F, M, b, q', st', R'⟩ := D
  obtain ⟨f2, fd2, M2, R2, _⟩ := R
  have e := M.at_.symm.trans M2.at_
  cases e
  obtain ⟨oc', od', kV', doc', pm', an', cdv', ct', osl', e1', e2', _⟩ := R'.ex
  obtain ⟨oc, od, kV, doc, pm, an, cdv, ct, osl, e1, e2, _⟩ := R2.ex
  rw [e2] at e2'
  cases e2'
  intro pins s σ H Q I h
  refine PySem.W.methodCall_KW (pl := pl) (thn (he pins s σ H _ I h) fun u s1 ⟨x, H1, I1, rx, a, dx, fs, ex, ea, l, q⟩ => ?_) ht
  subst ex
  obtain rfl : u = Value.ref a := rx
  refine getmeth_ok I1 ea c M l ?_
  refine PySem.W.callWith_KW0 (first := [.ref a]) (h₀ := X.base) I.ok.mod.kin M.kp hall (thn (hkw pos pins s1 σ H1 _ I1 q) fun ws s2 ⟨zs, H2, I2, rz, q2⟩ => ⟨I2.kIn, ?_⟩) hpl
  rw [hks]
  have r2 : Vals (V.ref a :: gV zs) (Value.ref a :: g ws) := .cons rfl (hrel rz)
  have hl : (Value.ref a :: g ws).length = ps.length := by rw [← r2.length]; exact F.len _ _ _ _ q2
  have bt : BindsTo s2 fd ⟨[.ref a], ks.zip ws⟩ (ps.zip (Value.ref a :: g ws)) := .of_eq (by rw [e1]; exact hb kV doc pm an cdv ct _ ws hl)
  refine wpAny_call (codeAny_mono (F.run X.A X.stack s2 H2 ⟨[.ref a], ks.zip ws⟩ (.ref a :: g ws) (.ref a :: gV zs) Q E0 hr I2.env0 bt r2 q2) fun r s' hq => ?_)
  cases r with
  | error e => exact pass0 pins σ H2 s2 e s' I2 hq
  | ok fl =>
    cases fl with
    | ret u => exact I2.after hq
    | next => exact False.elim hq
    | brk => exact False.elim hq
    | cont => exact False.elim hq
end
end L2
namespace L2
open PySem PySem.Spec PyProof.Rows
section
variable {X : Cx} {K : PySem.W.Frag}
theorem sliceN (n k : Nat) (h : k ≤ n) : Builtin.Str.strSliceIndices (some (k : Int)) none 1 n = (List.range (n - k)).map (fun j => k + j) := by
  rw [← PySem.StrLaws.strSliceIndices_plain (a := k) (b := n) h (Nat.le_refl _)]
  have h2 : ¬ ((n : Int) < 0) := by omega
  have e1 : max (0 : Int) (min (n : Int) (n : Int)) = n := by omega
  simp only [Builtin.Str.strSliceIndices, sliceRange, h2, if_false, e1, show ((1 : Int) > 0) = True from by simp, if_true]
def rSlN : V → Option Int → Option Int → Hp → VK → Prop := fun x lo hi H Q => ∃ (z : Str) (k : Nat), x = .str z ∧ lo = some (k : Int) ∧ hi = none ∧ 1 ≤ k ∧ k ≤ z.length ∧ z.length ≤ sizeLine ∧ Q (.str ⟨(z.cps.toList.drop k).toArray⟩) H
theorem sl_strN : SlR X rSlN := by
  intro pins s σ H x v vl vu lo hi sl Q I rx hs pl pu h
  obtain ⟨z, k, rfl, rfl, rfl, h0, h1, h2, q⟩ := h
  obtain ⟨t, rfl⟩ := rx
  obtain ⟨tl, rfl⟩ : ∃ tl, vl = .int (k : Int) tl := by cases pl; exact ⟨_, rfl⟩
  obtain rfl : vu = .none := by cases pu; rfl
  refine ⟨"str", _, PySem.F.slot_str_getitem.lookup, typeIs_str s z t, ?_⟩
  obtain ⟨o, ho, hc, hd⟩ := hs
  refine wpAny_getItem_str_slice (l := some ((k : Int), tl)) (u := none) (st := none) ⟨o, ho, hc, hd⟩ rfl ?_
  have e : slicePicked z (some ((k : Int), tl)) none none = (List.range (z.length - k)).map (fun j => k + j) := sliceN _ _ h1
  have e3 : ((List.range (z.length - k)).map (fun j => k + j)).filterMap (z.cps[·]?) = z.cps.toList.drop k := by
    have := PySem.StrLaws.picks z.cps.toList (z.length - k) k (by simp [Str.length] at h1 ⊢; omega)
    rw [List.take_of_length_le (by simp [Str.length])] at this
    simpa using this
  unfold sliceMade
  rw [e, if_neg (by rw [List.length_map, List.length_range, Bool.and_eq_true]; intro z2; have := z2.2; simp at this; omega), e3]
  refine ⟨?_, ⟨.str _, H, I.tok _, ⟨_, rfl⟩, q⟩⟩
  show (List.drop k z.cps.toList).toArray.size ≤ sizeLine
  rw [List.size_toArray, List.length_drop]
  have : z.cps.toList.length = z.length := by simp [Str.length]
  omega
theorem pe_fstr1 {e : Expr} {te : TE} {pos : Pos} (h : PE X e te) : PE X (.JoinedStr [e] pos) te := fun pins s σ H Q I q => wpAny_JoinedStr_one (h pins s σ H Q I q)
theorem pe_new0 {k : Nat} {C : Addr} {ps : List Str} {sp : Sp} {x : Str} {p pos : Pos} (D : DfI X.prog X.w X.K X.mg X.base k C ps sp) (hr : Room (k + 1) X.A) (hm : X.mg x = some (.ref C)) (hg : Gl X x := by rfl)
    (hdb : (x == ("__debug__" : Str)) = false := by decide) : PE X (.Call (.Name x p) [] [] pos) (tMake C sp [] E0 tNil) := by
  obtain ⟨f, fd, F, M, b, _⟩ := D
  exact pe_make0 M F hr hg hm b .nil pass0 hdb
end
end L2
set_option maxHeartbeats 4000000
namespace Mw
open PySem L2
def top (i : Nat) : Stmt := PySem.Challenge.pw_midwindow_k92_desk_by_names.main.body.getD i (.Pass ⟨0, 0, 0, 0⟩)
abbrev s_is_number : Stmt := top 10
theorem sc_is_number : FnScope ["word", "figures"] ["word"] (defScope s_is_number) := ⟨rfl, rfl, rfl, by decide +kernel, rfl, by decide +kernel, by decide +kernel⟩
abbrev s_is_cell : Stmt := top 11
theorem sc_is_cell : FnScope ["word"] ["word"] (defScope s_is_cell) := ⟨rfl, rfl, rfl, by decide +kernel, rfl, by decide +kernel, by decide +kernel⟩
abbrev s_cell_read : Stmt := top 12
theorem sc_cell_read : FnScope ["word"] ["word"] (defScope s_cell_read) := ⟨rfl, rfl, rfl, by decide +kernel, rfl, by decide +kernel, by decide +kernel⟩
abbrev s_cell_shown : Stmt := top 13
theorem sc_cell_shown : FnScope ["cell"] ["cell"] (defScope s_cell_shown) := ⟨rfl, rfl, rfl, by decide +kernel, rfl, by decide +kernel, by decide +kernel⟩
abbrev s_read_rows : Stmt := top 14
theorem sc_read_rows : FnScope ["lines", "rows", "row", "line", "words"] ["lines"] (defScope s_read_rows) := ⟨rfl, rfl, rfl, by decide +kernel, rfl, by decide +kernel, by decide +kernel⟩
abbrev s_row_shown : Stmt := top 15
theorem sc_row_shown : FnScope ["row"] ["row"] (defScope s_row_shown) := ⟨rfl, rfl, rfl, by decide +kernel, rfl, by decide +kernel, by decide +kernel⟩
abbrev s_without_holes : Stmt := top 25
theorem sc_without_holes : FnScope ["cells"] ["cells"] (defScope s_without_holes) := ⟨rfl, rfl, rfl, by decide +kernel, rfl, by decide +kernel, by decide +kernel⟩
abbrev s_are_within : Stmt := top 54
theorem sc_are_within : FnScope ["numbers", "least", "most"] ["numbers", "least", "most"] (defScope s_are_within) := ⟨rfl, rfl, rfl, by decide +kernel, rfl, by decide +kernel, by decide +kernel⟩
abbrev s_numbers_asked : Stmt := top 55
theorem sc_numbers_asked : FnScope ["words", "how_many"] ["words", "how_many"] (defScope s_numbers_asked) := ⟨rfl, rfl, rfl, by decide +kernel, rfl, by decide +kernel, by decide +kernel⟩
abbrev s_field_asked : Stmt := top 61
theorem sc_field_asked : FnScope ["text", "field", "row"] ["text"] (defScope s_field_asked) := ⟨rfl, rfl, rfl, by decide +kernel, rfl, by decide +kernel, by decide +kernel⟩
abbrev s_lines_of : Stmt := top 65
theorem sc_lines_of : FnScope ["field"] ["field"] (defScope s_lines_of) := ⟨rfl, rfl, rfl, by decide +kernel, rfl, by decide +kernel, by decide +kernel⟩
abbrev s_law : Stmt := top 68
theorem sc_law : FnScope ["script", "far", "desk"] ["script"] (defScope s_law) := ⟨rfl, rfl, rfl, by decide +kernel, rfl, by decide +kernel, by decide +kernel⟩
abbrev s_Desk_init : Stmt := inClass (top 66) 0
theorem sc_Desk_init : FnScope ["self"] ["self"] (defScope s_Desk_init) := ⟨rfl, rfl, rfl, by decide +kernel, rfl, by decide +kernel, by decide +kernel⟩
abbrev s_Desk_ask : Stmt := inClass (top 66) 1
theorem sc_Desk_ask : FnScope ["self", "line", "words"] ["self", "line"] (defScope s_Desk_ask) := ⟨rfl, rfl, rfl, by decide +kernel, rfl, by decide +kernel, by decide +kernel⟩
abbrev s_Desk_change_by : Stmt := inClass (top 66) 2
theorem sc_Desk_change_by : FnScope ["self", "word", "words"] ["self", "word", "words"] (defScope s_Desk_change_by) := ⟨rfl, rfl, rfl, by decide +kernel, rfl, by decide +kernel, by decide +kernel⟩
abbrev s_Desk_lines_told : Stmt := inClass (top 66) 5
theorem sc_Desk_lines_told : FnScope ["self", "word", "words"] ["self", "word", "words"] (defScope s_Desk_lines_told) := ⟨rfl, rfl, rfl, by decide +kernel, rfl, by decide +kernel, by decide +kernel⟩
structure Txt (K : PySem.W.Frag) (mg : Str → Option Value) (C : Addr) : Prop where
  g_Desk : mg "Desk" = some (.ref C)
  cl_Desk : Cls K C
  a_field : NoAttr K C "field"
  a_rule : NoAttr K C "rule"
  a_share : NoAttr K C "share"
  a_window : NoAttr K C "window"
  m_Desk_init : RawI K C "Desk.__init__" ["self"] s_Desk_init
  m_Desk_ask : RawM K C "ask" "Desk.ask" ["self", "line"] s_Desk_ask
  m_Desk_lines_told : RawM K C "lines_told" "Desk.lines_told" ["self", "word", "words"] s_Desk_lines_told
  d_is_number : Raw K mg "is_number" ["word"] s_is_number
  d_is_cell : Raw K mg "is_cell" ["word"] s_is_cell
  d_cell_read : Raw K mg "cell_read" ["word"] s_cell_read
  d_cell_shown : Raw K mg "cell_shown" ["cell"] s_cell_shown
  d_read_rows : Raw K mg "read_rows" ["lines"] s_read_rows
  d_row_shown : Raw K mg "row_shown" ["row"] s_row_shown
  d_without_holes : Raw K mg "without_holes" ["cells"] s_without_holes
  d_are_within : Raw K mg "are_within" ["numbers", "least", "most"] s_are_within
  d_numbers_asked : Raw K mg "numbers_asked" ["words", "how_many"] s_numbers_asked
  d_field_asked : Raw K mg "field_asked" ["text"] s_field_asked
  d_lines_of : Raw K mg "lines_of" ["field"] s_lines_of
  d_law : Raw K mg "law" ["script"] s_law
  g_CHANGES : ∃ p, mg "CHANGES" = some (.ref p) ∧ TopT K p [.str "window", .str "edge", .str "share", .str "cell", .str "take"]
  g_HOLE : ∃ u, mg "HOLE" = some u ∧ RelV (.str ".") u
  g_FIGURES : ∃ u, mg "FIGURES" = some u ∧ RelV (.str "0123456789") u
  g_MOST_NUMBER : ∃ u, mg "MOST_NUMBER" = some u ∧ RelV (.int 1000000000) u
  g_MOST_LENGTH : ∃ u, mg "MOST_LENGTH" = some u ∧ RelV (.int 12) u
  g_FIELD_AHEAD : ∃ u, mg "FIELD_AHEAD" = some u ∧ RelV (.str "field ") u
  n_len : mg "len" = none
  n_sum : mg "sum" = none
  n_all : mg "all" = none
  n_tuple : mg "tuple" = none
  n_int : mg "int" = none
  n_str : mg "str" = none
  n_enumerate : mg "enumerate" = none
section
variable {P : Program} {w : World} {K : PySem.W.Frag} {mg : Str → Option Value} {base : Heap} {C : Addr}
theorem eqS {x y : Str} (h : x = y) : decide (V.str x = V.str y) = true := decide_eq_true (by rw [h])
theorem neS {x y : Str} (h : ¬ x = y) : decide (V.str x = V.str y) = false := decide_eq_false fun e => h (V.str.inj e)
def Wide (i : Int) : Prop := -10000000000 < i ∧ i < 10000000000
def CellW (c : Option Int) : Prop := ∀ i, c = some i → Wide i
theorem wordL_neg {i : Int} (h : i < 0) : wordL (some i) = 45 :: dg i.natAbs := by
  unfold wordL
  dsimp only
  rw [if_pos h]
  rfl
theorem wordL_nn {i : Int} (h : ¬ i < 0) : wordL (some i) = dg i.natAbs := by
  unfold wordL
  dsimp only
  rw [if_neg h]
  rfl
theorem word_cps (c : Option Int) : (wordOf c).cps.toList = wordL c := by show (wordL c).toArray.toList = _; simp
theorem word_len {c : Option Int} (h : CellW c) : (wordOf c).length ≤ 11 := by
  show (wordL c).toArray.size ≤ 11
  rw [List.size_toArray]
  exact wordL_len c fun i e => h i e
theorem starts_minus (x : Str) : (decide (0 + (("-" : Str)).length ≤ x.length) && Builtin.Str.subAt x ("-" : Str) 0) = decide (x.cps.toList.head? = some 45) := by
  rw [PySem.StrLaws.subAt_eq]
  have e1 : (("-" : Str)).length = 1 := by decide +kernel
  have e2 : (("-" : Str)).cps.toList = [45] := by decide +kernel
  rw [e1, e2, List.drop_zero]
  have e3 : x.length = x.cps.toList.length := by simp [Str.length]
  rw [e3]
  cases h : x.cps.toList with
  | nil => simp
  | cons c r => by_cases hc : c = 45 <;> simp [hc]
def figOf (i : Int) : Str := ⟨(dg i.natAbs).toArray⟩
theorem fig_cps (i : Int) : (figOf i).cps.toList = dg i.natAbs := by show (dg i.natAbs).toArray.toList = _; simp
theorem str_ext {a b : Str} (h : a.cps.toList = b.cps.toList) : a = b := by
  cases a
  cases b
  exact congrArg Str.mk (Array.toList_inj.mp h)
theorem fig_zero (i : Int) : figOf i = ("0" : Str) ↔ i = 0 := by
  have e3 : (("0" : Str)).cps.toList = [48] := by decide +kernel
  constructor
  · intro h
    have e := congrArg (fun x : Str => x.cps.toList) h
    simp only [fig_cps, e3] at e
    have := dg_head i.natAbs (by rw [e]; rfl)
    omega
  · rintro rfl
    refine str_ext ?_
    rw [fig_cps, e3]
    decide +kernel
theorem in_figures {c : Nat} (h : 48 ≤ c ∧ c ≤ 57) : (!(Builtin.Str.occurrences ("0123456789" : Str) ⟨#[c]⟩ 0 (("0123456789" : Str)).length 1).isEmpty) = true := by
  obtain ⟨h1, h2⟩ := h
  have : c = 48 ∨ c = 49 ∨ c = 50 ∨ c = 51 ∨ c = 52 ∨ c = 53 ∨ c = 54 ∨ c = 55 ∨ c = 56 ∨ c = 57 := by omega
  rcases this with rfl | rfl | rfl | rfl | rfl | rfl | rfl | rfl | rfl | rfl <;> decide +kernel
def spIsNumber : Sp := fun vs H Q _ => ∃ (i : Int), vs = [.str (wordOf (some i))] ∧ Wide i ∧ ∀ H', Same H H' → Q (.bl true) H'
theorem df_is_number (T : Txt K mg C) : Df P w K mg base 1 "is_number" ["word"] spIsNumber := by
  refine T.d_is_number.ok sc_is_number (fun vs H Q E h => ?_) (fun f cdv A outer s H vs Q E hr h => ?_)
  · obtain ⟨i, rfl, _⟩ := h
    rfl
  · obtain ⟨i, rfl, hi, q⟩ := h
    refine ⟨_, (@pss_cons _ _ _ _ _ (@ps_set _ _ 1 _ _ _ _ sc_is_number.nd rfl (by first | exact Or.inl rfl | exact Or.inr rfl) (pe_ifExp (@pt_val _ _ _ (pe_bmK (K := K) rfl PySem.F.plainAttrs_str PySem.F.slot_str_startswith PySem.F.type_str_startswith mt_startswith (pv 0) (@pa_cons _ _ _ _ _ pe_str pa_nil (by rfl))) (by intro _; rfl)) (pe_slice sl_str1 (pv 0) (po_some pe_int) po_none) (pv 0)) (by rfl) (by first | exact .inl rfl | exact .inr rfl))
      (@pss_cons _ _ _ _ _ (@ps_if _ _ _ _ _ _ _ _ (@pt_cmpR _ _ _ _ _ _ _ _ (op_eqA hr.units) (pv 1) pe_str (nomark _)) (@pss_one _ _ _ (@ps_ret _ _ _ _ (@pe_cmpR _ _ _ _ _ _ _ _ (op_eqA hr.units) (pv 0) pe_str (nomark _)))) pss_nil)
      (@pss_cons _ _ _ _ _ (@ps_if _ _ _ _ _ _ _ _ (pw_or (@pt_cmpR _ _ _ _ _ _ _ _ (op_eqA hr.units) (pv 1) pe_str (nomark _)) (pw_or1 (@pt_cmpR _ _ _ _ _ _ _ _ (op_eqA hr.units) (@pe_ix _ _ _ _ _ _ _ (ix_seqK (K := K) rfl) (pv 1) pe_int (fun _ _ => rfl)) pe_str (nomark _)))).pt (@pss_one _ _ _ (@ps_ret _ _ _ _ pe_bl)) pss_nil)
      (@pss_one _ _ _ (@ps_ret _ _ _ _ (@pe_callB _ _ _ _ _ _ _ _ _ (call_allK (K := K) rfl rfl) (by rfl) T.n_all bt_all (@pa_cons _ _ _ _ _ (pe_compIf (M := []) (idx := []) rfl (pi_str (pv 1)) (compOk (by kernel_rfl)) (by decide +kernel) (by first | exact Or.inl rfl | exact Or.inr rfl) (fun _ _ _ _ _ => pts_nil) (fun _ _ _ _ _ => (@pe_cmpR _ _ _ _ _ _ _ _ op_in_str (pv 0) (pe_globE (by rfl) T.g_FIGURES) (by rfl)))) pa_nil star_comp) (by decide) (by decide) (by rfl) (by rfl))))))), ?_⟩
    have wl := word_len (c := some i) (fun j e => by cases e; exact hi)
    have wc := word_cps (some i)
    refine tSeq_cut (fun σ' H' => σ' = [some (.str (wordOf (some i))), some (.str (figOf i))] ∧ H' = H) ?_ (fun rest => ?_)
    · rintro _ H ⟨rfl, rfl⟩
      refine ⟨_, rfl, Or.inl ⟨rfl, _, rfl, ?_⟩⟩
      refine ite2 (fun z => ?_) (fun z => ?_)
      · have z0 := (fig_zero i).mp (V.str.inj (of_decide_eq_true z))
        refine ⟨_, rfl, Or.inl ⟨rfl, ?_⟩⟩
        have e : wordOf (some i) = ("0" : Str) := by subst z0; decide +kernel
        rw [eqS e]
        exact q _ (Same.refl _)
      · have z0 : ¬ i = 0 := fun e => z (decide_eq_true (by rw [(fig_zero i).mpr e]))
        have n0 := dg_ne i.natAbs
        have a0 := dg_all i.natAbs
        obtain ⟨c, r, hd⟩ : ∃ c r, dg i.natAbs = c :: r := by
          cases h : dg i.natAbs with
          | nil => exact absurd h n0
          | cons c r => exact ⟨c, r, rfl⟩
        refine ⟨_, rfl, Or.inl ⟨rfl, _, rfl, ?_⟩⟩
        have ne1 : ¬ figOf i = ("" : Str) := fun e => by
          have e2 := congrArg (fun x : Str => x.cps.toList) e
          have e3 : (("" : Str)).cps.toList = [] := by decide +kernel
          simp only [fig_cps, e3] at e2
          exact n0 e2
        rw [neS ne1]
        refine iteF ?_
        have at0 : atI (figOf i).cps.toList 0 = some c := by rw [fig_cps, hd]; show atI (c :: r) ((0 : Nat) : Int) = some c; exact atI_nat rfl
        refine ⟨_, rfl, Or.inr (Or.inr ⟨_, _, _, rfl, rfl, ?_, at0, Or.inl ⟨rfl, _, rfl, ?_⟩⟩)⟩
        · have := dg_len 9 i.natAbs (by show i.natAbs < 10000000000; unfold Wide at hi; omega)
          show (dg i.natAbs).toArray.size ≤ sizeLine
          rw [List.size_toArray]
          exact Nat.le_trans this (by decide)
        have ne2 : ¬ (⟨#[c]⟩ : Str) = ("0" : Str) := fun e => by
          have e2 := congrArg (fun x : Str => x.cps.toList) e
          have e3 : (("0" : Str)).cps.toList = [48] := by decide +kernel
          simp only [e3] at e2
          have e4 : c = 48 := by simpa using e2
          have := dg_head i.natAbs (by rw [hd, e4]; rfl)
          omega
        rw [neS ne2]
        refine iteF ?_
        refine ⟨_, rfl, _, rfl, ?_, ?_⟩
        · show (dg i.natAbs).toArray.all (· < 128) = true
          rw [← Array.all_toList, List.all_eq_true]
          intro c hc
          have := a0 c (by simpa using hc)
          simp; omega
        have sz : (figOf i).cps.size = (dg i.natAbs).length := by show (dg i.natAbs).toArray.size = _; simp
        have ln := dg_len 9 i.natAbs (by show i.natAbs < 10000000000; unfold Wide at hi; omega)
        refine compW_str (x := figOf i) (fun k zs H' => H' = H ∧ zs = (List.replicate k true).map V.bl) ⟨rfl, rfl⟩ (by rw [sz]; exact Nat.le_trans ln (by decide)) ?_ ?_
        · rintro k d zs _ hd' ⟨rfl, rfl⟩
          refine oneT ?_
          have hm : 48 ≤ d ∧ d ≤ 57 := a0 d (by
            have := Array.mem_of_getElem? hd'
            rw [← fig_cps]
            simpa using this)
          refine ⟨_, rfl, _, _, rfl, rfl, ?_⟩
          rw [in_figures hm]
          refine ⟨rfl, ?_⟩
          rw [List.replicate_succ', List.map_append]
          rfl
        · rintro zs _ ⟨rfl, rfl⟩ l hl
          refine ⟨_, List.replicate _ true, rfl, SqL.of upd_same, ?_⟩
          have : (List.replicate (figOf i).cps.size true).all id = true := by simp
          rw [this]
          exact q _ (same_upd hl)
    · refine ⟨_, rfl, rfl, _, _, rfl, rfl, _, rfl, ?_⟩
      rw [starts_minus, wc]
      by_cases neg : i < 0
      · have e : wordL (some i) = 45 :: dg i.natAbs := wordL_neg neg
        rw [e]
        refine iteT ?_
        refine ⟨_, rfl, _, rfl, _, rfl, rfl, rfl, ?_, ?_, ?_⟩
        · show 1 ≤ (wordL (some i)).toArray.size
          rw [e]; simp
        · exact Nat.le_trans wl (by decide)
        · rw [wc, e]
          exact rest _ _ ⟨rfl, rfl⟩
      · have e : wordL (some i) = dg i.natAbs := wordL_nn neg
        have h45 : ¬ (dg i.natAbs).head? = some 45 := by
          intro h
          have := dg_all i.natAbs 45 (List.mem_of_mem_head? h)
          omega
        rw [e, decide_eq_false h45]
        refine iteF ?_
        refine ⟨_, rfl, ?_⟩
        have ew : wordOf (some i) = figOf i := str_ext (by rw [word_cps, fig_cps, e])
        refine rest _ _ ⟨?_, rfl⟩
        show [some (V.str (wordOf (some i))), some (V.str (wordOf (some i)))] = _
        rw [ew]
def spIsCell : Sp := fun vs H Q _ => ∃ (c : Option Int), vs = [.str (wordOf c)] ∧ CellW c ∧ ∀ H', Same H H' → Q (.bl true) H'
theorem df_is_cell (T : Txt K mg C) : Df P w K mg base 2 "is_cell" ["word"] spIsCell := by
  refine T.d_is_cell.ok sc_is_cell (fun vs H Q E h => ?_) (fun f cdv A outer s H vs Q E hr h => ?_)
  · obtain ⟨c, rfl, _⟩ := h
    rfl
  · obtain ⟨c, rfl, hc, q⟩ := h
    refine ⟨_, (@pss_one _ _ _ (@ps_ret _ _ _ _ (pe_or (@pe_cmpR _ _ _ _ _ _ _ _ (op_eqA hr.units) (pv 0) (pe_globE (by rfl) T.g_HOLE) (nomark _)) (pe_one (@pe_df _ _ _ _ _ _ _ _ _ _ (df_is_number T) (hr.mono (by decide)) (@pa_cons _ _ _ _ _ (pv 0) pa_nil (by rfl)) (by rfl) (by decide) (by rfl) (by rfl)))))), ?_⟩
    refine ⟨_, rfl, Or.inl ⟨rfl, ?_⟩⟩
    cases c with
    | none =>
      rw [eqS word_none]
      exact ⟨_, rfl, iteT (q _ (Same.refl _))⟩
    | some i =>
      rw [neS (word_dot i)]
      exact ⟨_, rfl, iteF ⟨_, rfl, i, rfl, hc i rfl, q⟩⟩
def spCellRead : Sp := fun vs H Q _ => ∃ (c : Option Int), vs = [.str (wordOf c)] ∧ CellW c ∧ Q (cellV c) H
theorem df_cell_read (T : Txt K mg C) : Df P w K mg base 1 "cell_read" ["word"] spCellRead := by
  refine T.d_cell_read.ok sc_cell_read (fun vs H Q E h => ?_) (fun f cdv A outer s H vs Q E hr h => ?_)
  · obtain ⟨c, rfl, _⟩ := h
    rfl
  · obtain ⟨c, rfl, hc, q⟩ := h
    refine ⟨_, (@pss_one _ _ _ (@ps_ret _ _ _ _ (pe_ifExp (@pt_cmpR _ _ _ _ _ _ _ _ (op_eqA hr.units) (pv 0) (pe_globE (by rfl) T.g_HOLE) (nomark _)) pe_non (@pe_callTy _ _ _ _ _ _ _ _ _ call_int_text (by rfl) T.n_int bt_int (@pa_cons _ _ _ _ _ (pv 0) pa_nil (by rfl)) (by decide) (by decide) (by rfl) (by rfl))))), ?_⟩
    refine ⟨_, rfl, Or.inl ⟨rfl, _, rfl, ?_⟩⟩
    cases c with
    | none =>
      rw [eqS word_none]
      exact iteT q
    | some i =>
      rw [neS (word_dot i)]
      refine iteF ?_
      refine ⟨_, rfl, _, i, rfl, int_word (hc i rfl), Nat.le_trans (word_len (c := some i) hc) (by decide), q⟩
theorem tjoin (a : Str) (ys : List Str) : PySem.Txt.join a ys = Str.join a ys := PySem.StrLaws.glued_eq_join a ys
def lineOf (r : List (Option Int)) : Str := Str.join ⟨#[32]⟩ (r.map wordOf)
def RectW (F : List (List (Option Int))) : Prop := F ≠ [] ∧ F.length ≤ 100 ∧ (∀ r ∈ F, r.length = (F.headD []).length) ∧ 1 ≤ (F.headD []).length ∧ (F.headD []).length ≤ 100 ∧ ∀ r ∈ F, ∀ c ∈ r, CellW c
theorem str_blank : ((" " : Str)) = ⟨#[32]⟩ := by decide +kernel
theorem line_split {r : List (Option Int)} (h : r ≠ []) : PySem.Txt.split (lineOf r) ⟨#[32]⟩ = r.map wordOf := by
  refine split_join 32 (by simpa using h) fun x hx => ?_
  obtain ⟨c, _, rfl⟩ := List.mem_map.mp hx
  rw [word_cps]
  exact (wordL_free c).1
theorem joinL_free {c d : Nat} (hcd : c ≠ d) : ∀ p : List (List Nat), (∀ x ∈ p, d ∉ x) → d ∉ joinL c p
  | [], _ => by simp [joinL]
  | [x], h => h x (by simp)
  | x :: y :: r, h => by
    show d ∉ x ++ c :: joinL c (y :: r)
    intro z
    rcases List.mem_append.mp z with z | z
    · exact h x (by simp) z
    · rcases List.mem_cons.mp z with z | z
      · exact hcd z.symm
      · exact joinL_free hcd (y :: r) (fun u hu => h u (List.mem_cons_of_mem _ hu)) z
theorem joinL_len (c m : Nat) : ∀ p : List (List Nat), (∀ x ∈ p, x.length ≤ m) → (joinL c p).length ≤ p.length * (m + 1)
  | [], _ => by simp [joinL]
  | [x], h => by have := h x (by simp); simp [joinL]; omega
  | x :: y :: r, h => by
    have a := h x (by simp)
    have b := joinL_len c m (y :: r) fun u hu => h u (List.mem_cons_of_mem _ hu)
    show (x ++ c :: joinL c (y :: r)).length ≤ _
    rw [List.length_append, List.length_cons, List.length_cons, Nat.succ_mul]
    omega
theorem line_len {r : List (Option Int)} (hr : r.length ≤ 100) (h : ∀ c ∈ r, CellW c) : (lineOf r).length ≤ 1200 := by
  have e : (lineOf r).length = (lineOf r).cps.toList.length := by simp [Str.length]
  rw [e]
  unfold lineOf
  rw [join_cps]
  have := joinL_len 32 11 ((r.map wordOf).map (·.cps.toList)) (fun x hx => by
    obtain ⟨y, hy, rfl⟩ := List.mem_map.mp hx
    obtain ⟨c, hc, rfl⟩ := List.mem_map.mp hy
    show (wordOf c).cps.toList.length ≤ 11
    rw [word_cps]
    exact wordL_len c fun i e => h c hc i e)
  rw [List.length_map, List.length_map] at this
  omega
def spRows : Sp := fun vs H Q _ => ∃ (ll : Addr) (F : List (List (Option Int))), vs = [.ref ll] ∧ H ll = some (.lst (F.map (V.str ∘ lineOf))) ∧ RectW F ∧ ∀ (v : V) (H' : Hp), Same H H' → IsD H' v (fieldD F) → Q v H'
theorem df_read_rows (T : Txt K mg C) : Df P w K mg base 3 "read_rows" ["lines"] spRows := by
  refine T.d_read_rows.ok sc_read_rows (fun vs H Q E h => ?_) (fun f cdv A outer s H vs Q E hr h => ?_)
  · obtain ⟨ll, F, rfl, _⟩ := h
    rfl
  · obtain ⟨ll, F, rfl, hll, R, q⟩ := h
    obtain ⟨h0, h1, h2, h3, h4, h5⟩ := R
    refine ⟨_, (@pss_cons _ _ _ _ _ (@ps_set _ _ 1 _ _ _ _ sc_read_rows.nd rfl (by first | exact Or.inl rfl | exact Or.inr rfl) (@pe_lst _ _ _ _ pa_nil) (by rfl) (by first | exact .inl rfl | exact .inr rfl))
      (@pss_cons _ _ _ _ _ (@ps_for _ _ _ _ _ _ _ _ PassesOwn.never rfl (pi_enum (K := K) rfl (by rfl) T.n_enumerate (@pa_cons _ _ _ _ _ (pv 0) pa_nil (by rfl))) (pg_tupK (K := K) rfl rfl (pgs_cons (pg_name (i := 2) sc_read_rows.nd rfl (by first | exact Or.inl rfl | exact Or.inr rfl)) (pgs_cons (pg_name (i := 3) sc_read_rows.nd rfl (by first | exact Or.inl rfl | exact Or.inr rfl)) pgs_nil))) (@pss_cons _ _ _ _ _ (@ps_set _ _ 4 _ _ _ _ sc_read_rows.nd rfl (by first | exact Or.inl rfl | exact Or.inr rfl) (pe_bmK (K := K) rfl PySem.F.plainAttrs_str PySem.F.slot_str_split PySem.F.type_str_split mt_split (pv 3) (@pa_cons _ _ _ _ _ pe_str pa_nil (by rfl))) (by rfl) (by first | exact .inl rfl | exact .inr rfl))
      (@pss_cons _ _ _ _ _ (@ps_if _ _ _ _ _ _ _ _ (@pt_not _ _ _ _ (@pt_val _ _ _ (@pe_callB _ _ _ _ _ _ _ _ _ (call_allK (K := K) rfl rfl) (by rfl) T.n_all bt_all (@pa_cons _ _ _ _ _ (pe_compIf (M := []) (idx := []) rfl (pi_seqK (K := K) rfl (pv 4)) (compOk (by kernel_rfl)) (by decide +kernel) (by first | exact Or.inl rfl | exact Or.inr rfl) (fun _ _ _ _ _ => pts_nil) (fun _ _ _ _ _ => (@pe_df _ _ _ _ _ _ _ _ _ _ (df_is_cell T) (hr.mono (by decide)) (@pa_cons _ _ _ _ _ (pv 0) pa_nil (by rfl)) (by rfl) (by decide) (by rfl) (by rfl)))) pa_nil star_comp) (by decide) (by decide) (by rfl) (by rfl)) (by intro _; rfl))) (@pss_one _ _ _ ps_never) pss_nil)
      (@pss_cons _ _ _ _ _ (@ps_if _ _ _ _ _ _ _ _ (pw_and (pt_truthK (K := K) rfl (pv 1) (fun _ => rfl)) (pw_and1 (@pt_cmpR _ _ _ _ _ _ _ _ (op_neA hr.units) (@pe_callB _ _ _ _ _ _ _ _ _ (call_lenK (K := K) rfl) (by rfl) T.n_len bt_len (@pa_cons _ _ _ _ _ (pv 4) pa_nil (by rfl)) (by decide) (by decide) (by rfl) (by rfl)) (@pe_callB _ _ _ _ _ _ _ _ _ (call_lenK (K := K) rfl) (by rfl) T.n_len bt_len (@pa_cons _ _ _ _ _ (@pe_ix _ _ _ _ _ _ _ (ix_seqK (K := K) rfl) (pv 1) pe_int (fun _ _ => rfl)) pa_nil star_sub) (by decide) (by decide) (by rfl) (by rfl)) (nomark _)))).pt (@pss_one _ _ _ ps_never) pss_nil)
      (@pss_one _ _ _ (@ps_expr _ _ _ _ (pe_bm PySem.F.plainAttrs_list PySem.F.slot_list_append PySem.F.type_list_append mt_append (pv 1) (@pa_cons _ _ _ _ _ (@pe_callTy _ _ _ _ _ _ _ _ _ (call_tupleK (K := K) rfl) (by rfl) T.n_tuple bt_tuple (@pa_cons _ _ _ _ _ (pe_compIf (M := []) (idx := []) rfl (pi_seqK (K := K) rfl (pv 4)) (compOk (by kernel_rfl)) (by decide +kernel) (by first | exact Or.inl rfl | exact Or.inr rfl) (fun _ _ _ _ _ => pts_nil) (fun _ _ _ _ _ => (@pe_df _ _ _ _ _ _ _ _ _ _ (df_cell_read T) (hr.mono (by decide)) (@pa_cons _ _ _ _ _ (pv 0) pa_nil (by rfl)) (by rfl) (by decide) (by rfl) (by rfl)))) pa_nil star_comp) (by decide) (by decide) (by rfl) (by rfl)) pa_nil star_call)) (by rfl)))))) (by intro _; rfl))
      (@pss_one _ _ _ (@ps_ret _ _ _ _ (@pe_callTy _ _ _ _ _ _ _ _ _ (call_tupleK (K := K) rfl) (by rfl) T.n_tuple bt_tuple (@pa_cons _ _ _ _ _ (pv 1) pa_nil (by rfl)) (by decide) (by decide) (by rfl) (by rfl)))))), ?_⟩
    refine ⟨(by show 0 ≤ sizeLine; decide), fun c hc => ?_⟩
    have hc1 : upd H c (.lst []) c = some (.lst []) := upd_same
    have S1 : Same H (upd H c (.lst [])) := same_upd hc
    have el := S1 _ _ hll
    have nl : ll ≠ c := ne_of_none hll hc
    generalize upd H c (.lst []) = H1 at hc1 el S1 ⊢
    have keepH : ∀ {H' : Hp}, KeepBut c H1 H' → Same H H' := fun k b o e => k b o (S1 b o e) (ne_of_none e hc)
    refine ⟨_, rfl, _, rfl, ⟨_, SqL.of el⟩, ?_⟩
    refine for_enum (xs := F.map (V.str ∘ lineOf)) (fun k σ H' => ∃ (v2 v3 v4 : Option V) (ys : List V), σ = [some (.ref ll), some (.ref c), v2, v3, v4] ∧ KeepBut c H1 H' ∧ H' c = some (.lst ys) ∧ IsDs H' ys ((F.take k).map rowD))
      ⟨none, none, none, [], rfl, KeepBut.refl _ _, hc1, .nil⟩ (fun k σ H' _ ⟨_, _, _, _, _, kb, _⟩ => SqL.of (kb _ _ el nl)) ?_ ?_
    · rintro k x _ H2 t hx ⟨v2, v3, v4, ys, rfl, k2, hc2, iy⟩ ht
      obtain ⟨r, er, rfl⟩ : ∃ r, F[k]? = some r ∧ V.str (lineOf r) = x := by
        rw [List.getElem?_map] at hx
        cases e : F[k]? with
        | none => rw [e] at hx; cases hx
        | some r => rw [e] at hx; exact ⟨r, rfl, Option.some.inj hx⟩
      have hr' := List.mem_of_getElem? er
      have kF := (List.getElem?_eq_some_iff.mp er).1
      have lr := h2 r hr'
      have r0 : r ≠ [] := fun e => by rw [e] at lr; rw [← lr] at h3; exact absurd h3 (by decide)
      have st := same_upd (o := .tup [.int (k : Nat), .str (lineOf r)]) ht
      refine ⟨_, _, rfl, SqT.of upd_same, rfl, _, _, rfl, _, _, rfl, rfl, ?_⟩
      have hc3 := st _ _ hc2
      have k3 : KeepBut c H1 (upd H2 t (.tup [.int (k : Nat), .str (lineOf r)])) := k2.upd ht
      have iy3 := iy.keep st.tups
      generalize upd H2 t (.tup [.int (k : Nat), .str (lineOf r)]) = H3 at hc3 k3 iy3 ⊢
      have ll4 := line_len (r := r) (by rw [lr]; exact h4) (h5 r hr')
      refine ⟨_, rfl, rfl, _, _, rfl, rfl, by decide +kernel, by omega, fun lw hlw => ?_⟩
      rw [str_blank, line_split r0, List.map_map]
      have ew : upd H3 lw (.lst (r.map (V.str ∘ wordOf))) lw = some (.lst (r.map (V.str ∘ wordOf))) := upd_same
      have hc4 := same_upd (o := .lst (r.map (V.str ∘ wordOf))) hlw _ _ hc3
      have k4 : KeepBut c H1 (upd H3 lw (.lst (r.map (V.str ∘ wordOf)))) := k3.upd hlw
      have iy4 := iy3.keep (same_upd (o := .lst (r.map (V.str ∘ wordOf))) hlw).tups
      have nw : lw ≠ c := (ne_of_none hc3 hlw).symm
      dsimp only [List.set]
      generalize upd H3 lw (.lst (r.map (V.str ∘ wordOf))) = H4 at ew hc4 k4 iy4 ⊢
      refine Or.inl ?_
      refine ⟨_, rfl, _, rfl, ⟨_, SqL.of ew⟩, ?_⟩
      refine compW_list (xs := r.map (V.str ∘ wordOf)) (fun j zs H' => Same H4 H' ∧ zs = (List.replicate j true).map V.bl) ⟨Same.refl _, rfl⟩ (by rw [List.length_map, lr]; exact Nat.le_trans h4 (by decide)) (fun j zs H' _ ⟨s, _⟩ => SqL.of (s _ _ ew)) ?_ ?_
      · rintro j y zs H5 hy ⟨s5, rfl⟩
        obtain ⟨cl, ec, rfl⟩ : ∃ cl, r[j]? = some cl ∧ V.str (wordOf cl) = y := by
          rw [List.getElem?_map] at hy
          cases e : r[j]? with
          | none => rw [e] at hy; cases hy
          | some cl => rw [e] at hy; exact ⟨cl, rfl, Option.some.inj hy⟩
        refine oneT ?_
        refine ⟨_, rfl, cl, rfl, h5 r hr' cl (List.mem_of_getElem? ec), fun H6 s6 => ⟨s5.trans s6, ?_⟩⟩
        rw [List.replicate_succ', List.map_append]
        rfl
      · rintro zs H5 ⟨s5, rfl⟩ l5 hl5
        have s6 := s5.trans (same_upd (o := .lst ((List.replicate (r.map (V.str ∘ wordOf)).length true).map V.bl)) hl5)
        refine ⟨_, List.replicate _ true, rfl, SqL.of upd_same, _, rfl, ?_⟩
        have eall : (List.replicate (r.map (V.str ∘ wordOf)).length true).all id = true := by simp
        rw [eall]
        refine iteF ?_
        have hc6 := s6 _ _ hc4
        have ew6 := s6 _ _ ew
        have iy6 := iy4.keep s6.tups
        have k6 : KeepBut c H1 (upd H5 l5 (.lst ((List.replicate (r.map (V.str ∘ wordOf)).length true).map V.bl))) := k4.trans (s6.but c)
        generalize upd H5 l5 (.lst ((List.replicate (r.map (V.str ∘ wordOf)).length true).map V.bl)) = H6 at s6 hc6 ew6 iy6 k6 ⊢
        dsimp only [tNext]
        refine tSeq_cut (fun σ' H' => σ' = [some (.ref ll), some (.ref c), some (.int (k : Nat)), some (.str (lineOf r)), some (.ref lw)] ∧ H' = H6) ?_ (fun rest => ?_)
        · rintro _ H6 ⟨rfl, rfl⟩
          refine ⟨_, rfl, Or.inl ⟨rfl, _, SqL.of hc6⟩, ?_⟩
          refine Or.inl ?_
          refine ⟨_, rfl, _, rfl, ⟨_, SqL.of ew6⟩, ?_⟩
          refine compW_list (xs := r.map (V.str ∘ wordOf)) (fun j zs H' => H' = H6 ∧ zs = (r.take j).map cellV) ⟨rfl, rfl⟩ (by rw [List.length_map, lr]; exact Nat.le_trans h4 (by decide)) (fun j zs H' _ ⟨e, _⟩ => by rw [e]; exact SqL.of ew6) ?_ ?_
          · rintro j y zs _ hy ⟨rfl, rfl⟩
            obtain ⟨cl, ec, rfl⟩ : ∃ cl, r[j]? = some cl ∧ V.str (wordOf cl) = y := by
              rw [List.getElem?_map] at hy
              cases e : r[j]? with
              | none => rw [e] at hy; cases hy
              | some cl => rw [e] at hy; exact ⟨cl, rfl, Option.some.inj hy⟩
            refine oneT ?_
            refine ⟨_, rfl, cl, rfl, h5 r hr' cl (List.mem_of_getElem? ec), rfl, ?_⟩
            rw [List.take_add_one, ec, List.map_append]
            rfl
          · rintro zs H6 ⟨rfl, rfl⟩ l7 hl7
            rw [List.length_map, List.take_of_length_le (Nat.le_refl _)]
            refine ⟨_, _, rfl, Or.inl ⟨SqL.of upd_same, fun t8 ht8 => ?_⟩⟩
            have s8 := (same_upd (o := .lst (r.map cellV)) hl7).trans (same_upd (o := .tup (r.map cellV)) ht8)
            have hc8 := s8 _ _ hc6
            have ly : ys.length = k := by rw [iy.length, List.length_map, List.length_take]; omega
            refine ⟨_, _, _, rfl, rfl, hc8, (by rw [ly]; exact Nat.lt_of_lt_of_le (show k < 100 by omega) (by decide)), ?_⟩
            have kc : KeepT (upd (upd H6 l7 (.lst (r.map cellV))) t8 (.tup (r.map cellV))) (upd (upd (upd H6 l7 (.lst (r.map cellV))) t8 (.tup (r.map cellV))) c (.lst (ys ++ [.ref t8]))) := fun a xs e => by rw [upd_ne (ne_of e hc8 fun z => by cases z)]; exact e
            refine ⟨_, _, _, _, rfl, ?_, upd_same, ?_⟩
            · intro b o e n
              rw [upd_ne n]
              exact s8 _ _ (k6 b o e n)
            · rw [List.take_add_one, er, List.map_append]
              exact ((iy6.keep s8.tups).append (.cons (.tup upd_same (isCells r)) .nil)).keep kc
        · refine ⟨_, rfl, _, Or.inl ⟨_, SqL.of hc6, rfl⟩, ?_⟩
          cases ys with
          | nil => exact iteF (iteF (rest _ _ ⟨rfl, rfl⟩))
          | cons y0 ys =>
            refine iteT ?_
            have F0 : ∃ r0, F.head? = some r0 ∧ IsD H6 y0 (rowD r0) := by
              cases hF : F with
              | nil => exact absurd hF h0
              | cons r0 F' =>
                refine ⟨r0, rfl, ?_⟩
                rw [hF] at iy6
                cases k with
                | zero => cases iy6
                | succ k =>
                  cases iy6 with
                  | cons a _ => exact a
            obtain ⟨r1, eF, i0⟩ := F0
            obtain ⟨a0, rfl, ha0⟩ := isRow_inv i0
            have l1 : r1.length = r.length := by
              have hm : r1 ∈ F := List.mem_of_mem_head? eF
              rw [h2 r1 hm, lr]
            refine ⟨_, rfl, _, _, rfl, Or.inl ⟨_, SqL.of ew6, rfl⟩, _, rfl, Or.inl ⟨_, _, _, _, rfl, rfl, SqL.of hc6, (show atI (V.ref a0 :: ys) ((0 : Nat) : Int) = some (V.ref a0) from atI_nat rfl), _, _, rfl, Or.inr ⟨_, SqT.of ha0, rfl⟩, ?_⟩⟩
            rw [List.length_map, List.length_map, l1]
            refine Or.inl ⟨rfl, _, rfl, ?_⟩
            rw [decide_eq_true rfl]
            exact iteF (rest _ _ ⟨rfl, rfl⟩)
    · rintro _ H2 ⟨v2, v3, v4, ys, rfl, k2, hc2, iy⟩
      rw [List.length_map, List.take_of_length_le (Nat.le_refl _)] at iy
      refine ⟨_, rfl, _, _, rfl, Or.inl ⟨SqL.of hc2, fun t ht => ?_⟩⟩
      exact q (.ref t) _ ((keepH k2).trans (same_upd ht)) (.tup upd_same (iy.keep (same_upd ht).tups))
theorem log_small {i : Int} (h : Wide i) : i.natAbs.log2 < 1920 := by
  by_cases z : i.natAbs = 0
  · rw [z]; decide
  · have : i.natAbs < 2 ^ 34 := by unfold Wide at h; omega
    have := (Nat.log2_lt z).mpr this
    omega
def spCellShown : Sp := fun vs H Q _ => ∃ (c : Option Int), vs = [cellV c] ∧ CellW c ∧ Q (.str (wordOf c)) H
theorem df_cell_shown (T : Txt K mg C) : Df P w K mg base 1 "cell_shown" ["cell"] spCellShown := by
  refine T.d_cell_shown.ok sc_cell_shown (fun vs H Q E h => ?_) (fun f cdv A outer s H vs Q E hr h => ?_)
  · obtain ⟨c, rfl, _⟩ := h
    rfl
  · obtain ⟨c, rfl, hc, q⟩ := h
    refine ⟨_, (@pss_one _ _ _ (@ps_ret _ _ _ _ (pe_ifExp (@pt_cmpR _ _ _ _ _ _ _ _ op_isN (pv 0) pe_non (nomark _)) (pe_globE (by rfl) T.g_HOLE) (@pe_callTy _ _ _ _ _ _ _ _ _ call_str_int (by rfl) T.n_str bt_str (@pa_cons _ _ _ _ _ (pv 0) pa_nil (by rfl)) (by decide) (by decide) (by rfl) (by rfl))))), ?_⟩
    cases c with
    | none =>
      refine ⟨_, rfl, rfl, _, rfl, ?_⟩
      refine iteT ?_
      show Q (.str ".") H
      rw [← word_none]
      exact q
    | some i =>
      refine ⟨_, rfl, rfl, _, rfl, ?_⟩
      refine iteF ?_
      refine ⟨_, rfl, i, rfl, log_small (hc i rfl), ?_⟩
      have e : (Str.ofString (toString i)) = wordOf (some i) := str_word i
      rw [← e] at q
      exact q
theorem sum_len {m : Nat} : ∀ (ws : List Str), (∀ x ∈ ws, x.length ≤ m) → (ws.map (·.length)).sum ≤ ws.length * m
  | [], _ => by simp
  | x :: ws, h => by
    have := h x (by simp)
    have := sum_len ws fun y hy => h y (List.mem_cons_of_mem _ hy)
    rw [List.map_cons, List.sum_cons, List.length_cons, Nat.succ_mul]
    omega
def spRowShown : Sp := fun vs H Q _ => ∃ (a : Addr) (r : List (Option Int)), vs = [.ref a] ∧ H a = some (.tup (r.map cellV)) ∧ r.length ≤ 100 ∧ (∀ c ∈ r, CellW c) ∧ ∀ H', Same H H' → Q (.str (lineOf r)) H'
theorem df_row_shown (T : Txt K mg C) : Df P w K mg base 2 "row_shown" ["row"] spRowShown := by
  refine T.d_row_shown.ok sc_row_shown (fun vs H Q E h => ?_) (fun f cdv A outer s H vs Q E hr h => ?_)
  · obtain ⟨a, r, rfl, _⟩ := h
    rfl
  · obtain ⟨a, r, rfl, ha, hl, hw, q⟩ := h
    refine ⟨_, (@pss_one _ _ _ (@ps_ret _ _ _ _ (pe_bmK (K := K) rfl PySem.F.plainAttrs_str PySem.F.slot_str_join PySem.F.type_str_join (mt_joinK (K := K) rfl) pe_str (@pa_cons _ _ _ _ _ (pe_compIf (M := []) (idx := []) rfl (pi_seqK (K := K) rfl (pv 0)) (compOk (by kernel_rfl)) (by decide +kernel) (by first | exact Or.inl rfl | exact Or.inr rfl) (fun _ _ _ _ _ => pts_nil) (fun _ _ _ _ _ => (@pe_df _ _ _ _ _ _ _ _ _ _ (df_cell_shown T) (hr.mono (by decide)) (@pa_cons _ _ _ _ _ (pv 0) pa_nil (by rfl)) (by rfl) (by decide) (by rfl) (by rfl)))) pa_nil star_comp)))), ?_⟩
    refine ⟨rfl, ?_⟩
    refine Or.inr ?_
    refine ⟨_, rfl, _, rfl, ⟨_, SqT.of ha⟩, ?_⟩
    refine compW_tup (xs := r.map cellV) (fun j zs H' => H' = H ∧ zs = ((r.take j).map wordOf).map V.str) ⟨rfl, rfl⟩ (by rw [List.length_map]; exact Nat.le_trans hl (by decide)) (fun j zs H' _ ⟨e, _⟩ => by rw [e]; exact SqT.of ha) ?_ ?_
    · rintro j y zs _ hy2 ⟨rfl, rfl⟩
      obtain ⟨cl, ec, rfl⟩ : ∃ cl, r[j]? = some cl ∧ cellV cl = y := by
        rw [List.getElem?_map] at hy2
        cases e : r[j]? with
        | none => rw [e] at hy2; cases hy2
        | some cl => rw [e] at hy2; exact ⟨cl, rfl, Option.some.inj hy2⟩
      refine oneT ?_
      refine ⟨_, rfl, cl, rfl, hw cl (List.mem_of_getElem? ec), rfl, ?_⟩
      rw [List.take_add_one, ec, List.map_append, List.map_append]
      rfl
    · rintro zs _ ⟨rfl, rfl⟩ l2 hl2
      rw [List.length_map, List.take_of_length_le (Nat.le_refl _)]
      refine ⟨_, _, r.map wordOf, rfl, rfl, SqL.of upd_same, ?_, ?_⟩
      · have := sum_len (m := 11) (r.map wordOf) (fun x hx => by
          obtain ⟨c, hc, rfl⟩ := List.mem_map.mp hx
          exact word_len (hw c hc))
        rw [List.length_map] at this ⊢
        have e1 : ((" " : Str)).length = 1 := by decide +kernel
        rw [e1]
        omega
      · rw [str_blank, tjoin]
        exact q _ (same_upd hl2)
def spHoles : Sp := fun vs H Q _ => ∃ (p : Addr) (cs : List (Option Int)), vs = [.ref p] ∧ SeqV H p (cs.map cellV) ∧ cs.length ≤ 100000 ∧ ∀ (t : Addr) (H' : Hp), Same H H' → H' t = some (.tup ((cs.filterMap id).map V.int)) → Q (.ref t) H'
theorem df_without_holes (T : Txt K mg C) : Df P w K mg base 1 "without_holes" ["cells"] spHoles := by
  refine T.d_without_holes.ok sc_without_holes (fun vs H Q E h => ?_) (fun f cdv A outer s H vs Q E hr h => ?_)
  · obtain ⟨p, cs, rfl, _⟩ := h
    rfl
  · obtain ⟨p, cs, rfl, hp, hl, q⟩ := h
    refine ⟨_, (@pss_one _ _ _ (@ps_ret _ _ _ _ (@pe_callTy _ _ _ _ _ _ _ _ _ (call_tupleK (K := K) rfl) (by rfl) T.n_tuple bt_tuple (@pa_cons _ _ _ _ _ (pe_compIf (M := []) (idx := []) rfl (pi_seqK (K := K) rfl (pv 0)) (compOk (by kernel_rfl)) (by decide +kernel) (by first | exact Or.inl rfl | exact Or.inr rfl) (fun _ _ _ _ _ => pts_one (@pt_cmpR _ _ _ _ _ _ _ _ op_notN (pv 0) pe_non (nomark _))) (fun _ _ _ _ _ => (pv 0))) pa_nil star_comp) (by decide) (by decide) (by rfl) (by rfl)))), ?_⟩
    refine comp_seqV (K := K) (xs := cs.map cellV) (fun k h => ⟨_, rfl, h⟩) hp (fun i ys H' => H' = H ∧ ys = ((cs.take i).filterMap id).map V.int) ⟨rfl, rfl⟩ (by rw [List.length_map]; exact Nat.le_trans hl (by decide)) (fun i ys H' _ ⟨e, _⟩ => by rw [e]) ?_ ?_
    · rintro i x ys _ hx ⟨rfl, rfl⟩
      obtain ⟨c, ec, rfl⟩ := cell_at hx
      rw [List.take_add_one, ec, List.filterMap_append, List.map_append]
      cases c with
      | none =>
        refine ⟨_, rfl, rfl, _, rfl, ?_⟩
        refine iteF ?_
        exact ⟨rfl, by simp⟩
      | some n =>
        refine ⟨_, rfl, rfl, _, rfl, ?_⟩
        refine iteT ?_
        exact ⟨_, rfl, rfl, rfl⟩
    · rintro ys _ ⟨rfl, rfl⟩ l hl2
      rw [List.length_map, List.take_length]
      refine ⟨_, _, rfl, Or.inl ⟨SqL.of upd_same, fun t ht => ?_⟩⟩
      exact q t _ ((same_upd hl2).trans (same_upd ht)) upd_same
def textS (F : List (List (Option Int))) : Str := Str.join ⟨#[59]⟩ (F.map lineOf)
theorem str_semi : ((";" : Str)) = ⟨#[59]⟩ := by decide +kernel
theorem wordL_semi (c : Option Int) : 59 ∉ wordL c := by
  cases c with
  | none => simp [wordL]
  | some i =>
    have a := dg_all i.natAbs
    unfold wordL
    intro h
    rcases List.mem_append.mp h with z | z
    · split at z <;> simp at z
    · have := a _ z; omega
theorem line_semi (r : List (Option Int)) : 59 ∉ (lineOf r).cps.toList := by
  unfold lineOf
  rw [join_cps]
  refine joinL_free (by decide) _ fun x hx => ?_
  obtain ⟨y, hy, rfl⟩ := List.mem_map.mp hx
  obtain ⟨c, _, rfl⟩ := List.mem_map.mp hy
  show 59 ∉ (wordOf c).cps.toList
  rw [word_cps]
  exact wordL_semi c
theorem textS_split {F : List (List (Option Int))} (h : F ≠ []) : PySem.Txt.split (textS F) ⟨#[59]⟩ = F.map lineOf := by
  refine split_join 59 (by simpa using h) fun x hx => ?_
  obtain ⟨r, _, rfl⟩ := List.mem_map.mp hx
  exact line_semi r
theorem textS_len {F : List (List (Option Int))} (R : RectW F) : (textS F).length ≤ 130000 := by
  obtain ⟨h0, h1, h2, h3, h4, h5⟩ := R
  have e : (textS F).length = (textS F).cps.toList.length := by simp [Str.length]
  rw [e]
  unfold textS
  rw [join_cps]
  have := joinL_len 59 1200 ((F.map lineOf).map (·.cps.toList)) (fun x hx => by
    obtain ⟨y, hy, rfl⟩ := List.mem_map.mp hx
    obtain ⟨r, hr, rfl⟩ := List.mem_map.mp hy
    show (lineOf r).cps.toList.length ≤ 1200
    have := line_len (r := r) (by rw [h2 r hr]; exact h4) (h5 r hr)
    have e : (lineOf r).length = (lineOf r).cps.toList.length := by simp [Str.length]
    omega)
  rw [List.length_map, List.length_map] at this
  omega
theorem ne_int0 {H : Hp} {i j : Int} {Q : VK} (e : i = j) (q : Q (.bl false) H) : rNe (.int i) (.int j) H Q ∨ rNeD 0 (.int i) (.int j) H Q := by
  subst e
  refine Or.inl ⟨rfl, ?_⟩
  have : (!decide (V.int i = V.int i)) = false := by rw [decide_eq_true rfl]; rfl
  rw [this]
  exact q
def spWithin : Sp := fun vs H Q _ => ∃ (t : Addr) (ns : List Int) (lo hi : Int), vs = [.ref t, .int lo, .int hi] ∧ H t = some (.tup (ns.map V.int)) ∧ ns.length ≤ 1000 ∧ (∀ n ∈ ns, lo ≤ n ∧ n ≤ hi) ∧ ∀ H', Same H H' → Q (.bl true) H'
theorem df_are_within (T : Txt K mg C) : Df P w K mg base 1 "are_within" ["numbers", "least", "most"] spWithin := by
  refine T.d_are_within.ok sc_are_within (fun vs H Q E h => ?_) (fun f cdv A outer s H vs Q E hr h => ?_)
  · obtain ⟨t, ns, lo, hi, rfl, _⟩ := h
    rfl
  · obtain ⟨t, ns, lo, hi, rfl, ht, hl, hb, q⟩ := h
    refine ⟨_, (@pss_one _ _ _ (@ps_ret _ _ _ _ (@pe_callB _ _ _ _ _ _ _ _ _ (call_allK (K := K) rfl rfl) (by rfl) T.n_all bt_all (@pa_cons _ _ _ _ _ (pe_compIf (M := ["least", "most"]) (idx := [1, 2]) rfl (pi_seqK (K := K) rfl (pv 0)) (compOk (by kernel_rfl)) (by decide +kernel) (by first | exact Or.inl rfl | exact Or.inr rfl) (fun _ _ _ _ _ => pts_nil) (fun _ _ _ _ _ => (pe_chain op_le op_le (pv 1) (pv 0) (pv 2)))) pa_nil star_comp) (by decide) (by decide) (by rfl) (by rfl)))), ?_⟩
    refine Or.inr ?_
    refine ⟨_, rfl, _, rfl, ⟨_, SqT.of ht⟩, ?_⟩
    refine compW_tup (xs := ns.map V.int) (fun j zs H' => H' = H ∧ zs = (List.replicate j true).map V.bl) ⟨rfl, rfl⟩ (by rw [List.length_map]; exact Nat.le_trans hl (by decide)) (fun j zs H' _ ⟨e, _⟩ => by rw [e]; exact SqT.of ht) ?_ ?_
    · rintro j y zs _ hy ⟨rfl, rfl⟩
      obtain ⟨n, en, rfl⟩ : ∃ n, ns[j]? = some n ∧ V.int n = y := by
        rw [List.getElem?_map] at hy
        cases e : ns[j]? with
        | none => rw [e] at hy; cases hy
        | some n => rw [e] at hy; exact ⟨n, rfl, Option.some.inj hy⟩
      obtain ⟨b1, b2⟩ := hb n (List.mem_of_getElem? en)
      refine oneT ?_
      refine ⟨_, rfl, _, rfl, _, _, rfl, rfl, _, rfl, ?_⟩
      refine ite2 (fun _ => ?_) (fun z => absurd (decide_eq_true b1) z)
      refine ⟨_, rfl, _, _, rfl, rfl, rfl, ?_⟩
      rw [List.replicate_succ', List.map_append]
      show _ ++ [V.bl (decide (n ≤ hi))] = _
      rw [decide_eq_true b2]
      rfl
    · rintro zs _ ⟨rfl, rfl⟩ l5 hl5
      refine ⟨_, List.replicate _ true, rfl, SqL.of upd_same, ?_⟩
      have eall : (List.replicate (ns.map V.int).length true).all id = true := by simp
      rw [eall]
      exact q _ (same_upd hl5)
def spNums : Sp := fun vs H Q _ => ∃ (l : Addr) (ks : List Int), vs = [.ref l, .int ks.length] ∧ H l = some (.lst (ks.map fun k => V.str (wordOf (some k)))) ∧ ks.length ≤ 100 ∧ (∀ k ∈ ks, Wide k) ∧ ∀ (t : Addr) (H' : Hp), Same H H' → H' t = some (.tup (ks.map V.int)) → Q (.ref t) H'
theorem df_numbers_asked (T : Txt K mg C) : Df P w K mg base 2 "numbers_asked" ["words", "how_many"] spNums := by
  refine T.d_numbers_asked.ok sc_numbers_asked (fun vs H Q E h => ?_) (fun f cdv A outer s H vs Q E hr h => ?_)
  · obtain ⟨l, ks, rfl, _⟩ := h
    rfl
  · obtain ⟨l, ks, rfl, hl, few, hw, q⟩ := h
    refine ⟨_, (@pss_cons _ _ _ _ _ (@ps_if _ _ _ _ _ _ _ _ (@pt_cmpR _ _ _ _ _ _ _ _ (op_neA hr.units) (@pe_callB _ _ _ _ _ _ _ _ _ (call_lenK (K := K) rfl) (by rfl) T.n_len bt_len (@pa_cons _ _ _ _ _ (pv 0) pa_nil (by rfl)) (by decide) (by decide) (by rfl) (by rfl)) (pv 1) (nomark _)) (@pss_one _ _ _ ps_never) pss_nil)
      (@pss_cons _ _ _ _ _ (@ps_if _ _ _ _ _ _ _ _ (@pt_not _ _ _ _ (@pt_val _ _ _ (@pe_callB _ _ _ _ _ _ _ _ _ (call_allK (K := K) rfl rfl) (by rfl) T.n_all bt_all (@pa_cons _ _ _ _ _ (pe_compIf (M := []) (idx := []) rfl (pi_seqK (K := K) rfl (pv 0)) (compOk (by kernel_rfl)) (by decide +kernel) (by first | exact Or.inl rfl | exact Or.inr rfl) (fun _ _ _ _ _ => pts_nil) (fun _ _ _ _ _ => (@pe_df _ _ _ _ _ _ _ _ _ _ (df_is_number T) (hr.mono (by decide)) (@pa_cons _ _ _ _ _ (pv 0) pa_nil (by rfl)) (by rfl) (by decide) (by rfl) (by rfl)))) pa_nil star_comp) (by decide) (by decide) (by rfl) (by rfl)) (by intro _; rfl))) (@pss_one _ _ _ ps_never) pss_nil)
      (@pss_one _ _ _ (@ps_ret _ _ _ _ (@pe_callTy _ _ _ _ _ _ _ _ _ (call_tupleK (K := K) rfl) (by rfl) T.n_tuple bt_tuple (@pa_cons _ _ _ _ _ (pe_compIf (M := []) (idx := []) rfl (pi_seqK (K := K) rfl (pv 0)) (compOk (by kernel_rfl)) (by decide +kernel) (by first | exact Or.inl rfl | exact Or.inr rfl) (fun _ _ _ _ _ => pts_nil) (fun _ _ _ _ _ => (@pe_callTy _ _ _ _ _ _ _ _ _ call_int_text (by rfl) T.n_int bt_int (@pa_cons _ _ _ _ _ (pv 0) pa_nil (by rfl)) (by decide) (by decide) (by rfl) (by rfl)))) pa_nil star_comp) (by decide) (by decide) (by rfl) (by rfl)))))), ?_⟩
    have wat : ∀ {j : Nat} {y : V}, (ks.map fun k => V.str (wordOf (some k)))[j]? = some y → ∃ k, ks[j]? = some k ∧ V.str (wordOf (some k)) = y := fun {j y} hy => by
      rw [List.getElem?_map] at hy
      cases e : ks[j]? with
      | none => rw [e] at hy; cases hy
      | some n => rw [e] at hy; exact ⟨n, rfl, Option.some.inj hy⟩
    refine ⟨_, rfl, _, _, rfl, Or.inl ⟨_, SqL.of hl, rfl⟩, _, rfl, ne_int0 (by rw [List.length_map]) ⟨_, rfl, iteF ?_⟩⟩
    dsimp only [tNext, tSeq]
    refine Or.inl ?_
    refine ⟨_, rfl, _, rfl, ⟨_, SqL.of hl⟩, ?_⟩
    refine compW_list (xs := ks.map fun k => V.str (wordOf (some k))) (fun j zs H' => Same H H' ∧ zs = (List.replicate j true).map V.bl) ⟨Same.refl _, rfl⟩ (by rw [List.length_map]; exact Nat.le_trans few (by decide)) (fun j zs H' _ ⟨s, _⟩ => SqL.of (s _ _ hl)) ?_ ?_
    · rintro j y zs H5 hy ⟨s5, rfl⟩
      obtain ⟨k, ek, rfl⟩ := wat hy
      refine oneT ?_
      refine ⟨_, rfl, k, rfl, hw k (List.mem_of_getElem? ek), fun H6 s6 => ⟨s5.trans s6, ?_⟩⟩
      rw [List.replicate_succ', List.map_append]
      rfl
    · rintro zs H5 ⟨s5, rfl⟩ l5 hl5
      have s6 := s5.trans (same_upd (o := .lst ((List.replicate (ks.map fun k => V.str (wordOf (some k))).length true).map V.bl)) hl5)
      refine ⟨_, List.replicate _ true, rfl, SqL.of upd_same, _, rfl, ?_⟩
      have eall : (List.replicate (ks.map fun k => V.str (wordOf (some k))).length true).all id = true := by simp
      rw [eall]
      refine iteF ?_
      dsimp only [tNext, tSeq]
      generalize upd H5 l5 (.lst ((List.replicate (ks.map fun k => V.str (wordOf (some k))).length true).map V.bl)) = H6 at s6 ⊢
      have hl6 := s6 _ _ hl
      refine Or.inl ?_
      refine ⟨_, rfl, _, rfl, ⟨_, SqL.of hl6⟩, ?_⟩
      refine compW_list (xs := ks.map fun k => V.str (wordOf (some k))) (fun j zs H' => H' = H6 ∧ zs = (ks.take j).map V.int) ⟨rfl, rfl⟩ (by rw [List.length_map]; exact Nat.le_trans few (by decide)) (fun j zs H' _ ⟨e, _⟩ => by rw [e]; exact SqL.of hl6) ?_ ?_
      · rintro j y zs _ hy ⟨rfl, rfl⟩
        obtain ⟨k, ek, rfl⟩ := wat hy
        have wk := hw k (List.mem_of_getElem? ek)
        refine oneT ?_
        refine ⟨_, rfl, _, k, rfl, int_word wk, Nat.le_trans (word_len (c := some k) fun i e => by cases e; exact wk) (by decide), rfl, ?_⟩
        rw [List.take_add_one, ek, List.map_append]
        rfl
      · rintro zs _ ⟨rfl, rfl⟩ l7 hl7
        rw [List.length_map, List.take_length]
        refine ⟨_, _, rfl, Or.inl ⟨SqL.of upd_same, fun t ht => ?_⟩⟩
        exact q t _ ((s6.trans (same_upd hl7)).trans (same_upd ht)) upd_same
def spFieldAsked : Sp := fun vs H Q _ => ∃ (F : List (List (Option Int))), vs = [.str (textS F)] ∧ RectW F ∧ F.length ≤ 12 ∧ (F.headD []).length ≤ 12 ∧ (∀ r ∈ F, ∀ c ∈ r, ∀ i, c = some i → -1000000000 ≤ i ∧ i ≤ 1000000000) ∧ ∀ (v : V) (H' : Hp), Same H H' → IsD H' v (fieldD F) → Q v H'
theorem df_field_asked (T : Txt K mg C) : Df P w K mg base 4 "field_asked" ["text"] spFieldAsked := by
  refine T.d_field_asked.ok sc_field_asked (fun vs H Q E h => ?_) (fun f cdv A outer s H vs Q E hr h => ?_)
  · obtain ⟨F, rfl, _⟩ := h
    rfl
  · obtain ⟨F, rfl, R, hh, hw, hb, q⟩ := h
    have tl := textS_len R
    obtain ⟨h0, h1, h2, h3, h4, h5⟩ := id R
    refine ⟨_, (@pss_cons _ _ _ _ _ (@ps_set _ _ 1 _ _ _ _ sc_field_asked.nd rfl (by first | exact Or.inl rfl | exact Or.inr rfl) (@pe_df _ _ _ _ _ _ _ _ _ _ (df_read_rows T) (hr.mono (by decide)) (@pa_cons _ _ _ _ _ (pe_bmK (K := K) rfl PySem.F.plainAttrs_str PySem.F.slot_str_split PySem.F.type_str_split mt_split (pv 0) (@pa_cons _ _ _ _ _ pe_str pa_nil (by rfl))) pa_nil star_call) (by rfl) (by decide) (by rfl) (by rfl)) (by rfl) (by first | exact .inl rfl | exact .inr rfl))
      (@pss_cons _ _ _ _ _ (@ps_if _ _ _ _ _ _ _ _ (pw_or (@pt_cmpR _ _ _ _ _ _ _ _ op_gt (@pe_callB _ _ _ _ _ _ _ _ _ (call_lenK (K := K) rfl) (by rfl) T.n_len bt_len (@pa_cons _ _ _ _ _ (pv 1) pa_nil (by rfl)) (by decide) (by decide) (by rfl) (by rfl)) (pe_globE (by rfl) T.g_MOST_LENGTH) (nomark _)) (pw_or1 (@pt_cmpR _ _ _ _ _ _ _ _ op_gt (@pe_callB _ _ _ _ _ _ _ _ _ (call_lenK (K := K) rfl) (by rfl) T.n_len bt_len (@pa_cons _ _ _ _ _ (@pe_ix _ _ _ _ _ _ _ (ix_seqK (K := K) rfl) (pv 1) pe_int (fun _ _ => rfl)) pa_nil star_sub) (by decide) (by decide) (by rfl) (by rfl)) (pe_globE (by rfl) T.g_MOST_LENGTH) (nomark _)))).pt (@pss_one _ _ _ ps_never) pss_nil)
      (@pss_cons _ _ _ _ _ (@ps_for _ _ _ _ _ _ _ _ PassesOwn.never rfl (pi_seqK (K := K) rfl (pv 1)) (pg_name (i := 2) sc_field_asked.nd rfl (by first | exact Or.inl rfl | exact Or.inr rfl)) (@pss_one _ _ _ (@ps_if _ _ _ _ _ _ _ _ (@pt_not _ _ _ _ (@pt_val _ _ _ (@pe_df _ _ _ _ _ _ _ _ _ _ (df_are_within T) (hr.mono (by decide)) (@pa_cons _ _ _ _ _ (@pe_df _ _ _ _ _ _ _ _ _ _ (df_without_holes T) (hr.mono (by decide)) (@pa_cons _ _ _ _ _ (pv 2) pa_nil (by rfl)) (by rfl) (by decide) (by rfl) (by rfl)) (@pa_cons _ _ _ _ _ (@pe_un _ _ _ _ _ _ un_neg (pe_globE (by rfl) T.g_MOST_NUMBER)) (@pa_cons _ _ _ _ _ (pe_globE (by rfl) T.g_MOST_NUMBER) pa_nil (by rfl)) star_un) star_call) (by rfl) (by decide) (by rfl) (by rfl)) (by intro _; rfl))) (@pss_one _ _ _ ps_never) pss_nil)) (by intro _; rfl))
      (@pss_one _ _ _ (@ps_ret _ _ _ _ (pv 1)))))), ?_⟩
    refine ⟨_, rfl, rfl, _, _, rfl, rfl, by decide +kernel, by omega, fun ll hll => ?_⟩
    rw [str_semi, textS_split h0, List.map_map]
    refine ⟨ll, F, rfl, upd_same, R, fun v H1 s1 hv => ?_⟩
    have S1 := (same_upd (o := .lst (F.map (V.str ∘ lineOf))) hll).trans s1
    dsimp only [gName, List.set]
    obtain ⟨fa, xs, rfl, hfa, hxs⟩ := isField_inv hv
    have lxs : xs.length = F.length := by rw [hxs.length, List.length_map]
    have hF : 0 < F.length := List.length_pos_iff.mpr h0
    obtain ⟨b0, eb0, hb0⟩ := isRows_get hxs hF
    have l0 : F[0].length = (F.headD []).length := h2 _ (List.getElem_mem _)
    refine ⟨_, rfl, _, _, rfl, Or.inr ⟨_, SqT.of hfa, rfl⟩, _, _, rfl, rfl, _, rfl, ?_⟩
    refine ite2 (fun z => absurd (of_decide_eq_true z) (by omega)) (fun _ => ?_)
    refine ⟨_, rfl, Or.inr (Or.inl ⟨_, _, _, _, rfl, rfl, SqT.of hfa, atI_nat (j := 0) eb0, _, _, rfl, Or.inr ⟨_, SqT.of hb0, rfl⟩, _, _, rfl, rfl, _, rfl, ?_⟩)⟩
    refine ite2 (fun z => absurd (of_decide_eq_true z) (by rw [List.length_map]; omega)) (fun _ => ?_)
    dsimp only [tNext, tSeq]
    refine Or.inr ⟨_, rfl, fa, rfl, ⟨_, SqT.of hfa⟩, ?_⟩
    refine for_tup (K := K) (xs := xs) (fun t σ H' => ∃ (v2 : Option V), σ = [some (.str (textS F)), some (.ref fa), v2] ∧ Same H1 H') ⟨none, rfl, Same.refl _⟩ (fun t σ H' _ ⟨_, _, s'⟩ => SqT.of (s' _ _ hfa)) ?_ ?_
    · rintro t x _ H2 hx ⟨v2, rfl, s2⟩
      have ht : t < F.length := by rw [← lxs]; exact (List.getElem?_eq_some_iff.mp hx).1
      obtain ⟨ra, era, hra⟩ := isRows_get hxs ht
      obtain rfl : x = .ref ra := by rw [hx] at era; exact Option.some.inj era
      have lr : F[t].length = (F.headD []).length := h2 _ (List.getElem_mem _)
      refine ⟨_, rfl, ?_⟩
      refine ⟨ra, F[t], rfl, .inl (s2 _ _ hra), by omega, fun t3 H3 s3 ht3 => ?_⟩
      refine ⟨_, rfl, t3, F[t].filterMap id, -1000000000, 1000000000, rfl, ht3, Nat.le_trans (List.length_filterMap_le _ _) (by omega), fun n hn => ?_, fun H4 s4 => ?_⟩
      · obtain ⟨c, hc, e⟩ := List.mem_filterMap.mp hn
        exact hb _ (List.getElem_mem ht) c hc n e
      · refine ⟨_, rfl, iteF ?_⟩
        exact ⟨_, rfl, (s2.trans s3).trans s4⟩
    · rintro _ H2 ⟨v2, rfl, s2⟩
      exact ⟨_, rfl, q _ _ (S1.trans s2) (hv.keep s2.tups)⟩
def spLinesOf : Sp := fun vs H Q _ => ∃ (fv : V) (F : List (List (Option Int))), vs = [fv] ∧ IsD H fv (fieldD F) ∧ RectW F ∧ ∀ (l : Addr) (H' : Hp), Same H H' → H' l = some (.lst (F.map (V.str ∘ lineOf))) → Q (.ref l) H'
theorem df_lines_of (T : Txt K mg C) : Df P w K mg base 3 "lines_of" ["field"] spLinesOf := by
  refine T.d_lines_of.ok sc_lines_of (fun vs H Q E h => ?_) (fun f cdv A outer s H vs Q E hr h => ?_)
  · obtain ⟨fv, F, rfl, _⟩ := h
    rfl
  · obtain ⟨fv, F, rfl, hf, R, q⟩ := h
    obtain ⟨h0, h1, h2, h3, h4, h5⟩ := R
    refine ⟨_, (@pss_one _ _ _ (@ps_ret _ _ _ _ (pe_compIf (M := []) (idx := []) rfl (pi_seqK (K := K) rfl (pv 0)) (compOk (by kernel_rfl)) (by decide +kernel) (by first | exact Or.inl rfl | exact Or.inr rfl) (fun _ _ _ _ _ => pts_nil) (fun _ _ _ _ _ => (@pe_df _ _ _ _ _ _ _ _ _ _ (df_row_shown T) (hr.mono (by decide)) (@pa_cons _ _ _ _ _ (pv 0) pa_nil (by rfl)) (by rfl) (by decide) (by rfl) (by rfl)))))), ?_⟩
    obtain ⟨fa, xs, rfl, hfa, hxs⟩ := isField_inv hf
    have lxs : xs.length = F.length := by rw [hxs.length, List.length_map]
    refine Or.inr ?_
    refine ⟨_, rfl, _, rfl, ⟨_, SqT.of hfa⟩, ?_⟩
    refine compW_tup (xs := xs) (fun j zs H' => Same H H' ∧ zs = (F.take j).map (V.str ∘ lineOf)) ⟨Same.refl _, rfl⟩ (by rw [lxs]; exact Nat.le_trans h1 (by decide)) (fun j zs H' _ ⟨s, _⟩ => SqT.of (s _ _ hfa)) ?_ ?_
    · rintro j y zs H2 hy ⟨s2, rfl⟩
      have hj : j < F.length := by rw [← lxs]; exact (List.getElem?_eq_some_iff.mp hy).1
      obtain ⟨ra, era, hra⟩ := isRows_get hxs hj
      obtain rfl : y = .ref ra := by rw [hy] at era; exact Option.some.inj era
      have lr : F[j].length = (F.headD []).length := h2 _ (List.getElem_mem _)
      refine oneT ?_
      refine ⟨_, rfl, ra, F[j], rfl, s2 _ _ hra, by omega, h5 _ (List.getElem_mem _), fun H3 s3 => ⟨s2.trans s3, ?_⟩⟩
      rw [List.take_add_one, List.getElem?_eq_getElem hj, List.map_append]
      rfl
    · rintro zs H2 ⟨s2, rfl⟩ l hl
      rw [lxs, List.take_length]
      exact q l _ (s2.trans (same_upd hl)) upd_same
def dkF (fv wv rv sv : V) : List (Str × V) := [("field", fv), ("window", wv), ("rule", rv), ("share", sv)]
theorem putF_new (f : Str) (v : V) : ∀ (fs : List (Str × V)) (ns : List Str), fs.map (·.1) = ns → (ns.all fun g => !decide (g = f)) = true → putF f v fs = fs ++ [(f, v)]
  | [], _, _, _ => rfl
  | (g, x) :: r, ns, e, h => by
    subst e
    rw [List.map_cons, List.all_cons, Bool.and_eq_true] at h
    have ng : ¬ g = f := fun e => by
      have := h.1
      rw [decide_eq_true (show g = f from e)] at this
      exact absurd this (by decide)
    show (if g = f then (g, v) :: r else (g, x) :: putF f v r) = _
    rw [if_neg ng, putF_new f v r _ rfl h.2]
    rfl
section
variable (fv wv rv sv gv : V)
theorem dk_field : (dkF fv wv rv sv).lookup ("field" : Str) = some fv := rfl
theorem dk_put_field : putF "field" gv (dkF fv wv rv sv) = dkF gv wv rv sv := rfl
theorem dk_no_lines_told : (dkF fv wv rv sv).lookup ("lines_told" : Str) = none := rfl
theorem dk_no_ask : (dkF fv wv rv sv).lookup ("ask" : Str) = none := rfl
end
def spDInit (C : Addr) : Sp := fun vs H Q _ => ∃ (x dy : Addr), vs = [.ref x] ∧ H x = some (.ins C dy []) ∧
  ∀ (fv wv rv sv : V) (H' : Hp), KeepBut x H H' → H' x = some (.ins C dy (dkF fv wv rv sv)) → IsD H' fv (fieldD [[none]]) → Q .non H'
theorem df_Desk_init (T : Txt K mg C) : DfI P w K mg base 1 C ["self"] (spDInit C) := by
  refine T.m_Desk_init.ok sc_Desk_init (fun vs H Q E h => ?_) (fun f cdv A outer s H vs Q E hr h => ?_)
  · obtain ⟨x, dy, rfl, _⟩ := h
    rfl
  · obtain ⟨x, dy, rfl, hx, q⟩ := h
    refine ⟨_, (@pss_cons _ _ _ _ _ (ps_fld (pv 0) (@pe_tup _ _ _ _ _ (@pa_cons _ _ _ _ _ (@pe_tup _ _ _ _ _ (@pa_cons _ _ _ _ _ pe_non pa_nil (by rfl))) pa_nil star_tup)) rfl)
      (@pss_cons _ _ _ _ _ (ps_fld (pv 0) (@pe_tup _ _ _ _ _ (@pa_cons _ _ _ _ _ pe_int (@pa_cons _ _ _ _ _ pe_int (@pa_cons _ _ _ _ _ pe_int (@pa_cons _ _ _ _ _ pe_int pa_nil (by rfl)) (by rfl)) (by rfl)) (by rfl))) rfl)
      (@pss_cons _ _ _ _ _ (ps_fld (pv 0) pe_str rfl)
      (@pss_one _ _ _ (ps_fld (pv 0) (@pe_tup _ _ _ _ _ (@pa_cons _ _ _ _ _ pe_int (@pa_cons _ _ _ _ _ pe_int pa_nil (by rfl)) (by rfl))) rfl))))), ?_⟩
    have put : ∀ {H : Hp} {fs gs : List (Str × V)}, H x = some (.ins C dy fs) → upd H x (.ins C dy gs) x = some (.ins C dy gs) ∧ KeepBut x H (upd H x (.ins C dy gs)) ∧ KeepT H (upd H x (.ins C dy gs)) := fun {H fs gs} h => ⟨upd_same, fun b o e n => by rw [upd_ne n]; exact e, fun b ws e => by rw [upd_ne (ne_of e h fun z => by cases z)]; exact e⟩
    refine ⟨(by show 1 ≤ sizeLine; decide), fun p1 hp1 => ⟨(by show 1 ≤ sizeLine; decide), fun p2 hp2 => ?_⟩⟩
    have s1 := same_upd (o := .tup [.non]) hp1
    have s2 := same_upd (o := .tup [.ref p1]) hp2
    have f2 : IsD (upd (upd H p1 (.tup [.non])) p2 (.tup [.ref p1])) (.ref p2) (fieldD [[none]]) := .tup upd_same (.cons (.tup (s2 _ _ (show upd H p1 (.tup [.non]) p1 = some (.tup [.non]) from upd_same)) (isCells [none])) .nil)
    have x2 := (s1.trans s2) _ _ hx
    have S2 := s1.trans s2
    generalize upd (upd H p1 (.tup [.non])) p2 (.tup [.ref p1]) = H2 at f2 x2 S2 ⊢
    refine ⟨_, rfl, x, C, dy, _, rfl, x2, T.cl_Desk, T.a_field, (by show 0 < 1000; decide), ?_⟩
    rw [show putF "field" (V.ref p2) [] = [(("field" : Str), V.ref p2)] from rfl]
    obtain ⟨x3, k3, t3⟩ := put (gs := [(("field" : Str), V.ref p2)]) x2
    generalize upd H2 x (.ins C dy [(("field" : Str), V.ref p2)]) = H3 at x3 k3 t3 ⊢
    refine ⟨(by show 4 ≤ sizeLine; decide), fun p4 hp4 => ?_⟩
    have s4 := same_upd (o := .tup [.int 0, .int 0, .int 0, .int 0]) hp4
    have x4 := s4 _ _ x3
    generalize upd H3 p4 (.tup [.int 0, .int 0, .int 0, .int 0]) = H4 at s4 x4 ⊢
    refine ⟨_, rfl, x, C, dy, _, rfl, x4, T.cl_Desk, T.a_window, (by show 1 < 1000; decide), ?_⟩
    rw [show putF "window" (V.ref p4) [(("field" : Str), V.ref p2)] = [(("field" : Str), V.ref p2), ("window", V.ref p4)] from putF_new _ _ _ ["field"] rfl (by decide +kernel)]
    obtain ⟨x5, k5, t5⟩ := put (gs := [(("field" : Str), V.ref p2), ("window", V.ref p4)]) x4
    generalize upd H4 x (.ins C dy [(("field" : Str), V.ref p2), ("window", V.ref p4)]) = H5 at x5 k5 t5 ⊢
    refine ⟨_, rfl, x, C, dy, _, rfl, x5, T.cl_Desk, T.a_rule, (by show 2 < 1000; decide), ?_⟩
    rw [show putF "rule" (V.str "there") [(("field" : Str), V.ref p2), ("window", V.ref p4)] = [(("field" : Str), V.ref p2), ("window", V.ref p4), ("rule", V.str "there")] from putF_new _ _ _ ["field", "window"] rfl (by decide +kernel)]
    obtain ⟨x6, k6, t6⟩ := put (gs := [(("field" : Str), V.ref p2), ("window", V.ref p4), ("rule", V.str "there")]) x5
    generalize upd H5 x (.ins C dy [(("field" : Str), V.ref p2), ("window", V.ref p4), ("rule", V.str "there")]) = H6 at x6 k6 t6 ⊢
    refine ⟨(by show 2 ≤ sizeLine; decide), fun p7 hp7 => ?_⟩
    have s7 := same_upd (o := .tup [.int 1, .int 2]) hp7
    have x7 := s7 _ _ x6
    generalize upd H6 p7 (.tup [.int 1, .int 2]) = H7 at s7 x7 ⊢
    refine ⟨_, rfl, x, C, dy, _, rfl, x7, T.cl_Desk, T.a_share, (by show 3 < 1000; decide), ?_⟩
    rw [show putF "share" (V.ref p7) [(("field" : Str), V.ref p2), ("window", V.ref p4), ("rule", V.str "there")] = dkF (.ref p2) (.ref p4) (.str "there") (.ref p7) from putF_new _ _ _ ["field", "window", "rule"] rfl (by decide +kernel)]
    obtain ⟨x8, k8, t8⟩ := put (gs := dkF (.ref p2) (.ref p4) (.str "there") (.ref p7)) x7
    refine q _ _ _ _ _ ((((((S2.but x).trans k3).trans (s4.but x)).trans k5).trans k6).trans ((s7.but x).trans k8)) x8 ?_
    exact (((((f2.keep t3).keep s4.tups).keep t5).keep t6).keep s7.tups).keep t8
def spShow (C : Addr) : Sp := fun vs H Q _ => ∃ (x dy l : Addr) (fv wv rv sv : V) (F : List (List (Option Int))), vs = [.ref x, .str "show", .ref l] ∧ H x = some (.ins C dy (dkF fv wv rv sv)) ∧ H l = some (.lst []) ∧ IsD H fv (fieldD F) ∧ RectW F ∧ ∀ (l' : Addr) (H' : Hp), Same H H' → H' l' = some (.lst (F.map (V.str ∘ lineOf))) → Q (.ref l') H'
theorem df_Desk_lines_told (T : Txt K mg C) : DfM P w K mg base 4 C "lines_told" ["self", "word", "words"] (spShow C) := by
  refine T.m_Desk_lines_told.ok sc_Desk_lines_told (fun vs H Q E h => ?_) (fun f cdv A outer s H vs Q E hr h => ?_)
  · obtain ⟨x, dy, l, fv, wv, rv, sv, F, rfl, _⟩ := h
    rfl
  · obtain ⟨x, dy, l, fv, wv, rv, sv, F, rfl, hx, hl, hf, R, q⟩ := h
    refine ⟨_, (@pss_cons _ _ _ _ _ (@ps_if _ _ _ _ _ _ _ _ (@pt_cmpR _ _ _ _ _ _ _ _ (op_eqA hr.units) (pv 1) pe_str (nomark _)) (@pss_one _ _ _ ps_never) pss_nil)
      (@pss_cons _ _ _ _ _ (@ps_if _ _ _ _ _ _ _ _ (@pt_cmpR _ _ _ _ _ _ _ _ (op_eqA hr.units) (pv 1) pe_str (nomark _)) (@pss_one _ _ _ ps_never) pss_nil)
      (@pss_cons _ _ _ _ _ (@ps_expr _ _ _ _ (@pe_df _ _ _ _ _ _ _ _ _ _ (df_numbers_asked T) (hr.mono (by decide)) (@pa_cons _ _ _ _ _ (pv 2) (@pa_cons _ _ _ _ _ pe_int pa_nil (by rfl)) (by rfl)) (by rfl) (by decide) (by rfl) (by rfl)) (by rfl))
      (@pss_cons _ _ _ _ _ (@ps_if _ _ _ _ _ _ _ _ (@pt_cmpR _ _ _ _ _ _ _ _ (op_eqA hr.units) (pv 1) pe_str (nomark _)) (@pss_one _ _ _ (@ps_ret _ _ _ _ (@pe_df _ _ _ _ _ _ _ _ _ _ (df_lines_of T) (hr.mono (by decide)) (@pa_cons _ _ _ _ _ (pe_fldK (K := K) rfl (pv 0) (by rfl)) pa_nil (by rfl)) (by rfl) (by decide) (by rfl) (by rfl)))) pss_nil)
      (@pss_cons _ _ _ _ _ (@ps_if _ _ _ _ _ _ _ _ (@pt_cmpR _ _ _ _ _ _ _ _ (op_eqA hr.units) (pv 1) pe_str (nomark _)) (@pss_one _ _ _ ps_never) pss_nil)
      (@pss_cons _ _ _ _ _ (@ps_if _ _ _ _ _ _ _ _ (@pt_cmpR _ _ _ _ _ _ _ _ (op_eqA hr.units) (pv 1) pe_str (nomark _)) (@pss_one _ _ _ ps_never) pss_nil)
      (@pss_one _ _ _ ps_never))))))), ?_⟩
    refine ⟨_, rfl, Or.inl ⟨rfl, _, rfl, ite2 (fun z => absurd z (by rw [neS (by decide +kernel)]; decide)) fun _ => ?_⟩⟩
    refine ⟨_, rfl, Or.inl ⟨rfl, _, rfl, ite2 (fun z => absurd z (by rw [neS (by decide +kernel)]; decide)) fun _ => ?_⟩⟩
    refine ⟨_, rfl, ?_⟩
    refine ⟨l, [], rfl, hl, (by decide), (fun k hk => by cases hk), fun t H1 s1 _ => ?_⟩
    refine ⟨_, rfl, Or.inl ⟨rfl, _, rfl, ite2 (fun _ => ?_) fun z => absurd (eqS rfl) z⟩⟩
    refine ⟨_, rfl, x, C, dy, _, _, rfl, s1 _ _ hx, T.cl_Desk, T.a_field, dk_field .., ?_⟩
    exact ⟨fv, F, rfl, hf.keep s1.tups, R, fun l' H2 s2 h2 => q l' H2 (s1.trans s2) h2⟩
theorem but_upd (H : Hp) (x : Addr) (o : HO) : KeepBut x H (upd H x o) := fun b u e n => by rw [upd_ne n]; exact e
def lineF (F : List (List (Option Int))) : Str := ⟨(("field " : Str).cps.toList ++ (textS F).cps.toList).toArray⟩
theorem fld_cps : ("field " : Str).cps.toList = [102, 105, 101, 108, 100, 32] := by decide +kernel
theorem fld_len : ("field " : Str).length = 6 := by decide +kernel
theorem lineF_drop (F : List (List (Option Int))) : (⟨((lineF F).cps.toList.drop 6).toArray⟩ : Str) = textS F := by
  refine str_ext ?_
  show (((("field " : Str).cps.toList ++ (textS F).cps.toList).toArray.toList.drop 6).toArray).toList = _
  rw [fld_cps]
  simp
theorem lineF_starts (F : List (List (Option Int))) : (decide (0 + ("field " : Str).length ≤ (lineF F).length) && Builtin.Str.subAt (lineF F) ("field " : Str) 0) = true := by
  rw [PySem.StrLaws.subAt_eq]
  have e : (lineF F).length = 6 + (textS F).length := by
    show ((("field " : Str).cps.toList ++ (textS F).cps.toList).toArray).size = _
    rw [List.size_toArray, List.length_append, fld_cps]
    show 6 + (textS F).cps.toList.length = _
    simp [Str.length]
  rw [fld_len, e, decide_eq_true (by omega), Bool.true_and]
  have e2 : (lineF F).cps.toList = ("field " : Str).cps.toList ++ (textS F).cps.toList := by
    show (("field " : Str).cps.toList ++ (textS F).cps.toList).toArray.toList = _
    simp
  rw [e2, List.drop_zero, fld_cps]
  simp
theorem lineF_len {F : List (List (Option Int))} (R : RectW F) : 6 ≤ (lineF F).length ∧ (lineF F).length ≤ 130006 := by
  have h := textS_len R
  have e : (lineF F).length = 6 + (textS F).length := by
    show ((("field " : Str).cps.toList ++ (textS F).cps.toList).toArray).size = _
    rw [List.size_toArray, List.length_append, fld_cps]
    show 6 + (textS F).cps.toList.length = _
    simp [Str.length]
  omega
def spAsk (C : Addr) : Sp := fun vs H Q _ => ∃ (x dy : Addr) (fv wv rv sv : V), H x = some (.ins C dy (dkF fv wv rv sv)) ∧
  ((∃ (F : List (List (Option Int))), vs = [.ref x, .str (lineF F)] ∧ RectW F ∧ F.length ≤ 12 ∧ (F.headD []).length ≤ 12 ∧ (∀ r ∈ F, ∀ c ∈ r, ∀ i, c = some i → -1000000000 ≤ i ∧ i ≤ 1000000000) ∧ ∀ (gv : V) (l : Addr) (H' : Hp), KeepBut x H H' → H' x = some (.ins C dy (dkF gv wv rv sv)) → IsD H' gv (fieldD F) → H' l = some (.lst []) → Q (.ref l) H') ∨
   (∃ (F : List (List (Option Int))), vs = [.ref x, .str "show"] ∧ IsD H fv (fieldD F) ∧ RectW F ∧ ∀ (l : Addr) (H' : Hp), Same H H' → H' l = some (.lst (F.map (V.str ∘ lineOf))) → Q (.ref l) H'))
theorem df_Desk_ask (T : Txt K mg C) : DfM P w K mg base 5 C "ask" ["self", "line"] (spAsk C) := by
  refine T.m_Desk_ask.ok sc_Desk_ask (fun vs H Q E h => ?_) (fun f cdv A outer s H vs Q E hr h => ?_)
  · obtain ⟨x, dy, fv, wv, rv, sv, _, ⟨F, rfl, _⟩ | ⟨F, rfl, _⟩⟩ := h <;> rfl
  · obtain ⟨x, dy, fv, wv, rv, sv, hx, ⟨F, rfl, R, hh, hw, hb, q⟩ | ⟨F, rfl, hf, R, q⟩⟩ := h
    · refine ⟨_, (@pss_cons _ _ _ _ _ (@ps_if _ _ _ _ _ _ _ _ (@pt_val _ _ _ (pe_bmK (K := K) rfl PySem.F.plainAttrs_str PySem.F.slot_str_startswith PySem.F.type_str_startswith mt_startswith (pv 1) (@pa_cons _ _ _ _ _ (pe_globE (by rfl) T.g_FIELD_AHEAD) pa_nil (by rfl))) (by intro _; rfl)) (@pss_cons _ _ _ _ _ (ps_fld (pv 0) (@pe_df _ _ _ _ _ _ _ _ _ _ (df_field_asked T) (hr.mono (by decide)) (@pa_cons _ _ _ _ _ (pe_slice sl_strN (pv 1) (po_some (@pe_callB _ _ _ _ _ _ _ _ _ (call_lenK (K := K) rfl) (by rfl) T.n_len bt_len (@pa_cons _ _ _ _ _ (pe_globE (by rfl) T.g_FIELD_AHEAD) pa_nil (by rfl)) (by decide) (by decide) (by rfl) (by rfl))) po_none) pa_nil star_sub) (by rfl) (by decide) (by rfl) (by rfl)) rfl)
      (@pss_one _ _ _ (@ps_ret _ _ _ _ (@pe_lst _ _ _ _ pa_nil)))) pss_nil)
      (@pss_cons _ _ _ _ _ (@ps_set _ _ 2 _ _ _ _ sc_Desk_ask.nd rfl (by first | exact Or.inl rfl | exact Or.inr rfl) (pe_bmK (K := K) rfl PySem.F.plainAttrs_str PySem.F.slot_str_split PySem.F.type_str_split mt_split (pv 1) (@pa_cons _ _ _ _ _ pe_str pa_nil (by rfl))) (by rfl) (by first | exact .inl rfl | exact .inr rfl))
      (@pss_cons _ _ _ _ _ (@ps_if _ _ _ _ _ _ _ _ (@pt_cmpR _ _ _ _ _ _ _ _ (op_in_seqK (K := K) rfl) (@pe_ix _ _ _ _ _ _ _ (ix_seqK (K := K) rfl) (pv 2) pe_int (fun _ _ => rfl)) (pe_globK (K := K) rfl (by rfl) T.g_CHANGES) (by rfl)) (@pss_cons _ _ _ _ _ ps_never
      (@pss_one _ _ _ (@ps_ret _ _ _ _ (@pe_lst _ _ _ _ pa_nil)))) pss_nil)
      (@pss_one _ _ _ (@ps_ret _ _ _ _ (pe_mt (df_Desk_lines_told T) T.cl_Desk (hr.mono (by decide)) (pv 0) (@pa_cons _ _ _ _ _ (@pe_ix _ _ _ _ _ _ _ (ix_seqK (K := K) rfl) (pv 2) pe_int (fun _ _ => rfl)) (@pa_cons _ _ _ _ _ (pe_slice (sl_X (K := K) rfl) (pv 2) (po_some pe_int) po_none) pa_nil star_sub) star_sub))))))), ?_⟩
      refine ⟨_, rfl, rfl, _, _, rfl, rfl, ?_⟩
      rw [lineF_starts]
      refine ⟨_, rfl, iteT ?_⟩
      obtain ⟨ll1, ll2⟩ := lineF_len R
      refine ⟨_, rfl, _, _, rfl, ⟨(by rw [fld_len]; decide), rfl⟩, _, rfl, lineF F, ("field " : Str).length, rfl, rfl, rfl, (by rw [fld_len]; decide), (by rw [fld_len]; omega), Nat.le_trans (show (lineF F).length ≤ 1000000 by omega) (by decide), ?_⟩
      rw [fld_len, lineF_drop]
      refine ⟨F, rfl, R, hh, hw, hb, fun gv H1 s1 hg => ?_⟩
      refine ⟨_, rfl, x, C, dy, _, rfl, s1 _ _ hx, T.cl_Desk, T.a_field, (by show 4 < 1000; decide), ?_⟩
      rw [dk_put_field]
      refine ⟨(by show 0 ≤ sizeLine; decide), fun l hl => ?_⟩
      have k2 := but_upd H1 x (.ins C dy (dkF gv wv rv sv))
      have e2 : upd H1 x (.ins C dy (dkF gv wv rv sv)) x = some (.ins C dy (dkF gv wv rv sv)) := upd_same
      have t2 : KeepT H1 (upd H1 x (.ins C dy (dkF gv wv rv sv))) := fun b ws e => k2 _ _ e (ne_of e (s1 _ _ hx) fun z => by cases z)
      have s3 := same_upd (o := .lst []) hl
      exact q gv l _ (((s1.but x).trans k2).trans (s3.but x)) (s3 _ _ e2) ((hg.keep t2).keep s3.tups) upd_same
    · refine ⟨_, (@pss_cons _ _ _ _ _ (@ps_if _ _ _ _ _ _ _ _ (@pt_val _ _ _ (pe_bmK (K := K) rfl PySem.F.plainAttrs_str PySem.F.slot_str_startswith PySem.F.type_str_startswith mt_startswith (pv 1) (@pa_cons _ _ _ _ _ (pe_globE (by rfl) T.g_FIELD_AHEAD) pa_nil (by rfl))) (by intro _; rfl)) (@pss_cons _ _ _ _ _ (ps_fld (pv 0) (@pe_df _ _ _ _ _ _ _ _ _ _ (df_field_asked T) (hr.mono (by decide)) (@pa_cons _ _ _ _ _ (pe_slice sl_strN (pv 1) (po_some (@pe_callB _ _ _ _ _ _ _ _ _ (call_lenK (K := K) rfl) (by rfl) T.n_len bt_len (@pa_cons _ _ _ _ _ (pe_globE (by rfl) T.g_FIELD_AHEAD) pa_nil (by rfl)) (by decide) (by decide) (by rfl) (by rfl))) po_none) pa_nil star_sub) (by rfl) (by decide) (by rfl) (by rfl)) rfl)
      (@pss_one _ _ _ (@ps_ret _ _ _ _ (@pe_lst _ _ _ _ pa_nil)))) pss_nil)
      (@pss_cons _ _ _ _ _ (@ps_set _ _ 2 _ _ _ _ sc_Desk_ask.nd rfl (by first | exact Or.inl rfl | exact Or.inr rfl) (pe_bmK (K := K) rfl PySem.F.plainAttrs_str PySem.F.slot_str_split PySem.F.type_str_split mt_split (pv 1) (@pa_cons _ _ _ _ _ pe_str pa_nil (by rfl))) (by rfl) (by first | exact .inl rfl | exact .inr rfl))
      (@pss_cons _ _ _ _ _ (@ps_if _ _ _ _ _ _ _ _ (@pt_cmpR _ _ _ _ _ _ _ _ (op_in_seqK (K := K) rfl) (@pe_ix _ _ _ _ _ _ _ (ix_seqK (K := K) rfl) (pv 2) pe_int (fun _ _ => rfl)) (pe_globK (K := K) rfl (by rfl) T.g_CHANGES) (by rfl)) (@pss_cons _ _ _ _ _ ps_never
      (@pss_one _ _ _ (@ps_ret _ _ _ _ (@pe_lst _ _ _ _ pa_nil)))) pss_nil)
      (@pss_one _ _ _ (@ps_ret _ _ _ _ (pe_mt (df_Desk_lines_told T) T.cl_Desk (hr.mono (by decide)) (pv 0) (@pa_cons _ _ _ _ _ (@pe_ix _ _ _ _ _ _ _ (ix_seqK (K := K) rfl) (pv 2) pe_int (fun _ _ => rfl)) (@pa_cons _ _ _ _ _ (pe_slice (sl_X (K := K) rfl) (pv 2) (po_some pe_int) po_none) pa_nil star_sub) star_sub))))))), ?_⟩
      have ns : (decide (0 + ("field " : Str).length ≤ ("show" : Str).length) && Builtin.Str.subAt ("show" : Str) ("field " : Str) 0) = false := by decide +kernel
      refine ⟨_, rfl, rfl, _, _, rfl, rfl, ?_⟩
      rw [ns]
      refine ⟨_, rfl, iteF ?_⟩
      dsimp only [tNext, tSeq]
      refine ⟨_, rfl, rfl, _, _, rfl, rfl, by decide +kernel, by decide +kernel, fun lw hlw => ?_⟩
      rw [show PySem.Txt.split ("show" : Str) (" " : Str) = [("show" : Str)] by decide +kernel]
      have s1 := same_upd (o := .lst ([("show" : Str)].map V.str)) hlw
      have e1 : upd H lw (.lst ([("show" : Str)].map V.str)) lw = some (.lst [.str "show"]) := upd_same
      generalize upd H lw (.lst ([("show" : Str)].map V.str)) = H1 at s1 e1 ⊢
      dsimp only [gName, List.set]
      refine ⟨_, rfl, Or.inl ⟨_, _, _, _, rfl, rfl, SqL.of e1, rfl, fun p hp => ⟨p, _, rfl, Or.inr hp.sq, rfl, rfl, _, rfl, ?_⟩⟩⟩
      refine ite2 (fun z => absurd z (by decide +kernel)) (fun _ => ?_)
      dsimp only [tNext, tSeq]
      refine ⟨_, rfl, x, dy, _, rfl, s1 _ _ hx, dk_no_lines_told .., ?_⟩
      refine ⟨_, rfl, Or.inl ⟨_, _, _, _, rfl, rfl, SqL.of e1, rfl, ?_⟩⟩
      refine ⟨_, rfl, _, rfl, Or.inl ⟨_, _, rfl, SqL.of e1, fun l2 hl2 => ?_⟩⟩
      have s2 := same_upd (o := .lst (cutV [V.str "show"] (some 1) none)) hl2
      have e2 : upd H1 l2 (.lst (cutV [V.str "show"] (some 1) none)) l2 = some (.lst []) := upd_same
      exact ⟨x, dy, l2, fv, wv, rv, sv, F, rfl, (s1.trans s2) _ _ hx, e2, hf.keep (s1.trans s2).tups, R, fun l' H3 s3 h3 => q l' H3 ((s1.trans s2).trans s3) h3⟩
theorem line92 (x : Int) : Str.empty ++ ("field " : Str) ++ Str.ofString (toString x) = lineF [[some x]] := by
  rw [str_word]
  refine str_ext ?_
  have l1 : (lineOf [some x]).cps.toList = wordL (some x) := by
    unfold lineOf
    rw [join_cps]
    simp only [List.map_cons, List.map_nil, word_cps, joinL]
  have e1 : (textS [[some x]]).cps.toList = wordL (some x) := by
    unfold textS
    rw [join_cps]
    simp only [List.map_cons, List.map_nil, l1, joinL]
  show (Str.empty.cps ++ ("field " : Str).cps ++ (wordOf (some x)).cps).toList = (("field " : Str).cps.toList ++ (textS [[some x]]).cps.toList).toArray.toList
  rw [e1]
  have e0 : (Str.empty).cps = #[] := rfl
  rw [e0]
  simp [word_cps]
theorem word92 (x : Int) : Str.ofString (toString x) = lineOf [some x] := by
  rw [str_word]
  refine str_ext ?_
  unfold lineOf
  rw [join_cps]
  simp only [List.map_cons, List.map_nil, word_cps, joinL]
theorem ok92 (x : Int) : PyData.strOk (lineOf [some x]) = true := by
  have l1 : (lineOf [some x]).cps.toList = wordL (some x) := by
    unfold lineOf
    rw [join_cps]
    simp only [List.map_cons, List.map_nil, word_cps, joinL]
  unfold PyData.strOk
  rw [← Array.all_toList, l1, List.all_eq_true]
  intro c hc
  have a := dg_all x.natAbs
  unfold wordL at hc
  rcases List.mem_append.mp hc with z | z
  · split at z <;> simp at z
    subst z
    decide
  · have := a _ z
    exact decide_eq_true (by omega)
theorem rect92 {x : Int} (h0 : 0 ≤ x) (h1 : x < 1000) : RectW [[some x]] := by
  refine ⟨by simp, by simp, by simp, by simp, by simp, fun r hr c hc i e => ?_⟩
  simp only [List.mem_cons, List.not_mem_nil, or_false] at hr
  subst hr
  simp only [List.mem_cons, List.not_mem_nil, or_false] at hc
  subst hc
  cases e
  unfold Wide
  omega
theorem df_law (T : Txt K mg C) : Df P w K mg base 6 "law" ["script"] (SpLaw K) := by
  refine T.d_law.ok sc_law (fun vs H Q E h => ?_) (fun f cdv A outer s H vs Q E hr h => ?_)
  · obtain ⟨a, ns, rfl, _⟩ := h
    rfl
  · obtain ⟨a, ns, rfl, hS, hlen, q⟩ := h
    refine ⟨_, (@pss_cons _ _ _ _ _ (@ps_set _ _ 1 _ _ _ _ sc_law.nd rfl (by first | exact Or.inl rfl | exact Or.inr rfl) (@pe_op _ _ _ _ _ _ _ _ op_mod (@pe_callB _ _ _ _ _ _ _ _ _ (call_sumK (K := K) rfl rfl) (by rfl) T.n_sum bt_sum (@pa_cons _ _ _ _ _ (pv 0) pa_nil (by rfl)) (by decide) (by decide) (by rfl) (by rfl)) pe_int) (by rfl) (by first | exact .inl rfl | exact .inr rfl))
      (@pss_cons _ _ _ _ _ (@ps_set _ _ 2 _ _ _ _ sc_law.nd rfl (by first | exact Or.inl rfl | exact Or.inr rfl) (pe_new0 (df_Desk_init T) (hr.mono (by decide)) T.g_Desk) (by rfl) (by first | exact .inl rfl | exact .inr rfl))
      (@pss_one _ _ _ (@ps_ret _ _ _ _ (pe_and (@pe_cmpR _ _ _ _ _ _ _ _ (op_eqX hr.units) (pe_mtK (ks := ["line"]) (g := fun ws => match ws with | [a0] => [a0] | _ => []) (gV := fun ws => match ws with | [a0] => [a0] | _ => []) (df_Desk_ask T) T.m_Desk_ask T.cl_Desk (hr.mono (by decide)) (pv 2) (fun _ _ _ _ _ _ _ ws hl => by match ws with | [a0] => rfl | [] => (first | cases hl | exact absurd hl (by decide) | simp at hl) | _ :: _ :: _ => (first | cases hl | exact absurd hl (by decide) | simp at hl)) (by intro zs ws r; cases r with | nil => exact .nil | cons r0 r => (cases r with | nil => exact (.cons r0 .nil) | cons _ _ => exact .nil)) (pk_cons (pe_fstr (pj_cons pe_str (pj_cons (pe_fv (pv 1)) pj_nil))) pk_nil)) (@pe_lst _ _ _ _ pa_nil) (nomark _)) (pe_one (@pe_cmpR _ _ _ _ _ _ _ _ (op_eqX hr.units) (pe_mtK (ks := ["line"]) (g := fun ws => match ws with | [a0] => [a0] | _ => []) (gV := fun ws => match ws with | [a0] => [a0] | _ => []) (df_Desk_ask T) T.m_Desk_ask T.cl_Desk (hr.mono (by decide)) (pv 2) (fun _ _ _ _ _ _ _ ws hl => by match ws with | [a0] => rfl | [] => (first | cases hl | exact absurd hl (by decide) | simp at hl) | _ :: _ :: _ => (first | cases hl | exact absurd hl (by decide) | simp at hl)) (by intro zs ws r; cases r with | nil => exact .nil | cons r0 r => (cases r with | nil => exact (.cons r0 .nil) | cons _ _ => exact .nil)) (pk_cons pe_str pk_nil)) (@pe_lst _ _ _ _ (@pa_cons _ _ _ _ _ (pe_fstr1 (pe_fv (pv 1))) pa_nil (by rfl))) (nomark _)))))))), ?_⟩
    refine ⟨_, rfl, _, _, rfl, hS, _, _, rfl, rfl, (by show (0 : Int) < 1000; decide), ?_⟩
    have x0 : (0 : Int) ≤ ns.sum % 1000 := Int.emod_nonneg _ (by decide)
    have x1 : ns.sum % 1000 < (1000 : Int) := Int.emod_lt_of_pos _ (by decide)
    dsimp only [gName, List.set]
    generalize ns.sum % 1000 = far at x0 x1 ⊢
    refine fun x dx hx hdx ne => ⟨x, dx, rfl, upd_same, fun fv wv rv sv H1 k1 e1 f1 => ⟨rfl, ?_⟩⟩
    dsimp only [gName, List.set]
    refine ⟨_, rfl, x, dx, _, rfl, e1, dk_no_ask .., ?_⟩
    have RW := rect92 x0 x1
    have wf : Wide far := by unfold Wide; omega
    obtain ⟨_, ll⟩ := lineF_len RW
    have l2 : (Str.empty ++ ("field " : Str) ++ Str.ofString (toString far)).length ≤ sizeLine := by
      rw [line92]
      exact Nat.le_trans (show _ ≤ 1000000 by omega) (by decide)
    refine ⟨_, rfl, (by decide +kernel), _, rfl, far, rfl, log_small wf, _, rfl, l2, l2, ?_⟩
    rw [line92]
    refine ⟨x, dx, fv, wv, rv, sv, e1, Or.inl ⟨[[some far]], rfl, RW, (by show 1 ≤ 12; decide), (by show 1 ≤ 12; decide), fun r hr c hc i e => ?_, fun gv l H2 k2 e2 g2 hl => ?_⟩⟩
    · simp only [List.mem_cons, List.not_mem_nil, or_false] at hr
      subst hr
      simp only [List.mem_cons, List.not_mem_nil, or_false] at hc
      subst hc
      cases e
      omega
    refine ⟨(by show 0 ≤ sizeLine; decide), fun p3 hp3 => ?_⟩
    have s3 := same_upd (o := .lst []) hp3
    refine Or.inr ⟨l, p3, [], [], [], [], rfl, rfl, s3 _ _ hl, upd_same, .nil, .nil, ⟨rfl, rfl, by decide⟩, _, rfl, iteT ?_⟩
    have e3 := s3 _ _ e2
    have g3 := g2.keep s3.tups
    generalize upd H2 p3 (.lst []) = H3 at e3 g3 ⊢
    refine ⟨_, rfl, x, dx, _, rfl, e3, dk_no_ask .., ?_⟩
    refine ⟨x, dx, gv, wv, rv, sv, e3, Or.inr ⟨[[some far]], rfl, g3, RW, fun l4 H4 s4 h4 => ?_⟩⟩
    refine ⟨_, rfl, far, rfl, log_small wf, (by show 1 ≤ sizeLine; decide), fun p5 hp5 => ?_⟩
    have s5 := same_upd (o := .lst [.str (Str.ofString (toString far))]) hp5
    refine Or.inr ⟨l4, p5, _, _, [.str (lineOf [some far])], [.str (Str.ofString (toString far))], rfl, rfl, s5 _ _ h4, upd_same, .cons (.str _) .nil, .cons (.str _) .nil, ⟨by simp [PyData.canLay0, PyData.canLayAll0, ok92], by rw [word92]; simp [PyData.canLay0, PyData.canLayAll0, ok92], by simp [PyData.depth, PyData.depthAll]⟩, ?_⟩
    rw [word92]
    have ee : PyData.eqvAll [PyData.str (lineOf [some far])] [PyData.str (lineOf [some far])] = true := by simp [PyData.eqvAll, PyData.eqv]
    rw [ee]
    exact q _
end
theorem txt_mk {K : PySem.W.Frag} {h : Heap} {mg : Str → Option Value} (X : K.In h) (G : h.Ns mainGlobals mg) {f_is_number : Addr} {od_is_number an_is_number : Option Addr} {sl_is_number : Array (Option Value)} {oc_is_number kV_is_number dc_is_number pm_is_number cd_is_number ct_is_number : Value} {f_is_cell : Addr} {od_is_cell an_is_cell : Option Addr} {sl_is_cell : Array (Option Value)} {oc_is_cell kV_is_cell dc_is_cell pm_is_cell cd_is_cell ct_is_cell : Value} {f_cell_read : Addr} {od_cell_read an_cell_read : Option Addr} {sl_cell_read : Array (Option Value)} {oc_cell_read kV_cell_read dc_cell_read pm_cell_read cd_cell_read ct_cell_read : Value} {f_cell_shown : Addr} {od_cell_shown an_cell_shown : Option Addr} {sl_cell_shown : Array (Option Value)} {oc_cell_shown kV_cell_shown dc_cell_shown pm_cell_shown cd_cell_shown ct_cell_shown : Value} {f_read_rows : Addr} {od_read_rows an_read_rows : Option Addr} {sl_read_rows : Array (Option Value)} {oc_read_rows kV_read_rows dc_read_rows pm_read_rows cd_read_rows ct_read_rows : Value} {f_row_shown : Addr} {od_row_shown an_row_shown : Option Addr} {sl_row_shown : Array (Option Value)} {oc_row_shown kV_row_shown dc_row_shown pm_row_shown cd_row_shown ct_row_shown : Value} {f_without_holes : Addr} {od_without_holes an_without_holes : Option Addr} {sl_without_holes : Array (Option Value)} {oc_without_holes kV_without_holes dc_without_holes pm_without_holes cd_without_holes ct_without_holes : Value} {f_are_within : Addr} {od_are_within an_are_within : Option Addr} {sl_are_within : Array (Option Value)} {oc_are_within kV_are_within dc_are_within pm_are_within cd_are_within ct_are_within : Value} {f_numbers_asked : Addr} {od_numbers_asked an_numbers_asked : Option Addr} {sl_numbers_asked : Array (Option Value)} {oc_numbers_asked kV_numbers_asked dc_numbers_asked pm_numbers_asked cd_numbers_asked ct_numbers_asked : Value} {f_field_asked : Addr} {od_field_asked an_field_asked : Option Addr} {sl_field_asked : Array (Option Value)} {oc_field_asked kV_field_asked dc_field_asked pm_field_asked cd_field_asked ct_field_asked : Value} {f_lines_of : Addr} {od_lines_of an_lines_of : Option Addr} {sl_lines_of : Array (Option Value)} {oc_lines_of kV_lines_of dc_lines_of pm_lines_of cd_lines_of ct_lines_of : Value} {f_law : Addr} {od_law an_law : Option Addr} {sl_law : Array (Option Value)} {oc_law kV_law dc_law pm_law cd_law ct_law : Value} {v_HOLE : Value} {v_FIGURES : Value} {v_MOST_NUMBER : Value} {v_MOST_LENGTH : Value} {v_FIELD_AHEAD : Value} {p_CHANGES : Addr} {od_CHANGES : Option Addr} {its_CHANGES : Array Value} {n_CHANGES : Nat} {sl_CHANGES : Array (Option Value)} {C : Addr} {f_Desk_init : Addr} {od_Desk_init an_Desk_init : Option Addr} {sl_Desk_init : Array (Option Value)} {oc_Desk_init kV_Desk_init dc_Desk_init pm_Desk_init cd_Desk_init ct_Desk_init : Value} {f_Desk_ask : Addr} {od_Desk_ask an_Desk_ask : Option Addr} {sl_Desk_ask : Array (Option Value)} {oc_Desk_ask kV_Desk_ask dc_Desk_ask pm_Desk_ask cd_Desk_ask ct_Desk_ask : Value} {f_Desk_lines_told : Addr} {od_Desk_lines_told an_Desk_lines_told : Option Addr} {sl_Desk_lines_told : Array (Option Value)} {oc_Desk_lines_told kV_Desk_lines_told dc_Desk_lines_told pm_Desk_lines_told cd_Desk_lines_told ct_Desk_lines_told : Value}
    (a_is_number : PySem.W.nsIn K mainGlobals "is_number" = some (some (.ref f_is_number)))
    (l_is_number : K.lookup f_is_number = some ⟨oc_is_number, od_is_number, .func (PySem.W.fnOf "is_number" "is_number" (defArgs s_is_number) (defBody s_is_number) (defScope s_is_number) .none kV_is_number dc_is_number pm_is_number an_is_number cd_is_number ct_is_number), sl_is_number⟩)
    (c_is_number : PySem.W.codeIn K cd_is_number "is_number" = true)
    (k_is_number : PySem.W.keepIn K (.ref f_is_number) = true)
    (a_is_cell : PySem.W.nsIn K mainGlobals "is_cell" = some (some (.ref f_is_cell)))
    (l_is_cell : K.lookup f_is_cell = some ⟨oc_is_cell, od_is_cell, .func (PySem.W.fnOf "is_cell" "is_cell" (defArgs s_is_cell) (defBody s_is_cell) (defScope s_is_cell) .none kV_is_cell dc_is_cell pm_is_cell an_is_cell cd_is_cell ct_is_cell), sl_is_cell⟩)
    (c_is_cell : PySem.W.codeIn K cd_is_cell "is_cell" = true)
    (k_is_cell : PySem.W.keepIn K (.ref f_is_cell) = true)
    (a_cell_read : PySem.W.nsIn K mainGlobals "cell_read" = some (some (.ref f_cell_read)))
    (l_cell_read : K.lookup f_cell_read = some ⟨oc_cell_read, od_cell_read, .func (PySem.W.fnOf "cell_read" "cell_read" (defArgs s_cell_read) (defBody s_cell_read) (defScope s_cell_read) .none kV_cell_read dc_cell_read pm_cell_read an_cell_read cd_cell_read ct_cell_read), sl_cell_read⟩)
    (c_cell_read : PySem.W.codeIn K cd_cell_read "cell_read" = true)
    (k_cell_read : PySem.W.keepIn K (.ref f_cell_read) = true)
    (a_cell_shown : PySem.W.nsIn K mainGlobals "cell_shown" = some (some (.ref f_cell_shown)))
    (l_cell_shown : K.lookup f_cell_shown = some ⟨oc_cell_shown, od_cell_shown, .func (PySem.W.fnOf "cell_shown" "cell_shown" (defArgs s_cell_shown) (defBody s_cell_shown) (defScope s_cell_shown) .none kV_cell_shown dc_cell_shown pm_cell_shown an_cell_shown cd_cell_shown ct_cell_shown), sl_cell_shown⟩)
    (c_cell_shown : PySem.W.codeIn K cd_cell_shown "cell_shown" = true)
    (k_cell_shown : PySem.W.keepIn K (.ref f_cell_shown) = true)
    (a_read_rows : PySem.W.nsIn K mainGlobals "read_rows" = some (some (.ref f_read_rows)))
    (l_read_rows : K.lookup f_read_rows = some ⟨oc_read_rows, od_read_rows, .func (PySem.W.fnOf "read_rows" "read_rows" (defArgs s_read_rows) (defBody s_read_rows) (defScope s_read_rows) .none kV_read_rows dc_read_rows pm_read_rows an_read_rows cd_read_rows ct_read_rows), sl_read_rows⟩)
    (c_read_rows : PySem.W.codeIn K cd_read_rows "read_rows" = true)
    (k_read_rows : PySem.W.keepIn K (.ref f_read_rows) = true)
    (a_row_shown : PySem.W.nsIn K mainGlobals "row_shown" = some (some (.ref f_row_shown)))
    (l_row_shown : K.lookup f_row_shown = some ⟨oc_row_shown, od_row_shown, .func (PySem.W.fnOf "row_shown" "row_shown" (defArgs s_row_shown) (defBody s_row_shown) (defScope s_row_shown) .none kV_row_shown dc_row_shown pm_row_shown an_row_shown cd_row_shown ct_row_shown), sl_row_shown⟩)
    (c_row_shown : PySem.W.codeIn K cd_row_shown "row_shown" = true)
    (k_row_shown : PySem.W.keepIn K (.ref f_row_shown) = true)
    (a_without_holes : PySem.W.nsIn K mainGlobals "without_holes" = some (some (.ref f_without_holes)))
    (l_without_holes : K.lookup f_without_holes = some ⟨oc_without_holes, od_without_holes, .func (PySem.W.fnOf "without_holes" "without_holes" (defArgs s_without_holes) (defBody s_without_holes) (defScope s_without_holes) .none kV_without_holes dc_without_holes pm_without_holes an_without_holes cd_without_holes ct_without_holes), sl_without_holes⟩)
    (c_without_holes : PySem.W.codeIn K cd_without_holes "without_holes" = true)
    (k_without_holes : PySem.W.keepIn K (.ref f_without_holes) = true)
    (a_are_within : PySem.W.nsIn K mainGlobals "are_within" = some (some (.ref f_are_within)))
    (l_are_within : K.lookup f_are_within = some ⟨oc_are_within, od_are_within, .func (PySem.W.fnOf "are_within" "are_within" (defArgs s_are_within) (defBody s_are_within) (defScope s_are_within) .none kV_are_within dc_are_within pm_are_within an_are_within cd_are_within ct_are_within), sl_are_within⟩)
    (c_are_within : PySem.W.codeIn K cd_are_within "are_within" = true)
    (k_are_within : PySem.W.keepIn K (.ref f_are_within) = true)
    (a_numbers_asked : PySem.W.nsIn K mainGlobals "numbers_asked" = some (some (.ref f_numbers_asked)))
    (l_numbers_asked : K.lookup f_numbers_asked = some ⟨oc_numbers_asked, od_numbers_asked, .func (PySem.W.fnOf "numbers_asked" "numbers_asked" (defArgs s_numbers_asked) (defBody s_numbers_asked) (defScope s_numbers_asked) .none kV_numbers_asked dc_numbers_asked pm_numbers_asked an_numbers_asked cd_numbers_asked ct_numbers_asked), sl_numbers_asked⟩)
    (c_numbers_asked : PySem.W.codeIn K cd_numbers_asked "numbers_asked" = true)
    (k_numbers_asked : PySem.W.keepIn K (.ref f_numbers_asked) = true)
    (a_field_asked : PySem.W.nsIn K mainGlobals "field_asked" = some (some (.ref f_field_asked)))
    (l_field_asked : K.lookup f_field_asked = some ⟨oc_field_asked, od_field_asked, .func (PySem.W.fnOf "field_asked" "field_asked" (defArgs s_field_asked) (defBody s_field_asked) (defScope s_field_asked) .none kV_field_asked dc_field_asked pm_field_asked an_field_asked cd_field_asked ct_field_asked), sl_field_asked⟩)
    (c_field_asked : PySem.W.codeIn K cd_field_asked "field_asked" = true)
    (k_field_asked : PySem.W.keepIn K (.ref f_field_asked) = true)
    (a_lines_of : PySem.W.nsIn K mainGlobals "lines_of" = some (some (.ref f_lines_of)))
    (l_lines_of : K.lookup f_lines_of = some ⟨oc_lines_of, od_lines_of, .func (PySem.W.fnOf "lines_of" "lines_of" (defArgs s_lines_of) (defBody s_lines_of) (defScope s_lines_of) .none kV_lines_of dc_lines_of pm_lines_of an_lines_of cd_lines_of ct_lines_of), sl_lines_of⟩)
    (c_lines_of : PySem.W.codeIn K cd_lines_of "lines_of" = true)
    (k_lines_of : PySem.W.keepIn K (.ref f_lines_of) = true)
    (a_law : PySem.W.nsIn K mainGlobals "law" = some (some (.ref f_law)))
    (l_law : K.lookup f_law = some ⟨oc_law, od_law, .func (PySem.W.fnOf "law" "law" (defArgs s_law) (defBody s_law) (defScope s_law) .none kV_law dc_law pm_law an_law cd_law ct_law), sl_law⟩)
    (c_law : PySem.W.codeIn K cd_law "law" = true)
    (k_law : PySem.W.keepIn K (.ref f_law) = true)
    (a_HOLE : PySem.W.nsIn K mainGlobals "HOLE" = some (some v_HOLE))
    (r_HOLE : RelV (.str ".") v_HOLE)
    (a_FIGURES : PySem.W.nsIn K mainGlobals "FIGURES" = some (some v_FIGURES))
    (r_FIGURES : RelV (.str "0123456789") v_FIGURES)
    (a_MOST_NUMBER : PySem.W.nsIn K mainGlobals "MOST_NUMBER" = some (some v_MOST_NUMBER))
    (r_MOST_NUMBER : RelV (.int 1000000000) v_MOST_NUMBER)
    (a_MOST_LENGTH : PySem.W.nsIn K mainGlobals "MOST_LENGTH" = some (some v_MOST_LENGTH))
    (r_MOST_LENGTH : RelV (.int 12) v_MOST_LENGTH)
    (a_FIELD_AHEAD : PySem.W.nsIn K mainGlobals "FIELD_AHEAD" = some (some v_FIELD_AHEAD))
    (r_FIELD_AHEAD : RelV (.str "field ") v_FIELD_AHEAD)
    (a_CHANGES : PySem.W.nsIn K mainGlobals "CHANGES" = some (some (.ref p_CHANGES)))
    (l_CHANGES : K.lookup p_CHANGES = some ⟨.type "tuple", od_CHANGES, .seq its_CHANGES n_CHANGES, sl_CHANGES⟩)
    (r_CHANGES : Vals [.str "window", .str "edge", .str "share", .str "cell", .str "take"] its_CHANGES.toList) (w_CHANGES : its_CHANGES.size ≤ sizeLine)
    (aC : PySem.W.nsIn K mainGlobals "Desk" = some (some (.ref C)))
    (pg : PySem.W.plainGet K C Str.empty = true) (hd : PySem.W.hasDictIn K C = true) (po : PySem.W.plainOver K C = true) (sa : PySem.W.findIn K (.ref C) "__setattr__" = some (some (.builtin "object.__setattr__"))) (mkC : PySem.W.makesIn K C = true) (kc : PySem.W.keepIn K (.ref C) = true)
    (na_field : PySem.W.findIn K (.ref C) "field" = some none)
    (na_rule : PySem.W.findIn K (.ref C) "rule" = some none)
    (na_share : PySem.W.findIn K (.ref C) "share" = some none)
    (na_window : PySem.W.findIn K (.ref C) "window" = some none)
    (a_Desk_init : PySem.W.findIn K (.ref C) "__init__" = some (some (.ref f_Desk_init)))
    (i_Desk_init : PySem.W.isFn K (.ref f_Desk_init) = true)
    (l_Desk_init : K.lookup f_Desk_init = some ⟨oc_Desk_init, od_Desk_init, .func (PySem.W.fnOf "__init__" "Desk.__init__" (defArgs s_Desk_init) (defBody s_Desk_init) (defScope s_Desk_init) .none kV_Desk_init dc_Desk_init pm_Desk_init an_Desk_init cd_Desk_init ct_Desk_init), sl_Desk_init⟩)
    (c_Desk_init : PySem.W.codeIn K cd_Desk_init "Desk.__init__" = true)
    (k_Desk_init : PySem.W.keepIn K (.ref f_Desk_init) = true)
    (a_Desk_ask : PySem.W.findIn K (.ref C) "ask" = some (some (.ref f_Desk_ask)))
    (i_Desk_ask : PySem.W.isFn K (.ref f_Desk_ask) = true)
    (l_Desk_ask : K.lookup f_Desk_ask = some ⟨oc_Desk_ask, od_Desk_ask, .func (PySem.W.fnOf "ask" "Desk.ask" (defArgs s_Desk_ask) (defBody s_Desk_ask) (defScope s_Desk_ask) .none kV_Desk_ask dc_Desk_ask pm_Desk_ask an_Desk_ask cd_Desk_ask ct_Desk_ask), sl_Desk_ask⟩)
    (c_Desk_ask : PySem.W.codeIn K cd_Desk_ask "Desk.ask" = true)
    (k_Desk_ask : PySem.W.keepIn K (.ref f_Desk_ask) = true)
    (a_Desk_lines_told : PySem.W.findIn K (.ref C) "lines_told" = some (some (.ref f_Desk_lines_told)))
    (i_Desk_lines_told : PySem.W.isFn K (.ref f_Desk_lines_told) = true)
    (l_Desk_lines_told : K.lookup f_Desk_lines_told = some ⟨oc_Desk_lines_told, od_Desk_lines_told, .func (PySem.W.fnOf "lines_told" "Desk.lines_told" (defArgs s_Desk_lines_told) (defBody s_Desk_lines_told) (defScope s_Desk_lines_told) .none kV_Desk_lines_told dc_Desk_lines_told pm_Desk_lines_told an_Desk_lines_told cd_Desk_lines_told ct_Desk_lines_told), sl_Desk_lines_told⟩)
    (c_Desk_lines_told : PySem.W.codeIn K cd_Desk_lines_told "Desk.lines_told" = true)
    (k_Desk_lines_told : PySem.W.keepIn K (.ref f_Desk_lines_told) = true)
    (z_len : PySem.W.nsIn K mainGlobals "len" = some none)
    (z_sum : PySem.W.nsIn K mainGlobals "sum" = some none)
    (z_all : PySem.W.nsIn K mainGlobals "all" = some none)
    (z_tuple : PySem.W.nsIn K mainGlobals "tuple" = some none)
    (z_int : PySem.W.nsIn K mainGlobals "int" = some none)
    (z_str : PySem.W.nsIn K mainGlobals "str" = some none)
    (z_enumerate : PySem.W.nsIn K mainGlobals "enumerate" = some none) : Txt K mg C where
    d_is_number := ⟨_, _, fun_mk (st := s_is_number) l_is_number c_is_number k_is_number, PySem.W.mg_of X G a_is_number, (fun_mk (st := s_is_number) l_is_number c_is_number k_is_number).binds (ps := ["word"]) fun _ _ _ _ _ _ us hl => match us, hl with | [_], _ => rfl⟩
    d_is_cell := ⟨_, _, fun_mk (st := s_is_cell) l_is_cell c_is_cell k_is_cell, PySem.W.mg_of X G a_is_cell, (fun_mk (st := s_is_cell) l_is_cell c_is_cell k_is_cell).binds (ps := ["word"]) fun _ _ _ _ _ _ us hl => match us, hl with | [_], _ => rfl⟩
    d_cell_read := ⟨_, _, fun_mk (st := s_cell_read) l_cell_read c_cell_read k_cell_read, PySem.W.mg_of X G a_cell_read, (fun_mk (st := s_cell_read) l_cell_read c_cell_read k_cell_read).binds (ps := ["word"]) fun _ _ _ _ _ _ us hl => match us, hl with | [_], _ => rfl⟩
    d_cell_shown := ⟨_, _, fun_mk (st := s_cell_shown) l_cell_shown c_cell_shown k_cell_shown, PySem.W.mg_of X G a_cell_shown, (fun_mk (st := s_cell_shown) l_cell_shown c_cell_shown k_cell_shown).binds (ps := ["cell"]) fun _ _ _ _ _ _ us hl => match us, hl with | [_], _ => rfl⟩
    d_read_rows := ⟨_, _, fun_mk (st := s_read_rows) l_read_rows c_read_rows k_read_rows, PySem.W.mg_of X G a_read_rows, (fun_mk (st := s_read_rows) l_read_rows c_read_rows k_read_rows).binds (ps := ["lines"]) fun _ _ _ _ _ _ us hl => match us, hl with | [_], _ => rfl⟩
    d_row_shown := ⟨_, _, fun_mk (st := s_row_shown) l_row_shown c_row_shown k_row_shown, PySem.W.mg_of X G a_row_shown, (fun_mk (st := s_row_shown) l_row_shown c_row_shown k_row_shown).binds (ps := ["row"]) fun _ _ _ _ _ _ us hl => match us, hl with | [_], _ => rfl⟩
    d_without_holes := ⟨_, _, fun_mk (st := s_without_holes) l_without_holes c_without_holes k_without_holes, PySem.W.mg_of X G a_without_holes, (fun_mk (st := s_without_holes) l_without_holes c_without_holes k_without_holes).binds (ps := ["cells"]) fun _ _ _ _ _ _ us hl => match us, hl with | [_], _ => rfl⟩
    d_are_within := ⟨_, _, fun_mk (st := s_are_within) l_are_within c_are_within k_are_within, PySem.W.mg_of X G a_are_within, (fun_mk (st := s_are_within) l_are_within c_are_within k_are_within).binds (ps := ["numbers", "least", "most"]) fun _ _ _ _ _ _ us hl => match us, hl with | [_, _, _], _ => rfl⟩
    d_numbers_asked := ⟨_, _, fun_mk (st := s_numbers_asked) l_numbers_asked c_numbers_asked k_numbers_asked, PySem.W.mg_of X G a_numbers_asked, (fun_mk (st := s_numbers_asked) l_numbers_asked c_numbers_asked k_numbers_asked).binds (ps := ["words", "how_many"]) fun _ _ _ _ _ _ us hl => match us, hl with | [_, _], _ => rfl⟩
    d_field_asked := ⟨_, _, fun_mk (st := s_field_asked) l_field_asked c_field_asked k_field_asked, PySem.W.mg_of X G a_field_asked, (fun_mk (st := s_field_asked) l_field_asked c_field_asked k_field_asked).binds (ps := ["text"]) fun _ _ _ _ _ _ us hl => match us, hl with | [_], _ => rfl⟩
    d_lines_of := ⟨_, _, fun_mk (st := s_lines_of) l_lines_of c_lines_of k_lines_of, PySem.W.mg_of X G a_lines_of, (fun_mk (st := s_lines_of) l_lines_of c_lines_of k_lines_of).binds (ps := ["field"]) fun _ _ _ _ _ _ us hl => match us, hl with | [_], _ => rfl⟩
    d_law := ⟨_, _, fun_mk (st := s_law) l_law c_law k_law, PySem.W.mg_of X G a_law, (fun_mk (st := s_law) l_law c_law k_law).binds (ps := ["script"]) fun _ _ _ _ _ _ us hl => match us, hl with | [_], _ => rfl⟩
    g_HOLE := ⟨_, PySem.W.mg_of X G a_HOLE, r_HOLE⟩
    g_FIGURES := ⟨_, PySem.W.mg_of X G a_FIGURES, r_FIGURES⟩
    g_MOST_NUMBER := ⟨_, PySem.W.mg_of X G a_MOST_NUMBER, r_MOST_NUMBER⟩
    g_MOST_LENGTH := ⟨_, PySem.W.mg_of X G a_MOST_LENGTH, r_MOST_LENGTH⟩
    g_FIELD_AHEAD := ⟨_, PySem.W.mg_of X G a_FIELD_AHEAD, r_FIELD_AHEAD⟩
    g_CHANGES := ⟨_, PySem.W.mg_of X G a_CHANGES, _, _, _, l_CHANGES, rfl, rfl, w_CHANGES, r_CHANGES⟩
    g_Desk := PySem.W.mg_of X G aC
    cl_Desk := ⟨pg, hd, po, sa⟩
    a_field := na_field
    a_rule := na_rule
    a_share := na_share
    a_window := na_window
    m_Desk_init := ⟨_, _, ⟨mkC, a_Desk_init, i_Desk_init, kc⟩, fun_mk (st := s_Desk_init) l_Desk_init c_Desk_init k_Desk_init, (fun_mk (st := s_Desk_init) l_Desk_init c_Desk_init k_Desk_init).binds (ps := ["self"]) fun _ _ _ _ _ _ us hl => match us, hl with | [_], _ => rfl⟩
    m_Desk_ask := ⟨_, _, ⟨a_Desk_ask, i_Desk_ask, k_Desk_ask⟩, fun_mk (st := s_Desk_ask) l_Desk_ask c_Desk_ask k_Desk_ask, (fun_mk (st := s_Desk_ask) l_Desk_ask c_Desk_ask k_Desk_ask).binds (ps := ["self", "line"]) fun _ _ _ _ _ _ us hl => match us, hl with | [_, _], _ => rfl⟩
    m_Desk_lines_told := ⟨_, _, ⟨a_Desk_lines_told, i_Desk_lines_told, k_Desk_lines_told⟩, fun_mk (st := s_Desk_lines_told) l_Desk_lines_told c_Desk_lines_told k_Desk_lines_told, (fun_mk (st := s_Desk_lines_told) l_Desk_lines_told c_Desk_lines_told k_Desk_lines_told).binds (ps := ["self", "word", "words"]) fun _ _ _ _ _ _ us hl => match us, hl with | [_, _, _], _ => rfl⟩
    n_len := PySem.W.mg_none_of X G z_len
    n_sum := PySem.W.mg_none_of X G z_sum
    n_all := PySem.W.mg_none_of X G z_all
    n_tuple := PySem.W.mg_none_of X G z_tuple
    n_int := PySem.W.mg_none_of X G z_int
    n_str := PySem.W.mg_none_of X G z_str
    n_enumerate := PySem.W.mg_none_of X G z_enumerate
end Mw
namespace PySem.W.Fast
theorem tw10002849078516122883 : True := ⟨⟩
theorem tw10004723966751817846 : True := ⟨⟩
theorem tw1003167937469153719 : True := ⟨⟩
theorem tw10033782223957798694 : True := ⟨⟩
theorem tw10035665872585594329 : True := ⟨⟩
theorem tw10061745520899735943 : True := ⟨⟩
theorem tw10084009262980269198 : True := ⟨⟩
theorem tw10089291788974557445 : True := ⟨⟩
theorem tw101442018051744519 : True := ⟨⟩
theorem tw10229111585756901536 : True := ⟨⟩
theorem tw10233665324041263085 : True := ⟨⟩
theorem tw10242474997718104766 : True := ⟨⟩
theorem tw10259129151290389439 : True := ⟨⟩
theorem tw10292683725793766414 : True := ⟨⟩
theorem tw10552659662262894529 : True := ⟨⟩
theorem tw10560960423104442510 : True := ⟨⟩
theorem tw10622977529095103307 : True := ⟨⟩
theorem tw10623211014100837990 : True := ⟨⟩
theorem tw10624511548128091529 : True := ⟨⟩
theorem tw10653062673589468439 : True := ⟨⟩
theorem tw10680899315190462535 : True := ⟨⟩
theorem tw10706515299090156561 : True := ⟨⟩
theorem tw10789975813684154398 : True := ⟨⟩
theorem tw10809146156000485489 : True := ⟨⟩
theorem tw10939399174122648775 : True := ⟨⟩
theorem tw11005276306895798818 : True := ⟨⟩
theorem tw11041319106464555078 : True := ⟨⟩
theorem tw1112508864762017111 : True := ⟨⟩
theorem tw1112869155682454111 : True := ⟨⟩
theorem tw11167225874635852930 : True := ⟨⟩
theorem tw11199327427673253378 : True := ⟨⟩
theorem tw11207382835710101497 : True := ⟨⟩
theorem tw11255634165546550033 : True := ⟨⟩
theorem tw11293416335180486162 : True := ⟨⟩
theorem tw11401209509157014428 : True := ⟨⟩
theorem tw11407544440298190033 : True := ⟨⟩
theorem tw11431500078041160205 : True := ⟨⟩
theorem tw11432448365232305157 : True := ⟨⟩
theorem tw11434632603510871583 : True := ⟨⟩
theorem tw11460212441449295820 : True := ⟨⟩
theorem tw11511160503692470520 : True := ⟨⟩
theorem tw11551406515119908064 : True := ⟨⟩
theorem tw11563555285967905889 : True := ⟨⟩
theorem tw11583599488985825016 : True := ⟨⟩
theorem tw11615250205907184107 : True := ⟨⟩
theorem tw11659625787884527348 : True := ⟨⟩
theorem tw11682153817686296832 : True := ⟨⟩
theorem tw11713216940557856275 : True := ⟨⟩
theorem tw11764616787500920680 : True := ⟨⟩
theorem tw11764822808128003953 : True := ⟨⟩
theorem tw11784110515609306555 : True := ⟨⟩
theorem tw11846031600221376279 : True := ⟨⟩
theorem tw11865946558872497782 : True := ⟨⟩
theorem tw11928042509670760761 : True := ⟨⟩
theorem tw11948169296560601455 : True := ⟨⟩
theorem tw11976129689767101107 : True := ⟨⟩
theorem tw12029019187313118606 : True := ⟨⟩
theorem tw12033745026035323192 : True := ⟨⟩
theorem tw12046297338910349805 : True := ⟨⟩
theorem tw1205334849139135707 : True := ⟨⟩
theorem tw1209408723573044749 : True := ⟨⟩
theorem tw12100067188483202439 : True := ⟨⟩
theorem tw12227077560104076676 : True := ⟨⟩
theorem tw12244803051386084274 : True := ⟨⟩
theorem tw12251342733603470071 : True := ⟨⟩
theorem tw12265765571586027957 : True := ⟨⟩
theorem tw12298205431307975369 : True := ⟨⟩
theorem tw12330822784904213159 : True := ⟨⟩
theorem tw12380056639448968028 : True := ⟨⟩
theorem tw12419340476976071664 : True := ⟨⟩
theorem tw1243371427648973544 : True := ⟨⟩
theorem tw1256505176080376639 : True := ⟨⟩
theorem tw12666829019619413707 : True := ⟨⟩
theorem tw12691668670277531888 : True := ⟨⟩
theorem tw12715421467730341289 : True := ⟨⟩
theorem tw12748125777969041681 : True := ⟨⟩
theorem tw12756686852938821913 : True := ⟨⟩
theorem tw12762765886178473528 : True := ⟨⟩
theorem tw1282229801557657315 : True := ⟨⟩
theorem tw12847375014199709559 : True := ⟨⟩
theorem tw12949614138836080904 : True := ⟨⟩
theorem tw12958647686915963499 : True := ⟨⟩
theorem tw12961508670173458878 : True := ⟨⟩
theorem tw13005320550718257231 : True := ⟨⟩
theorem tw1300915571341011655 : True := ⟨⟩
theorem tw1302135810486342098 : True := ⟨⟩
theorem tw13053518233664029615 : True := ⟨⟩
theorem tw13054675236498773705 : True := ⟨⟩
theorem tw13068163794745259914 : True := ⟨⟩
theorem tw13249447616560345787 : True := ⟨⟩
theorem tw13274390046053031912 : True := ⟨⟩
theorem tw13300591868935981216 : True := ⟨⟩
theorem tw13335697700091337092 : True := ⟨⟩
theorem tw13343539892741452409 : True := ⟨⟩
theorem tw13349632425448634349 : True := ⟨⟩
theorem tw13356166243990129701 : True := ⟨⟩
theorem tw13356178191255791482 : True := ⟨⟩
theorem tw13396175213506996624 : True := ⟨⟩
theorem tw13446363866926137926 : True := ⟨⟩
theorem tw135612663175958532 : True := ⟨⟩
theorem tw13603288493861165762 : True := ⟨⟩
theorem tw13628506172080093123 : True := ⟨⟩
theorem tw13646920905007999502 : True := ⟨⟩
theorem tw13655101639063150241 : True := ⟨⟩
theorem tw13739974806007061521 : True := ⟨⟩
theorem tw13787971324304780284 : True := ⟨⟩
theorem tw13973475495624776751 : True := ⟨⟩
theorem tw14038429880215640954 : True := ⟨⟩
theorem tw14053222953134290228 : True := ⟨⟩
theorem tw1407393965837537608 : True := ⟨⟩
theorem tw14108161843770852074 : True := ⟨⟩
theorem tw14113751704128546960 : True := ⟨⟩
theorem tw14129818027187450250 : True := ⟨⟩
theorem tw14157251081931550508 : True := ⟨⟩
theorem tw14163647366056285574 : True := ⟨⟩
theorem tw14201238848095037225 : True := ⟨⟩
theorem tw14301536702580145009 : True := ⟨⟩
theorem tw14304866525968286369 : True := ⟨⟩
theorem tw14316184295644676864 : True := ⟨⟩
theorem tw14419527505079885859 : True := ⟨⟩
theorem tw14447277243901713801 : True := ⟨⟩
theorem tw14466072187713289473 : True := ⟨⟩
theorem tw14518002265101809204 : True := ⟨⟩
theorem tw14563996039713324549 : True := ⟨⟩
theorem tw14613065885462613433 : True := ⟨⟩
theorem tw14622021165343138903 : True := ⟨⟩
theorem tw14683562458035971074 : True := ⟨⟩
theorem tw14686016722220876911 : True := ⟨⟩
theorem tw14710557779678369205 : True := ⟨⟩
theorem tw14735495319327656874 : True := ⟨⟩
theorem tw14765723287567815632 : True := ⟨⟩
theorem tw1480770755023628510 : True := ⟨⟩
theorem tw14807983372558862887 : True := ⟨⟩
theorem tw14810337703110720467 : True := ⟨⟩
theorem tw14838024899991706233 : True := ⟨⟩
theorem tw14839777330064195585 : True := ⟨⟩
theorem tw14853479322885772678 : True := ⟨⟩
theorem tw14857407524456680790 : True := ⟨⟩
theorem tw14916459968174402689 : True := ⟨⟩
theorem tw14918916645757879171 : True := ⟨⟩
theorem tw1497390029959667315 : True := ⟨⟩
theorem tw1497838016179511795 : True := ⟨⟩
theorem tw15024726884917899556 : True := ⟨⟩
theorem tw15059927397667296818 : True := ⟨⟩
theorem tw1512648877645701990 : True := ⟨⟩
theorem tw1513538966759667281 : True := ⟨⟩
theorem tw15148622829355729948 : True := ⟨⟩
theorem tw15171662905753931437 : True := ⟨⟩
theorem tw15176291800934197160 : True := ⟨⟩
theorem tw15179535840710042991 : True := ⟨⟩
theorem tw1520423810713810412 : True := ⟨⟩
theorem tw15222213184823121915 : True := ⟨⟩
theorem tw15259334268386035125 : True := ⟨⟩
theorem tw1528613408200197565 : True := ⟨⟩
theorem tw15288340664698210446 : True := ⟨⟩
theorem tw15301344513061289984 : True := ⟨⟩
theorem tw15493895235470137333 : True := ⟨⟩
theorem tw155321762769013132 : True := ⟨⟩
theorem tw1554742938115290670 : True := ⟨⟩
theorem tw15560190562230359105 : True := ⟨⟩
theorem tw15680537245724489880 : True := ⟨⟩
theorem tw15682991524415659165 : True := ⟨⟩
theorem tw15696695713288878588 : True := ⟨⟩
theorem tw1580161319815560091 : True := ⟨⟩
theorem tw15819490305327745722 : True := ⟨⟩
theorem tw15881285448742840880 : True := ⟨⟩
theorem tw15884326753007009312 : True := ⟨⟩
theorem tw15908819231501280046 : True := ⟨⟩
theorem tw15912765203583532714 : True := ⟨⟩
theorem tw16038107500721231772 : True := ⟨⟩
theorem tw1604597107873706945 : True := ⟨⟩
theorem tw16059266843435823582 : True := ⟨⟩
theorem tw16125094593034289464 : True := ⟨⟩
theorem tw16187619625434053796 : True := ⟨⟩
theorem tw16189320728361529669 : True := ⟨⟩
theorem tw16196123507435130700 : True := ⟨⟩
theorem tw16204650839769504641 : True := ⟨⟩
theorem tw16224833280556042105 : True := ⟨⟩
theorem tw16245916385276877910 : True := ⟨⟩
theorem tw16249698018808323543 : True := ⟨⟩
theorem tw16305858515804385736 : True := ⟨⟩
theorem tw1637025655204756172 : True := ⟨⟩
theorem tw16372697399649534385 : True := ⟨⟩
theorem tw16399948778767579776 : True := ⟨⟩
theorem tw16415491813957945219 : True := ⟨⟩
theorem tw1646456363707801102 : True := ⟨⟩
theorem tw16474758750344068375 : True := ⟨⟩
theorem tw16497083010692876542 : True := ⟨⟩
theorem tw16500254592718454569 : True := ⟨⟩
theorem tw1652862810219830477 : True := ⟨⟩
theorem tw16540493208155947361 : True := ⟨⟩
theorem tw16582208182020529513 : True := ⟨⟩
theorem tw16626592227088852055 : True := ⟨⟩
theorem tw16628241615594693831 : True := ⟨⟩
theorem tw16657742208651951872 : True := ⟨⟩
theorem tw1670841671964749310 : True := ⟨⟩
theorem tw1671504306752140234 : True := ⟨⟩
theorem tw16753907699967225962 : True := ⟨⟩
theorem tw16797451919328066397 : True := ⟨⟩
theorem tw16824076701915431359 : True := ⟨⟩
theorem tw16859423121063744601 : True := ⟨⟩
theorem tw16886762198774902134 : True := ⟨⟩
theorem tw16892122922869255490 : True := ⟨⟩
theorem tw16924475525379441023 : True := ⟨⟩
theorem tw16959948918850233216 : True := ⟨⟩
theorem tw16978206800293858658 : True := ⟨⟩
theorem tw17014593383410748840 : True := ⟨⟩
theorem tw17086429407972389604 : True := ⟨⟩
theorem tw17151557672455625825 : True := ⟨⟩
theorem tw17318193609672646597 : True := ⟨⟩
theorem tw17357503428694466404 : True := ⟨⟩
theorem tw17362204994209113389 : True := ⟨⟩
theorem tw17370591430067971670 : True := ⟨⟩
theorem tw17371337034895803078 : True := ⟨⟩
theorem tw175081693868804391 : True := ⟨⟩
theorem tw17519021728114705008 : True := ⟨⟩
theorem tw17542207014317803263 : True := ⟨⟩
theorem tw17547932872008620836 : True := ⟨⟩
theorem tw17617813680233754114 : True := ⟨⟩
theorem tw1764317789885420059 : True := ⟨⟩
theorem tw17686423354758091137 : True := ⟨⟩
theorem tw17694603856657536084 : True := ⟨⟩
theorem tw17702255314849592596 : True := ⟨⟩
theorem tw1778290440216131518 : True := ⟨⟩
theorem tw17828402420720554077 : True := ⟨⟩
theorem tw17943257562005397639 : True := ⟨⟩
theorem tw18029130221040637202 : True := ⟨⟩
theorem tw18032552925618824325 : True := ⟨⟩
theorem tw18043576023481813602 : True := ⟨⟩
theorem tw18053978185045721980 : True := ⟨⟩
theorem tw18079400070921616002 : True := ⟨⟩
theorem tw18090778860299504409 : True := ⟨⟩
theorem tw18112938644015231988 : True := ⟨⟩
theorem tw18122939179724985452 : True := ⟨⟩
theorem tw18129031103829144446 : True := ⟨⟩
theorem tw18129737382563065738 : True := ⟨⟩
theorem tw18207043302971260223 : True := ⟨⟩
theorem tw18215266043514857331 : True := ⟨⟩
theorem tw182748817935321904 : True := ⟨⟩
theorem tw1831408012380693100 : True := ⟨⟩
theorem tw1840377485049042329 : True := ⟨⟩
theorem tw1870691659361972755 : True := ⟨⟩
theorem tw1884539195385225863 : True := ⟨⟩
theorem tw1950541498515884518 : True := ⟨⟩
theorem tw1960887653740625336 : True := ⟨⟩
theorem tw1976623785689425404 : True := ⟨⟩
theorem tw2089861973426286542 : True := ⟨⟩
theorem tw2100259633958746163 : True := ⟨⟩
theorem tw2103174560551993981 : True := ⟨⟩
theorem tw2128816260236810667 : True := ⟨⟩
theorem tw2198045001670449756 : True := ⟨⟩
theorem tw2275852298176482851 : True := ⟨⟩
theorem tw2284823328510686165 : True := ⟨⟩
theorem tw229436342550940598 : True := ⟨⟩
theorem tw233429828382338430 : True := ⟨⟩
theorem tw2390264118337352557 : True := ⟨⟩
theorem tw2413400787842858288 : True := ⟨⟩
theorem tw249183453006880719 : True := ⟨⟩
theorem tw2537296795555774178 : True := ⟨⟩
theorem tw2544209099893668107 : True := ⟨⟩
theorem tw2553804080639943371 : True := ⟨⟩
theorem tw2555067202890273862 : True := ⟨⟩
theorem tw257618073999068780 : True := ⟨⟩
theorem tw2641303378020874539 : True := ⟨⟩
theorem tw2677354344599497276 : True := ⟨⟩
theorem tw271062780235459585 : True := ⟨⟩
theorem tw2813225441412739769 : True := ⟨⟩
theorem tw2825066108361134509 : True := ⟨⟩
theorem tw2827383082809995584 : True := ⟨⟩
theorem tw2844999485568294808 : True := ⟨⟩
theorem tw2859209105071424128 : True := ⟨⟩
theorem tw2870874966200454978 : True := ⟨⟩
theorem tw2953399187762588803 : True := ⟨⟩
theorem tw3004754157608570406 : True := ⟨⟩
theorem tw3030387178035096632 : True := ⟨⟩
theorem tw3162416566094271181 : True := ⟨⟩
theorem tw3204526009091151965 : True := ⟨⟩
theorem tw3207546863685273008 : True := ⟨⟩
theorem tw3228890647652253139 : True := ⟨⟩
theorem tw3278931812221333740 : True := ⟨⟩
theorem tw3407204557147958017 : True := ⟨⟩
theorem tw3427379124516150145 : True := ⟨⟩
theorem tw3453730886313562023 : True := ⟨⟩
theorem tw3484188560390370588 : True := ⟨⟩
theorem tw3542096346312654764 : True := ⟨⟩
theorem tw3551343862027096252 : True := ⟨⟩
theorem tw3577489661760672375 : True := ⟨⟩
theorem tw3596644607215361114 : True := ⟨⟩
theorem tw3636638645299471922 : True := ⟨⟩
theorem tw3669420954363052430 : True := ⟨⟩
theorem tw3679303344252544906 : True := ⟨⟩
theorem tw3736976767660583322 : True := ⟨⟩
theorem tw3761649436549042248 : True := ⟨⟩
theorem tw3796886312741362906 : True := ⟨⟩
theorem tw3798753782506691821 : True := ⟨⟩
theorem tw3822432553947420999 : True := ⟨⟩
theorem tw3841392844574274029 : True := ⟨⟩
theorem tw3864863964827355404 : True := ⟨⟩
theorem tw3873396707823184973 : True := ⟨⟩
theorem tw3890247799674723518 : True := ⟨⟩
theorem tw3938844407033613895 : True := ⟨⟩
theorem tw3967220043065248915 : True := ⟨⟩
theorem tw4126686057344586837 : True := ⟨⟩
theorem tw4152935977996917269 : True := ⟨⟩
theorem tw4199635002975075932 : True := ⟨⟩
theorem tw4212804576017712499 : True := ⟨⟩
theorem tw4215469190626174473 : True := ⟨⟩
theorem tw4215512991575456775 : True := ⟨⟩
theorem tw4232331908236557468 : True := ⟨⟩
theorem tw4315505234270757116 : True := ⟨⟩
theorem tw4332551717707915284 : True := ⟨⟩
theorem tw434230925474933344 : True := ⟨⟩
theorem tw4350685834668215093 : True := ⟨⟩
theorem tw4383709250183357817 : True := ⟨⟩
theorem tw4405859814624746511 : True := ⟨⟩
theorem tw4424766127266283801 : True := ⟨⟩
theorem tw4432677011497422459 : True := ⟨⟩
theorem tw4442445787657092359 : True := ⟨⟩
theorem tw4448330570653720332 : True := ⟨⟩
theorem tw4490128883387372481 : True := ⟨⟩
theorem tw4523631635035453211 : True := ⟨⟩
theorem tw4556907634284320596 : True := ⟨⟩
theorem tw4671474593568165082 : True := ⟨⟩
theorem tw4696690076377131125 : True := ⟨⟩
theorem tw4732814123191704184 : True := ⟨⟩
theorem tw4800765318688732716 : True := ⟨⟩
theorem tw4919249676452200958 : True := ⟨⟩
theorem tw4947137538491810632 : True := ⟨⟩
theorem tw5002727330396161709 : True := ⟨⟩
theorem tw5051215713216204505 : True := ⟨⟩
theorem tw511671748007221042 : True := ⟨⟩
theorem tw5171498443505689304 : True := ⟨⟩
theorem tw5210504621767139895 : True := ⟨⟩
theorem tw5233592453240956136 : True := ⟨⟩
theorem tw5239560510783211568 : True := ⟨⟩
theorem tw5285812444262686216 : True := ⟨⟩
theorem tw5303961782369407519 : True := ⟨⟩
theorem tw5359844944286670810 : True := ⟨⟩
theorem tw5417056930856635750 : True := ⟨⟩
theorem tw5440139928029273927 : True := ⟨⟩
theorem tw545086744681827281 : True := ⟨⟩
theorem tw547808433624814271 : True := ⟨⟩
theorem tw558976746102184256 : True := ⟨⟩
theorem tw5595935768144783260 : True := ⟨⟩
theorem tw5643439396281850611 : True := ⟨⟩
theorem tw5723682579805586835 : True := ⟨⟩
theorem tw5839058340206950923 : True := ⟨⟩
theorem tw5899930592465369505 : True := ⟨⟩
theorem tw5979963669452722130 : True := ⟨⟩
theorem tw6006850177742738697 : True := ⟨⟩
theorem tw6111701946066854570 : True := ⟨⟩
theorem tw6118909497822427860 : True := ⟨⟩
theorem tw6126368936075722244 : True := ⟨⟩
theorem tw6134080078012190976 : True := ⟨⟩
theorem tw6138903014601446577 : True := ⟨⟩
theorem tw6205033933784174048 : True := ⟨⟩
theorem tw6239521588336241521 : True := ⟨⟩
theorem tw6241463371926678568 : True := ⟨⟩
theorem tw6249158793896232984 : True := ⟨⟩
theorem tw6295951495972931149 : True := ⟨⟩
theorem tw6297879850366313210 : True := ⟨⟩
theorem tw6351434753709800933 : True := ⟨⟩
theorem tw635892166551142297 : True := ⟨⟩
theorem tw6372227767925747490 : True := ⟨⟩
theorem tw6426133251854022657 : True := ⟨⟩
theorem tw64394414977323692 : True := ⟨⟩
theorem tw6455927735503395590 : True := ⟨⟩
theorem tw6495433416535817214 : True := ⟨⟩
theorem tw6525519062025567543 : True := ⟨⟩
theorem tw6591756233006499935 : True := ⟨⟩
theorem tw6638324869764054801 : True := ⟨⟩
theorem tw6706142025635075329 : True := ⟨⟩
theorem tw6761652836768008642 : True := ⟨⟩
theorem tw6765703546626388495 : True := ⟨⟩
theorem tw6788832955645039527 : True := ⟨⟩
theorem tw6807298606070667113 : True := ⟨⟩
theorem tw6815876432604584816 : True := ⟨⟩
theorem tw6824945991845927073 : True := ⟨⟩
theorem tw6918007559357322375 : True := ⟨⟩
theorem tw6931204672639450616 : True := ⟨⟩
theorem tw6966920852813695512 : True := ⟨⟩
theorem tw696973216605502281 : True := ⟨⟩
theorem tw698582791732320590 : True := ⟨⟩
theorem tw6986914837013863962 : True := ⟨⟩
theorem tw7002132207139436282 : True := ⟨⟩
theorem tw7005061235143135693 : True := ⟨⟩
theorem tw7080367213903696843 : True := ⟨⟩
theorem tw7099709468127728108 : True := ⟨⟩
theorem tw7104763032418433292 : True := ⟨⟩
theorem tw7120798732791151256 : True := ⟨⟩
theorem tw7178962137770871519 : True := ⟨⟩
theorem tw7203138746642929662 : True := ⟨⟩
theorem tw7242753184694828582 : True := ⟨⟩
theorem tw7262644507073071300 : True := ⟨⟩
theorem tw7298194071072991440 : True := ⟨⟩
theorem tw7300915777068941216 : True := ⟨⟩
theorem tw7330938961926501136 : True := ⟨⟩
theorem tw7346213737993131501 : True := ⟨⟩
theorem tw7360064390137362994 : True := ⟨⟩
theorem tw7390927824793748849 : True := ⟨⟩
theorem tw7503106595192594338 : True := ⟨⟩
theorem tw7513874122150256570 : True := ⟨⟩
theorem tw7627871476134772167 : True := ⟨⟩
theorem tw7702431158065594619 : True := ⟨⟩
theorem tw7710529238857763324 : True := ⟨⟩
theorem tw77155045151891767 : True := ⟨⟩
theorem tw7725592605809018306 : True := ⟨⟩
theorem tw7803179011158008884 : True := ⟨⟩
theorem tw7821072813410191183 : True := ⟨⟩
theorem tw7838524724405856851 : True := ⟨⟩
theorem tw7934544047297634190 : True := ⟨⟩
theorem tw7943815635650626858 : True := ⟨⟩
theorem tw7979460972513839841 : True := ⟨⟩
theorem tw8070813844174363732 : True := ⟨⟩
theorem tw8104777900769394564 : True := ⟨⟩
theorem tw8153418721419078552 : True := ⟨⟩
theorem tw8184333527935101603 : True := ⟨⟩
theorem tw8196342219462866803 : True := ⟨⟩
theorem tw8295752278211790419 : True := ⟨⟩
theorem tw8302918285202276742 : True := ⟨⟩
theorem tw8316881779697671929 : True := ⟨⟩
theorem tw8384504146837926632 : True := ⟨⟩
theorem tw8611229146248492088 : True := ⟨⟩
theorem tw8696775230274106473 : True := ⟨⟩
theorem tw875911476699940837 : True := ⟨⟩
theorem tw8783119275069204639 : True := ⟨⟩
theorem tw8791657322663834558 : True := ⟨⟩
theorem tw8852452506288169801 : True := ⟨⟩
theorem tw8859897363001947020 : True := ⟨⟩
theorem tw8883769160927309236 : True := ⟨⟩
theorem tw8935944614452366345 : True := ⟨⟩
theorem tw8968634234985858174 : True := ⟨⟩
theorem tw8969502003850984908 : True := ⟨⟩
theorem tw9048974753272704932 : True := ⟨⟩
theorem tw9084123521611398953 : True := ⟨⟩
theorem tw9109785614948343766 : True := ⟨⟩
theorem tw9180616153312797025 : True := ⟨⟩
theorem tw9316640162895593589 : True := ⟨⟩
theorem tw9456830210474581064 : True := ⟨⟩
theorem tw946562733378961239 : True := ⟨⟩
theorem tw9476381484041962097 : True := ⟨⟩
theorem tw948398531423459582 : True := ⟨⟩
theorem tw9487085501870357806 : True := ⟨⟩
theorem tw9516462675205682234 : True := ⟨⟩
theorem tw9536673260842479511 : True := ⟨⟩
theorem tw9716965517237923421 : True := ⟨⟩
theorem tw9739256691457689823 : True := ⟨⟩
theorem tw975125042789646610 : True := ⟨⟩
theorem tw9757705465518413956 : True := ⟨⟩
theorem tw9759158699244699238 : True := ⟨⟩
theorem tw984195831564815458 : True := ⟨⟩
theorem tw9891498129404000339 : True := ⟨⟩
theorem tw9906482893121172777 : True := ⟨⟩
theorem tw9919227410532572003 : True := ⟨⟩
theorem tw9923505154087820012 : True := ⟨⟩
end PySem.W.Fast
open PySem PySem.W PyProof.Rows
set_option maxHeartbeats 0 in
theorem PySem.Challenge.cw_midwindow_k92_desk_by_names_holds : PySem.Challenge.rw_midwindow_k92_desk_by_names.Holds := by
  w_on; o_law; k_head; (case hw => w_witness2)
  k_fill
  refine L2.walk_df (l := PySem.Challenge.rw_midwindow_k92_desk_by_names) (k := 6) (st := Mw.s_law) rfl rfl rfl ⟨rfl, by decide, by decide⟩ (fun w h Y => PySem.W.kIn_of Y) (fun _ _ _ _ _ _ _ => rfl) ?F
  case F =>
    intro w mg h KX G
    have T : ∃ C, Mw.Txt (L2.KOf KX) mg C := by
      dsimp only [L2.KOf]
      refine' ⟨_, Mw.txt_mk KX G ?a_is_number ?l_is_number ?c_is_number ?k_is_number ?a_is_cell ?l_is_cell ?c_is_cell ?k_is_cell ?a_cell_read ?l_cell_read ?c_cell_read ?k_cell_read ?a_cell_shown ?l_cell_shown ?c_cell_shown ?k_cell_shown ?a_read_rows ?l_read_rows ?c_read_rows ?k_read_rows ?a_row_shown ?l_row_shown ?c_row_shown ?k_row_shown ?a_without_holes ?l_without_holes ?c_without_holes ?k_without_holes ?a_are_within ?l_are_within ?c_are_within ?k_are_within ?a_numbers_asked ?l_numbers_asked ?c_numbers_asked ?k_numbers_asked ?a_field_asked ?l_field_asked ?c_field_asked ?k_field_asked ?a_lines_of ?l_lines_of ?c_lines_of ?k_lines_of ?a_law ?l_law ?c_law ?k_law ?a_HOLE ?r_HOLE ?a_FIGURES ?r_FIGURES ?a_MOST_NUMBER ?r_MOST_NUMBER ?a_MOST_LENGTH ?r_MOST_LENGTH ?a_FIELD_AHEAD ?r_FIELD_AHEAD ?a_CHANGES ?l_CHANGES ?r_CHANGES ?w_CHANGES ?aC ?pg ?hd ?po ?sa ?mkC ?kc ?na_field ?na_rule ?na_share ?na_window ?a_Desk_init ?i_Desk_init ?l_Desk_init ?c_Desk_init ?k_Desk_init ?a_Desk_ask ?i_Desk_ask ?l_Desk_ask ?c_Desk_ask ?k_Desk_ask ?a_Desk_lines_told ?i_Desk_lines_told ?l_Desk_lines_told ?c_Desk_lines_told ?k_Desk_lines_told ?z_len ?z_sum ?z_all ?z_tuple ?z_int ?z_str ?z_enumerate⟩
      (case a_is_number => k_is)
      (case l_is_number => k_is)
      (case c_is_number => k_is)
      (case k_is_number => k_is)
      (case a_is_cell => k_is)
      (case l_is_cell => k_is)
      (case c_is_cell => k_is)
      (case k_is_cell => k_is)
      (case a_cell_read => k_is)
      (case l_cell_read => k_is)
      (case c_cell_read => k_is)
      (case k_cell_read => k_is)
      (case a_cell_shown => k_is)
      (case l_cell_shown => k_is)
      (case c_cell_shown => k_is)
      (case k_cell_shown => k_is)
      (case a_read_rows => k_is)
      (case l_read_rows => k_is)
      (case c_read_rows => k_is)
      (case k_read_rows => k_is)
      (case a_row_shown => k_is)
      (case l_row_shown => k_is)
      (case c_row_shown => k_is)
      (case k_row_shown => k_is)
      (case a_without_holes => k_is)
      (case l_without_holes => k_is)
      (case c_without_holes => k_is)
      (case k_without_holes => k_is)
      (case a_are_within => k_is)
      (case l_are_within => k_is)
      (case c_are_within => k_is)
      (case k_are_within => k_is)
      (case a_numbers_asked => k_is)
      (case l_numbers_asked => k_is)
      (case c_numbers_asked => k_is)
      (case k_numbers_asked => k_is)
      (case a_field_asked => k_is)
      (case l_field_asked => k_is)
      (case c_field_asked => k_is)
      (case k_field_asked => k_is)
      (case a_lines_of => k_is)
      (case l_lines_of => k_is)
      (case c_lines_of => k_is)
      (case k_lines_of => k_is)
      (case a_law => k_is)
      (case l_law => k_is)
      (case c_law => k_is)
      (case k_law => k_is)
      (case a_HOLE => k_is)
      (case r_HOLE => exact ⟨_, rfl⟩)
      (case a_FIGURES => k_is)
      (case r_FIGURES => exact ⟨_, rfl⟩)
      (case a_MOST_NUMBER => k_is)
      (case r_MOST_NUMBER => exact ⟨_, rfl⟩)
      (case a_MOST_LENGTH => k_is)
      (case r_MOST_LENGTH => exact ⟨_, rfl⟩)
      (case a_FIELD_AHEAD => k_is)
      (case r_FIELD_AHEAD => exact ⟨_, rfl⟩)
      (case a_CHANGES => k_is)
      (case l_CHANGES => k_is)
      (case r_CHANGES => exact .cons ⟨_, rfl⟩ (.cons ⟨_, rfl⟩ (.cons ⟨_, rfl⟩ (.cons ⟨_, rfl⟩ (.cons ⟨_, rfl⟩ (.nil))))))
      (case w_CHANGES => decide)
      (case aC => k_is)
      (case pg => k_is)
      (case hd => k_is)
      (case po => k_is)
      (case sa => k_is)
      (case mkC => k_is)
      (case kc => k_is)
      (case na_field => k_is)
      (case na_rule => k_is)
      (case na_share => k_is)
      (case na_window => k_is)
      (case a_Desk_init => k_is)
      (case i_Desk_init => k_is)
      (case l_Desk_init => k_is)
      (case c_Desk_init => k_is)
      (case k_Desk_init => k_is)
      (case a_Desk_ask => k_is)
      (case i_Desk_ask => k_is)
      (case l_Desk_ask => k_is)
      (case c_Desk_ask => k_is)
      (case k_Desk_ask => k_is)
      (case a_Desk_lines_told => k_is)
      (case i_Desk_lines_told => k_is)
      (case l_Desk_lines_told => k_is)
      (case c_Desk_lines_told => k_is)
      (case k_Desk_lines_told => k_is)
      (case z_len => k_is)
      (case z_sum => k_is)
      (case z_all => k_is)
      (case z_tuple => k_is)
      (case z_int => k_is)
      (case z_str => k_is)
      (case z_enumerate => k_is)
    obtain ⟨C, T⟩ := T
    exact ⟨T.d_law, fun base => Mw.df_law T⟩
