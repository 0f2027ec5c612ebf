import PyProof.Rows.All
import Wide.All
import OpenK.AllK
import Wide.FinOn
import Lean
import PyProof.EqAt
import PyProof.EqKinds
import PyProof.TupleCall
import KE.LcSums
import PyProof.RulesAs
import PyProof.NsDelKeeps
import PyProof.Rows.Catch
import OpenK.KOwn
import KE.KTryMore
import PyProof.ExcArgs
import KE.KUnpack
import PyProof.P3In
import PyProof.Rows.SortRuns
import PyProof.Rows.SortShell
import PyProof.TupleOfSeq
import PyProof.SetKind
import PyProof.Rows.SetFrom
import PyProof.WalksMore
import PyProof.DictIter
import PyProof.SetRoads
import KE.KDictSum
import KE.KSortedM
import KE.KIntText
import PyProof.StrWalks
import PyProof.EnumMake
import PyProof.EnumStmt
import PyProof.SliceStr2
import PyProof.StrLawsTight
import PyProof.StrLawsChain
import PyProof.ZipIter
import KE.KPairComp
import PyProof.DictItems
import PyProof.DictWalks
import PyProof.SumAny
import KE.KFind
import PyProof.EnumIter
import PyProof.ListMulAny
import PyProof.FactsAll.tuple
import PyProof.P3Eq
import PyProof.TupleKey
import PyProof.FactsAll.NoneType
import PyProof.DictRoadsH
import PyProof.Rows.TupDisplay
import KE.KSortTup
import PyProof.InstStoreFacts
import PyProof.ExcInit
import PyProof.LayNew
import OpenK.KCls
import PySem.Challenge.RW_midwindow_k14_tally_refused
set_option Elab.async false
set_option linter.all false
set_option maxRecDepth 100000
set_option maxHeartbeats 4000000
namespace L2
open PySem PySem.Spec PyProof.Rows
abbrev Key := Sum Int Str
def keyIs : Key → Value → Bool
  | .inl k, v => Value.isInt k v
  | .inr x, v => Value.isStrOf x v
def keyH (w : World) : Key → Int
  | .inl k => hashInt k
  | .inr x => hashStr w x
theorem keyIs_shape : ∀ {k : Key} {v : Value}, keyIs k v = true → (∃ i t, k = Sum.inl i ∧ v = Value.int i t) ∨ (∃ x t, k = Sum.inr x ∧ v = Value.str x t)
  | .inl i, v, h => by
    obtain ⟨t, e⟩ := Value.isInt_shape (k := i) (v := v) h
    exact .inl ⟨i, t, rfl, e⟩
  | .inr x, v, h => by
    obtain ⟨t, e⟩ := Value.isStrOf_shape (x := x) (v := v) h
    exact .inr ⟨x, t, rfl, e⟩
theorem keyIs_int (i : Int) (t : Tok) : keyIs (.inl i) (.int i t) = true := by simp [keyIs, Value.isInt]
theorem keyIs_str (x : Str) (t : Tok) : keyIs (.inr x) (.str x t) = true := by simp [keyIs, Value.isStrOf]
theorem key_ll (a b : Int) : decide ((Sum.inl a : Key) = Sum.inl b) = (a == b) := by
  by_cases e : a = b
  · subst e; simp
  · have h : ¬ (Sum.inl a : Key) = Sum.inl b := fun q => e (Sum.inl.inj q)
    rw [decide_eq_false h]
    exact (beq_eq_false_iff_ne.mpr e).symm
theorem key_rr (a b : Str) : decide ((Sum.inr a : Key) = Sum.inr b) = decide (a = b) := by
  by_cases e : a = b
  · subst e; simp
  · have h : ¬ (Sum.inr a : Key) = Sum.inr b := fun q => e (Sum.inr.inj q)
    rw [decide_eq_false h, decide_eq_false e]
theorem key_lr (a : Int) (b : Str) : decide ((Sum.inl a : Key) = Sum.inr b) = false := decide_eq_false (fun q => nomatch q)
theorem key_rl (a : Str) (b : Int) : decide ((Sum.inr a : Key) = Sum.inl b) = false := decide_eq_false (fun q => nomatch q)
def mixKind (prog : Program) (w : World) : PySem.KeyKind prog w Key where
  is := keyIs
  hash := keyH w
  inj := fun v a b ha hb => by
    rcases keyIs_shape ha with ⟨i, t, rfl, rfl⟩ | ⟨x, t, rfl, rfl⟩
    · rcases keyIs_shape hb with ⟨j, u, rfl, e⟩ | ⟨y, u, rfl, e⟩
      · injection e with e1 _; rw [e1]
      · exact nomatch e
    · rcases keyIs_shape hb with ⟨j, u, rfl, e⟩ | ⟨y, u, rfl, e⟩
      · exact nomatch e
      · injection e with e1 _; rw [e1]
  byValue := fun k v h => by
    rcases keyIs_shape h with ⟨i, t, rfl, rfl⟩ | ⟨x, t, rfl, rfl⟩ <;> rfl
  pyHash := fun hv h => by
    rcases keyIs_shape hv with ⟨i, t, rfl, rfl⟩ | ⟨x, t, rfl, rfl⟩
    · exact wpAny_pyHash_int h
    · exact wpAny_pyHash_str h
  eqBool := fun hu hv h => by
    rcases keyIs_shape hu with ⟨i, t, rfl, rfl⟩ | ⟨x, t, rfl, rfl⟩
    · rcases keyIs_shape hv with ⟨j, u, rfl, rfl⟩ | ⟨y, u, rfl, rfl⟩
      · rw [key_ll] at h; exact wpAny_eqBool_int h
      · rw [key_lr] at h; exact SeqAt.EqAt.int_str i t y u _ _ _ _ h
    · rcases keyIs_shape hv with ⟨j, u, rfl, rfl⟩ | ⟨y, u, rfl, rfl⟩
      · rw [key_rl] at h; exact SeqAt.EqAt.str_int x t j u _ _ _ _ h
      · rw [key_rr] at h; exact wpAny_eqBool_str h
  «strs» := fun k x t v h => by
    rcases keyIs_shape h with ⟨i, u, rfl, e⟩ | ⟨y, u, rfl, e⟩
    · exact nomatch e
    · injection e with e1 _
      subst e1
      cases v <;> rfl
theorem mixKind_int (prog : Program) (w : World) (i : Int) (t : Tok) : (mixKind prog w).is (.inl i) (.int i t) = true := keyIs_int i t
theorem mixKind_str (prog : Program) (w : World) (x : Str) (t : Tok) : (mixKind prog w).is (.inr x) (.str x t) = true := keyIs_str x t
end L2
namespace L2
open PySem PySem.Spec PyProof.Rows
inductive V where
  | non | bl (b : Bool) | int (i : Int) | str (x : Str) | byt (b : Array UInt8) | flt (b : UInt64) | ref (a : Addr) | ty (n : String)
  deriving DecidableEq
def RelV : V → Value → Prop
  | .non, u => u = Value.none
  | .bl b, u => u = Value.bool b
  | .int i, u => ∃ t, u = Value.int i t
  | .str x, u => ∃ t, u = Value.str x t
  | .byt b, u => ∃ t, u = Value.bytes b t
  | .flt b, u => ∃ t, u = Value.float b t
  | .ref a, u => u = Value.ref a
  | .ty n, u => u = Value.type n
abbrev Vals : List V → List Value → Prop := Paired RelV
theorem Vals.length {xs : List V} {us : List Value} (r : Vals xs us) : xs.length = us.length := Paired.length r
theorem Vals.get : ∀ {xs : List V} {us : List Value} {i : Nat} {x : V}, Vals xs us → xs[i]? = some x → ∃ u, us[i]? = some u ∧ RelV x u
  | _, _, _, _, .nil, e => by simp at e
  | _, _, 0, _, .cons r _, e => by simp at e; subst e; exact ⟨_, rfl, r⟩
  | _, _, i + 1, x, .cons _ t, e => by
    obtain ⟨u, h1, h2⟩ := Vals.get (i := i) (x := x) t (by simpa using e)
    exact ⟨u, by simpa using h1, h2⟩
theorem Vals.set {x : V} {u : Value} (r : RelV x u) : ∀ {xs : List V} {us : List Value} (i : Nat), Vals xs us → Vals (xs.set i x) (us.set i u)
  | _, _, _, .nil => .nil
  | _, _, 0, .cons _ t => .cons r t
  | _, _, i + 1, .cons q t => .cons q (Vals.set r i t)
theorem Vals.append : ∀ {xs ys : List V} {us ws : List Value}, Vals xs us → Vals ys ws → Vals (xs ++ ys) (us ++ ws)
  | _, _, _, _, .nil, s => s
  | _, _, _, _, .cons r t, s => .cons r (Vals.append t s)
theorem Vals.take : ∀ {xs : List V} {us : List Value} (n : Nat), Vals xs us → Vals (xs.take n) (us.take n)
  | _, _, 0, _ => .nil
  | _, _, _ + 1, .nil => .nil
  | _, _, n + 1, .cons r t => .cons r (Vals.take n t)
theorem Vals.drop : ∀ {xs : List V} {us : List Value} (n : Nat), Vals xs us → Vals (xs.drop n) (us.drop n)
  | _, _, 0, r => r
  | _, _, _ + 1, .nil => .nil
  | _, _, n + 1, .cons _ t => Vals.drop n t
def RelO : Option V → Option Value → Prop
  | some v, some u => RelV v u
  | none, none => True
  | _, _ => False
def KV {κ : Type} : List (κ × V) → List (κ × Value) → Prop := Paired fun (p : κ × V) (q : κ × Value) => p.1 = q.1 ∧ RelV p.2 q.2
def kV : Key → V
  | .inl i => .int i
  | .inr x => .str x
inductive HO where
  /-- a list -/
  | lst (xs : List V)
  /-- a tuple (never changes) -/
  | tup (xs : List V)
  /-- a dict whose keys are ints and texts; one whose keys are tuples of ints and texts (the empty one is both) -/
  | dK (kvs : List (Key × V)) | dT (kvs : List (List Key × V))
  /-- a set of ints: its members, its size -/
  | set (S : Int → Bool) (n : Nat)
  /-- an instance of the class at C, its dict at dx, its attributes -/
  | ins (C dx : Addr) (fs : List (Str × V))
  /-- the dict of the instance at x -/
  | own (x : Addr)
  /-- the dict of an exception -/
  | xd (fs : List (Str × V))
  /-- a bound method, f of x -/
  | met (f x : Addr)
  /-- a range object lo, lo + 1, .. below hi -/
  | rng (lo hi : Int)
  /-- a thing that is known to the object (the script; a dict while a loop walks it): read, never written while it is so -/
  | frz (o : Obj) (u : HO)
  /-- a code object's table -/
  | tbl (ps : Array Value)
  /-- any other thing, by what is true of its one object (a def of one's own: SetO a S n := HO.ext fun h => ..) -/
  | ext (φ : Heap → Prop)
abbrev Hp := Addr → Option HO
def upd (H : Hp) (a : Addr) (o : HO) : Hp := fun b => if b = a then some o else H b
theorem upd_same {H : Hp} {a : Addr} {o : HO} : upd H a o a = some o := by unfold upd; rw [if_pos rfl]
theorem upd_ne {H : Hp} {a b : Addr} {o : HO} (h : b ≠ a) : upd H a o b = H b := by unfold upd; rw [if_neg h]
theorem upd_upd {H : Hp} {a : Addr} {o u : HO} : upd (upd H a o) a u = upd H a u := by
  funext b; unfold upd; split <;> rfl
theorem ne_of {H : Hp} {a b : Addr} {o u : HO} (h : H a = some o) (h' : H b = some u) (d : o ≠ u) : a ≠ b := by
  intro e; subst e; rw [h] at h'; exact d (Option.some.inj h')
theorem ne_of_none {H : Hp} {a b : Addr} {o : HO} (h : H a = some o) (h' : H b = none) : a ≠ b := by
  intro e; subst e; rw [h] at h'; cases h'
section
variable (P : Program) (w : World)
def ObjOk (H : Hp) (h : Heap) (a : Addr) : HO → Prop
  | .lst xs => xs.length ≤ sizeLine ∧ ∃ (its : List Value) (n : Nat), Vals xs its ∧ h.get? a = some { cls := .type "list", data := .seq its.toArray n }
  | .tup xs => xs.length ≤ sizeLine ∧ ∃ its : List Value, Vals xs its ∧ IsTup h a its.toArray
  | .dK kvs => kvs.length ≤ sizeLine ∧ (a == sysModules) = false ∧ ∃ vs, KV kvs vs ∧ h.DictOf (mixKind P w) a vs
  | .dT kvs => kvs.length ≤ sizeLine ∧ (a == sysModules) = false ∧ ∃ xs : List (List Key × Addr × Value),
      Paired (fun (p : List Key × V) (q : List Key × Addr × Value) => p.1 = q.1 ∧ H q.2.1 = some (.tup (p.1.map kV)) ∧ RelV p.2 q.2.2) kvs xs ∧
      ∃ o es ep, h.get? a = some o ∧ o.ExactDict ∧ o.data = .dict es ep ∧ es.toList = xs.map (entryOfKey (tupleKind (mixKind P w))) ∧ (xs.map (·.1)).Nodup
  | .set S n => h.SetOf (intKind P w) a S n
  | .ins C dx fs => H dx = some (.own a) ∧ fs.length ≤ 1000 ∧ dx ≠ a ∧ h.get? a = some (PySem.W.instObj C dx) ∧
      ∃ mA, h.Ns1 dx mA ∧ (∀ f, RelO (fs.lookup f) (mA f)) ∧ PySem.Within mA (fs.map (·.1))
  | .own _ => ∃ o, h.get? a = some o
  | .xd fs => ∃ mA, h.Ns1 a mA ∧ ∀ f, RelO (fs.lookup f) (mA f)
  | .rng lo hi => ∃ t u v, h.get? a = some { cls := .type "range", data := .fields #[.int lo t, .int hi u, .int 1 v] }
  | .frz o u => h.get? a = some o ∧ ObjOk H h a u
  | .tbl ps => h.get? a = some { cls := .none, data := .fields ps }
  | .met f x => h.get? a = some (PySem.W.methodObj (.ref f) (.ref x))
  | .ext φ => φ h ∧ (∃ o, h.get? a = some o) ∧ ∀ h1 h2 : Heap, φ h1 → (∀ o, h1.get? a = some o → h2.get? a = some o) → φ h2
def HOk (H : Hp) (h : Heap) : Prop := ∀ a o, H a = some o → ObjOk P w H h a o
end
section
variable {P : Program} {w : World} {H H' : Hp} {h h' : Heap} {a : Addr} {o : HO}
theorem ObjOk.lt (x : ObjOk P w H h a o) : a < h.objs.size := by
  cases o with
  | lst xs => obtain ⟨_, _, _, _, e⟩ := x; exact Heap.lt_size e
  | tup xs => obtain ⟨_, _, _, p⟩ := x; exact p.lt
  | dK kvs => obtain ⟨_, _, _, _, o, _, _, e, _⟩ := x; exact Heap.lt_size e
  | dT kvs => obtain ⟨_, _, _, _, o, _, _, e, _⟩ := x; exact Heap.lt_size e
  | set S n => obtain ⟨o, _, _, _, e, _⟩ := x; exact Heap.lt_size e
  | ins C dx fs => obtain ⟨_, _, _, e, _⟩ := x; exact Heap.lt_size e
  | own y => obtain ⟨_, e⟩ := x; exact Heap.lt_size e
  | xd fs => obtain ⟨_, ⟨_, _, _, e, _⟩, _⟩ := x; exact Heap.lt_size e
  | rng lo hi => obtain ⟨_, _, _, e⟩ := x; exact Heap.lt_size e
  | frz ob u => obtain ⟨e, _⟩ := x; exact Heap.lt_size e
  | tbl ps => exact Heap.lt_size (show h.get? a = some _ from x)
  | met f y => exact Heap.lt_size (show h.get? a = some _ from x)
  | ext φ => obtain ⟨_, ⟨_, e⟩, _⟩ := x; exact Heap.lt_size e
theorem Paired.mapP {α β : Type} {F G : α → β → Prop} : ∀ {l₁ : List α} {l₂ : List β}, Paired F l₁ l₂ → (∀ a b, F a b → G a b) → Paired G l₁ l₂
  | _, _, .nil, _ => .nil
  | _, _, .cons r t, f => .cons (f _ _ r) (Paired.mapP t f)
theorem ObjOk.stay (x : ObjOk P w H h a o) (k : ∀ b u, (b = a ∨ H b = some (.own a)) → h.get? b = some u → h'.get? b = some u)
    (ho : ∀ b, H b = some (.own a) → H' b = some (.own a)) (ht : ∀ b xs, H b = some (.tup xs) → H' b = some (.tup xs)) : ObjOk P w H' h' a o := by
  induction o with
  | lst xs => obtain ⟨z, its, n, r, e⟩ := x; exact ⟨z, its, n, r, k _ _ (.inl rfl) e⟩
  | tup xs => obtain ⟨z, its, r, ob, e, c⟩ := x; exact ⟨z, its, r, ob, k _ _ (.inl rfl) e, c⟩
  | dK kvs => obtain ⟨z, y, vs, r, ob, es, ep, e, c⟩ := x; exact ⟨z, y, vs, r, ob, es, ep, k _ _ (.inl rfl) e, c⟩
  | dT kvs =>
    obtain ⟨z, y, xs, r, ob, es, ep, e, c⟩ := x
    exact ⟨z, y, xs, Paired.mapP r fun p q z => ⟨z.1, ht _ _ z.2.1, z.2.2⟩, ob, es, ep, k _ _ (.inl rfl) e, c⟩
  | set S n => obtain ⟨ob, es, ep, t, e, c⟩ := x; exact ⟨ob, es, ep, t, k _ _ (.inl rfl) e, c⟩
  | ins C dx fs =>
    obtain ⟨d, z, ne, e, mA, ⟨od, es, ep, e2, c⟩, r⟩ := x
    exact ⟨ho _ d, z, ne, k _ _ (.inl rfl) e, mA, ⟨od, es, ep, k _ _ (.inr d) e2, c⟩, r⟩
  | own y => obtain ⟨ob, e⟩ := x; exact ⟨ob, k _ _ (.inl rfl) e⟩
  | xd fs => obtain ⟨mA, ⟨od, es, ep, e, c⟩, r⟩ := x; exact ⟨mA, ⟨od, es, ep, k _ _ (.inl rfl) e, c⟩, r⟩
  | rng lo hi => obtain ⟨t, u, v, e⟩ := x; exact ⟨t, u, v, k _ _ (.inl rfl) e⟩
  | frz ob u ih => obtain ⟨e, q⟩ := x; exact ⟨k _ _ (.inl rfl) e, ih q⟩
  | tbl ps =>
    have e : h.get? a = some { cls := .none, data := .fields ps } := x
    show h'.get? a = some { cls := .none, data := .fields ps }
    exact k a _ (.inl rfl) e
  | met f y =>
    have e : h.get? a = some (PySem.W.methodObj (.ref f) (.ref y)) := x
    show h'.get? a = some (PySem.W.methodObj (.ref f) (.ref y))
    exact k a _ (.inl rfl) e
  | ext φ => obtain ⟨p, ⟨o, e⟩, st⟩ := x; exact ⟨st _ _ p fun o q => k _ _ (.inl rfl) q, ⟨o, k _ _ (.inl rfl) e⟩, st⟩
theorem HOk.lt (x : HOk P w H h) (e : H a = some o) : a < h.objs.size := (x a o e).lt
theorem HOk.fresh (x : HOk P w H h) (e : h.objs.size ≤ a) : H a = none := by
  cases q : H a with
  | none => rfl
  | some u => exact absurd (Nat.lt_of_lt_of_le (x.lt q) e) (Nat.lt_irrefl _)
theorem HOk.kept (x : HOk P w H h) (k : ∀ b u, h.get? b = some u → h'.get? b = some u) : HOk P w H h' := fun a o e =>
  (x a o e).stay (fun b u _ q => k b u q) (fun _ q => q) fun _ _ q => q
theorem HOk.laid (x : HOk P w H h) (k : ∀ b u, h.get? b = some u → h'.get? b = some u) (hp : h.objs.size ≤ a) (new : ObjOk P w (upd H a o) h' a o) : HOk P w (upd H a o) h' := fun b u e => by
  have hn := x.fresh hp
  by_cases hb : b = a
  · subst hb; rw [upd_same] at e; cases e; exact new
  · rw [upd_ne hb] at e
    exact (x b u e).stay (fun c v _ q => k c v q) (fun c q => by rw [upd_ne (ne_of_none q hn)]; exact q) fun c xs q => by rw [upd_ne (ne_of_none q hn)]; exact q
end
def Rd (H : Hp) (a : Addr) (u : HO) : Prop := H a = some u ∨ ∃ o, H a = some (.frz o u)
theorem Rd.ok {P : Program} {w : World} {H : Hp} {h : Heap} {a : Addr} {u : HO} (r : Rd H a u) (x : HOk P w H h) : ObjOk P w H h a u := by
  rcases r with r | ⟨o, r⟩
  · exact x a u r
  · obtain ⟨_, q⟩ := x a _ r
    exact q
def Mut : Option HO → Prop
  | some (.lst _) => True
  | some (.dK _) => True
  | some (.dT _) => True
  | some (.set _ _) => True
  | some (.ins _ _ _) => True
  | some (.ext _) => True
  | _ => False
section
variable {P : Program} {w : World} {H : Hp} {h h' : Heap} {x e : Addr} {o' : HO}
theorem HOk.write (ok : HOk P w H h) (mu : Mut (H x)) (he : e = x ∨ H e = some (.own x)) (k : ∀ b u, b ≠ e → h.get? b = some u → h'.get? b = some u) (heo : ∃ u, h'.get? e = some u)
    (new : ObjOk P w (upd H x o') h' x o') : HOk P w (upd H x o') h' := fun b u q => by
  have nown : ∀ c y, H c = some (.own y) → c ≠ x := fun c y r z => by subst z; rw [r] at mu; exact mu
  have ntup : ∀ c xs, H c = some (.tup xs) → c ≠ x := fun c xs r z => by subst z; rw [r] at mu; exact mu
  by_cases hb : b = x
  · subst hb; rw [upd_same] at q; cases q; exact new
  · rw [upd_ne hb] at q
    by_cases hbe : b = e
    · have q' : H b = some (.own x) := by
        rcases he with z | z
        · exact absurd (hbe.trans z) hb
        · rw [hbe]; exact z
      rw [q] at q'; cases q'
      obtain ⟨v, hv⟩ := heo
      exact ⟨v, by rw [hbe]; exact hv⟩
    · refine (ok b u q).stay (fun c v hc r => k c v ?_ r) (fun c r => by rw [upd_ne (nown c b r)]; exact r) fun c xs r => by rw [upd_ne (ntup c xs r)]; exact r
      rcases hc with rfl | hc
      · exact hbe
      · rintro rfl
        rcases he with z | z
        · exact nown c b hc z
        · rw [hc] at z; cases z; exact hb rfl
end
structure Un (fs ex : List Addr) (H H' : Hp) (h h' : Heap) : Prop where
  keep : ∀ b o, h.get? b = some o → H b = none → b ∉ fs → b ∉ ex → h'.get? b = some o
  slot : ∀ b o, h.get? b = some o → H b = none → b ∈ fs → b ∉ ex → ∃ sl, h'.get? b = some { o with slots := sl }
  free : ∀ b o, h.get? b = some o → H b = none → b ∉ ex → H' b = none
  there : ∀ b o, h.get? b = some o → b ∉ ex → ∃ o', h'.get? b = some o'
  tups : ∀ b xs, H b = some (.tup xs) → H' b = some (.tup xs)
  frzs : ∀ b o u, H b = some (.frz o u) → H' b = some (.frz o u)
  tbls : ∀ b ps, H b = some (.tbl ps) → ∃ more, H' b = some (.tbl (ps ++ more))
section
variable {fs fs' ex ex' : List Addr} {H H1 H2 : Hp} {h h1 h2 h' : Heap} {a x e : Addr} {o : HO}
theorem Un.any (u : Un fs ex H H1 h h1) {b : Addr} {ob : Obj} (q : h.get? b = some ob) (n : H b = none) (hx : b ∉ ex) : ∃ sl, h1.get? b = some { ob with slots := sl } := by
  by_cases hb : b ∈ fs
  · exact u.slot b ob q n hb hx
  · exact ⟨ob.slots, u.keep b ob q n hb hx⟩
theorem Un.kept (k : ∀ b u, h.get? b = some u → h'.get? b = some u) : Un fs ex H H h h' :=
  ⟨fun b ob q _ _ _ => k b ob q, fun b ob q _ _ _ => ⟨ob.slots, k b ob q⟩, fun _ _ _ n _ => n, fun b ob q _ => ⟨ob, k b ob q⟩, fun _ _ q => q, fun _ _ _ q => q, fun _ ps q => ⟨#[], by rw [q]; simp⟩⟩
theorem Un.refl : Un fs ex H H h h := Un.kept fun _ _ q => q
theorem Un.laid (k : ∀ b u, h.get? b = some u → h'.get? b = some u) (hp : h.objs.size ≤ a) (hn : H a = none) : Un fs ex H (upd H a o) h h' where
  keep := fun b u q _ _ _ => k b u q
  slot := fun b u q _ _ _ => ⟨u.slots, k b u q⟩
  free := fun b u q n _ => by rw [upd_ne (Nat.ne_of_lt (Nat.lt_of_lt_of_le (Heap.lt_size q) hp))]; exact n
  there := fun b u q _ => ⟨u, k b u q⟩
  tups := fun b xs q => by rw [upd_ne (ne_of_none q hn)]; exact q
  frzs := fun b u xs q => by rw [upd_ne (ne_of_none q hn)]; exact q
  tbls := fun b ps q => ⟨#[], by rw [upd_ne (ne_of_none q hn), q]; simp⟩
theorem Un.write (mu : Mut (H x)) (he : e = x ∨ H e = some (.own x)) (k : ∀ b u, b ≠ e → h.get? b = some u → h'.get? b = some u) (heo : ∃ u, h'.get? e = some u) : Un fs ex H (upd H x o) h h' := by
  have hx : ∀ b, H b = none → b ≠ x := fun b n z => by subst z; rw [n] at mu; exact mu
  have hb : ∀ b, H b = none → b ≠ e := fun b n z => by
    subst z
    rcases he with r | r
    · exact hx b n r
    · rw [n] at r; cases r
  have hm : ∀ b u, H b = some u → ¬ Mut (some u) → b ≠ x := fun b u q nm z => by subst z; rw [q] at mu; exact nm mu
  refine ⟨fun b u q n _ _ => k b u (hb b n) q, fun b u q n _ _ => ⟨u.slots, k b u (hb b n) q⟩, fun b u q n _ => by rw [upd_ne (hx b n)]; exact n, fun b u q _ => ?_,
    fun b xs q => by rw [upd_ne (hm b _ q fun z => z)]; exact q, fun b u xs q => by rw [upd_ne (hm b _ q fun z => z)]; exact q, fun b ps q => ⟨#[], by rw [upd_ne (hm b _ q fun z => z), q]; simp⟩⟩
  by_cases hbe : b = e
  · subst hbe; exact heo
  · exact ⟨u, k b u hbe q⟩
end
def trk (h : Heap) (H : Hp) : List Addr := (List.range h.objs.size).filter fun a => (H a).isSome
def hidT (h : Heap) (H : Hp) : Heap := PySem.W.hideAll h (trk h H)
theorem hidT_size (h : Heap) (H : Hp) : (hidT h H).objs.size = h.objs.size := PySem.W.hideAll_size _ _
theorem hidT_get {h : Heap} {H : Hp} {b : Addr} {o : Obj} (e : h.get? b = some o) (n : H b = none) : (hidT h H).get? b = some o :=
  PySem.W.hideAll_get _ e fun hm => by
    have q : (H b).isSome = true := (List.mem_filter.mp hm).2
    rw [n] at q; simp at q
theorem of_hidT {h : Heap} {H : Hp} {b : Addr} {o : Obj} (e : (hidT h H).get? b = some o) : h.get? b = some o ∧ H b = none := by
  have e' : h.get? b = some o := PySem.W.of_hideAll (trk h H) e
  refine ⟨e', ?_⟩
  cases q : H b with
  | none => rfl
  | some x =>
    have hm : b ∈ trk h H := List.mem_filter.mpr ⟨List.mem_range.mpr (Heap.lt_size e'), by simp [q]⟩
    have z : (hidT h H).get? b = none := PySem.W.hideAll_none (trk h H) hm
    rw [z] at e; cases e
end L2
namespace L2
open PySem PySem.Spec PyProof.Rows
structure Mod (K : PySem.W.Frag) (mg : Str → Option Value) (base : Heap) : Prop where
  kin : K.In base
  glob : base.Ns mainGlobals mg
  blt : ∃ mb, base.Ns builtinsNs mb ∧ ∀ x : Str, x ≠ "__name__" → mb x = bootBuiltins x
  nolimit : base.NoLimit
structure Cx where
  prog : Program
  w : World
  K : PySem.W.Frag
  mg : Str → Option Value
  base : Heap
  A : Around
  N : List Str
  sZ : Shared
  HZ : Hp
  env : Env
  outer : List Env
  stack : List Env
  ex : List Addr
  fn : Str → Bool
  calm : Bool
  pn : List (Addr × Obj)
  xe : Value → Shared → Prop
def frs (l : List Env) : List Addr := l.filterMap (·.frame)
abbrev Cx.fs (X : Cx) : List Addr := frs X.outer
def Vis (sc : Scope) (x : Str) : Prop := sc.names.lookup x = some .local ∨ sc.names.lookup x = some .cell ∨ sc.names.lookup x = some .free
def Loc (sc : Scope) (x : Str) : Prop := sc.names.lookup x = some .local ∨ sc.names.lookup x = some .cell
def Look (env : Env) (h : Heap) (m : Str → Option Value) (x : Str) (u : Value) : Prop :=
  (env.kindOf x = some .local ∧ m x = some u) ∨ ((env.kindOf x = some .cell ∨ env.kindOf x = some .free) ∧ ∃ c, env.cells.lookup x = some c ∧ h.IsCell c (some u))
structure Cx.Ok (X : Cx) : Prop where
  mod : Mod X.K X.mg X.base
  kind : X.env.scope.kind = .function
  glob : X.env.globals = mainGlobals
  blt : X.env.builtins = builtinsNs
  above : X.sZ.heap.objs.size ≤ X.env.locals
  inj : ∀ x y c, X.env.cells.lookup x = some c → X.env.cells.lookup y = some c → x = y
  has : ∀ x, (X.env.kindOf x = some .cell ∨ X.env.kindOf x = some .free) → ∃ c, X.env.cells.lookup x = some c
  cab : ∀ x c, X.fn x = true → X.env.cells.lookup x = some c → X.sZ.heap.objs.size ≤ c
  hd : X.calm = true → X.A.handled = none
  frames : X.A.frames = some X.stack
  stk : X.stack = X.outer ∨ (X.stack = X.env :: X.outer ∧ X.env.frame = some X.env.locals)
  exf : ∀ b ∈ X.ex, b ≠ X.env.locals ∧ ∀ x c, X.env.cells.lookup x = some c → c ≠ b
  bs : ∀ b o, X.base.get? b = some o → X.sZ.heap.get? b = some o ∧ X.HZ b = none
  bsz : X.base.objs.size ≤ X.sZ.heap.objs.size
  noex : ∀ b o, X.base.get? b = some o → b ∉ X.ex
  exfs : ∀ b ∈ X.ex, b ∉ X.fs
  funs : X.sZ.heap.FunFrames X.base X.outer
  frf : ∀ b ∈ X.fs, X.HZ b = none
structure Inv (X : Cx) (pins : List (Addr × Obj)) (σ : List (Option V)) (H : Hp) (s : Shared) : Prop where
  ok : X.Ok
  os : s.os = X.sZ.os
  bare : AllBare s.gens
  base : Un X.fs X.ex X.HZ H X.sZ.heap s.heap
  loc : ∃ m, s.heap.Ns X.env.locals m ∧ ∀ (i : Nat) (x : Str) (v : V), X.N[i]? = some x → σ[i]? = some (some v) → Vis X.env.scope x → ∃ u, RelV v u ∧ Look X.env s.heap m x u
  cell : ∀ x c, X.env.cells.lookup x = some c → ∃ v, s.heap.IsCell c v
  free : H X.env.locals = none
  freeC : ∀ x c, X.env.cells.lookup x = some c → H c = none
  pin : ∀ p ∈ X.pn ++ pins, s.heap.get? p.1 = some p.2 ∧ H p.1 = none ∧ p.1 ≠ X.env.locals ∧ p.1 ∉ X.fs ∧ ∀ v, p.2.data ≠ .cell v
  hok : HOk X.prog X.w H s.heap
  len : σ.length = X.N.length
section
variable {X : Cx} {pins : List (Addr × Obj)} {σ : List (Option V)} {H H' : Hp} {s : Shared} {h' : Heap}
theorem Cx.Ok.nofr (ok : X.Ok) {b : Addr} {o : Obj} (e : X.base.get? b = some o) : b ∉ X.fs := fun hb => by
  have := (ok.funs.mem hb).1
  rw [e] at this; cases this
theorem Inv.bs (I : Inv X pins σ H s) : ∀ b o, X.base.get? b = some o → s.heap.get? b = some o ∧ H b = none := fun b o e =>
  ⟨I.base.keep b o (I.ok.bs b o e).1 (I.ok.bs b o e).2 (I.ok.nofr e) (I.ok.noex b o e), I.base.free b o (I.ok.bs b o e).1 (I.ok.bs b o e).2 (I.ok.noex b o e)⟩
theorem Inv.bk (I : Inv X pins σ H s) : ∀ b o, X.base.get? b = some o → s.heap.get? b = some o := fun b o e => (I.bs b o e).1
theorem Inv.mod (I : Inv X pins σ H s) : Mod X.K X.mg X.base := I.ok.mod
theorem Inv.kIn (I : Inv X pins σ H s) : X.K.In s.heap := I.ok.mod.kin.keeps I.bk
theorem Inv.fr (I : Inv X pins σ H s) : ∃ m, Fr X.base X.env.locals s.heap m :=
  let ⟨m, hn, _⟩ := I.loc
  ⟨m, hn, I.bk, Nat.le_trans I.ok.bsz I.ok.above⟩
theorem Inv.lt (I : Inv X pins σ H s) : X.env.locals < s.heap.objs.size := let ⟨_, hn, _⟩ := I.loc; hn.lt
theorem Inv.sz (I : Inv X pins σ H s) : X.sZ.heap.objs.size ≤ s.heap.objs.size := Nat.le_trans I.ok.above (Nat.le_of_lt I.lt)
theorem Inv.nofs (I : Inv X pins σ H s) {a : Addr} (h : s.heap.objs.size ≤ a) : a ∉ X.fs := fun hb => by
  obtain ⟨_, o, ho, _⟩ := I.ok.funs.mem hb
  exact absurd (Nat.lt_of_lt_of_le (Heap.lt_size ho) (Nat.le_trans I.sz h)) (Nat.lt_irrefl _)
theorem Inv.cne (I : Inv X pins σ H s) : ∀ x c, X.env.cells.lookup x = some c → c ≠ X.env.locals := fun x c e z => by
  obtain ⟨v, o, ho, hd⟩ := I.cell x c e
  obtain ⟨m, ⟨o', es, ep, ho', hd', _⟩, _⟩ := I.loc
  rw [z, ho'] at ho; cases ho; rw [hd'] at hd; cases hd
theorem Inv.funs (I : Inv X pins σ H s) : s.heap.FunFrames X.base X.outer := by
  have all : ∀ (l : List Env), (∀ b ∈ frs l, b ∈ X.fs) → X.sZ.heap.FunFrames X.base l → s.heap.FunFrames X.base l := by
    intro l
    induction l with
    | nil => intro _ _; trivial
    | cons env r ih =>
      intro hs hl
      obtain ⟨hk, ⟨L, o, hf, hn, ho, hd⟩, hr⟩ := hl
      have hL : L ∈ X.fs := hs L (by unfold frs; rw [List.filterMap_cons, hf]; exact List.mem_cons_self)
      obtain ⟨sl, e⟩ := I.base.slot L o ho (I.ok.frf L hL) hL fun z => I.ok.exfs L z hL
      exact ⟨hk, ⟨L, _, hf, hn, e, hd⟩, ih (fun b hb => hs b (by unfold frs; rw [List.filterMap_cons, hf]; exact List.mem_cons_of_mem _ hb)) hr⟩
  exact all X.outer (fun _ hb => hb) I.ok.funs
theorem Inv.stack (I : Inv X pins σ H s) : s.heap.FunFrames X.base X.stack := by
  rcases I.ok.stk with e | ⟨e, hf⟩
  · rw [e]; exact I.funs
  · rw [e]
    obtain ⟨m, hn, _⟩ := I.loc
    refine .cons (by rw [I.ok.kind]; decide) hf hn ?_ I.funs
    exact Heap.get?_none_of_le (Nat.le_trans I.ok.bsz I.ok.above)
theorem Inv.stkSub (I : Inv X pins σ H s) : ∀ b ∈ frs X.stack, b ∈ X.env.locals :: X.fs := fun b hb => by
  rcases I.ok.stk with e | ⟨e, hf⟩
  · rw [e] at hb; exact List.mem_cons_of_mem _ hb
  · rw [e] at hb
    unfold frs at hb
    rw [List.filterMap_cons, hf] at hb
    exact hb
theorem Inv.stkFree (I : Inv X pins σ H s) : ∀ b ∈ frs X.stack, H b = none := fun b hb => by
  rcases List.mem_cons.mp (I.stkSub b hb) with e | hb
  · rw [e]; exact I.free
  · obtain ⟨_, o, ho, _⟩ := I.ok.funs.mem hb
    exact I.base.free b o ho (I.ok.frf b hb) fun z => I.ok.exfs b z hb
theorem Inv.step {g' : Array GenState} {t' : Nat} {d' : Drawn} {ch : List Addr} (I : Inv X pins σ H s)
    (hch : ∀ b ∈ ch, (b ∈ X.ex ∨ X.sZ.heap.objs.size ≤ b) ∧ b ≠ X.env.locals ∧ (∀ x c, X.env.cells.lookup x = some c → c ≠ b) ∧ ∀ p ∈ X.pn ++ pins, p.1 ≠ b)
    (keep : ∀ b o, b ≠ X.env.locals → b ∉ X.fs → b ∉ ch → s.heap.get? b = some o → H b = none → h'.get? b = some o)
    (slot : ∀ b o, b ≠ X.env.locals → b ∈ X.fs → b ∉ ch → s.heap.get? b = some o → H b = none → ∃ sl, h'.get? b = some { o with slots := sl }) (free : ∀ b o, b ∉ ch → s.heap.get? b = some o → H b = none → H' b = none)
    (there : ∀ b o, b ∉ ch → s.heap.get? b = some o → ∃ o', h'.get? b = some o')
    (tups : ∀ b xs, H b = some (.tup xs) → H' b = some (.tup xs)) (frzs : ∀ b o u, H b = some (.frz o u) → H' b = some (.frz o u)) (tbls : ∀ b ps, H b = some (.tbl ps) → ∃ more, H' b = some (.tbl (ps ++ more)))
    (ns : ∀ m, s.heap.Ns X.env.locals m → h'.Ns X.env.locals m) (hok : HOk X.prog X.w H' h') (hg : AllBare g') :
    Inv X pins σ H' { s with heap := h', gens := g', drawn := d', toks := t' } := by
  have neL : ∀ b o, X.sZ.heap.get? b = some o → b ≠ X.env.locals := fun b o e => Nat.ne_of_lt (Nat.lt_of_lt_of_le (Heap.lt_size e) I.ok.above)
  have neC : ∀ b o, X.sZ.heap.get? b = some o → b ∉ X.ex → b ∉ ch := fun b o e hx hb => by
    rcases (hch b hb).1 with z | z
    · exact hx z
    · exact absurd (Nat.lt_of_lt_of_le (Heap.lt_size e) z) (Nat.lt_irrefl _)
  have cellK : ∀ x c, X.env.cells.lookup x = some c → ∀ v, s.heap.IsCell c v → h'.IsCell c v := fun x c e v ⟨o, ho, hd⟩ => by
    have nch : c ∉ ch := fun z => (hch c z).2.2.1 x c e rfl
    by_cases hc : c ∈ X.fs
    · obtain ⟨sl, q⟩ := slot c o (I.cne x c e) hc nch ho (I.freeC x c e)
      exact ⟨_, q, hd⟩
    · exact ⟨o, keep c o (I.cne x c e) hc nch ho (I.freeC x c e), hd⟩
  refine ⟨I.ok, I.os, hg, ⟨fun b o e n hb hx => ?_, fun b o e n hb hx => ?_, fun b o e n hx => ?_, fun b o e hx => ?_, fun b xs e => tups b xs (I.base.tups b xs e), fun b o xs e => frzs b o xs (I.base.frzs b o xs e), fun b ps e => ?_⟩, ?_, fun x c e => ?_, ?_, fun x c e => ?_, fun p hp => ?_, hok, I.len⟩
  · exact keep b o (neL b o e) hb (neC b o e hx) (I.base.keep b o e n hb hx) (I.base.free b o e n hx)
  · obtain ⟨sl, e1⟩ := I.base.slot b o e n hb hx
    obtain ⟨sl', e2⟩ := slot b _ (neL b o e) hb (neC b o e hx) e1 (I.base.free b o e n hx)
    exact ⟨sl', e2⟩
  · obtain ⟨o', e1⟩ := I.base.there b o e hx
    exact free b o' (neC b o e hx) e1 (I.base.free b o e n hx)
  · obtain ⟨o', e1⟩ := I.base.there b o e hx
    exact there b o' (neC b o e hx) e1
  · obtain ⟨m1, e1⟩ := I.base.tbls b ps e
    obtain ⟨m2, e2⟩ := tbls b _ e1
    exact ⟨m1 ++ m2, by rw [e2, Array.append_assoc]⟩
  · obtain ⟨m, hn, hl⟩ := I.loc
    refine ⟨m, ns m hn, fun i x v e1 e2 e3 => ?_⟩
    obtain ⟨u, r, l⟩ := hl i x v e1 e2 e3
    refine ⟨u, r, ?_⟩
    rcases l with l | ⟨k, c, e, z⟩
    · exact .inl l
    · exact .inr ⟨k, c, e, cellK x c e _ z⟩
  · obtain ⟨v, z⟩ := I.cell x c e
    exact ⟨v, cellK x c e v z⟩
  · obtain ⟨m, ⟨o, _, _, ho, _⟩, _⟩ := I.loc
    exact free _ o (fun z => (hch _ z).2.1 rfl) ho I.free
  · obtain ⟨v, o, ho, hd⟩ := I.cell x c e
    exact free c o (fun z => (hch c z).2.2.1 x c e rfl) ho (I.freeC x c e)
  · obtain ⟨e, n, ne, nf, d⟩ := I.pin p hp
    have nch : p.1 ∉ ch := fun z => (hch p.1 z).2.2.2 p hp rfl
    exact ⟨keep p.1 p.2 ne nf nch e n, free p.1 p.2 nch e n, ne, nf, d⟩
theorem Inv.un {t' : Nat} (I : Inv X pins σ H s) (u : Un X.fs [] H H' s.heap h') (hok : HOk X.prog X.w H' h') : Inv X pins σ H' { s with heap := h', toks := t' } := by
  obtain ⟨m, ⟨o, es, ep, ho, r⟩, _⟩ := id I.loc
  obtain ⟨sl, hL⟩ := u.any ho I.free (by simp)
  exact I.step (g' := s.gens) (d' := s.drawn) (ch := []) (fun _ z => nomatch z) (fun b o _ hb _ e n => u.keep b o e n hb (by simp)) (fun b o _ hb _ e n => u.slot b o e n hb (by simp)) (fun b o _ e n => u.free b o e n (by simp)) (fun b o _ e => u.there b o e (by simp)) u.tups u.frzs u.tbls (fun m' hm => by
    obtain ⟨o', es', ep', ho', r'⟩ := hm
    rw [ho] at ho'; cases ho'
    exact ⟨_, es', ep', hL, r'⟩) hok I.bare
theorem Inv.call {g' : Array GenState} {t' : Nat} {d' : Drawn} {ch : List Addr} (I : Inv X pins σ H s) (u : Un (frs X.stack) ch H H' s.heap h') (hok : HOk X.prog X.w H' h') (hg : AllBare g')
    (hch : ∀ b ∈ ch, (b ∈ X.ex ∨ X.sZ.heap.objs.size ≤ b) ∧ b ≠ X.env.locals ∧ (∀ x c, X.env.cells.lookup x = some c → c ≠ b) ∧ ∀ p ∈ X.pn ++ pins, p.1 ≠ b) :
    Inv X pins σ H' { s with heap := h', gens := g', drawn := d', toks := t' } := by
  obtain ⟨m, ⟨o, es, ep, ho, r⟩, _⟩ := id I.loc
  obtain ⟨sl, hL⟩ := u.any ho I.free fun z => (hch _ z).2.1 rfl
  exact I.step (ch := ch) hch (fun b o hL hb hc e n => u.keep b o e n (fun z => (List.mem_cons.mp (I.stkSub b z)).elim hL hb) hc) (fun b o _ _ hc e n => u.any e n hc) (fun b o hc e n => u.free b o e n hc) (fun b o hc e => u.there b o e hc) u.tups u.frzs u.tbls (fun m' hm => by
    obtain ⟨o', es', ep', ho', r'⟩ := hm
    rw [ho] at ho'; cases ho'
    exact ⟨_, es', ep', hL, r'⟩) hok hg
theorem Inv.turned {t' : Nat} {it : Addr} (I : Inv X pins σ H s) (k : ∀ b o, b ≠ it → s.heap.get? b = some o → h'.get? b = some o) (hn : H it = none) (hL : it ≠ X.env.locals)
    (h1 : it ∈ X.ex ∨ X.sZ.heap.objs.size ≤ it) (h2 : ∀ x c, X.env.cells.lookup x = some c → c ≠ it) (h3 : ∀ p ∈ X.pn ++ pins, p.1 ≠ it) : Inv X pins σ H { s with heap := h', toks := t' } := by
  have nit : ∀ b u, H b = some u → b ≠ it := fun b u e z => by rw [z, hn] at e; cases e
  refine I.step (g' := s.gens) (d' := s.drawn) (ch := [it]) (fun b hb => ?_) (fun b o _ _ hc e _ => k b o (fun z => hc (by simp [z])) e) (fun b o _ _ hc e _ => ⟨o.slots, k b o (fun z => hc (by simp [z])) e⟩) (fun _ _ _ _ n => n)
    (fun b o hc e => ⟨o, k b o (fun z => hc (by simp [z])) e⟩) (fun _ _ e => e) (fun _ _ _ e => e) (fun b ps e => ⟨#[], by rw [e]; simp⟩) (fun m hm => ?_) (fun b u e => ?_) I.bare
  · have e : b = it := by simpa using hb
    subst e
    exact ⟨h1, hL, h2, h3⟩
  · obtain ⟨o, es, ep, ho, r⟩ := hm
    exact ⟨o, es, ep, k _ o (Ne.symm hL) ho, r⟩
  · refine (I.hok b u e).stay (fun c v hc q => k c v ?_ q) (fun _ q => q) fun _ _ q => q
    rcases hc with z | z
    · rw [z]; exact nit b u e
    · exact nit c _ z
theorem Inv.tok (I : Inv X pins σ H s) (t : Nat) : Inv X pins σ H { s with toks := t } := I.un (h' := s.heap) (t' := t) Un.refl I.hok
theorem Inv.kept {t' : Nat} (I : Inv X pins σ H s) (k : ∀ b u, s.heap.get? b = some u → h'.get? b = some u) : Inv X pins σ H { s with heap := h', toks := t' } := I.un (Un.kept k) (I.hok.kept k)
theorem Inv.laid {a : Addr} {o : HO} {t' : Nat} (I : Inv X pins σ H s) (k : ∀ b u, s.heap.get? b = some u → h'.get? b = some u) (hp : s.heap.objs.size ≤ a) (new : ObjOk X.prog X.w (upd H a o) h' a o) :
    Inv X pins σ (upd H a o) { s with heap := h', toks := t' } := I.un (Un.laid k hp (I.hok.fresh hp)) (I.hok.laid k hp new)
theorem Inv.write {x e : Addr} {o : HO} {t' : Nat} (I : Inv X pins σ H s) (mu : Mut (H x)) (he : e = x ∨ H e = some (.own x)) (k : ∀ b u, b ≠ e → s.heap.get? b = some u → h'.get? b = some u) (heo : ∃ u, h'.get? e = some u)
    (new : ObjOk X.prog X.w (upd H x o) h' x o) : Inv X pins σ (upd H x o) { s with heap := h', toks := t' } := I.un (Un.write mu he k heo) (I.hok.write mu he k heo new)
theorem Inv.weak {σ' : List (Option V)} (I : Inv X pins σ H s) (hl : σ'.length = σ.length) (w : ∀ (i : Nat) v, σ'[i]? = some (some v) → σ[i]? = some (some v)) : Inv X pins σ' H s :=
  ⟨I.ok, I.os, I.bare, I.base, let ⟨m, hn, hl'⟩ := I.loc; ⟨m, hn, fun i x v e1 e2 e3 => hl' i x v e1 (w i v e2) e3⟩, I.cell, I.free, I.freeC, I.pin, I.hok, hl.trans I.len⟩
theorem Inv.pins_of {pins' : List (Addr × Obj)} (I : Inv X pins σ H s) (h : ∀ p ∈ pins', s.heap.get? p.1 = some p.2 ∧ H p.1 = none ∧ p.1 ≠ X.env.locals ∧ p.1 ∉ X.fs ∧ ∀ v, p.2.data ≠ .cell v) : Inv X pins' σ H s :=
  ⟨I.ok, I.os, I.bare, I.base, I.loc, I.cell, I.free, I.freeC, fun p hp => (List.mem_append.mp hp).elim (fun z => I.pin p (List.mem_append_left _ z)) (h p), I.hok, I.len⟩
theorem nodup_ix {N : List Str} (hN : N.Nodup) {i j : Nat} {x : Str} (a : N[i]? = some x) (b : N[j]? = some x) : i = j := by
  obtain ⟨h1, e1⟩ := List.getElem?_eq_some_iff.mp a
  obtain ⟨h2, e2⟩ := List.getElem?_eq_some_iff.mp b
  exact (List.getElem_inj hN).mp (e1.trans e2.symm)
theorem store_ok2 {M : Model} {A : Around} {E : Value → Shared → Prop} {i : Nat} {x : Str} {v : V} {u : Value} {Q : Unit → Shared → Prop} (I : Inv X pins σ H s) (hN : X.N.Nodup) (hi : X.N[i]? = some x) (hx : Loc X.env.scope x) (r : RelV v u)
    (h : ∀ s', Inv X pins (σ.set i (some v)) H s' → (∃ a, Heap.SameBut a s.heap s'.heap ∧ (a = X.env.locals ∨ X.env.cells.lookup x = some a)) → Q () s') (hf : X.fn x = true ∨ X.env.scope.names.lookup x = some .local := by first | exact .inl rfl | exact .inr rfl | assumption) : wpAny M A (storeName X.env x u) Q E s := by
  obtain ⟨m, hn, hl⟩ := id I.loc
  have hcls : (X.env.scope.kind == .class || (X.env.scope.kind == .module && X.env.locals != X.env.globals)) = false := by rw [I.ok.kind]; rfl
  have hiσ : i < σ.length := by rw [I.len]; exact (List.getElem?_eq_some_iff.mp hi).1
  have cne := I.cne
  have tracked : ∀ {a : Addr} {h' : Heap}, (∃ o, s.heap.get? a = some o ∧ H a = none) → Heap.SameBut a s.heap h' → HOk X.prog X.w H h' := fun {a h'} ha hs b ob e => by
    obtain ⟨_, _, hfree⟩ := ha
    refine (I.hok b ob e).stay (fun c w' hc q => (hs.2 c ?_).trans q) (fun _ q => q) fun _ _ q => q
    rintro rfl
    rcases hc with rfl | hc
    · rw [hfree] at e; cases e
    · rw [hfree] at hc; cases hc
  rcases hx with hk | hk
  · refine wpAny_storeName_local hk hn (fun h' hn' hs => ?_) hcls
    obtain ⟨oL, _, _, hoL, _⟩ := id hn
    refine h _ ⟨I.ok, I.os, I.bare, ⟨fun b o e n hb hx => ?_, fun b o e n hb hx => ?_, I.base.free, fun b o e hx => ?_, I.base.tups, I.base.frzs, I.base.tbls⟩, ⟨_, hn', fun j y v' e1 e2 e3 => ?_⟩, fun y c e => ?_, I.free, I.freeC, fun p hp => ?_, tracked ⟨oL, hoL, I.free⟩ hs, by simpa using I.len⟩ ⟨_, hs, .inl rfl⟩
    · exact (hs.2 b (Nat.ne_of_lt (Nat.lt_of_lt_of_le (Heap.lt_size e) I.ok.above))).trans (I.base.keep b o e n hb hx)
    · obtain ⟨sl, e1⟩ := I.base.slot b o e n hb hx
      exact ⟨sl, (hs.2 b (Nat.ne_of_lt (Nat.lt_of_lt_of_le (Heap.lt_size e) I.ok.above))).trans e1⟩
    · obtain ⟨o', e1⟩ := I.base.there b o e hx
      exact ⟨o', (hs.2 b (Nat.ne_of_lt (Nat.lt_of_lt_of_le (Heap.lt_size e) I.ok.above))).trans e1⟩
    · by_cases hj : j = i
      · subst hj
        rw [hi] at e1; cases e1
        rw [List.getElem?_set_self hiσ] at e2
        cases e2
        exact ⟨u, r, .inl ⟨hk, by simp⟩⟩
      · rw [List.getElem?_set_ne (Ne.symm hj)] at e2
        obtain ⟨u', r', q⟩ := hl j y v' e1 e2 e3
        refine ⟨u', r', ?_⟩
        rcases q with ⟨k, e⟩ | ⟨k, c, e, z⟩
        · refine .inl ⟨k, ?_⟩
          have : y ≠ x := fun e => hj (nodup_ix hN e1 (e ▸ hi))
          simp [this, e]
        · exact .inr ⟨k, c, e, z.sameBut hs (cne y c e)⟩
    · obtain ⟨w', z⟩ := I.cell y c e
      exact ⟨w', z.sameBut hs (cne y c e)⟩
    · obtain ⟨e, n, ne, nf, d⟩ := I.pin p hp
      exact ⟨(hs.2 p.1 ne).trans e, n, ne, nf, d⟩
  · have hfn : X.fn x = true := by
      rcases hf with z | z
      · exact z
      · rw [z] at hk; cases hk
    obtain ⟨c, hc⟩ := I.ok.has x (.inl hk)
    obtain ⟨w', z⟩ := I.cell x c hc
    refine wpAny_storeName_cell I.ok.kind hk hc z (fun h' hc' hs => ?_)
    obtain ⟨oc, hoc, hocd⟩ := id z
    refine h { s with heap := h' } ⟨I.ok, I.os, I.bare, ⟨fun b o e n hb hx => ?_, fun b o e n hb hx => ?_, I.base.free, fun b o e hx => ?_, I.base.tups, I.base.frzs, I.base.tbls⟩, ⟨m, hn.sameBut hs (Ne.symm (cne x c hc)), fun j y v' e1 e2 e3 => ?_⟩, fun y c' e => ?_, I.free, I.freeC, fun p hp => ?_, tracked ⟨oc, hoc, I.freeC x c hc⟩ hs, by simpa using I.len⟩ ⟨c, hs, .inr hc⟩
    · exact (hs.2 b (Nat.ne_of_lt (Nat.lt_of_lt_of_le (Heap.lt_size e) (I.ok.cab x c hfn hc)))).trans (I.base.keep b o e n hb hx)
    · obtain ⟨sl, e1⟩ := I.base.slot b o e n hb hx
      exact ⟨sl, (hs.2 b (Nat.ne_of_lt (Nat.lt_of_lt_of_le (Heap.lt_size e) (I.ok.cab x c hfn hc)))).trans e1⟩
    · obtain ⟨o', e1⟩ := I.base.there b o e hx
      exact ⟨o', (hs.2 b (Nat.ne_of_lt (Nat.lt_of_lt_of_le (Heap.lt_size e) (I.ok.cab x c hfn hc)))).trans e1⟩
    · by_cases hj : j = i
      · subst hj
        rw [hi] at e1; cases e1
        rw [List.getElem?_set_self hiσ] at e2
        cases e2
        exact ⟨u, r, .inr ⟨.inl hk, c, hc, hc'⟩⟩
      · rw [List.getElem?_set_ne (Ne.symm hj)] at e2
        obtain ⟨u', r', q⟩ := hl j y v' e1 e2 e3
        refine ⟨u', r', ?_⟩
        rcases q with q | ⟨k, c', e, z'⟩
        · exact .inl q
        · refine .inr ⟨k, c', e, z'.sameBut hs ?_⟩
          rintro rfl
          exact hj (nodup_ix hN e1 (I.ok.inj _ _ _ e hc ▸ hi))
    · by_cases hcc : c' = c
      · subst hcc; exact ⟨_, hc'⟩
      · obtain ⟨w2, z2⟩ := I.cell y c' e
        exact ⟨w2, z2.sameBut hs hcc⟩
    · obtain ⟨e, n, ne, nf, d⟩ := I.pin p hp
      refine ⟨(hs.2 p.1 ?_).trans e, n, ne, nf, d⟩
      intro q
      rw [q, hoc] at e
      have q' : oc = p.2 := Option.some.inj e
      exact d w' (by rw [← q']; exact hocd)
theorem store_ok {M : Model} {A : Around} {E : Value → Shared → Prop} {i : Nat} {x : Str} {v : V} {u : Value} {Q : Unit → Shared → Prop} (I : Inv X pins σ H s) (hN : X.N.Nodup) (hi : X.N[i]? = some x) (hx : Loc X.env.scope x) (r : RelV v u)
    (h : ∀ s', Inv X pins (σ.set i (some v)) H s' → Q () s') (hf : X.fn x = true ∨ X.env.scope.names.lookup x = some .local := by first | exact .inl rfl | exact .inr rfl | assumption) : wpAny M A (storeName X.env x u) Q E s :=
  store_ok2 I hN hi hx r (fun s' I' _ => h s' I') hf
theorem Inv.call' {s' : Shared} {ch : List Addr} (I : Inv X pins σ H s) (ho : s'.os = s.os) (u : Un (frs X.stack) ch H H' s.heap s'.heap) (hok : HOk X.prog X.w H' s'.heap) (hg : AllBare s'.gens)
    (hch : ∀ b ∈ ch, (b ∈ X.ex ∨ X.sZ.heap.objs.size ≤ b) ∧ b ≠ X.env.locals ∧ (∀ x c, X.env.cells.lookup x = some c → c ≠ b) ∧ ∀ p ∈ X.pn ++ pins, p.1 ≠ b) : Inv X pins σ H' s' := by
  obtain ⟨h', g', d', t', o'⟩ := s'
  have e : o' = s.os := ho
  subst e
  exact I.call (g' := g') (t' := t') (d' := d') u hok hg hch
end
abbrev XK := Value → Option Addr → Hp → Prop
abbrev St := List (Option V)
abbrev VK := V → Hp → Prop
abbrev TE := St → Hp → VK → Prop
abbrev TT := St → Hp → (Bool → Hp → Prop) → Prop
abbrev TA := St → Hp → (List V → Hp → Prop) → Prop
structure Ends where
  nx : St → Hp → Prop
  rt : VK
  bk : St → Hp → Prop := fun _ _ => False
  ct : St → Hp → Prop := fun _ _ => False
abbrev TS := Ends → St → Hp → Prop
def EP (X : Cx) (pins : List (Addr × Obj)) (σ : St) (Q : VK) (u : Value) (s' : Shared) : Prop := ∃ v H', Inv X pins σ H' s' ∧ RelV v u ∧ Q v H'
def TP (X : Cx) (pins : List (Addr × Obj)) (σ : St) (Q : Bool → Hp → Prop) (b : Bool) (s' : Shared) : Prop := ∃ H', Inv X pins σ H' s' ∧ Q b H'
def AP (X : Cx) (pins : List (Addr × Obj)) (σ : St) (Q : List V → Hp → Prop) (us : List Value) (s' : Shared) : Prop := ∃ vs H', Inv X pins σ H' s' ∧ Vals vs us ∧ Q vs H'
def SP (X : Cx) (pins : List (Addr × Obj)) (D : Ends) (f : Flow) (s' : Shared) : Prop :=
  match f with
  | .next => ∃ σ' H', Inv X pins σ' H' s' ∧ D.nx σ' H'
  | .brk => ∃ σ' H', Inv X pins σ' H' s' ∧ D.bk σ' H'
  | .cont => ∃ σ' H', Inv X pins σ' H' s' ∧ D.ct σ' H'
  | .ret u => ∃ v σ' H', Inv X pins σ' H' s' ∧ RelV v u ∧ D.rt v H'
def PE (X : Cx) (e : Expr) (t : TE) : Prop :=
  ∀ (pins : List (Addr × Obj)) (s : Shared) (σ : St) (H : Hp) (Q : VK), Inv X pins σ H s → t σ H Q → wpAny (model X.prog X.w) X.A (eval e X.env) (EP X pins σ Q) X.xe s
def PT (X : Cx) (e : Expr) (t : TT) : Prop :=
  ∀ (pins : List (Addr × Obj)) (s : Shared) (σ : St) (H : Hp) (Q : Bool → Hp → Prop), Inv X pins σ H s → t σ H Q → wpAny (model X.prog X.w) X.A (isTrue e X.env (eval e X.env)) (TP X pins σ Q) X.xe s
def PW (X : Cx) (e : Expr) (t : TT) : Prop :=
  ∀ (whole : Sem Value) (pins : List (Addr × Obj)) (s : Shared) (σ : St) (H : Hp) (Q : Bool → Hp → Prop), Inv X pins σ H s → t σ H Q → wpAny (model X.prog X.w) X.A (isTrue e X.env whole) (TP X pins σ Q) X.xe s
theorem PW.pt {X : Cx} {e : Expr} {t : TT} (h : PW X e t) : PT X e t := h _
def PA (X : Cx) (es : List Expr) (t : TA) : Prop :=
  ∀ (pos : Pos) (pins : List (Addr × Obj)) (s : Shared) (σ : St) (H : Hp) (Q : List V → Hp → Prop), Inv X pins σ H s → t σ H Q → wpAny (model X.prog X.w) X.A (spliced (backTo pos (starEach es X.env))) (AP X pins σ Q) X.xe s
def PS (X : Cx) (st : Stmt) (t : TS) : Prop :=
  ∀ (pins : List (Addr × Obj)) (s : Shared) (σ : St) (H : Hp) (D : Ends), Inv X pins σ H s → t D σ H → wpAny (model X.prog X.w) X.A (exec st X.env) (SP X pins D) X.xe s
def PSs (X : Cx) (st : List Stmt) (t : TS) : Prop :=
  ∀ (pins : List (Addr × Obj)) (s : Shared) (σ : St) (H : Hp) (D : Ends), Inv X pins σ H s → t D σ H → wpAny (model X.prog X.w) X.A (execs st X.env) (SP X pins D) X.xe s
theorem thn {α : Type} {t : Sem α} {Q Q' : α → Shared → Prop} {M : Model} {A : Around} {E : Value → Shared → Prop} {s : Shared} (h : wpAny M A t Q E s) (hQ : ∀ a s, Q a s → Q' a s) : wpAny M A t Q' E s := wpAny_mono h hQ fun _ _ x => x
end L2
namespace L2
open PySem PySem.Spec PyProof.Rows
section
variable {X : Cx}
theorem bin {a b : Expr} {ta tb : TE} (ha : PE X a ta) (hb : PE X b tb) {pins : List (Addr × Obj)} {s : Shared} {σ : St} {H : Hp} {R : V → V → Hp → Prop} (I : Inv X pins σ H s) (h : ta σ H fun x H1 => tb σ H1 fun y H2 => R x y H2)
    {α : Type} {Q : α → Shared → Prop} {f : Value → Value → Sem α}
    (hf : ∀ v u s2 x y H2, Inv X pins σ H2 s2 → RelV x v → RelV y u → R x y H2 → wpAny (model X.prog X.w) X.A (f v u) Q X.xe s2) :
    wpAny (model X.prog X.w) X.A (eval a X.env) (fun v s₁ => wpAny (model X.prog X.w) X.A (eval b X.env) (fun u s₂ => wpAny (model X.prog X.w) X.A (f v u) Q X.xe s₂) X.xe s₁) X.xe s := by
  refine thn (ha pins s σ H _ I h) fun v s1 ⟨x, H1, I1, r1, q1⟩ => ?_
  refine thn (hb pins s1 σ H1 _ I1 q1) fun u s2 ⟨y, H2, I2, r2, q2⟩ => ?_
  exact hf v u s2 x y H2 I2 r1 r2 q2
def tVar (i : Nat) : TE := fun σ H Q => ∃ v, σ[i]? = some (some v) ∧ Q v H
def tC (v : V) : TE := fun _ H Q => Q v H
theorem pe_var {i : Nat} {x : Str} {pos : Pos} (hN : X.N[i]? = some x) (hv : Vis X.env.scope x) (hd : (x == ("__debug__" : Str)) = false := by decide) (hcd : (x == ("__classdict__" : Str)) = false := by decide) : PE X (.Name x pos) (tVar i) := by
  intro pins s σ H Q I h
  obtain ⟨v, e, h⟩ := h
  obtain ⟨m, hn, hl⟩ := I.loc
  obtain ⟨u, r, l⟩ := hl i x v hN e hv
  have fin : EP X pins σ Q u s := ⟨v, H, I, r, h⟩
  rcases l with ⟨hk, hm⟩ | ⟨hk, c, hc, hcell⟩
  · exact wpAny_Name (wpAny_loadName_local I.ok.kind hk hn hm fin) hd
  · rcases hk with hk | hk
    · exact wpAny_Name (wpAny_loadName_cell I.ok.kind hk hc hcell fin) hd
    · exact wpAny_Name (wpAny_loadName_free I.ok.kind hk hc hcell fin hcd) hd
theorem pe_int {i j pos} : PE X (.Constant (.int i) j pos) (tC (.int i)) := fun _ _ _ H _ I h => wpAny_Constant_int ⟨.int i, H, I.tok _, ⟨_, rfl⟩, h⟩
theorem pe_bl {b j pos} : PE X (.Constant (.bool b) j pos) (tC (.bl b)) := fun _ _ _ H _ I h => Constant_bool ⟨.bl b, H, I, rfl, h⟩
theorem pe_non {j pos} : PE X (.Constant .none j pos) (tC .non) := fun _ _ _ H _ I h => Constant_none ⟨.non, H, I, rfl, h⟩
theorem pe_str {x j pos} : PE X (.Constant (.str x) j pos) (tC (.str x)) := fun _ _ _ H _ I h => Calls.Constant_str ⟨.str x, H, I.tok _, ⟨_, rfl⟩, h⟩
def Gl (X : Cx) (x : Str) : Prop := X.env.kindOf x = some .globalImplicit
theorem ld_glob {E : Value → Shared → Prop} {pins : List (Addr × Obj)} {s : Shared} {σ : St} {H : Hp} {x : Str} {u : Value} {pos : Pos} {Q : Value → Shared → Prop} (I : Inv X pins σ H s) (hg : Gl X x) (hm : X.mg x = some u) (h : Q u s)
    (hd : (x == ("__debug__" : Str)) = false := by decide) : wpAny (model X.prog X.w) X.A (eval (.Name x pos) X.env) Q E s :=
  Calls.Name_function_global I.ok.kind hg (Calls.loadGlobal_global (by rw [I.ok.glob]; exact I.mod.glob.keeps I.bk) hm h) hd
theorem ld_blt {E : Value → Shared → Prop} {pins : List (Addr × Obj)} {s : Shared} {σ : St} {H : Hp} {x : Str} {u : Value} {pos : Pos} {Q : Value → Shared → Prop} (I : Inv X pins σ H s) (hg : Gl X x) (hm : X.mg x = none) (hv : bootBuiltins x = some u) (h : Q u s)
    (hn : x ≠ "__name__" := by decide) (hd : (x == ("__debug__" : Str)) = false := by decide) : wpAny (model X.prog X.w) X.A (eval (.Name x pos) X.env) Q E s := by
  obtain ⟨mb, h1, h2⟩ := I.mod.blt
  exact Calls.Name_function_global I.ok.kind hg (Calls.loadGlobal_builtin (by rw [I.ok.glob]; exact I.mod.glob.keeps I.bk) hm (by rw [I.ok.blt]; exact h1.keeps I.bk) ((h2 x hn).trans hv) h) hd
theorem pe_glob {x : Str} {v : V} {u : Value} {pos : Pos} (hg : Gl X x) (hm : X.mg x = some u) (r : RelV v u) (hd : (x == ("__debug__" : Str)) = false := by decide) : PE X (.Name x pos) (tC v) :=
  fun _ _ _ H _ I h => ld_glob I hg hm ⟨v, H, I, r, h⟩ hd
theorem pe_bltn {x : Str} {v : V} {u : Value} {pos : Pos} (hg : Gl X x) (hm : X.mg x = none) (hv : bootBuiltins x = some u) (r : RelV v u) (hn : x ≠ "__name__" := by decide) (hd : (x == ("__debug__" : Str)) = false := by decide) : PE X (.Name x pos) (tC v) :=
  fun _ _ _ H _ I h => ld_blt I hg hm hv ⟨v, H, I, r, h⟩ hn hd
variable {a b : Expr} {ta tb : TE} {pos : Pos}
def PC (X : Cx) (op : CmpOp) (a b : Expr) (t : TE) : Prop :=
  ∀ (pins : List (Addr × Obj)) (s : Shared) (σ : St) (H : Hp) (Q : VK), Inv X pins σ H s → t σ H Q →
    wpAny (model X.prog X.w) X.A (eval a X.env) (fun v s₁ => wpAny (model X.prog X.w) X.A (eval b X.env) (fun u s₂ => wpAny (model X.prog X.w) X.A (compareOp op v u) (EP X pins σ Q) X.xe s₂) X.xe s₁) X.xe s
def tB (t : TE) : TT := fun σ H Q => t σ H fun x H1 => ∃ c, x = .bl c ∧ Q c H1
theorem pt_cmp {op : CmpOp} {t : TE} (h : PC X op a b t) (h1 : behindInMarks op b = false := by first | exact nobehind _ (by decide) (by decide) | rfl) : PT X (.Compare a [op] [b] pos) (tB t) := by
  intro pins s σ H Q I hw
  refine wpAny_isTrue_Compare1 (thn (h pins s σ H _ I hw) fun v s1 h1 => thn h1 fun u s2 h2 => thn h2 fun c s3 ⟨x, H1, I1, r1, q1⟩ => ?_) h1
  obtain ⟨d, rfl, q⟩ := q1
  cases r1
  exact wpAny_truthy_bool ⟨H1, I1, q⟩
theorem pt_val {e : Expr} {t : TE} (h : PE X e t) (he : ∀ whole, isTrue e X.env whole = (do let v ← whole; standAt e.pos; holding [v] (truthy v)) := by intro _; rfl) : PT X e (tB t) := by
  intro pins s σ H Q I hw
  refine isTrue_plain (thn (h pins s σ H _ I hw) fun v s1 ⟨x, H1, I1, r1, q1⟩ => ?_) (he _)
  obtain ⟨d, rfl, q⟩ := q1
  cases r1
  exact wpAny_truthy_bool ⟨H1, I1, q⟩
variable {tA tB' : TT} {rest : List Expr}
def tAnd (t u : TT) : TT := fun σ H Q => t σ H fun c H1 => if c = true then u σ H1 Q else Q false H1
def tOr (t u : TT) : TT := fun σ H Q => t σ H fun c H1 => if c = true then Q true H1 else u σ H1 Q
def tNot (t : TT) : TT := fun σ H Q => t σ H fun c H1 => Q (!c) H1
theorem pw_and1 (ha : PT X a tA) : PW X (.BoolOp .And [a] pos) tA := by
  intro wh pins s σ H Q I h
  refine isTrue_and (thn (ha pins s σ H Q I h) fun c s1 e => ?_)
  cases c with
  | true => exact isTrue_and_nil e
  | false => exact e
theorem pw_or1 (ha : PT X a tA) : PW X (.BoolOp .Or [a] pos) tA := by
  intro wh pins s σ H Q I h
  refine isTrue_or (thn (ha pins s σ H Q I h) fun c s1 e => ?_)
  cases c with
  | false => exact isTrue_or_nil e
  | true => exact e
theorem pw_and (ha : PT X a tA) (hb : PW X (.BoolOp .And (b :: rest) pos) tB') : PW X (.BoolOp .And (a :: b :: rest) pos) (tAnd tA tB') := by
  intro wh pins s σ H Q I h
  refine isTrue_and (thn (ha pins s σ H _ I h) fun c s1 ⟨H1, I1, q1⟩ => ?_)
  cases c with
  | true => exact hb wh pins s1 σ H1 Q I1 q1
  | false => exact ⟨H1, I1, q1⟩
theorem pw_or (ha : PT X a tA) (hb : PW X (.BoolOp .Or (b :: rest) pos) tB') : PW X (.BoolOp .Or (a :: b :: rest) pos) (tOr tA tB') := by
  intro wh pins s σ H Q I h
  refine isTrue_or (thn (ha pins s σ H _ I h) fun c s1 ⟨H1, I1, q1⟩ => ?_)
  cases c with
  | true => exact ⟨H1, I1, q1⟩
  | false => exact hb wh pins s1 σ H1 Q I1 q1
theorem pt_not (ha : PT X a tA) : PT X (.UnaryOp .Not a pos) (tNot tA) := by
  intro pins s σ H Q I h
  exact isTrue_not (ha pins s σ H (fun c H1 => Q (!c) H1) I h)
def tAndV (ta tb : TE) : TE := fun σ H Q => ta σ H fun x H1 => ∃ c, x = .bl c ∧ if c = true then tb σ H1 Q else Q (.bl false) H1
def tNotV (ta : TE) : TE := fun σ H Q => ta σ H fun x H1 => ∃ c, x = .bl c ∧ Q (.bl (!c)) H1
theorem pe_one {op} {t : TE} (h : PE X a t) : PE X (.BoolOp op [a] pos) t := fun pins s σ H Q I hw => BoolOp_one (h pins s σ H Q I hw)
theorem pe_and (ha : PE X a ta) (hb : PE X (.BoolOp .And (b :: rest) pos) tb) : PE X (.BoolOp .And (a :: b :: rest) pos) (tAndV ta tb) := by
  intro pins s σ H Q I h
  refine BoolOp_and (thn (ha pins s σ H _ I h) fun v s1 ⟨x, H1, I1, r1, q1⟩ => ?_)
  obtain ⟨c, rfl, q1⟩ := q1
  cases r1
  refine wpAny_truthy_bool ?_
  cases c with
  | true => exact hb pins s1 σ H1 Q I1 q1
  | false => exact ⟨.bl false, H1, I1, rfl, q1⟩
theorem pe_not (ha : PE X a ta) : PE X (.UnaryOp .Not a pos) (tNotV ta) := by
  intro pins s σ H Q I h
  refine UnaryOp_ (thn (ha pins s σ H _ I h) fun v s1 ⟨x, H1, I1, r1, q1⟩ => ?_)
  obtain ⟨c, rfl, q1⟩ := q1
  cases r1
  exact not_of (wpAny_truthy_bool ⟨.bl (!c), H1, I1, rfl, q1⟩)
end
end L2
namespace L2
open PySem PySem.Spec PyProof.Rows
def SqL (K : PySem.W.Frag) (H : Hp) (a : Addr) (xs : List V) : Prop :=
  Rd H a (.lst xs) ∨
    ∃ (o : Obj) (its : Array Value) (n : Nat), K.lookup a = some o ∧ o.cls = .type "list" ∧ o.dict = none ∧ o.data = .seq its n ∧ its.size ≤ sizeLine ∧ Vals xs its.toList
def SqT (K : PySem.W.Frag) (H : Hp) (a : Addr) (xs : List V) : Prop :=
  Rd H a (.tup xs) ∨
    ∃ (o : Obj) (its : Array Value) (n : Nat), K.lookup a = some o ∧ o.cls = .type "tuple" ∧ o.data = .seq its n ∧ its.size ≤ sizeLine ∧ Vals xs its.toList
def absV : Value → Option V
  | .none => some .non
  | .bool b => some (.bl b)
  | .int i _ => some (.int i)
  | .str x _ => some (.str x)
  | .bytes b _ => some (.byt b)
  | .float b _ => some (.flt b)
  | .ref a => some (.ref a)
  | .type n => some (.ty n)
  | _ => none
theorem RelV.abs {x : V} {u : Value} (r : RelV x u) : absV u = some x := by
  cases x with
  | non => cases r; rfl
  | bl _ => cases r; rfl
  | int _ => obtain ⟨t, rfl⟩ := r; rfl
  | str _ => obtain ⟨t, rfl⟩ := r; rfl
  | byt _ => obtain ⟨t, rfl⟩ := r; rfl
  | flt _ => obtain ⟨t, rfl⟩ := r; rfl
  | ref _ => cases r; rfl
  | ty _ => cases r; rfl
theorem RelV.inj {x y : V} {u : Value} (r : RelV x u) (q : RelV y u) : x = y := Option.some.inj (r.abs.symm.trans q.abs)
theorem Vals.inj : ∀ {xs ys : List V} {us : List Value}, Vals xs us → Vals ys us → xs = ys
  | _, _, _, .nil, .nil => rfl
  | _, _, _, .cons r t, .cons r' t' => by rw [r.inj r', Vals.inj t t']
section
variable {X : Cx} {pins : List (Addr × Obj)} {σ : St} {H : Hp} {s : Shared} {a : Addr} {xs ys : List V}
theorem SqL.of {K : PySem.W.Frag} (h : H a = some (.lst xs)) : SqL K H a xs := .inl (.inl h)
theorem SqT.of {K : PySem.W.Frag} (h : H a = some (.tup xs)) : SqT K H a xs := .inl (.inl h)
theorem Inv.list (I : Inv X pins σ H s) (h : SqL X.K H a xs) : ∃ its : List Value, Vals xs its ∧ PlainL s.heap a its.toArray ∧ xs.length ≤ sizeLine := by
  rcases h with h | ⟨o, its, n, hk, hc, hd, hs, hz, r⟩
  · obtain ⟨z, its, n, r, e⟩ := h.ok I.hok
    exact ⟨its, r, ⟨_, n, e, rfl, rfl, rfl⟩, z⟩
  · refine ⟨its.toList, r, ⟨o, n, I.kIn a o hk, hc, hd, by simpa using hs⟩, ?_⟩
    have e := r.length
    simp only [Array.length_toList] at e
    omega
theorem Inv.tuple (I : Inv X pins σ H s) (h : SqT X.K H a xs) : ∃ its : List Value, Vals xs its ∧ IsTup s.heap a its.toArray ∧ xs.length ≤ sizeLine := by
  rcases h with h | ⟨o, its, n, hk, hc, hs, hz, r⟩
  · obtain ⟨z, its, r, p⟩ := h.ok I.hok
    exact ⟨its, r, p, z⟩
  · refine ⟨its.toList, r, ⟨o, I.kIn a o hk, hc, n, by simpa using hs⟩, ?_⟩
    have e := r.length
    simp only [Array.length_toList] at e
    omega
theorem Inv.list_inj (I : Inv X pins σ H s) (h : SqL X.K H a xs) (h' : SqL X.K H a ys) : xs = ys := by
  obtain ⟨its, r, ⟨o, n, e, _, _, d⟩, _⟩ := I.list h
  obtain ⟨its', r', ⟨o', n', e', _, _, d'⟩, _⟩ := I.list h'
  rw [e] at e'; cases e'
  rw [d] at d'
  injection d' with d1 _
  have : its = its' := by simpa using congrArg Array.toList d1
  subst this
  exact r.inj r'
theorem Inv.tuple_inj (I : Inv X pins σ H s) (h : SqT X.K H a xs) (h' : SqT X.K H a ys) : xs = ys := by
  obtain ⟨its, r, ⟨o, e, _, n, d⟩, _⟩ := I.tuple h
  obtain ⟨its', r', ⟨o', e', _, n', d'⟩, _⟩ := I.tuple h'
  rw [e] at e'; cases e'
  rw [d] at d'
  injection d' with d1 _
  have : its = its' := by simpa using congrArg Array.toList d1
  subst this
  exact r.inj r'
end
abbrev Cx.wish (X : Cx) (E : Value → Shared → Prop) : Cx := { X with xe := E }
abbrev Cx.nox (X : Cx) : Cx := X.wish fun _ _ => False
theorem Cx.Ok.wish {X : Cx} (ok : X.Ok) (E : Value → Shared → Prop) : (X.wish E).Ok :=
  ⟨ok.mod, ok.kind, ok.glob, ok.blt, ok.above, ok.inj, ok.has, ok.cab, ok.hd, ok.frames, ok.stk, ok.exf, ok.bs, ok.bsz, ok.noex, ok.exfs, ok.funs, ok.frf⟩
theorem Cx.Ok.unwish {X : Cx} {E : Value → Shared → Prop} (ok : (X.wish E).Ok) : X.Ok :=
  ⟨ok.mod, ok.kind, ok.glob, ok.blt, ok.above, ok.inj, ok.has, ok.cab, ok.hd, ok.frames, ok.stk, ok.exf, ok.bs, ok.bsz, ok.noex, ok.exfs, ok.funs, ok.frf⟩
section
variable {X : Cx} {pins : List (Addr × Obj)} {σ : St} {H : Hp} {s : Shared} {E : Value → Shared → Prop}
theorem Inv.wish (I : Inv X pins σ H s) (E : Value → Shared → Prop) : Inv (X.wish E) pins σ H s := ⟨I.ok.wish E, I.os, I.bare, I.base, I.loc, I.cell, I.free, I.freeC, I.pin, I.hok, I.len⟩
theorem Inv.unwish (I : Inv (X.wish E) pins σ H s) : Inv X pins σ H s := ⟨I.ok.unwish, I.os, I.bare, I.base, I.loc, I.cell, I.free, I.freeC, I.pin, I.hok, I.len⟩
theorem SP.unwish {D : Ends} {f : Flow} {s' : Shared} (h : SP (X.wish E) pins D f s') : SP X pins D f s' := by
  cases f with
  | next => obtain ⟨σ', H', I, q⟩ := h; exact ⟨σ', H', I.unwish, q⟩
  | brk => obtain ⟨σ', H', I, q⟩ := h; exact ⟨σ', H', I.unwish, q⟩
  | cont => obtain ⟨σ', H', I, q⟩ := h; exact ⟨σ', H', I.unwish, q⟩
  | ret u => obtain ⟨v, σ', H', I, r, q⟩ := h; exact ⟨v, σ', H', I.unwish, r, q⟩
theorem PSs.nox {st : List Stmt} {t : TS} (h : PSs X.nox st t) : PSs X st t := fun pins s σ H D I hw =>
  wpAny_mono (h pins s σ H D (I.wish _) hw) (fun _ _ q => q.unwish) fun _ _ z => False.elim z
end
section
variable {X : Cx} {st : Stmt} {rest : List Stmt} {t u : TS} {e : Expr} {te : TE} {pos : Pos}
def tNext : TS := fun D σ H => D.nx σ H
def tSeq (t u : TS) : TS := fun D σ H => t { D with nx := u D } σ H
theorem pss_nil : PSs X [] tNext := fun _ _ σ H _ I h => wpAny_execs_nil ⟨σ, H, I, h⟩
theorem pss_cons (h1 : PS X st t) (h2 : PSs X rest u) : PSs X (st :: rest) (tSeq t u) := by
  intro pins s σ H D I h
  refine wpAny_execs_cons (thn (h1 pins s σ H { D with nx := u D } I h) fun f s1 q => ?_)
  cases f with
  | next =>
    obtain ⟨σ', H', I', q⟩ := q
    exact h2 pins s1 σ' H' D I' q
  | ret v => exact q
  | brk => exact q
  | cont => exact q
theorem pss_one (h1 : PS X st t) : PSs X [st] t := by
  intro pins s σ H D I h
  refine wpAny_execs_cons (thn (h1 pins s σ H D I h) fun f s1 q => ?_)
  cases f with
  | next => exact wpAny_execs_nil q
  | ret v => exact q
  | brk => exact q
  | cont => exact q
theorem Inv.quiet {pins : List (Addr × Obj)} {σ : St} {H : Hp} {s : Shared} (I : Inv X pins σ H s) : interactive X.env = false := by simp [interactive, I.ok.kind]
def tDrop (te : TE) : TS := fun D σ H => te σ H fun _ H1 => D.nx σ H1
theorem ps_expr (he : PE X e te) (hs : swapsWith e none pos.line X.env = pure false := by rfl) : PS X (.Expr e pos) (tDrop te) := by
  intro pins s σ H D I h
  exact wpAny_Expr_any (thn (he pins s σ H _ I h) fun v s1 ⟨x, H1, I1, r1, q1⟩ => ⟨σ, H1, I1, q1⟩) I.quiet hs
def tRet (te : TE) : TS := fun D σ H => te σ H D.rt
theorem ps_ret (he : PE X e te) : PS X (.Return (some e) pos) (tRet te) := by
  intro pins s σ H D I h
  exact wpAny_Return_some (thn (he pins s σ H _ I h) fun v s1 ⟨x, H1, I1, r1, q1⟩ => ⟨x, σ, H1, I1, r1, q1⟩)
def tIfS (c : TT) (t u : TS) : TS := fun D σ H => c σ H fun b H1 => if b = true then t D σ H1 else u D σ H1
theorem ps_if {c : Expr} {a b : List Stmt} {tc : TT} (hc : PT X c tc) (ha : PSs X a t) (hb : PSs X b u) : PS X (.If c a b pos) (tIfS tc t u) := by
  intro pins s σ H D I h
  refine wpAny_If (thn (hc pins s σ H _ I h) fun d s1 ⟨H1, I1, q1⟩ => ?_)
  cases d with
  | true => exact ha pins s1 σ H1 D I1 q1
  | false => exact hb pins s1 σ H1 D I1 q1
def tNever : TS := fun _ _ _ => False
theorem ps_never : PS X st tNever := fun _ _ _ _ _ _ h => h.elim
end
abbrev TG := V → St → Hp → (St → Hp → Prop) → Prop
abbrev TGs := List V → St → Hp → (St → Hp → Prop) → Prop
def PG (X : Cx) (target : Expr) (t : TG) : Prop :=
  ∀ (pins : List (Addr × Obj)) (s : Shared) (σ : St) (H : Hp) (v : V) (u : Value) (Q : St → Hp → Prop), Inv X pins σ H s → RelV v u → t v σ H Q →
    wpAny (model X.prog X.w) X.A (assign target X.env u) (fun _ s' => ∃ σ' H', Inv X pins σ' H' s' ∧ Q σ' H') X.xe s
def PGs (X : Cx) (ts : List Expr) (t : TGs) : Prop :=
  ∀ (pins : List (Addr × Obj)) (s : Shared) (σ : St) (H : Hp) (vs : List V) (us : List Value) (Q : St → Hp → Prop), Inv X pins σ H s → Vals vs us → t vs σ H Q →
    wpAny (model X.prog X.w) X.A (assignInOrder ((assignEach ts X.env).map (·.2)) us) (fun _ s' => ∃ σ' H', Inv X pins σ' H' s' ∧ Q σ' H') X.xe s
abbrev TSet := V → V → V → Hp → (Hp → Prop) → Prop
def PSet (X : Cx) (t : TSet) : Prop :=
  ∀ (pins : List (Addr × Obj)) (s : Shared) (σ : St) (H : Hp) (o i v : V) (ov iv u : Value) (Q : Hp → Prop), Inv X pins σ H s → RelV o ov → RelV i iv → RelV v u → t o i v H Q →
    wpAny (model X.prog X.w) X.A (setItem ov iv u) (fun _ s' => ∃ H', Inv X pins σ H' s' ∧ Q H') X.xe s
abbrev TIp := V → V → Hp → VK → Prop
def PIp (X : Cx) (op : Operator) (t : TIp) : Prop :=
  ∀ (pins : List (Addr × Obj)) (s : Shared) (σ : St) (H : Hp) (x y : V) (v u : Value) (Q : VK), Inv X pins σ H s → RelV x v → RelV y u → t x y H Q →
    wpAny (model X.prog X.w) X.A (inplaceOp op v u) (EP X pins σ Q) X.xe s
section
variable {X : Cx} {pos : Pos}
def gName (i : Nat) : TG := fun v σ H Q => Q (σ.set i (some v)) H
theorem pg_name {i : Nat} {x : Str} (hN : X.N.Nodup) (hi : X.N[i]? = some x) (hx : Loc X.env.scope x) (hf : X.fn x = true ∨ X.env.scope.names.lookup x = some .local := by first | exact .inl rfl | exact .inr rfl | assumption) : PG X (.Name x pos) (gName i) := by
  intro pins s σ H v u Q I r h
  exact wpAny_assign_Name (store_ok I hN hi hx r (fun s' I' => ⟨_, H, I', h⟩) hf)
def gNil : TGs := fun vs σ H Q => vs = [] ∧ Q σ H
def gCons (t : TG) (u : TGs) : TGs := fun vs σ H Q => ∃ v r, vs = v :: r ∧ t v σ H fun σ' H' => u r σ' H' Q
theorem pgs_nil : PGs X [] gNil := by
  intro pins s σ H vs us Q I r h
  obtain ⟨e, h⟩ := h
  subst e
  cases r
  exact assignInOrder_nil ⟨σ, H, I, h⟩
theorem pgs_cons {e : Expr} {es : List Expr} {t : TG} {u : TGs} (h1 : PG X e t) (h2 : PGs X es u)
    (hs : (assignEach (e :: es) X.env).map (·.2) = assign e X.env :: (assignEach es X.env).map (·.2) := by rfl) : PGs X (e :: es) (gCons t u) := by
  intro pins s σ H vs us Q I r h
  obtain ⟨v, vr, e1, h⟩ := h
  subst e1
  cases r with
  | cons r rr =>
    rw [hs]
    refine assignInOrder_cons (thn (h1 pins s σ H _ _ _ I r h) fun _ s1 ⟨σ1, H1, I1, q1⟩ => ?_)
    exact h2 pins s1 σ1 H1 _ _ Q I1 rr q1
def gTup (K : PySem.W.Frag) (n : Nat) (t : TGs) : TG := fun v σ H Q => ∃ a xs, v = .ref a ∧ SqT K H a xs ∧ xs.length = n ∧ t xs σ H Q
theorem pg_tup {es : List Expr} {k : Nat} {t : TGs} {n : Nat} (hc : X.calm = true) (h : PGs X es t)
    (hn : (assignEach es X.env).length = n := by rfl) (hst : (assignEach es X.env).findIdx? (·.1) = none := by rfl) : PG X (.Tuple es k pos) (gTup X.K n t) := by
  intro pins s σ H v u Q I r hw
  obtain ⟨a, xs, e1, hq, hl, hw⟩ := hw
  subst e1
  cases r
  obtain ⟨its, rv, ht, hz⟩ := I.tuple hq
  refine assign_Tuple_tuple (I.ok.hd hc) ht (by simp [hn, ← hl, rv.length]) hst fun h' hx => ?_
  have I1 : Inv X pins σ H { s with heap := h' } := I.kept (t' := s.toks) fun b o e => hx b o (Nat.ne_of_lt (Heap.lt_size e)) e
  exact h pins _ σ H xs _ Q I1 (by simpa using rv) hw
def gSub (to ti : TE) (t : TSet) : TG := fun v σ H Q => to σ H fun o H1 => ti σ H1 fun i H2 => t o i v H2 fun H3 => Q σ H3
theorem pg_sub {o i : Expr} {to ti : TE} {t : TSet} (ho : PE X o to) (hi : PE X i ti) (hs : PSet X t)
    (ha : ∀ v, assign (.Subscript o i pos) X.env v = (do
      let ov ← holding [v] (eval o X.env)
      let iv ← holding [v, ov] (eval i X.env)
      standAt pos
      holding [v, ov, iv] (setItem ov iv v)
      release [v, ov, iv] []) := by intro _; rfl) : PG X (.Subscript o i pos) (gSub to ti t) := by
  intro pins s σ H v u Q I r h
  rw [ha]
  refine wpAny_bind (wpAny_holding (thn (ho pins s σ H _ I h) fun ov s1 ⟨x, H1, I1, r1, q1⟩ => ?_))
  refine wpAny_bind (wpAny_holding (thn (hi pins s1 σ H1 _ I1 q1) fun iv s2 ⟨y, H2, I2, r2, q2⟩ => ?_))
  refine wpAny_bind (wpAny_standAt (wpAny_bind (wpAny_holding (thn (hs pins s2 σ H2 x y v ov iv u _ I2 r1 r2 r q2) fun _ s3 ⟨H3, I3, q3⟩ => ?_))))
  exact wpAny_release ⟨σ, H3, I3, q3⟩
def tAsg (te : TE) (g : TG) : TS := fun D σ H => te σ H fun x H1 => g x σ H1 D.nx
theorem ps_asg {tg e : Expr} {te : TE} {g : TG} (he : PE X e te) (hg : PG X tg g) (hs : swapsWithSole [tg] e pos.line X.env = pure false := by rfl) (hw : swappedStores [tg] e X.env = pure none := by rfl)
    (h1 : (assignEach [tg] X.env).map (·.2) = [assign tg X.env] := by rfl) : PS X (.Assign [tg] e pos) (tAsg te g) := by
  intro pins s σ H D I h
  refine wpAny_Assign_stores (thn (he pins s σ H _ I h) fun v s1 ⟨x, H1, I1, r1, q1⟩ => ?_) hs hw
  rw [h1]
  exact thn (hg pins s1 σ H1 x v _ I1 r1 q1) fun _ s2 q => q
theorem ps_set {i : Nat} {x : Str} {e : Expr} {te : TE} {pos' : Pos} (hN : X.N.Nodup) (hi : X.N[i]? = some x) (hx : Loc X.env.scope x) (he : PE X e te) (hs : swapsWith e (some (.Name x pos')) pos.line X.env = pure false := by rfl) (hf : X.fn x = true ∨ X.env.scope.names.lookup x = some .local := by first | exact .inl rfl | exact .inr rfl | assumption) :
    PS X (.Assign [.Name x pos'] e pos) (tAsg te (gName i)) := by
  intro pins s σ H D I h
  refine wpAny_Assign_Name (thn (he pins s σ H _ I h) fun v s1 ⟨y, H1, I1, r1, q1⟩ => ?_) hs
  exact store_ok I1 hN hi hx r1 (fun s2 I2 => ⟨_, H1, I2, q1⟩) hf
def tAug (i : Nat) (te : TE) (ti : TIp) : TS := fun D σ H => ∃ x, σ[i]? = some (some x) ∧ te σ H fun y H1 => ti x y H1 fun z H2 => D.nx (σ.set i (some z)) H2
theorem ps_aug {i : Nat} {x : Str} {e : Expr} {te : TE} {op : Operator} {ti : TIp} {pos' : Pos} (hN : X.N.Nodup) (hi : X.N[i]? = some x) (hx : Loc X.env.scope x) (he : PE X e te) (ho : PIp X op ti) (hf : X.fn x = true ∨ X.env.scope.names.lookup x = some .local := by first | exact .inl rfl | exact .inr rfl | assumption) :
    PS X (.AugAssign (.Name x pos') op e pos) (tAug i te ti) := by
  intro pins s σ H D I h
  obtain ⟨v, e1, h⟩ := h
  obtain ⟨m, hn, hl⟩ := I.loc
  have vis : Vis X.env.scope x := by rcases hx with k | k; exact .inl k; exact .inr (.inl k)
  obtain ⟨u, r, l⟩ := hl i x v hi e1 vis
  refine wpAny_AugAssign_Name ?_
  have go : wpAny (model X.prog X.w) X.A (eval e X.env) (fun w s₂ => wpAny (model X.prog X.w) X.A (inplaceOp op u w) (fun r s₃ => wpAny (model X.prog X.w) X.A (storeName X.env x r) (fun _ => SP X pins D .next) X.xe s₃) X.xe s₂) X.xe s := by
    refine thn (he pins s σ H _ I h) fun w s1 ⟨y, H1, I1, r1, q1⟩ => ?_
    refine thn (ho pins s1 σ H1 v y u w _ I1 r r1 q1) fun z s2 ⟨zv, H2, I2, r2, q2⟩ => ?_
    exact store_ok I2 hN hi hx r2 (fun s3 I3 => ⟨_, H2, I3, q2⟩) hf
  rcases l with ⟨hk, hm⟩ | ⟨hk, c, hc, hcell⟩
  · exact wpAny_loadName_local I.ok.kind hk hn hm go
  · rcases hk with hk | hk
    · exact wpAny_loadName_cell I.ok.kind hk hc hcell go
    · rcases hx with k | k
      · have : X.env.scope.names.lookup x = some .free := hk
        rw [k] at this; cases this
      · have : X.env.scope.names.lookup x = some .free := hk
        rw [k] at this; cases this
def ipI (f : Int → Int → Int) : TIp := fun x y H Q => ∃ i j, x = .int i ∧ y = .int j ∧ Q (.int (f i j)) H
theorem ip_add : PIp X .Add (ipI fun i j => i + j) := by
  intro pins s σ H x y v u Q I r1 r2 h
  obtain ⟨i, j, e1, e2, q⟩ := h
  subst e1; subst e2
  obtain ⟨t, rfl⟩ := r1
  obtain ⟨t', rfl⟩ := r2
  exact iadd_int ⟨.int _, H, I.tok _, ⟨_, rfl⟩, q⟩
theorem ip_sub : PIp X .Sub (ipI fun i j => i - j) := by
  intro pins s σ H x y v u Q I r1 r2 h
  obtain ⟨i, j, e1, e2, q⟩ := h
  subst e1; subst e2
  obtain ⟨t, rfl⟩ := r1
  obtain ⟨t', rfl⟩ := r2
  exact isub_int ⟨.int _, H, I.tok _, ⟨_, rfl⟩, q⟩
end
structure It where
  go : Nat → Hp → Prop
  yld : Nat → Hp → V → Hp → Prop
  stop : Nat → Hp → Prop
def FpOk (X : Cx) (pins : List (Addr × Obj)) (H : Hp) (b : Addr) : Prop :=
  H b = none ∧ b ≠ X.env.locals ∧ b ∉ X.fs ∧ (b ∈ X.ex ∨ X.sZ.heap.objs.size ≤ b) ∧ (∀ x c, X.env.cells.lookup x = some c → c ≠ b) ∧ ∀ p ∈ X.pn ++ pins, p.1 ≠ b
theorem Inv.fpOk {X : Cx} {pins : List (Addr × Obj)} {σ : St} {H H' : Hp} {s : Shared} {b : Addr} (I : Inv X pins σ H s) (hb : s.heap.objs.size ≤ b) (hn : H' b = none) : FpOk X pins H' b := by
  refine ⟨hn, Nat.ne_of_gt (Nat.lt_of_lt_of_le I.lt hb), I.nofs hb, .inr (Nat.le_trans I.sz hb), fun x c e z => ?_, fun p hp z => ?_⟩
  · obtain ⟨v, q⟩ := I.cell x c e
    exact absurd (Nat.lt_of_lt_of_le q.lt (by rw [z]; exact hb)) (Nat.lt_irrefl _)
  · exact absurd (Nat.lt_of_lt_of_le (Heap.lt_size (I.pin p hp).1) (by rw [z]; exact hb)) (Nat.lt_irrefl _)
structure Turn (P : Program) (w : World) (K : PySem.W.Frag) (tg : Expr) (J : It) (fp : List Addr) (it : Addr) (tn : Nat → Heap → Prop) : Prop where
  mem : it ∈ fp
  obj : ∀ i h, tn i h → ∀ b ∈ fp, ∃ o, h.get? b = some o ∧ ∀ v, o.data ≠ .cell v
  keep : ∀ i h h', tn i h → (∀ b ∈ fp, ∀ o, h.get? b = some o → h'.get? b = some o) → tn i h'
  item : ∀ (X : Cx), X.prog = P → X.w = w → X.K = K → X.calm = true → ∀ (i : Nat) (pins : List (Addr × Obj)) (s : Shared) (σ : St) (H : Hp) (E : Value → Shared → Prop), Inv X pins σ H s → (∀ b ∈ fp, FpOk X pins H b) → tn i s.heap → J.go i H →
    wpAny (model P w) X.A (pyNext (.ref it)) (fun r s1 => ∃ u, r = some u ∧
      wpAny (model P w) X.A (letOwnedTupleGo tg (.ref it) u) (fun _ s2 => ∃ x H', Inv X pins σ H' s2 ∧ RelV x u ∧ J.yld i H x H' ∧ tn (i + 1) s2.heap ∧ ∀ b ∈ fp, H' b = none) E s1) E s
  done : ∀ (X : Cx), X.prog = P → X.w = w → X.K = K → X.calm = true → ∀ (i : Nat) (pins : List (Addr × Obj)) (s : Shared) (σ : St) (H : Hp) (E : Value → Shared → Prop), Inv X pins σ H s → (∀ b ∈ fp, FpOk X pins H b) → tn i s.heap → J.stop i H →
    wpAny (model P w) X.A (pyNext (.ref it)) (fun r s1 => r = none ∧ Inv X pins σ H s1) E s
  self : ∀ (A : Around) (i : Nat) (s : Shared) (Q : Value → Shared → Prop) (E : Value → Shared → Prop), tn i s.heap → Q (.ref it) s → wpAny (model P w) A (pyIter (.ref it)) Q E s
abbrev TI := St → Hp → (It → Hp → Prop) → Prop
def PIE (X : Cx) (pins : List (Addr × Obj)) (σ : St) (tg : Expr) (R : It → Hp → Prop) (itv : Value) (s2 : Shared) : Prop :=
  ∃ (it : Addr) (fp : List Addr) (tn : Nat → Heap → Prop) (J : It) (H' : Hp), itv = .ref it ∧ Inv X pins σ H' s2 ∧ Turn X.prog X.w X.K tg J fp it tn ∧ tn 0 s2.heap ∧ (∀ b ∈ fp, FpOk X pins H' b) ∧ R J H'
def PI (X : Cx) (tg iter : Expr) (wi : TI) : Prop :=
  ∀ (pins : List (Addr × Obj)) (s : Shared) (σ : St) (H : Hp) (R : It → Hp → Prop), Inv X pins σ H s → wi σ H R →
    wpAny (model X.prog X.w) X.A (eval iter X.env) (fun v s1 => wpAny (model X.prog X.w) X.A (pyIter v) (PIE X pins σ tg R) X.xe s1) X.xe s
theorem go_of {M : Model} {A : Around} {E : Value → Shared → Prop} {s : Shared} {tg : Expr} {it : Addr} {u : Value} {o : Obj} {n : String} {vs : Array Value} {Q : Unit → Shared → Prop} (ho : s.heap.get? it = some o) (hc : o.cls = .type n) (hd : o.data = .fields vs)
    (hn : ["enumerate", "zip", "dict_itemiterator", "dict_reverseitemiterator", "odict_iterator", "itertools.zip_longest", "itertools.pairwise"].contains n = false) (hQ : Q () s) : wpAny M A (letOwnedTupleGo tg (.ref it) u) Q E s := by
  unfold letOwnedTupleGo
  cases tg <;> first
    | exact wpAny_pure hQ
    | (cases u <;> first
        | exact wpAny_pure hQ
        | (refine wpAny_bind (wpAny_load ho ?_)
           rw [hc, hd]
           show wpAny M A (if (["enumerate", "zip", "dict_itemiterator", "dict_reverseitemiterator", "odict_iterator", "itertools.zip_longest", "itertools.pairwise"].contains n && vs[0]? == some (rawInt _)) = true then _ else _) Q E s
           rw [if_neg (by intro h; rw [hn, Bool.false_and] at h; cases h)]
           exact wpAny_pure hQ))
def Itl (K : PySem.W.Frag) (a : Addr) : It :=
  ⟨fun i H => ∃ xs x, SqL K H a xs ∧ xs[i]? = some x, fun i H x H' => H' = H ∧ ∀ xs, SqL K H a xs → xs[i]? = some x, fun i H => ∃ xs, SqL K H a xs ∧ xs.length ≤ i⟩
def Itt (K : PySem.W.Frag) (a : Addr) : It :=
  ⟨fun i H => ∃ xs x, SqT K H a xs ∧ xs[i]? = some x, fun i H x H' => H' = H ∧ ∀ xs, SqT K H a xs → xs[i]? = some x, fun i H => ∃ xs, SqT K H a xs ∧ xs.length ≤ i⟩
def Itr (lo : Int) (n : Nat) : It := ⟨fun i _ => i < n, fun i H x H' => H' = H ∧ x = .int (lo + i), fun i _ => n ≤ i⟩
theorem turn_list {P : Program} {w : World} {K : PySem.W.Frag} {tg : Expr} (a it : Addr) : Turn P w K tg (Itl K a) [it] it (fun i h => h.IsListIter it a i) where
  mem := by simp
  obj := fun i h st b hb => by
    have e : b = it := by simpa using hb
    subst e
    obtain ⟨o, e, c, d⟩ := st
    exact ⟨o, e, fun v z => by rw [d] at z; cases z⟩
  keep := fun i h h' st k => st.at fun o e => k it (by simp) o e
  item := by
    intro X hP hw hK hc i pins s σ H E I hf st hg
    subst hP hw hK
    obtain ⟨xs, x, hq, hx⟩ := hg
    obtain ⟨its, rv, p, hz⟩ := I.list hq
    obtain ⟨u, hu, ru⟩ := rv.get hx
    obtain ⟨f0, f1, f2, f3, f4, f5⟩ := hf it (by simp)
    refine wpAny_pyNext_list_item st p.isList (x := u) (by simpa using hu) fun h' st' sb => ?_
    have I1 : Inv X pins σ H { s with heap := h' } := I.turned (t' := s.toks) (fun b o hb e => (sb.2 b hb).trans e) f0 f1 f3 f4 f5
    obtain ⟨o, e, c, d⟩ := id st'
    exact ⟨u, rfl, go_of (s := { s with heap := h' }) e c d (by decide) ⟨x, H, I1, ru, ⟨rfl, fun ys hy => by rw [I.list_inj hy hq]; exact hx⟩, st', fun b hb => (hf b hb).1⟩⟩
  done := by
    intro X hP hw hK hc i pins s σ H E I hf st hg
    subst hP hw hK
    obtain ⟨xs, hq, hx⟩ := hg
    obtain ⟨its, rv, p, hz⟩ := I.list hq
    obtain ⟨f0, f1, f2, f3, f4, f5⟩ := hf it (by simp)
    have hl := rv.length
    exact wpAny_pyNext_list_end (I.ok.hd hc) st p.isList (by simp; omega) fun h' eb => ⟨rfl, I.turned (t' := s.toks) (fun b o hb e => eb b o hb e) f0 f1 f3 f4 f5⟩
  self := fun _ _ _ _ _ st h => wpAny_pyIter_listiter st h
theorem turn_tuple {P : Program} {w : World} {K : PySem.W.Frag} {tg : Expr} (a it : Addr) : Turn P w K tg (Itt K a) [it] it (fun i h => h.IsTupleIter it a i) where
  mem := by simp
  obj := fun i h st b hb => by
    have e : b = it := by simpa using hb
    subst e
    obtain ⟨o, e, c, d⟩ := st
    exact ⟨o, e, fun v z => by rw [d] at z; cases z⟩
  keep := fun i h h' st k => st.at fun o e => k it (by simp) o e
  item := by
    intro X hP hw hK hc i pins s σ H E I hf st hg
    subst hP hw hK
    obtain ⟨xs, x, hq, hx⟩ := hg
    obtain ⟨its, rv, p, hz⟩ := I.tuple hq
    obtain ⟨u, hu, ru⟩ := rv.get hx
    obtain ⟨f0, f1, f2, f3, f4, f5⟩ := hf it (by simp)
    refine wpAny_pyNext_tuple_item st (show s.heap.IsTuple a its.toArray from p) (x := u) (by simpa using hu) fun h' st' sb => ?_
    have I1 : Inv X pins σ H { s with heap := h' } := I.turned (t' := s.toks) (fun b o hb e => (sb.2 b hb).trans e) f0 f1 f3 f4 f5
    obtain ⟨o, e, c, d⟩ := id st'
    exact ⟨u, rfl, go_of (s := { s with heap := h' }) e c d (by decide) ⟨x, H, I1, ru, ⟨rfl, fun ys hy => by rw [I.tuple_inj hy hq]; exact hx⟩, st', fun b hb => (hf b hb).1⟩⟩
  done := by
    intro X hP hw hK hc i pins s σ H E I hf st hg
    subst hP hw hK
    obtain ⟨xs, hq, hx⟩ := hg
    obtain ⟨its, rv, p, hz⟩ := I.tuple hq
    obtain ⟨f0, f1, f2, f3, f4, f5⟩ := hf it (by simp)
    have hl := rv.length
    exact wpAny_pyNext_tuple_end (I.ok.hd hc) st (show s.heap.IsTuple a its.toArray from p) (by simp; omega) fun h' eb => ⟨rfl, I.turned (t' := s.toks) (fun b o hb e => eb b o hb e) f0 f1 f3 f4 f5⟩
  self := fun _ _ _ _ _ st h => wpAny_pyIter_tupleiter st h
theorem turn_range {P : Program} {w : World} {K : PySem.W.Frag} {tg : Expr} (it : Addr) (lo : Int) (n : Nat) : Turn P w K tg (Itr lo n) [it] it (fun i h => IsRangeIter h it (lo + (i : Nat) * 1) ((n : Int) - (i : Nat)) 1) where
  mem := by simp
  obj := fun i h st b hb => by
    have e : b = it := by simpa using hb
    subst e
    exact ⟨_, st, fun v z => by
      have z' : Data.fields _ = Data.cell v := z
      cases z'⟩
  keep := fun i h h' st k => k it (by simp) _ st
  item := by
    intro X hP hw hK hc i pins s σ H E I hf st hg
    subst hP hw hK
    obtain ⟨f0, f1, f2, f3, f4, f5⟩ := hf it (by simp)
    have W := Walks.range (prog := X.prog) (w := X.w) (I.ok.hd hc) it lo 1 n
    refine W.item i s _ _ hg st fun v h' tk hv st' kk => ?_
    obtain ⟨t, rfl⟩ := hv
    have I1 : Inv X pins σ H { s with heap := h', toks := tk } := I.turned (fun b o hb e => kk b o (by simpa using hb) e) f0 f1 f3 f4 f5
    refine ⟨_, rfl, go_of (s := { s with heap := h', toks := tk }) (n := "range_iterator") st' rfl rfl (by decide) ⟨.int (lo + i), H, I1, ⟨t, ?_⟩, ⟨rfl, rfl⟩, st', fun b hb => (hf b hb).1⟩⟩
    rw [Int.mul_one]
  done := by
    intro X hP hw hK hc i pins s σ H E I hf st hg
    subst hP hw hK
    obtain ⟨f0, f1, f2, f3, f4, f5⟩ := hf it (by simp)
    exact wpAny_pyNext_range_end (I.ok.hd hc) st (by have : n ≤ i := hg; omega) fun h' eb => ⟨rfl, I.turned (t' := s.toks) (fun b o hb e => eb b o hb e) f0 f1 f3 f4 f5⟩
  self := fun _ _ _ _ _ st h => wpAny_pyIter_rangeiter st h
end L2
namespace L2
open PySem PySem.Spec PyProof.Rows
section
variable {X : Cx} {tg : Expr}
def iList (K : PySem.W.Frag) (tl : TE) : TI := fun σ H R => tl σ H fun x H1 => ∃ a, x = .ref a ∧ (∃ xs, SqL K H1 a xs) ∧ R (Itl K a) H1
def iTup (K : PySem.W.Frag) (tl : TE) : TI := fun σ H R => tl σ H fun x H1 => ∃ a, x = .ref a ∧ (∃ xs, SqT K H1 a xs) ∧ R (Itt K a) H1
theorem pi_list {l : Expr} {tl : TE} (hl : PE X l tl) : PI X tg l (iList X.K tl) := by
  intro pins s σ H R I h
  refine thn (hl pins s σ H _ I h) fun v s1 ⟨x, H1, I1, r1, q1⟩ => ?_
  obtain ⟨a, e, ⟨xs, hq⟩, q⟩ := q1
  subst e
  cases r1
  obtain ⟨its, rv, p, hz⟩ := I1.list hq
  refine wpAny_pyIter_list p.isList ?_
  refine ⟨s1.heap.objs.size, [s1.heap.objs.size], _, _, H1, rfl, I1.kept (t' := s1.toks) fun b o e => Heap.get?_push_of_some _ e, turn_list a _, ⟨_, Heap.get?_push_size _ rfl, rfl, rfl⟩, fun b hb => ?_, q⟩
  have e : b = s1.heap.objs.size := by simpa using hb
  subst e
  exact I1.fpOk (Nat.le_refl _) (I1.hok.fresh (Nat.le_refl _))
theorem pi_tup {l : Expr} {tl : TE} (hl : PE X l tl) : PI X tg l (iTup X.K tl) := by
  intro pins s σ H R I h
  refine thn (hl pins s σ H _ I h) fun v s1 ⟨x, H1, I1, r1, q1⟩ => ?_
  obtain ⟨a, e, ⟨xs, hq⟩, q⟩ := q1
  subst e
  cases r1
  obtain ⟨its, rv, p, hz⟩ := I1.tuple hq
  refine wpAny_pyIter_tuple (show s1.heap.IsTuple a its.toArray from p) ?_
  refine ⟨s1.heap.objs.size, [s1.heap.objs.size], _, _, H1, rfl, I1.kept (t' := s1.toks) fun b o e => Heap.get?_push_of_some _ e, turn_tuple a _, ⟨_, Heap.get?_push_size _ rfl, rfl, rfl⟩, fun b hb => ?_, q⟩
  have e : b = s1.heap.objs.size := by simpa using hb
  subst e
  exact I1.fpOk (Nat.le_refl _) (I1.hok.fresh (Nat.le_refl _))
theorem range_it {pins : List (Addr × Obj)} {σ : St} {H : Hp} {s : Shared} {R : It → Hp → Prop} {E : Value → Shared → Prop} {lo hi : Int} {t u v : Tok} {tk : Nat} (I : Inv X pins σ H s) (h1 : -(2 ^ 62) ≤ lo) (h2 : lo < 2 ^ 62) (h3 : -(2 ^ 62) ≤ hi) (h4 : hi < 2 ^ 62)
    (q : R (Itr lo (hi - lo).toNat) H) : wpAny (model X.prog X.w) X.A (pyIter (.ref s.heap.objs.size)) (PIE X pins σ tg R) E { s with heap := s.heap.push { cls := .type "range", data := .fields #[.int lo t, .int hi u, .int 1 v] }, toks := tk } := by
  refine wpAny_pyIter_range (IsRange.new ..) (small_one h1 h2 h3 h4) ?_
  have I1 : Inv X pins σ H { s with heap := s.heap.push { cls := .type "range", data := .fields #[.int lo t, .int hi u, .int 1 v] }, toks := tk } := I.kept fun b o e => Heap.get?_push_of_some _ e
  refine ⟨(s.heap.push { cls := .type "range", data := .fields #[.int lo t, .int hi u, .int 1 v] }).objs.size, [(s.heap.push { cls := .type "range", data := .fields #[.int lo t, .int hi u, .int 1 v] }).objs.size], _, _, H, rfl,
    I1.kept (t' := tk) fun b o e => Heap.get?_push_of_some _ e, turn_range _ lo (hi - lo).toNat, ?_, fun b hb => ?_, q⟩
  · have e1 : lo + ((0 : Nat) : Int) * 1 = lo := by simp
    have e2 : (((hi - lo).toNat : Nat) : Int) - ((0 : Nat) : Int) = Builtin.Range.rangeSize lo hi 1 := by rw [rangeSize_one]; split <;> omega
    show IsRangeIter _ _ (lo + ((0 : Nat) : Int) * 1) ((((hi - lo).toNat : Nat) : Int) - ((0 : Nat) : Int)) 1
    rw [e1, e2]
    exact Heap.get?_push_size _ rfl
  · have e : b = (s.heap.push { cls := .type "range", data := .fields #[.int lo t, .int hi u, .int 1 v] }).objs.size := by simpa using hb
    subst e
    exact I1.fpOk (Nat.le_refl _) (I1.hok.fresh (Nat.le_refl _))
def iRng1 (ta : TA) : TI := fun σ H R => ta σ H fun vs H1 => ∃ j : Int, vs = [.int j] ∧ -(2 ^ 62) ≤ j ∧ j < 2 ^ 62 ∧ R (Itr 0 j.toNat) H1
theorem pi_range1 {a : Expr} {ta : TA} {p pos : Pos} (hg : Gl X "range") (hm : X.mg "range" = none) (ha : PA X [a] ta) (hs : starEach [a] X.env = [(false, eval a X.env)] := by rfl) : PI X tg (.Call (.Name "range" p) [a] [] pos) (iRng1 ta) := by
  intro pins s σ H R I h
  refine Call_ (ld_blt I hg hm boot_range (PyProof.Rows.callWith_type1 (thn (ha pos pins s σ H _ I h) fun us s1 ⟨vs, H1, I1, r1, q1⟩ => ?_) hs rfl))
  obtain ⟨j, e, q1, q2, q⟩ := q1
  subst e
  cases r1 with
  | cons r rr =>
    cases rr
    obtain ⟨t, rfl⟩ := r
    exact call_range_1 (range_it I1 (by omega) (by omega) q1 q2 (by simpa using q))
def tFor (wi : TI) (g : TG) (tb : TS) : TS := fun D σ H => wi σ H fun J H1 => ∃ W : Nat → Nat → St → Hp → Prop, (∃ m, W 0 m σ H1) ∧ ∀ i m σ H, W i m σ H →
  (J.stop i H ∧ D.nx σ H) ∨ (J.go i H ∧ ∃ N : St → Hp → Prop, (∀ σ' H', N σ' H' → ∃ m', m' < m ∧ W (i + 1) m' σ' H') ∧ ∀ x H', J.yld i H x H' → g x σ H' fun σ2 H2 => tb { D with nx := N, ct := N, bk := D.nx } σ2 H2)
def pinsAt (fp : List Addr) (h : Heap) : List (Addr × Obj) := fp.filterMap fun b => (h.get? b).map fun o => (b, o)
theorem mem_pinsAt {fp : List Addr} {h : Heap} {b : Addr} {o : Obj} (hb : b ∈ fp) (e : h.get? b = some o) : (b, o) ∈ pinsAt fp h := List.mem_filterMap.mpr ⟨b, hb, by rw [e]; rfl⟩
theorem of_pinsAt {fp : List Addr} {h : Heap} {p : Addr × Obj} (hp : p ∈ pinsAt fp h) : p.1 ∈ fp ∧ h.get? p.1 = some p.2 := by
  obtain ⟨b, hb, e⟩ := List.mem_filterMap.mp hp
  cases q : h.get? b with
  | none => rw [q] at e; cases e
  | some o =>
    rw [q] at e
    have e' : (b, o) = p := Option.some.inj e
    subst e'
    exact ⟨hb, q⟩
theorem Inv.pinned {pins : List (Addr × Obj)} {σ : St} {H : Hp} {s : Shared} {fp : List Addr} (I : Inv X pins σ H s) (hf : ∀ b ∈ fp, FpOk X pins H b) (ho : ∀ b ∈ fp, ∃ o, s.heap.get? b = some o ∧ ∀ v, o.data ≠ .cell v) : Inv X (pins ++ pinsAt fp s.heap) σ H s :=
  I.pins_of fun p hp => (List.mem_append.mp hp).elim (fun z => I.pin p (List.mem_append_right _ z)) fun z => by
    obtain ⟨hb, e⟩ := of_pinsAt z
    obtain ⟨f0, f1, f2, _⟩ := hf p.1 hb
    obtain ⟨o, e', d⟩ := ho p.1 hb
    rw [e] at e'; cases e'
    exact ⟨e, f0, f1, f2, d⟩
theorem Inv.unpinned {pins pl : List (Addr × Obj)} {σ : St} {H : Hp} {s : Shared} (I : Inv X (pins ++ pl) σ H s) : Inv X pins σ H s := I.pins_of fun p hp => I.pin p (List.mem_append_right _ (List.mem_append_left _ hp))
theorem ps_for {iter : Expr} {body : List Stmt} {wi : TI} {g : TG} {tb : TS} {pos : Pos} (hp : PassesOwn (model X.prog X.w) X.A X.env X.xe) (hc : X.calm = true) (hi : PI X tg iter wi) (hg : PG X tg g) (hb : PSs X body tb)
    (hs : ∀ x, foldedSetIterable iter X.env x = pure x := by intro _; rfl) : PS X (.For tg iter body [] pos) (tFor wi g tb) := by
  intro pins s σ H D I h
  refine wpAny_For (thn (hi pins s σ H _ I h) fun v s1 h1 => thn h1 fun itv s2 h2 => ?_) hs
  obtain ⟨it, fp, tn, J, H2, e, I2, T, st2, f2, W, ⟨m0, w0⟩, turn⟩ := h2
  subst e
  have stat : ∀ {H' : Hp}, (∀ b ∈ fp, H' b = none) → ∀ b ∈ fp, FpOk X pins H' b := fun hn b hb => ⟨hn b hb, (f2 b hb).2⟩
  refine codeAny_forLoop_any (fun n s' => ∃ i σ' H', Inv X pins σ' H' s' ∧ tn i s'.heap ∧ (∀ b ∈ fp, H' b = none) ∧ W i n σ' H') ?_ m0 ⟨0, σ, H2, I2, st2, fun b hb => (f2 b hb).1, w0⟩
  rintro n s3 ⟨i, σ3, H3, I3, st3, fr3, w3⟩
  rcases turn i n σ3 H3 w3 with ⟨stop, qn⟩ | ⟨go, N, hN, step⟩
  · refine wpAny_passesOwn hp (thn (T.done X rfl rfl rfl hc i pins s3 σ3 H3 X.xe I3 (stat fr3) st3 stop) fun r s4 ⟨hr, I4⟩ => ?_)
    subst hr
    exact wpAny_execs_nil ⟨σ3, H3, I4, qn⟩
  · refine wpAny_passesOwn hp (thn (T.item X rfl rfl rfl hc i pins s3 σ3 H3 X.xe I3 (stat fr3) st3 go) fun r s4 ⟨u, hr, h4⟩ => ?_)
    subst hr
    refine wpAny_passesOwn hp (thn h4 fun _ s5 ⟨x, H5, I5, r5, y5, st5, fr5⟩ => ?_)
    have I5' := I5.pinned (stat fr5) (T.obj _ _ st5)
    refine wpAny_passesOwn hp (thn (hg _ s5 σ3 H5 x u _ I5' r5 (step x H5 y5)) fun _ s6 ⟨σ6, H6, I6, q6⟩ => ?_)
    refine wpAny_passesOwn hp (thn (hb _ s6 σ6 H6 _ I6 q6) fun f s7 q7 => ?_)
    have again : ∀ {σ7 : St} {H7 : Hp}, Inv X (pins ++ pinsAt fp s5.heap) σ7 H7 s7 → N σ7 H7 → ∃ m, m < n ∧ ∃ i σ' H', Inv X pins σ' H' s7 ∧ tn i s7.heap ∧ (∀ b ∈ fp, H' b = none) ∧ W i m σ' H' := fun {σ7 H7} I7 n7 => by
      obtain ⟨m', hm, w7⟩ := hN σ7 H7 n7
      refine ⟨m', hm, i + 1, σ7, H7, I7.unpinned, T.keep _ _ _ st5 fun b hb o e => (I7.pin (b, o) (List.mem_append_right _ (List.mem_append_right _ (mem_pinsAt hb e)))).1, fun b hb => ?_, w7⟩
      obtain ⟨o, e, d⟩ := T.obj _ _ st5 b hb
      exact (I7.pin (b, o) (List.mem_append_right _ (List.mem_append_right _ (mem_pinsAt hb e)))).2.1
    cases f with
    | next => obtain ⟨σ7, H7, I7, n7⟩ := q7; exact again I7 n7
    | cont => obtain ⟨σ7, H7, I7, n7⟩ := q7; exact again I7 n7
    | brk => obtain ⟨σ7, H7, I7, q7⟩ := q7; exact ⟨σ7, H7, I7.unpinned, q7⟩
    | ret v => obtain ⟨x7, σ7, H7, I7, r7, q7⟩ := q7; exact ⟨x7, σ7, H7, I7.unpinned, r7, q7⟩
end
theorem for_list {K : PySem.W.Frag} {a : Addr} {xs : List V} {g : TG} {tb : TS} {D : Ends} {σ : St} {H : Hp} (Pv : Nat → St → Hp → Prop) (h0 : Pv 0 σ H) (hl : ∀ i σ H, i ≤ xs.length → Pv i σ H → SqL K H a xs)
    (hs : ∀ i x σ H, xs[i]? = some x → Pv i σ H → g x σ H fun σ2 H2 => tb { D with nx := Pv (i + 1), ct := Pv (i + 1), bk := D.nx } σ2 H2) (hd : ∀ σ H, Pv xs.length σ H → D.nx σ H) :
    ∃ W : Nat → Nat → St → Hp → Prop, (∃ m, W 0 m σ H) ∧ ∀ i m σ H, W i m σ H →
      ((Itl K a).stop i H ∧ D.nx σ H) ∨ ((Itl K a).go i H ∧ ∃ N : St → Hp → Prop, (∀ σ' H', N σ' H' → ∃ m', m' < m ∧ W (i + 1) m' σ' H') ∧ ∀ x H', (Itl K a).yld i H x H' → g x σ H' fun σ2 H2 => tb { D with nx := N, ct := N, bk := D.nx } σ2 H2) := by
  refine ⟨fun i m σ H => m = xs.length - i ∧ i ≤ xs.length ∧ Pv i σ H, ⟨xs.length, by simp, Nat.zero_le _, h0⟩, ?_⟩
  rintro i m σ H ⟨rfl, hi, p⟩
  have q := hl i σ H hi p
  by_cases hlt : i < xs.length
  · refine .inr ⟨⟨xs, xs[i], q, by simp [hlt]⟩, Pv (i + 1), fun σ' H' p' => ⟨xs.length - (i + 1), by omega, rfl, hlt, p'⟩, fun x H' y => ?_⟩
    obtain ⟨e, y⟩ := y
    subst e
    exact hs i x σ _ (y xs q) p
  · have e : i = xs.length := by omega
    subst e
    exact .inl ⟨⟨xs, q, Nat.le_refl _⟩, hd σ H p⟩
theorem for_range {lo : Int} {n : Nat} {g : TG} {tb : TS} {D : Ends} {σ : St} {H : Hp} (Pv : Nat → St → Hp → Prop) (h0 : Pv 0 σ H)
    (hs : ∀ i σ H, i < n → Pv i σ H → g (.int (lo + i)) σ H fun σ2 H2 => tb { D with nx := Pv (i + 1), ct := Pv (i + 1), bk := D.nx } σ2 H2) (hd : ∀ σ H, Pv n σ H → D.nx σ H) :
    ∃ W : Nat → Nat → St → Hp → Prop, (∃ m, W 0 m σ H) ∧ ∀ i m σ H, W i m σ H →
      ((Itr lo n).stop i H ∧ D.nx σ H) ∨ ((Itr lo n).go i H ∧ ∃ N : St → Hp → Prop, (∀ σ' H', N σ' H' → ∃ m', m' < m ∧ W (i + 1) m' σ' H') ∧ ∀ x H', (Itr lo n).yld i H x H' → g x σ H' fun σ2 H2 => tb { D with nx := N, ct := N, bk := D.nx } σ2 H2) := by
  refine ⟨fun i m σ H => m = n - i ∧ i ≤ n ∧ Pv i σ H, ⟨n, by simp, Nat.zero_le _, h0⟩, ?_⟩
  rintro i m σ H ⟨rfl, hi, p⟩
  by_cases hlt : i < n
  · refine .inr ⟨hlt, Pv (i + 1), fun σ' H' p' => ⟨n - (i + 1), by omega, rfl, hlt, p'⟩, fun x H' y => ?_⟩
    obtain ⟨e, y⟩ := y
    subst e y
    exact hs i σ _ hlt p
  · have e : i = n := by omega
    subst e
    exact .inl ⟨Nat.le_refl _, hd σ H p⟩
end L2
namespace L2
open PySem PySem.Spec PyProof.Rows
abbrev R2 := V → V → Hp → VK → Prop
def OpR (X : Cx) (f : Value → Value → Sem Value) (r : R2) : Prop :=
  ∀ (pins : List (Addr × Obj)) (s : Shared) (σ : St) (H : Hp) (x y : V) (v u : Value) (Q : VK), Inv X pins σ H s → RelV x v → RelV y u → r x y H Q →
    wpAny (model X.prog X.w) X.A (f v u) (EP X pins σ Q) X.xe s
def UnR (X : Cx) (f : Value → Sem Value) (r : V → Hp → VK → Prop) : Prop :=
  ∀ (pins : List (Addr × Obj)) (s : Shared) (σ : St) (H : Hp) (x : V) (v : Value) (Q : VK), Inv X pins σ H s → RelV x v → r x H Q →
    wpAny (model X.prog X.w) X.A (f v) (EP X pins σ Q) X.xe s
def CallR (X : Cx) (f : Value) (r : List V → Hp → VK → Prop) : Prop :=
  ∀ (pins : List (Addr × Obj)) (s : Shared) (σ : St) (H : Hp) (xs : List V) (us : List Value) (Q : VK), Inv X pins σ H s → Vals xs us → r xs H Q →
    wpAny (model X.prog X.w) X.A (call f us) (EP X pins σ Q) X.xe s
def TruR (X : Cx) (r : V → Hp → (Bool → Hp → Prop) → Prop) : Prop :=
  ∀ (pins : List (Addr × Obj)) (s : Shared) (σ : St) (H : Hp) (x : V) (v : Value) (Q : Bool → Hp → Prop), Inv X pins σ H s → RelV x v → r x H Q →
    wpAny (model X.prog X.w) X.A (truthy v) (TP X pins σ Q) X.xe s
def tOp (r : R2) (ta tb : TE) : TE := fun σ H Q => ta σ H fun x H1 => tb σ H1 fun y H2 => r x y H2 Q
def tUn (r : V → Hp → VK → Prop) (ta : TE) : TE := fun σ H Q => ta σ H fun x H1 => r x H1 Q
def rI (C : Int → Int → Prop) (g : Int → Int → V) : R2 := fun x y H Q => ∃ i j, x = .int i ∧ y = .int j ∧ C i j ∧ Q (g i j) H
def rI0 (g : Int → Int → V) : R2 := fun x y H Q => ∃ i j, x = .int i ∧ y = .int j ∧ Q (g i j) H
def rU (g : Int → V) : V → Hp → VK → Prop := fun x H Q => ∃ i, x = .int i ∧ Q (g i) H
section
variable {X : Cx} {a b c : Expr} {ta tb tc : TE} {pos : Pos}
theorem binT (ha : PE X a ta) (hb : PE X b tb) {pins : List (Addr × Obj)} {s : Shared} {σ : St} {H : Hp} {R : V → V → Hp → Prop} (I : Inv X pins σ H s)
    (h : ta σ H fun x H1 => tb σ H1 fun y H2 => R x y H2) {Q : Value → Shared → Prop} {f : Value → Value → Sem Value}
    (hf : ∀ v u s2 x y H2, Inv X pins σ H2 s2 → RelV x v → RelV y u → R x y H2 → wpAny (model X.prog X.w) X.A (f v u) Q X.xe s2) :
    wpAny (model X.prog X.w) X.A (eval a X.env) (fun v s₁ => wpAny (model X.prog X.w) X.A (eval b X.env) (fun u s₂ => wpAny (model X.prog X.w) X.A (f v u) Q X.xe s₂) X.xe s₁) X.xe s := by
  refine thn (ha pins s σ H _ I h) fun v s1 ⟨x, H1, I1, r1, q1⟩ => ?_
  refine thn (hb pins s1 σ H1 _ I1 q1) fun u s2 ⟨y, H2, I2, r2, q2⟩ => ?_
  exact hf v u s2 x y H2 I2 r1 r2 q2
theorem pe_op {op : Operator} {r : R2} (ho : OpR X (binaryOp op) r) (ha : PE X a ta) (hb : PE X b tb) : PE X (.BinOp a op b pos) (tOp r ta tb) := by
  intro pins s σ H Q I h
  exact wpAny_BinOp (binT ha hb I h fun v u s2 x y H2 I2 rx ry q => ho pins s2 σ H2 x y v u Q I2 rx ry q)
theorem pe_un {op : UnaryOp} {r : V → Hp → VK → Prop} (ho : UnR X (unaryOp op) r) (ha : PE X a ta) : PE X (.UnaryOp op a pos) (tUn r ta) := by
  intro pins s σ H Q I h
  exact UnaryOp_ (thn (ha pins s σ H _ I h) fun v s1 ⟨x, H1, I1, r1, q1⟩ => ho pins s1 σ H1 x v Q I1 r1 q1)
theorem opI {f : Value → Value → Sem Value} {C : Int → Int → Prop} {g : Int → Int → Int}
    (rule : ∀ (i j : Int) (t u : Tok) (s : Shared) (Q : Value → Shared → Prop) (E : Value → Shared → Prop), C i j → Q (.int (g i j) s.toks) { s with toks := s.toks + 1 } → wpAny (model X.prog X.w) X.A (f (.int i t) (.int j u)) Q E s) :
    OpR X f (rI C fun i j => .int (g i j)) := by
  intro pins s σ H x y v u Q I rx ry h
  obtain ⟨i, j, rfl, rfl, hc, q⟩ := h
  obtain ⟨t, rfl⟩ := rx
  obtain ⟨t', rfl⟩ := ry
  exact rule i j t t' s _ _ hc ⟨.int (g i j), H, I.tok _, ⟨_, rfl⟩, q⟩
theorem opI0 {f : Value → Value → Sem Value} {g : Int → Int → Int}
    (rule : ∀ (i j : Int) (t u : Tok) (s : Shared) (Q : Value → Shared → Prop) (E : Value → Shared → Prop), Q (.int (g i j) s.toks) { s with toks := s.toks + 1 } → wpAny (model X.prog X.w) X.A (f (.int i t) (.int j u)) Q E s) :
    OpR X f (rI0 fun i j => .int (g i j)) := by
  intro pins s σ H x y v u Q I rx ry h
  obtain ⟨i, j, rfl, rfl, q⟩ := h
  obtain ⟨t, rfl⟩ := rx
  obtain ⟨t', rfl⟩ := ry
  exact rule i j t t' s _ _ ⟨.int (g i j), H, I.tok _, ⟨_, rfl⟩, q⟩
theorem opB0 {f : Value → Value → Sem Value} {g : Int → Int → Bool}
    (rule : ∀ (i j : Int) (t u : Tok) (s : Shared) (Q : Value → Shared → Prop) (E : Value → Shared → Prop), Q (.bool (g i j)) s → wpAny (model X.prog X.w) X.A (f (.int i t) (.int j u)) Q E s) :
    OpR X f (rI0 fun i j => .bl (g i j)) := by
  intro pins s σ H x y v u Q I rx ry h
  obtain ⟨i, j, rfl, rfl, q⟩ := h
  obtain ⟨t, rfl⟩ := rx
  obtain ⟨t', rfl⟩ := ry
  exact rule i j t t' s _ _ ⟨.bl (g i j), H, I, rfl, q⟩
def CPow (i j : Int) : Prop := 0 ≤ j ∧ j ≤ 1000000 ∧ i.natAbs < 2 ^ 64
def CMul (i j : Int) : Prop := (-(2 ^ 64) < i ∧ i < 2 ^ 64) ∨ (-(2 ^ 64) < j ∧ j < 2 ^ 64)
theorem CMul.ok {i j : Int} (h : CMul i j) : IntMulOk i j := by
  rcases h with ⟨h1, h2⟩ | ⟨h1, h2⟩
  · exact .of_left (intBits_le_64 h1 h2)
  · exact .of_right (intBits_le_64 h1 h2)
theorem op_add : OpR X (binaryOp .Add) (rI0 fun i j => .int (i + j)) := opI0 fun _ _ _ _ _ _ _ q => add_int q
theorem op_sub : OpR X (binaryOp .Sub) (rI0 fun i j => .int (i - j)) := opI0 fun _ _ _ _ _ _ _ q => sub_int q
theorem op_mul : OpR X (binaryOp .Mult) (rI CMul fun i j => .int (i * j)) := opI fun _ _ _ _ _ _ _ hc q => mul_int q hc.ok
theorem op_mod : OpR X (binaryOp .Mod) (rI (fun _ j => 0 < j) fun i j => .int (i % j)) := opI fun i j _ _ _ _ _ hc q => by
  have h1 : (0 : Int) < j := hc
  exact mod_int' (by omega) (by rw [Int.fmod_eq_emod_of_nonneg i (by omega)]; exact q)
theorem op_pow : OpR X (binaryOp .Pow) (rI CPow fun i j => .int (i ^ j.toNat)) := opI fun _ _ _ _ _ _ _ hc q => pow_int_small hc.1 hc.2.1 hc.2.2 q
theorem unI {f : Value → Sem Value} {g : Int → Int}
    (rule : ∀ (i : Int) (t : Tok) (s : Shared) (Q : Value → Shared → Prop) (E : Value → Shared → Prop), Q (.int (g i) s.toks) { s with toks := s.toks + 1 } → wpAny (model X.prog X.w) X.A (f (.int i t)) Q E s) :
    UnR X f (rU fun i => .int (g i)) := by
  intro pins s σ H x v Q I rx h
  obtain ⟨i, rfl, q⟩ := h
  obtain ⟨t, rfl⟩ := rx
  exact rule i t s _ _ ⟨.int (g i), H, I.tok _, ⟨_, rfl⟩, q⟩
theorem un_neg : UnR X (unaryOp .USub) (rU fun i => .int (-i)) := unI fun _ _ _ _ _ q => neg_int q
end
def scal : V → V → Bool
  | .non, .non => true | .non, .int _ => true | .int _, .non => true | .non, .bl _ => true | .bl _, .non => true | .non, .str _ => true | .str _, .non => true
  | .int _, .int _ => true | .bl _, .bl _ => true | .str _, .str _ => true | .byt _, .byt _ => true
  | .int _, .str _ => true | .str _, .int _ => true | .bl _, .str _ => true | .str _, .bl _ => true
  | _, _ => false
def rEq : R2 := fun x y H Q => scal x y = true ∧ Q (.bl (decide (x = y))) H
def rNe : R2 := fun x y H Q => scal x y = true ∧ Q (.bl (!decide (x = y))) H
theorem dec_int {i j : Int} : decide (V.int i = V.int j) = (i == j) := by
  rw [Bool.eq_iff_iff]
  simp
theorem dec_bl {i j : Bool} : decide (V.bl i = V.bl j) = (i == j) := by
  rw [Bool.eq_iff_iff]
  simp
theorem dec_str {i j : Str} : decide (V.str i = V.str j) = (i == j) := by
  rw [Bool.eq_iff_iff]
  simp
theorem dec_byt {i j : Array UInt8} : decide (V.byt i = V.byt j) = (i.toList == j.toList) := by
  rw [Bool.eq_iff_iff]
  cases i
  cases j
  simp
section
variable {X : Cx} {a b c : Expr} {ta tb tc : TE} {pos : Pos}
theorem fin_bl {pins : List (Addr × Obj)} {σ : St} {H : Hp} {s : Shared} {Q : VK} {k k' : Bool} (I : Inv X pins σ H s) (q : Q (.bl k) H) (e : k = k') : EP X pins σ Q (.bool k') s := by
  subst e
  exact ⟨.bl k, H, I, rfl, q⟩
theorem op_eq : OpR X (compareOp .Eq) rEq := by
  intro pins s σ H x y v u Q I rx ry h
  obtain ⟨hs, q⟩ := h
  cases x with
  | non =>
    cases rx
    cases y with
    | non => cases ry; exact PySem.EqNone.eq_none_none (fin_bl I q (by simp))
    | bl j => cases ry; exact PySem.EqNone.eq_none_bool (fin_bl I q (by simp))
    | int j => obtain ⟨t', rfl⟩ := ry; exact PySem.EqNone.eq_none_int (fin_bl I q (by simp))
    | str j => obtain ⟨t', rfl⟩ := ry; exact PySem.EqNone.eq_none_str (fin_bl I q (by simp))
    | _ => exact absurd (show false = true from hs) Bool.false_ne_true
  | bl i =>
    cases rx
    cases y with
    | non => cases ry; exact PySem.EqNone.eq_bool_none (fin_bl I q (by simp))
    | bl j => cases ry; exact eq_bool (fin_bl I q dec_bl)
    | str j => obtain ⟨t', rfl⟩ := ry; exact PySem.EqMixed.eq_bool_str (fin_bl I q (by simp))
    | _ => exact absurd (show false = true from hs) Bool.false_ne_true
  | int i =>
    obtain ⟨t, rfl⟩ := rx
    cases y with
    | non => cases ry; exact PySem.EqNone.eq_int_none (fin_bl I q (by simp))
    | int j => obtain ⟨t', rfl⟩ := ry; exact eq_int (fin_bl I q dec_int)
    | str j => obtain ⟨t', rfl⟩ := ry; exact PySem.EqMixed.eq_int_str (fin_bl I q (by simp))
    | _ => exact absurd (show false = true from hs) Bool.false_ne_true
  | str i =>
    obtain ⟨t, rfl⟩ := rx
    cases y with
    | non => cases ry; exact PySem.EqNone.eq_str_none (fin_bl I q (by simp))
    | bl j => cases ry; exact PySem.EqMixed.eq_str_bool (fin_bl I q (by simp))
    | int j => obtain ⟨t', rfl⟩ := ry; exact PySem.EqMixed.eq_str_int (fin_bl I q (by simp))
    | str j => obtain ⟨t', rfl⟩ := ry; exact eq_str (fin_bl I q dec_str)
    | _ => exact absurd (show false = true from hs) Bool.false_ne_true
  | byt i =>
    obtain ⟨t, rfl⟩ := rx
    cases y with
    | byt j => obtain ⟨t', rfl⟩ := ry; exact PySem.W.eq_bytes (fin_bl I q dec_byt)
    | _ => exact absurd (show false = true from hs) Bool.false_ne_true
  | _ => cases y <;> exact absurd (show false = true from hs) Bool.false_ne_true
theorem op_ne : OpR X (compareOp .NotEq) rNe := by
  intro pins s σ H x y v u Q I rx ry h
  obtain ⟨hs, q⟩ := h
  cases x with
  | non =>
    cases rx
    cases y with
    | non => cases ry; exact PySem.EqNone.ne_none_none (fin_bl I q (by simp))
    | bl j => cases ry; exact PySem.EqNone.ne_none_bool (fin_bl I q (by simp))
    | int j => obtain ⟨t', rfl⟩ := ry; exact PySem.EqNone.ne_none_int (fin_bl I q (by simp))
    | str j => obtain ⟨t', rfl⟩ := ry; exact PySem.EqNone.ne_none_str (fin_bl I q (by simp))
    | _ => exact absurd (show false = true from hs) Bool.false_ne_true
  | bl i =>
    cases rx
    cases y with
    | non => cases ry; exact PySem.EqNone.ne_bool_none (fin_bl I q (by simp))
    | bl j => cases ry; exact ne_bool (fin_bl I q (congrArg not dec_bl))
    | str j => obtain ⟨t', rfl⟩ := ry; exact PySem.EqMixed.ne_bool_str (fin_bl I q (by simp))
    | _ => exact absurd (show false = true from hs) Bool.false_ne_true
  | int i =>
    obtain ⟨t, rfl⟩ := rx
    cases y with
    | non => cases ry; exact PySem.EqNone.ne_int_none (fin_bl I q (by simp))
    | int j => obtain ⟨t', rfl⟩ := ry; exact ne_int (fin_bl I q (congrArg not dec_int))
    | str j => obtain ⟨t', rfl⟩ := ry; exact PySem.EqMixed.ne_int_str (fin_bl I q (by simp))
    | _ => exact absurd (show false = true from hs) Bool.false_ne_true
  | str i =>
    obtain ⟨t, rfl⟩ := rx
    cases y with
    | non => cases ry; exact PySem.EqNone.ne_str_none (fin_bl I q (by simp))
    | bl j => cases ry; exact PySem.EqMixed.ne_str_bool (fin_bl I q (by simp))
    | int j => obtain ⟨t', rfl⟩ := ry; exact PySem.EqMixed.ne_str_int (fin_bl I q (by simp))
    | str j => obtain ⟨t', rfl⟩ := ry; exact ne_str (fin_bl I q (congrArg not dec_str))
    | _ => exact absurd (show false = true from hs) Bool.false_ne_true
  | byt i =>
    obtain ⟨t, rfl⟩ := rx
    cases y with
    | byt j => obtain ⟨t', rfl⟩ := ry; exact PySem.W.ne_bytes (fin_bl I q (congrArg not dec_byt))
    | _ => exact absurd (show false = true from hs) Bool.false_ne_true
  | _ => cases y <;> exact absurd (show false = true from hs) Bool.false_ne_true
theorem op_lt : OpR X (compareOp .Lt) (rI0 fun i j => .bl (decide (i < j))) := opB0 fun _ _ _ _ _ _ _ q => lt_int q
theorem op_le : OpR X (compareOp .LtE) (rI0 fun i j => .bl (decide (i ≤ j))) := opB0 fun _ _ _ _ _ _ _ q => le_int q
theorem op_gt : OpR X (compareOp .Gt) (rI0 fun i j => .bl (decide (j < i))) := opB0 fun _ _ _ _ _ _ _ q => gt_int q
theorem op_ge : OpR X (compareOp .GtE) (rI0 fun i j => .bl (decide (j ≤ i))) := opB0 fun _ _ _ _ _ _ _ q => ge_int q
theorem op_isN : OpR X (compareOp .Is) (fun x y H Q => y = .non ∧ Q (.bl (decide (x = .non))) H) := by
  intro pins s σ H x y v u Q I rx ry h
  obtain ⟨rfl, q⟩ := h
  cases ry
  refine is_none_gen (fin_bl I q ?_)
  cases x <;> first
    | (cases rx; rfl)
    | (obtain ⟨t, rfl⟩ := rx; rfl)
theorem op_notN : OpR X (compareOp .IsNot) (fun x y H Q => y = .non ∧ Q (.bl (!decide (x = .non))) H) := by
  intro pins s σ H x y v u Q I rx ry h
  obtain ⟨rfl, q⟩ := h
  cases ry
  refine isnot_none_gen (fin_bl I q ?_)
  cases x <;> first
    | (cases rx; rfl)
    | (obtain ⟨t, rfl⟩ := rx; rfl)
theorem OpR.or {f : Value → Value → Sem Value} {r r' : R2} (h : OpR X f r) (h' : OpR X f r') : OpR X f (fun x y H Q => r x y H Q ∨ r' x y H Q) := by
  intro pins s σ H x y v u Q I rx ry q
  rcases q with q | q
  · exact h pins s σ H x y v u Q I rx ry q
  · exact h' pins s σ H x y v u Q I rx ry q
theorem nomark (b : Expr) {op : CmpOp} (h : op ≠ .In := by decide) (h2 : op ≠ .NotIn := by decide) : behindInMarks op b = false := by
  have e1 : (op == CmpOp.In) = false := by cases op <;> first | rfl | exact absurd rfl h
  have e2 : (op == CmpOp.NotIn) = false := by cases op <;> first | rfl | exact absurd rfl h2
  cases b <;> simp [behindInMarks, e1, e2]
theorem pe_cmpR {op : CmpOp} {r : R2} (ho : OpR X (compareOp op) r) (ha : PE X a ta) (hb : PE X b tb) (hm : behindInMarks op b = false) : PE X (.Compare a [op] [b] pos) (tOp r ta tb) := by
  intro pins s σ H Q I h
  exact wpAny_Compare1 (binT ha hb I h fun v u s2 x y H2 I2 rx ry q => ho pins s2 σ H2 x y v u Q I2 rx ry q) hm
def tTest (t : TE) : TT := fun σ H Q => t σ H fun x H' => ∃ k, x = .bl k ∧ Q k H'
theorem pt_cmpR {op : CmpOp} {r : R2} (ho : OpR X (compareOp op) r) (ha : PE X a ta) (hb : PE X b tb) (hm : behindInMarks op b = false) : PT X (.Compare a [op] [b] pos) (tTest (tOp r ta tb)) := by
  intro pins s σ H Q I h
  refine wpAny_isTrue_Compare1 (thn (ha pins s σ H _ I h) fun v s1 ⟨x, H1, I1, r1, q1⟩ => thn (hb pins s1 σ H1 _ I1 q1) fun u s2 ⟨y, H2, I2, r2, q2⟩ =>
    thn (ho pins s2 σ H2 x y v u _ I2 r1 r2 q2) fun c s3 ⟨z, H3, I3, r3, k, e, q3⟩ => ?_) hm
  subst e
  cases r3
  exact wpAny_truthy_bool ⟨H3, I3, q3⟩
def tChain (r r' : R2) (ta tb tc : TE) : TE := fun σ H Q => ta σ H fun x H1 => tb σ H1 fun y H2 => r x y H2 fun z H3 => ∃ k, z = .bl k ∧
  (if k = true then tc σ H3 fun w' H4 => r' y w' H4 Q else Q (.bl false) H3)
theorem pt_chain {op op' : CmpOp} {r r' : R2} (ho : OpR X (compareOp op) r) (ho' : OpR X (compareOp op') r') (ha : PE X a ta) (hb : PE X b tb) (hc : PE X c tc)
    (hm : lastMarks [op, op'] [b, c] = false := by with_unfolding_all rfl) : PT X (.Compare a [op, op'] [b, c] pos) (tTest (tChain r r' ta tb tc)) := by
  intro pins s σ H Q I h
  refine isTrue_chain (thn (ha pins s σ H _ I h) fun v s1 ⟨x, H1, I1, r1, q1⟩ => test_link (thn (hb pins s1 σ H1 _ I1 q1) fun u s2 ⟨y, H2, I2, r2, q2⟩ =>
    thn (ho pins s2 σ H2 x y v u _ I2 r1 r2 q2) fun d s3 ⟨z, H3, I3, r3, k, e, q3⟩ => ?_)) hm
  subst e
  cases r3
  refine wpAny_truthy_bool ?_
  cases k with
  | false =>
    obtain ⟨k', e', q'⟩ := q3
    cases e'
    exact ite_ff ⟨H3, I3, q'⟩
  | true =>
    refine ite_tt (test_last (thn (hc pins s3 σ H3 _ I3 q3) fun w' s4 ⟨z', H4, I4, r4, q4⟩ => thn (ho' pins s4 σ H4 y z' u w' _ I4 r2 r4 q4) fun d' s5 ⟨z2, H5, I5, r5, k2, e2, q5⟩ => ?_))
    subst e2
    cases r5
    exact wpAny_truthy_bool ⟨H5, I5, q5⟩
def TruV (K : PySem.W.Frag) (x : V) (H : Hp) (k : Bool) : Prop :=
  match x with
  | .non => k = false
  | .bl b => k = b
  | .int i => k = (i != 0)
  | .str y => y.length ≤ sizeLine ∧ k = ((y.length : Int) != 0)
  | .byt y => y.size ≤ sizeLine ∧ k = ((y.size : Int) != 0)
  | .ref p => (∃ xs, SqL K H p xs ∧ k = !xs.isEmpty) ∨ (∃ xs, SqT K H p xs ∧ k = !xs.isEmpty) ∨ ∃ kvs, H p = some (.dK kvs) ∧ k = !kvs.isEmpty
  | _ => False
theorem isEmpty_kv {κ : Type} {kvs : List (κ × V)} {vs : List (κ × Value)} (r : KV kvs vs) : (!vs.isEmpty) = !kvs.isEmpty := by
  cases r <;> rfl
theorem isEmpty_of {xs : List V} {its : List Value} (r : Vals xs its) : (!its.toArray.isEmpty) = !xs.isEmpty := by
  cases r <;> simp
theorem line63 : (sizeLine : Nat) < 2 ^ 63 := by rw [sizeLine_eq]; decide
theorem tru_ok : TruR X (fun x H Q => ∃ k, TruV X.K x H k ∧ Q k H) := by
  intro pins s σ H x v Q I rx h
  obtain ⟨k, e, q⟩ := h
  have hl := line63
  have hs : sizeLine = 16777216 := sizeLine_eq
  cases x with
  | non =>
    cases rx
    have e' : k = false := e
    subst e'
    exact truthy_none ⟨H, I, q⟩
  | bl b =>
    cases rx
    have e' : k = b := e
    subst e'
    exact wpAny_truthy_bool ⟨H, I, q⟩
  | int i =>
    obtain ⟨t, rfl⟩ := rx
    have e' : k = (i != 0) := e
    subst e'
    exact PySem.P.truthy_int ⟨H, I, q⟩
  | str y =>
    obtain ⟨t, rfl⟩ := rx
    obtain ⟨hy, e'⟩ : y.length ≤ sizeLine ∧ k = ((y.length : Int) != 0) := e
    subst e'
    exact PySem.P.truthy_str (by omega) ⟨H, I.tok _, q⟩
  | byt y =>
    obtain ⟨t, rfl⟩ := rx
    obtain ⟨hy, e'⟩ : y.size ≤ sizeLine ∧ k = ((y.size : Int) != 0) := e
    subst e'
    exact PySem.W.truthy_bytes (by omega) ⟨H, I.tok _, q⟩
  | ref p =>
    cases rx
    have e' : (∃ xs, SqL X.K H p xs ∧ k = !xs.isEmpty) ∨ (∃ xs, SqT X.K H p xs ∧ k = !xs.isEmpty) ∨ ∃ kvs, H p = some (.dK kvs) ∧ k = !kvs.isEmpty := e
    rcases e' with ⟨xs, hx, e'⟩ | ⟨xs, hx, e'⟩ | ⟨kvs, hx, e'⟩
    · subst e'
      obtain ⟨its, r, pl, hz⟩ := I.list hx
      have hlen := r.length
      exact wpAny_truthy_list pl.isList (by simp only [List.size_toArray]; omega) ⟨H, I.tok _, by rw [isEmpty_of r]; exact q⟩
    · subst e'
      obtain ⟨its, r, pl, hz⟩ := I.tuple hx
      have hlen := r.length
      exact truthy_tuple pl (by simp only [List.size_toArray]; omega) ⟨H, I.tok _, by rw [isEmpty_of r]; exact q⟩
    · subst e'
      obtain ⟨hz, hS, vs, r, m⟩ : kvs.length ≤ sizeLine ∧ (p == sysModules) = false ∧ ∃ vs, KV kvs vs ∧ s.heap.DictOf (mixKind X.prog X.w) p vs := I.hok p _ hx
      have hlen : kvs.length = vs.length := Paired.length r
      exact wpAny_truthy_dict hS m (by omega) ⟨H, I.tok _, by rw [isEmpty_kv r]; exact q⟩
  | _ => exact (show False from e).elim
theorem vals1 {x : V} {us : List Value} (r : Vals [x] us) : ∃ u, us = [u] ∧ RelV x u := by
  cases r with
  | cons r1 r2 => cases r2; exact ⟨_, rfl, r1⟩
theorem vals2 {x y : V} {us : List Value} (r : Vals [x, y] us) : ∃ u w', us = [u, w'] ∧ RelV x u ∧ RelV y w' := by
  cases r with
  | cons r1 r2 =>
    cases r2 with
    | cons r3 r4 => cases r4; exact ⟨_, _, rfl, r1, r3⟩
theorem call_abs : CallR X (.builtin "abs") (fun xs H Q => ∃ i, xs = [.int i] ∧ Q (.int (if i < 0 then -i else i)) H) := by
  intro pins s σ H xs us Q I r h
  obtain ⟨i, rfl, q⟩ := h
  obtain ⟨u, rfl, t, rfl⟩ := vals1 r
  exact call_abs_int fun u tk => ⟨.int (if i < 0 then -i else i), H, I.tok _, ⟨_, rfl⟩, q⟩
theorem call_max2 (hc : X.calm = true) : CallR X (.builtin "max") (fun xs H Q => ∃ i j, xs = [.int i, .int j] ∧ Q (.int (if j > i then j else i)) H) := by
  intro pins s σ H xs us Q I r h
  obtain ⟨i, j, rfl, q⟩ := h
  obtain ⟨u, w', rfl, ⟨t, rfl⟩, ⟨t', rfl⟩⟩ := vals2 r
  refine max_two_ints (I.ok.hd hc) fun h' tk k => ⟨_, H, I.kept k, ?_, q⟩
  by_cases hj : j > i
  · rw [if_pos hj, if_pos hj]; exact ⟨_, rfl⟩
  · rw [if_neg hj, if_neg hj]; exact ⟨_, rfl⟩
theorem call_int1 : CallR X (.type "int") (fun xs H Q => (∃ i, xs = [.int i] ∧ Q (.int i) H) ∨ ∃ k, xs = [.bl k] ∧ Q (.int (if k then 1 else 0)) H) := by
  intro pins s σ H xs us Q I r h
  rcases h with ⟨i, rfl, q⟩ | ⟨k, rfl, q⟩
  · obtain ⟨u, rfl, t, rfl⟩ := vals1 r
    exact call_int_int ⟨.int i, H, I, ⟨_, rfl⟩, q⟩
  · obtain ⟨u, rfl, r1⟩ := vals1 r
    cases r1
    exact call_int_bool ⟨.int (if k then 1 else 0), H, I.tok _, ⟨_, rfl⟩, q⟩
def LenV (K : PySem.W.Frag) (x : V) (H : Hp) (n : Nat) : Prop :=
  match x with
  | .str y => y.length ≤ sizeLine ∧ n = y.length
  | .byt y => y.size ≤ sizeLine ∧ n = y.size
  | .ref p => (∃ xs, SqL K H p xs ∧ n = xs.length) ∨ ∃ xs, SqT K H p xs ∧ n = xs.length
  | _ => False
theorem call_len : CallR X (.builtin "len") (fun xs H Q => ∃ x n, xs = [x] ∧ LenV X.K x H n ∧ Q (.int n) H) := by
  intro pins s σ H xs us Q I r h
  obtain ⟨x, n, rfl, e, q⟩ := h
  obtain ⟨u, rfl, rx⟩ := vals1 r
  have hl := line63
  have hs : sizeLine = 16777216 := sizeLine_eq
  cases x with
  | str y =>
    obtain ⟨t, rfl⟩ := rx
    obtain ⟨hy, e'⟩ : y.length ≤ sizeLine ∧ n = y.length := e
    subst e'
    exact len_str (by omega) ⟨.int _, H, I.tok _, ⟨_, rfl⟩, q⟩
  | byt y =>
    obtain ⟨t, rfl⟩ := rx
    obtain ⟨hy, e'⟩ : y.size ≤ sizeLine ∧ n = y.size := e
    subst e'
    exact PySem.W.len_bytes (by omega) ⟨.int _, H, I.tok _, ⟨_, rfl⟩, q⟩
  | ref p =>
    cases rx
    have e' : (∃ xs, SqL X.K H p xs ∧ n = xs.length) ∨ ∃ xs, SqT X.K H p xs ∧ n = xs.length := e
    rcases e' with ⟨xs, hx, e'⟩ | ⟨xs, hx, e'⟩
    · subst e'
      obtain ⟨its, r', pl, hz⟩ := I.list hx
      have hlen := r'.length
      exact Calls.call_len_list pl.isList (by simp only [List.size_toArray]; omega) ⟨.int xs.length, H, I.tok _, ⟨_, by simp only [List.size_toArray]; rw [hlen]⟩, q⟩
    · subst e'
      obtain ⟨its, r', pl, hz⟩ := I.tuple hx
      have hlen := r'.length
      exact len_tuple pl (by simp only [List.size_toArray]; omega) ⟨.int xs.length, H, I.tok _, ⟨_, by simp only [List.size_toArray]; rw [hlen]⟩, q⟩
  | _ => exact (show False from e).elim
end
end L2
namespace L2
open PySem PySem.Spec PyProof.Rows
structure ObjM (h : Heap) (x dx C : Addr) (mA : Str → Option Value) : Prop where
  obj : h.get? x = some (PySem.W.instObj C dx)
  ns : h.Ns1 dx mA
  ne : dx ≠ x
theorem lookIn_ns {h : Heap} {dx : Addr} {mA : Str → Option Value} (n : h.Ns1 dx mA) : ∃ od, h.get? dx = some od ∧ ∀ name, PySem.W.lookIn name od = some (mA name) := by
  obtain ⟨o, es, ep, ho, hd, hk, _, hm⟩ := n
  refine ⟨o, ho, fun name => ?_⟩
  have e := hm name
  unfold nsFind findBy at e
  rw [← Array.find?_toList] at e
  unfold PySem.W.lookIn
  rw [hd]
  dsimp only
  split
  · rename_i y q
    rw [q] at e
    exact congrArg some e
  · rename_i q
    rw [q] at e
    have a : es.toList.any (·.refKey) = false := by
      rw [List.any_eq_false]
      intro y hy
      obtain ⟨z, t, hkey⟩ := hk y (Array.mem_toList_iff.mp hy)
      simp [DictEntry.refKey, hkey]
    have a' : ¬ es.toList.any (·.refKey) = true := by rw [a]; exact Bool.false_ne_true
    rw [if_neg a']
    exact congrArg some e
theorem ObjM.look {h : Heap} {x dx C : Addr} {mA : Str → Option Value} (I : ObjM h x dx C mA) : ∃ od, PySem.W.InstAt h x (PySem.W.instObj C dx) C (some od) ∧ ∀ name, PySem.W.lookIn name od = some (mA name) :=
  let ⟨od, ho, hl⟩ := lookIn_ns I.ns
  ⟨od, ⟨I.obj, rfl, rfl, ho⟩, hl⟩
section
variable {prog : Program} {w : World} {A : Around} {E : Value → Shared → Prop} {s : Shared} {K : PySem.W.Frag} {x dx C f : Addr} {mA : Str → Option Value} {name : Str} {v : Value}
theorem get_map {expr : Bool} {Q : Value → Shared → Prop} (X : K.In s.heap) (I : ObjM s.heap x dx C mA) (hg : PySem.W.plainGet K C name = true) (hh : PySem.W.hasDictIn K C = true)
    (ha : PySem.W.findIn K (.ref C) name = some none) (hv : mA name = some v) (hv' : PySem.W.handedIn v = true) (h : Q v { s with toks := s.toks + 1 }) :
    wpAny (model prog w) A (getAttr (.ref x) name expr) Q E s := by
  obtain ⟨od, J, hl⟩ := I.look
  exact PySem.W.get_value X J (PySem.W.plainGet_of hg).1 (PySem.W.findObj_own hh ha rfl (by rw [hl, hv])) hv' h
theorem get_meth {pl : Sem Bool} {Q : Value × List Value → Shared → Prop} (X : K.In s.heap) (I : ObjM s.heap x dx C mA) (hg : PySem.W.plainGet K C name = true)
    (hf : PySem.W.findIn K (.ref C) name = some (some (.ref f))) (ht : PySem.W.isFn K (.ref f) = true) (hv : mA name = none) (h : Q (.ref f, [.ref x]) s) :
    wpAny (model prog w) A (getMethod (.ref x) name pl) Q E s := by
  obtain ⟨od, J, hl⟩ := I.look
  exact PySem.W.method_fn X J (PySem.W.plainGet_of hg).1 (PySem.W.plainGet_of hg).2 hf (beq_iff_eq.mp ht) (by show (PySem.W.lookIn name od).map (·.isSome) = some false; rw [hl, hv]; rfl) h
theorem set_map {ns : List Str} {Q : Unit → Shared → Prop} (X : K.In s.heap) (I : ObjM s.heap x dx C mA)
    (hs : PySem.W.findIn K (.ref C) "__setattr__" = some (some (.builtin "object.__setattr__"))) (hp : PySem.W.plainOver K C = true) (ht : PySem.W.takerIn K C name = some none) (hh : PySem.W.hasDictIn K C = true)
    (hw : PySem.Within mA ns) (hsz : ns.length ≤ sizeLine)
    (h : ∀ h', ObjM h' x dx C (fun y => if y = name then some v else mA y) → Heap.SameBut dx s.heap h' → Q () { s with heap := h', toks := s.toks + 2 }) :
    wpAny (model prog w) A (setAttr (.ref x) name v) Q E s := by
  obtain ⟨od, J, hl⟩ := I.look
  refine PySem.W.set_plain X J hs (PySem.W.osa_open (s := { s with toks := s.toks + 1 }) (r := none) X J hp ht fun b => ?_)
  obtain ⟨cd, hc, hd'⟩ := PySem.W.any_some hh
  have hx : s.heap.get? x = some ⟨.ref C, some dx, .plain, #[]⟩ := I.obj
  refine wpAny_bind (wpAny_pure (wpAny_bind (wpAny_bind (wpAny_loadPart hx (wpAny_bind (PySem.W.Looks.here (s := { s with toks := s.toks + 1 }) (PySem.W.looks_clsIn X hc) ?_))))))
  rw [hd']
  refine wpAny_pure (a := some dx) (wpAny_bind (wpAny_pure (wpAny_bind ?_)))
  refine wpAny_nsSet1 (s := { s with toks := s.toks + 1 }) I.ns fun h' hn2 hs2 => ?_
  obtain ⟨oD, esD, epD, hoD, hdD, hcD⟩ := hn2.count (PySem.Within.cons name v hw)
  refine wpAny_bind (wpAny_lookBehind hoD (by rw [hdD]; exact pastItsLine_dict (Nat.le_trans hcD (by rw [List.length_cons]; omega))) ?_)
  exact wpAny_pure (h _ ⟨(hs2.2 _ (Ne.symm I.ne)).trans I.obj, hn2, I.ne⟩ hs2)
theorem make_map {R : Result → Shared → Prop} {vs : List Value} {kw : List (Str × Value)} (X : K.In s.heap) (hm : PySem.W.makesIn K C = true)
    (hi : PySem.W.findIn K (.ref C) "__init__" = some (some (.ref f))) (hf : PySem.W.typeIn K (.ref f) = some (.type "function"))
    (h : codeAny (model prog w) (A.under (.builtin "type.__call__" ⟨.ref C :: vs, kw⟩)) (.call (.ref f) ⟨.ref (s.heap.objs.size + 1) :: vs, kw⟩) (PySem.W.InitBack (s.heap.objs.size + 1) R)
      { s with heap := (s.heap.push PySem.W.emptyDict).push (PySem.W.instObj C s.heap.objs.size) }) :
    codeAny (model prog w) A (.call (.ref C) ⟨vs, kw⟩) R s := by
  obtain ⟨hh, g, d, t, os⟩ := s
  exact PySem.W.make_core (PySem.W.makes_of X hm) (PySem.W.looks_findIn X hi) (fun self => PySem.W.bind_fn X self hf) (.inl rfl) h
end
def putF (f : Str) (v : V) : List (Str × V) → List (Str × V)
  | [] => [(f, v)]
  | (g, x) :: r => if g = f then (g, v) :: r else (g, x) :: putF f v r
theorem lookup_putF (f g : Str) (v : V) : ∀ fs : List (Str × V), (putF f v fs).lookup g = if g = f then some v else fs.lookup g
  | [] => by
    show List.lookup g [(f, v)] = _
    by_cases h : g = f
    · have hb : (g == f) = true := beq_iff_eq.mpr h
      simp only [List.lookup, hb, if_pos h]
    · have hb : (g == f) = false := beq_eq_false_iff_ne.mpr h
      simp only [List.lookup, hb, if_neg h]
  | (k, x) :: r => by
    have ih := lookup_putF f g v r
    rw [show putF f v ((k, x) :: r) = (if k = f then (k, v) :: r else (k, x) :: putF f v r) from rfl]
    by_cases hk : k = f
    · rw [if_pos hk]
      by_cases h : g = k
      · have hb : (g == k) = true := beq_iff_eq.mpr h
        simp only [List.lookup, hb, if_pos (h.trans hk)]
      · have hb : (g == k) = false := beq_eq_false_iff_ne.mpr h
        simp only [List.lookup, hb, if_neg (fun e : g = f => h (e.trans hk.symm))]
    · rw [if_neg hk]
      by_cases h : g = k
      · have hb : (g == k) = true := beq_iff_eq.mpr h
        simp only [List.lookup, hb, if_neg (fun e : g = f => hk (h.symm.trans e))]
      · have hb : (g == k) = false := beq_eq_false_iff_ne.mpr h
        simp only [List.lookup, hb]
        exact ih
theorem keys_putF (f : Str) (v : V) : ∀ fs : List (Str × V), f ∈ (putF f v fs).map (·.1) ∧ ∀ g, g ∈ fs.map (·.1) → g ∈ (putF f v fs).map (·.1)
  | [] => ⟨by simp [putF], fun g h => by simp at h⟩
  | (k, x) :: r => by
    obtain ⟨i1, i2⟩ := keys_putF f v r
    rw [show putF f v ((k, x) :: r) = (if k = f then (k, v) :: r else (k, x) :: putF f v r) from rfl]
    by_cases hk : k = f
    · rw [if_pos hk]
      subst hk
      exact ⟨by simp, fun g h => by simpa using h⟩
    · rw [if_neg hk]
      refine ⟨?_, fun g h => ?_⟩
      · rw [List.map_cons]
        exact List.mem_cons_of_mem _ i1
      · rw [List.map_cons] at h ⊢
        rcases List.mem_cons.mp h with e | e
        · exact List.mem_cons.mpr (.inl e)
        · exact List.mem_cons_of_mem _ (i2 g e)
theorem length_putF (f : Str) (v : V) : ∀ fs : List (Str × V), (putF f v fs).length ≤ fs.length + 1
  | [] => by simp [putF]
  | (k, x) :: r => by
    have ih := length_putF f v r
    rw [show putF f v ((k, x) :: r) = (if k = f then (k, v) :: r else (k, x) :: putF f v r) from rfl]
    by_cases hk : k = f
    · rw [if_pos hk, List.length_cons, List.length_cons]; omega
    · rw [if_neg hk, List.length_cons, List.length_cons]; omega
theorem RelO.some_of {v : V} {o : Option Value} (r : RelO (some v) o) : ∃ u, o = some u ∧ RelV v u := by
  cases o with
  | none => exact (show False from r).elim
  | some u => exact ⟨u, rfl, r⟩
theorem RelO.none_of {o : Option Value} (r : RelO none o) : o = none := by
  cases o with
  | none => rfl
  | some u => exact (show False from r).elim
theorem handed_of {v : V} {u : Value} (r : RelV v u) : PySem.W.handedIn u = true := by
  cases v with
  | non => cases (show u = Value.none from r); rfl
  | bl b => cases (show u = Value.bool b from r); rfl
  | int i => obtain ⟨t, e⟩ := (show ∃ t, u = Value.int i t from r); cases e; rfl
  | str x => obtain ⟨t, e⟩ := (show ∃ t, u = Value.str x t from r); cases e; rfl
  | byt b => obtain ⟨t, e⟩ := (show ∃ t, u = Value.bytes b t from r); cases e; rfl
  | flt b => obtain ⟨t, e⟩ := (show ∃ t, u = Value.float b t from r); cases e; rfl
  | ref a => cases (show u = Value.ref a from r); rfl
  | ty n => cases (show u = Value.type n from r); rfl
section
variable {P : Program} {w : World} {H H' : Hp} {h h' : Heap} {a C dx : Addr} {fs fs' : List (Str × V)}
theorem ins_get (hok : HOk P w H h) (e : H a = some (.ins C dx fs)) : ∃ mA, ObjM h a dx C mA ∧ (∀ f, RelO (fs.lookup f) (mA f)) ∧ PySem.Within mA (fs.map (·.1)) ∧ fs.length ≤ 1000 ∧ H dx = some (.own a) := by
  obtain ⟨d, z, ne, ob, mA, n, r, q⟩ := (show ObjOk P w H h a (.ins C dx fs) from hok a _ e)
  exact ⟨mA, ⟨ob, n, ne⟩, r, q, z, d⟩
end
structure Cls (K : PySem.W.Frag) (C : Addr) : Prop where
  pg : PySem.W.plainGet K C Str.empty = true
  hd : PySem.W.hasDictIn K C = true
  po : PySem.W.plainOver K C = true
  sa : PySem.W.findIn K (.ref C) "__setattr__" = some (some (.builtin "object.__setattr__"))
theorem Cls.get {K : PySem.W.Frag} {C : Addr} (c : Cls K C) (f : Str) : PySem.W.plainGet K C f = true := c.pg
def NoAttr (K : PySem.W.Frag) (C : Addr) (f : Str) : Prop := PySem.W.findIn K (.ref C) f = some none
theorem NoAttr.taker {K : PySem.W.Frag} {C : Addr} {f : Str} (n : NoAttr K C f) : PySem.W.takerIn K C f = some none := by
  unfold PySem.W.takerIn
  rw [show PySem.W.findIn K (.ref C) f = some none from n]
  rfl
structure Meth (K : PySem.W.Frag) (C : Addr) (m : Str) (f : Addr) : Prop where
  at_ : PySem.W.findIn K (.ref C) m = some (some (.ref f))
  fn : PySem.W.isFn K (.ref f) = true
  kp : PySem.W.keepIn K (.ref f) = true
section
variable {X : Cx} {pins : List (Addr × Obj)} {σ : St} {H : Hp} {s : Shared} {a C dx : Addr} {fs : List (Str × V)} {f : Str} {v : V} {A : Around} {E : Value → Shared → Prop}
theorem getattr_ok {b : Bool} {Q : Value → Shared → Prop} (I : Inv X pins σ H s) (e : H a = some (.ins C dx fs)) (c : Cls X.K C) (n : NoAttr X.K C f) (l : fs.lookup f = some v)
    (h : ∀ u s', Inv X pins σ H s' → RelV v u → Q u s') : wpAny (model X.prog X.w) A (getAttr (.ref a) f b) Q E s := by
  obtain ⟨mA, O, r, _, _, _⟩ := ins_get I.hok e
  obtain ⟨u, hu, ru⟩ := RelO.some_of (v := v) (o := mA f) (by rw [← l]; exact r f)
  exact get_map I.kIn O (c.get f) c.hd n hu (handed_of ru) (h u _ (I.tok _) ru)
theorem getmeth_ok {m : Str} {g : Addr} {pl : Sem Bool} {Q : Value × List Value → Shared → Prop} (I : Inv X pins σ H s) (e : H a = some (.ins C dx fs)) (c : Cls X.K C) (k : Meth X.K C m g) (l : fs.lookup m = none)
    (h : Q (.ref g, [.ref a]) s) : wpAny (model X.prog X.w) A (getMethod (.ref a) m pl) Q E s := by
  obtain ⟨mA, O, r, _, _, _⟩ := ins_get I.hok e
  have hn : mA m = none := RelO.none_of (by rw [← l]; exact r m)
  exact get_meth I.kIn O (c.get m) k.at_ k.fn hn h
theorem setattr_ok {y : V} {u : Value} {Q : Unit → Shared → Prop} (I : Inv X pins σ H s) (e : H a = some (.ins C dx fs)) (c : Cls X.K C) (n : NoAttr X.K C f) (hl : fs.length < 1000) (ry : RelV y u)
    (h : ∀ s', Inv X pins σ (upd H a (.ins C dx (putF f y fs))) s' → Q () s') : wpAny (model X.prog X.w) A (setAttr (.ref a) f u) Q E s := by
  obtain ⟨mA, O, r, wi, _, ho⟩ := ins_get I.hok e
  have hz : (fs.map (·.1)).length ≤ sizeLine := by rw [List.length_map, sizeLine_eq]; omega
  refine set_map I.kIn O c.sa c.po n.taker c.hd wi hz fun h' O' sb => h _ ?_
  have hd : ∃ o, h'.get? dx = some o := let ⟨o, _, _, e', _⟩ := O'.ns; ⟨o, e'⟩
  refine I.write (x := a) (e := dx) (by rw [e]; exact True.intro) (.inr ho) (fun b q hb z => (sb.2 b hb).trans z) hd ?_
  refine ⟨by rw [upd_ne O.ne]; exact ho, ?_, O.ne, O'.obj, _, O'.ns, fun g => ?_, fun g hg => ?_⟩
  · have := length_putF f y fs; omega
  · show RelO ((putF f y fs).lookup g) (if g = f then some u else mA g)
    rw [lookup_putF]
    by_cases q : g = f
    · rw [if_pos q, if_pos q]; exact ry
    · rw [if_neg q, if_neg q]; exact r g
  · by_cases q : g = f
    · rw [q]; exact (keys_putF f y fs).1
    · refine (keys_putF f y fs).2 g (wi g fun z => hg ?_)
      show (if g = f then some u else mA g) = none
      rw [if_neg q]; exact z
theorem Inv.made (I : Inv X pins σ H s) : Inv X pins σ (upd (upd H s.heap.objs.size (.own (s.heap.objs.size + 1))) (s.heap.objs.size + 1) (.ins C s.heap.objs.size []))
    { s with heap := (s.heap.push PySem.W.emptyDict).push (PySem.W.instObj C s.heap.objs.size) } := by
  have e1 : (s.heap.push PySem.W.emptyDict).get? s.heap.objs.size = some PySem.W.emptyDict := Heap.get?_push_size s.heap rfl
  have e2 : ((s.heap.push PySem.W.emptyDict).push (PySem.W.instObj C s.heap.objs.size)).get? (s.heap.objs.size + 1) = some (PySem.W.instObj C s.heap.objs.size) := by
    have := Heap.get?_push_size (s.heap.push PySem.W.emptyDict) (o := PySem.W.instObj C s.heap.objs.size) rfl
    rwa [Heap.size_push] at this
  have e3 : (s.heap.push PySem.W.emptyDict).Ns s.heap.objs.size (fun _ => none) := ⟨PySem.W.emptyDict, #[], _, e1, rfl, (fun e he => absurd he (by simp)), fun _ => rfl⟩
  have I1 := I.laid (a := s.heap.objs.size) (o := .own (s.heap.objs.size + 1)) (h' := s.heap.push PySem.W.emptyDict) (t' := s.toks) (fun b u q => Heap.get?_push_of_some _ q) (Nat.le_refl _) ⟨_, e1⟩
  refine I1.laid (a := s.heap.objs.size + 1) (o := .ins C s.heap.objs.size []) (t' := s.toks) (fun b u q => Heap.get?_push_of_some _ q) (Nat.le_of_eq (Heap.size_push _ _)) ?_
  have ne : s.heap.objs.size ≠ s.heap.objs.size + 1 := Nat.ne_of_lt (Nat.lt_succ_self _)
  refine ⟨by rw [upd_ne ne, upd_same], Nat.zero_le _, ne, e2, fun _ => none, (Heap.Ns1.of_empty e3).at fun o q => Heap.get?_push_of_some _ q, fun _ => True.intro, fun y hy => absurd rfl hy⟩
theorem attr_of {prog : Program} {w : World} {env : Env} {e : Expr} {f : Str} {pos : Pos} {s : Shared} {Q : Value → Shared → Prop} (hb : attributeBase e f env (eval e env) = eval e env)
    (h : wpAny (model prog w) A (eval e env) (fun o s₁ => wpAny (model prog w) A (getAttr o f true) Q E s₁) E s) : wpAny (model prog w) A (eval (.Attribute e f pos) env) Q E s :=
  Attribute_any_ h (by rw [arm_eval_Attribute, hb])
end
def tFld (K : PySem.W.Frag) (ta : TE) (f : Str) : TE := fun σ H Q => ta σ H fun x H1 => ∃ a C dx fs v, x = .ref a ∧ H1 a = some (.ins C dx fs) ∧ Cls K C ∧ NoAttr K C f ∧ fs.lookup f = some v ∧ Q v H1
def sFld (K : PySem.W.Frag) (ta tv : TE) (f : Str) : TS := fun D σ H => tv σ H fun y H1 => ta σ H1 fun x H2 => ∃ a C dx fs, x = .ref a ∧ H2 a = some (.ins C dx fs) ∧ Cls K C ∧ NoAttr K C f ∧ fs.length < 1000 ∧
  D.nx σ (upd H2 a (.ins C dx (putF f y fs)))
def InOp (X : Cx) (op : Operator) (rd : V → V → Hp → VK → Prop) : Prop :=
  ∀ (pins : List (Addr × Obj)) (s : Shared) (σ : St) (H : Hp) (x y : V) (u v : Value) (Q : VK), Inv X pins σ H s → RelV x u → RelV y v → rd x y H Q → wpAny (model X.prog X.w) X.A (inplaceOp op u v) (EP X pins σ Q) X.xe s
section
variable {X : Cx} {o e value : Expr} {f : Str} {pos pos' tpos : Pos} {ta tv : TE}
theorem pe_fld (he : PE X e ta) (hb : attributeBase e f X.env (eval e X.env) = eval e X.env) : PE X (.Attribute e f pos) (tFld X.K ta f) := by
  intro pins s σ H Q I h
  refine attr_of hb (thn (he pins s σ H _ I h) fun u s1 ⟨x, H1, I1, rx, a, C, dx, fs, v, ex, ea, c, n, l, q⟩ => ?_)
  subst ex
  obtain rfl : u = Value.ref a := rx
  exact getattr_ok I1 ea c n l fun u' s2 I2 ru => ⟨v, H1, I2, ru, q⟩
theorem ps_fld (ha : PE X o ta) (hv : PE X value tv) (hs : swapsWith value (some (.Attribute o f pos')) pos.line X.env = pure false) : PS X (.Assign [.Attribute o f pos'] value pos) (sFld X.K ta tv f) := by
  intro pins s σ H D I h
  refine plainObj_wpAny_Assign_Attribute (thn (hv pins s σ H _ I h) fun u s1 ⟨y, H1, I1, ry, q⟩ => thn (ha pins s1 σ H1 _ I1 q) fun ov s2 ⟨x, H2, I2, rx, a, C, dx, fs, ex, ea, c, n, l, q2⟩ => ?_) hs
  subst ex
  obtain rfl : ov = Value.ref a := rx
  exact setattr_ok I2 ea c n l ry fun s3 I3 => ⟨σ, _, I3, q2⟩
theorem methcall_of {pl : Sem Bool} {m : Str} {apos : Pos} {args : List Expr} {pins : List (Addr × Obj)} {s : Shared} {σ : St} {H : Hp} {Q : Value → Shared → Prop} {te : TE} (he : PE X e te) (I : Inv X pins σ H s)
    (h : te σ H fun x H1 => ∃ a C dx fs g, x = .ref a ∧ H1 a = some (.ins C dx fs) ∧ Cls X.K C ∧ Meth X.K C m g ∧ fs.lookup m = none ∧
      ∀ s1, Inv X pins σ H1 s1 → wpAny (model X.prog X.w) X.A (callWith pos (.ref g) [.ref a] (backTo pos (starEach args X.env)) (backToKw pos (keywordEach [] X.env))) Q X.xe s1)
    (ht : eval (.Call (.Attribute e m apos) args [] pos) X.env = (do
      let ov ← eval e X.env
      standAt apos.atName
      let (f, first) ← holding [ov] (getMethod ov m pl)
      callWith pos f first (backTo pos (starEach args X.env)) (backToKw pos (keywordEach [] X.env)))) :
    wpAny (model X.prog X.w) X.A (eval (.Call (.Attribute e m apos) args [] pos) X.env) Q X.xe s := by
  refine PySem.W.methodCall_KW (pl := pl) (thn (he pins s σ H _ I h) fun u s1 ⟨x, H1, I1, rx, a, C, dx, fs, g, ex, ea, c, k, l, q⟩ => ?_) ht
  subst ex
  obtain rfl : u = Value.ref a := rx
  exact getmeth_ok I1 ea c k l (q s1 I1)
end
section
variable {X : Cx} {pins : List (Addr × Obj)} {σ : St} {H : Hp} {s : Shared} {A : Around} {E : Value → Shared → Prop} {Q : Value → Shared → Prop} {c : Value} {b : Bool}
inductive TyOf (K : PySem.W.Frag) (H : Hp) : V → Value → Prop where
  | non : TyOf K H .non (.type "NoneType")
  | bl (x : Bool) : TyOf K H (.bl x) (.type "bool")
  | int (i : Int) : TyOf K H (.int i) (.type "int")
  | str (x : Str) : TyOf K H (.str x) (.type "str")
  | flt (x : UInt64) : TyOf K H (.flt x) (.type "float")
  | lst {a : Addr} {xs : List V} (e : H a = some (.lst xs)) : TyOf K H (.ref a) (.type "list")
  | frz {a : Addr} {o : Obj} {xs : List V} (e : H a = some (.frz o (.lst xs))) : TyOf K H (.ref a) (.type "list")
  | tup {a : Addr} {xs : List V} (e : H a = some (.tup xs)) : TyOf K H (.ref a) (.type "tuple")
  | dK {a : Addr} {kvs : List (Key × V)} (e : H a = some (.dK kvs)) : TyOf K H (.ref a) (.type "dict")
  | dT {a : Addr} {kvs : List (List Key × V)} (e : H a = some (.dT kvs)) : TyOf K H (.ref a) (.type "dict")
  | ins {a C dx : Addr} {fs : List (Str × V)} (e : H a = some (.ins C dx fs)) (cl : Cls K C) (ha : PySem.W.findIn K (.ref C) "__class__" = some (some (.builtin "object.__class__")))
      (hn : PySem.W.specialIn K (.builtin "object.__class__") "__get__" = some (some (.builtin "getset_descriptor.__get__"))) (htk : PySem.W.takesIn K (.builtin "object.__class__") = some true)
      (hm : PySem.W.mroIn K C (.type "object") = some true) : TyOf K H (.ref a) (.ref C)
theorem isinst_ok {x : V} {u t : Value} (I : Inv X pins σ H s) (rx : RelV x u) (ty : TyOf X.K H x t) (e : PySem.W.kitOne X.K t c = some b) (h : ∀ tk, Q (.bool b) { s with toks := tk }) :
    wpAny (model X.prog X.w) A (call (.builtin "isinstance") [u, c]) Q E s := by
  cases ty with
  | non => cases (show u = Value.none from rx); exact PySem.W.kia_one PySem.W.kitx_none I.kIn True.intro e (fun z => nomatch z) h
  | bl y => cases (show u = Value.bool y from rx); exact PySem.W.kia_one PySem.W.kitx_bool I.kIn True.intro e (fun z => nomatch z) h
  | int i => obtain ⟨t, q⟩ := (show ∃ t, u = Value.int i t from rx); cases q; exact PySem.W.kia_one PySem.W.kitx_int I.kIn True.intro e (fun z => nomatch z) h
  | str y => obtain ⟨t, q⟩ := (show ∃ t, u = Value.str y t from rx); cases q; exact PySem.W.kia_one PySem.W.kitx_str I.kIn True.intro e (fun z => nomatch z) h
  | flt y => obtain ⟨t, q⟩ := (show ∃ t, u = Value.float y t from rx); cases q; exact PySem.W.kia_one PySem.W.kitx_float I.kIn True.intro e (fun z => nomatch z) h
  | @lst a xs ea =>
    cases (show u = Value.ref a from rx)
    obtain ⟨_, _, n, _, h1⟩ := (show ObjOk X.prog X.w H s.heap a (.lst xs) from I.hok a _ ea)
    exact PySem.W.kia_one PySem.W.kitx_list I.kIn ⟨_, h1, rfl⟩ e (fun z => nomatch z) h
  | @frz a ob xs ea =>
    cases (show u = Value.ref a from rx)
    obtain ⟨_, _, _, n, _, h1⟩ := (show ObjOk X.prog X.w H s.heap a (.frz ob (.lst xs)) from I.hok a _ ea)
    exact PySem.W.kia_one PySem.W.kitx_list I.kIn ⟨_, h1, rfl⟩ e (fun z => nomatch z) h
  | @tup a xs ea =>
    cases (show u = Value.ref a from rx)
    obtain ⟨_, _, _, p⟩ := (show ObjOk X.prog X.w H s.heap a (.tup xs) from I.hok a _ ea)
    obtain ⟨o, h1, h2, _⟩ := p
    exact PySem.W.kia_one PySem.W.kitx_tuple I.kIn ⟨o, h1, h2⟩ e (fun z => nomatch z) h
  | @dK a kvs ea =>
    cases (show u = Value.ref a from rx)
    obtain ⟨_, _, vs, _, p⟩ := (show ObjOk X.prog X.w H s.heap a (.dK kvs) from I.hok a _ ea)
    obtain ⟨o, es, ep, h1, h2, _⟩ := p
    exact PySem.W.kia_one PySem.W.kitx_dict I.kIn ⟨o, h1, h2.1⟩ e (fun z => nomatch z) h
  | @dT a kvs ea =>
    cases (show u = Value.ref a from rx)
    obtain ⟨_, _, xs, _, o, es, ep, h1, h2, _⟩ := (show ObjOk X.prog X.w H s.heap a (.dT kvs) from I.hok a _ ea)
    exact PySem.W.kia_one PySem.W.kitx_dict I.kIn ⟨o, h1, h2.1⟩ e (fun z => nomatch z) h
  | @ins a C dx fs ea cl ha hn htk hm =>
    cases (show u = Value.ref a from rx)
    obtain ⟨mA, O, _⟩ := ins_get I.hok ea
    obtain ⟨od, J, _⟩ := O.look
    exact PySem.W.kia_one (PySem.W.kitx_own (cl.get _) cl.hd ha hn htk hm) I.kIn J e (fun z => nomatch z) h
end
end L2
namespace L2
open PySem PySem.Spec PyProof.Rows
structure Room (k : Nat) (A : Around) : Prop where
  hd : A.handled = none
  dp : A.depth + 3 * k + 5 < recursionLimit
  un : A.units + 16 * k + 200 < cLine
theorem Room.mono {j k : Nat} {A : Around} (r : Room k A) (h : j ≤ k) : Room j A := ⟨r.hd, by have := r.dp; omega, by have := r.un; omega⟩
theorem Room.deeper {k : Nat} {A : Around} (r : Room (k + 1) A) (env : Env) : Room k (A.deeper env) :=
  ⟨r.hd, by have := r.dp; show A.depth + 1 + 3 * k + 5 < _; omega, by have := r.un; show A.units + 3 + 16 * k + 200 < _; omega⟩
theorem make_depth {A : Around} {C : Addr} {us : List Value} {kw : List (Str × Value)} : (A.under (.builtin "type.__call__" ⟨.ref C :: us, kw⟩)).depth = A.depth + 1 := by
  first | rfl | simp [Around.under, Code.weight, Code.isCreation, Code.isGuard, Code.isCaller, Code.frames, Code.isFrame, guardIds]
theorem make_units {A : Around} {C : Addr} {us : List Value} {kw : List (Str × Value)} : (A.under (.builtin "type.__call__" ⟨.ref C :: us, kw⟩)).units = A.units + 1 := by
  first | rfl | simp [Around.under, Code.cUnits, Code.frames, Code.isFrame]
theorem Room.make {k : Nat} {A : Around} (r : Room (k + 1) A) (C : Addr) (us : List Value) (kw : List (Str × Value)) : Room k (A.under (.builtin "type.__call__" ⟨.ref C :: us, kw⟩)) :=
  ⟨r.hd, by have := r.dp; rw [make_depth]; omega, by have := r.un; rw [make_units]; omega⟩
theorem Room.depth {k : Nat} {A : Around} (r : Room k A) : A.depth < recursionLimit := by have := r.dp; omega
theorem Room.units {k : Nat} {A : Around} (r : Room k A) : A.units + 64 < cLine := by have := r.un; omega
def tNil : TA := fun _ H Q => Q [] H
def tCons (ta : TE) (tr : TA) : TA := fun σ H Q => ta σ H fun x H1 => tr σ H1 fun xs H2 => Q (x :: xs) H2
section
variable {X : Cx} {e : Expr} {es : List Expr} {te : TE} {t : TA} {pos : Pos}
theorem pa_nil : PA X [] tNil := fun _ _ _ _ H Q I h => Calls.spliced_nil ⟨[], H, I, .nil, h⟩
theorem pa_cons (ha : PE X e te) (hr : PA X es t) (hs : starEach (e :: es) X.env = (false, eval e X.env) :: starEach es X.env := by rfl) : PA X (e :: es) (tCons te t) := by
  intro pos pins s σ H Q I h
  rw [hs]
  show wpAny _ _ (spliced ((false, eval e X.env) :: backTo pos (starEach es X.env))) _ _ s
  refine Calls.spliced_cons (thn (ha pins s σ H _ I h) fun u s1 ⟨x, H1, I1, r1, q1⟩ => ?_)
  exact thn (hr pos pins s1 σ H1 _ I1 q1) fun us s2 ⟨xs, H2, I2, r2, q2⟩ => ⟨x :: xs, H2, I2, .cons r1 r2, q2⟩
def tTup (t : TA) : TE := fun σ H Q => t σ H fun xs H1 => xs.length ≤ sizeLine ∧ ∀ p, H1 p = none → Q (.ref p) (upd H1 p (.tup xs))
def tLst (t : TA) : TE := fun σ H Q => t σ H fun xs H1 => xs.length ≤ sizeLine ∧ ∀ p, H1 p = none → Q (.ref p) (upd H1 p (.lst xs))
theorem pe_tup {x1} (h : PA X es t) : PE X (.Tuple es x1 pos) (tTup t) := by
  intro pins s σ H Q I hq
  refine wpAny_Tuple_spliced (thn (h pos pins s σ H _ I hq) fun us s1 ⟨xs, H1, I1, r, z, q⟩ => ⟨by rw [← r.length]; exact z, ?_⟩)
  have hf : H1 s1.heap.objs.size = none := I1.hok.fresh (Nat.le_refl _)
  refine ⟨.ref s1.heap.objs.size, upd H1 s1.heap.objs.size (.tup xs), I1.laid (t' := s1.toks) (fun b u e => Heap.get?_push_of_some _ e) (Nat.le_refl _) ?_, rfl, q _ hf⟩
  exact ⟨z, us, r, ⟨_, Heap.get?_push_size _ rfl, rfl, _, rfl⟩⟩
theorem pe_lst (h : PA X es t) : PE X (.List es pos) (tLst t) := by
  intro pins s σ H Q I hq
  refine wpAny_List_spliced (thn (h pos pins s σ H _ I hq) fun us s1 ⟨xs, H1, I1, r, z, q⟩ => ⟨by rw [← r.length]; exact z, ?_⟩)
  have hf : H1 s1.heap.objs.size = none := I1.hok.fresh (Nat.le_refl _)
  refine ⟨.ref s1.heap.objs.size, upd H1 s1.heap.objs.size (.lst xs), I1.laid (t' := s1.toks) (fun b u e => Heap.get?_push_of_some _ e) (Nat.le_refl _) ?_, rfl, q _ hf⟩
  exact ⟨z, us, 0, r, Heap.get?_push_size _ rfl⟩
end
abbrev Sp := List V → Hp → VK → XK → Prop
abbrev CXT := List Env → Hp → Shared → XK → Value → Shared → Prop
structure Env0 (P : Program) (w : World) (K : PySem.W.Frag) (mg : Str → Option Value) (base : Heap) (A : Around) (outer : List Env) (s : Shared) (H : Hp) : Prop where
  frames : A.frames = some outer
  mod : Mod K mg base
  bs : ∀ b o, base.get? b = some o → s.heap.get? b = some o ∧ H b = none
  bsz : base.objs.size ≤ s.heap.objs.size
  funs : s.heap.FunFrames base outer
  frf : ∀ b ∈ frs outer, H b = none
  hok : HOk P w H s.heap
  bare : AllBare s.gens
def CE (outer : List Env) (P : Program) (w : World) (H : Hp) (s : Shared) (Q : VK) (u : Value) (s' : Shared) : Prop :=
  ∃ v H', s'.os = s.os ∧ AllBare s'.gens ∧ Un (frs outer) [] H H' s.heap s'.heap ∧ HOk P w H' s'.heap ∧ RelV v u ∧ Q v H'
def CR (CX : CXT) (outer : List Env) (P : Program) (w : World) (H : Hp) (s : Shared) (Q : VK) (E : XK) (r : Result) (s' : Shared) : Prop :=
  match r with
  | .ok (.ret u) => CE outer P w H s Q u s'
  | .ok _ => False
  | .error e => CX outer H s E e s'
structure FnOk (P : Program) (w : World) (K : PySem.W.Frag) (mg : Str → Option Value) (base : Heap) (CX : CXT) (k : Nat) (f : Addr) (fd : FuncData) (ps : List Str) (sp : Sp) : Prop where
  len : ∀ vs H Q E, sp vs H Q E → vs.length = ps.length
  run : ∀ (A : Around) (outer : List Env) (s : Shared) (H : Hp) (args : Args) (us : List Value) (vs : List V) (Q : VK) (E : XK), Room k A → Env0 P w K mg base A outer s H → BindsTo s fd args (ps.zip us) → Vals vs us → sp vs H Q E →
    codeAny (model P w) A (.call (.ref f) args) (CR CX outer P w H s Q E) s
theorem Env0.make {P : Program} {w : World} {K : PySem.W.Frag} {mg : Str → Option Value} {base : Heap} {A : Around} {outer : List Env} {s : Shared} {H : Hp} (e : Env0 P w K mg base A outer s H) (C : Addr) (us : List Value) (kw : List (Str × Value)) :
    Env0 P w K mg base (A.under (.builtin "type.__call__" ⟨.ref C :: us, kw⟩)) outer s H := ⟨by first | exact e.frames | (simpa [Around.under, Code.envs, Code.isFrame, pushEnvs] using e.frames), e.mod, e.bs, e.bsz, e.funs, e.frf, e.hok, e.bare⟩
section
variable {X : Cx} {pins : List (Addr × Obj)} {σ : St} {H : Hp} {s s' : Shared}
theorem Inv.env0 (I : Inv X pins σ H s) : Env0 X.prog X.w X.K X.mg X.base X.A X.stack s H :=
  ⟨I.ok.frames, I.ok.mod, I.bs, Nat.le_trans I.ok.bsz I.sz, I.stack, I.stkFree, I.hok, I.bare⟩
theorem Inv.after {Q : VK} {u : Value} (I : Inv X pins σ H s) (h : CE X.stack X.prog X.w H s Q u s') : EP X pins σ Q u s' := by
  obtain ⟨v, H', os, bare, un, hok, r, q⟩ := h
  obtain ⟨hh, g, d, t, os'⟩ := s'
  obtain rfl : os' = s.os := os
  exact ⟨v, H', I.call (h' := hh) (g' := g) (d' := d) (t' := t) (ch := []) un hok bare (fun b z => absurd z (by simp)), r, q⟩
end
def tCall (sp : Sp) (dvs : List V) (E : XK) (t : TA) : TE := fun σ H Q => t σ H fun vs H1 => sp (vs ++ dvs) H1 Q E
def tMeth (C : Addr) (m : Str) (sp : Sp) (dvs : List V) (E : XK) (ta : TE) (t : TA) : TE := fun σ H Q => ta σ H fun x H1 => ∃ a dx fs, x = .ref a ∧ H1 a = some (.ins C dx fs) ∧ fs.lookup m = none ∧
  t σ H1 fun vs H2 => sp (x :: (vs ++ dvs)) H2 Q E
def tMake (C : Addr) (sp : Sp) (dvs : List V) (E : XK) (t : TA) : TE := fun σ H Q => t σ H fun vs H1 => ∀ x dx, H1 x = none → H1 dx = none → dx ≠ x →
  sp (.ref x :: (vs ++ dvs)) (upd (upd H1 dx (.own x)) x (.ins C dx [])) (fun v H2 => v = .non ∧ Q (.ref x) H2) E
def Binds (K : PySem.W.Frag) (fd : FuncData) (ps : List Str) (ds : List Value) : Prop :=
  ∀ (s : Shared) (us : List Value), K.In s.heap → (us ++ ds).length = ps.length → BindsTo s fd ⟨us, []⟩ (ps.zip (us ++ ds))
theorem Binds.all {K : PySem.W.Frag} {fd : FuncData} {ps : List Str} (h : ∀ us : List Value, us.length = ps.length → bindArgs fd ⟨us, []⟩ = pure (ps.zip us)) : Binds K fd ps [] := fun s us _ hl => by
  rw [List.append_nil] at hl ⊢
  exact .of_eq (h us hl)
def Passes (CX : CXT) (X : Cx) (E : XK) : Prop := ∀ (pins : List (Addr × Obj)) (σ : St) (H : Hp) (s : Shared) (e : Value) (s' : Shared), Inv X pins σ H s → CX X.stack H s E e s' → X.xe e s'
section
variable {X : Cx} {CX : CXT} {k : Nat} {f C : Addr} {fd : FuncData} {ps : List Str} {sp : Sp} {dvs : List V} {ds : List Value} {E : XK} {x m : Str} {p pos apos : Pos} {e o : Expr} {es : List Expr} {ta : TE} {t : TA}
theorem run_fn {pins : List (Addr × Obj)} {σ : St} {H : Hp} {s : Shared} {Q : VK} {us : List Value} {vs : List V} (F : FnOk X.prog X.w X.K X.mg X.base CX k f fd ps sp) (hr : Room k X.A) (hb : Binds X.K fd ps ds) (hd : Vals dvs ds) (hx : Passes CX X E)
    (I : Inv X pins σ H s) (r : Vals vs us) (h : sp (vs ++ dvs) H Q E) : wpAny (model X.prog X.w) X.A (call (.ref f) us) (EP X pins σ Q) X.xe s := by
  have r2 : Vals (vs ++ dvs) (us ++ ds) := r.append hd
  have hl : (us ++ ds).length = ps.length := by rw [← r2.length]; exact F.len _ _ _ _ h
  refine wpAny_call (codeAny_mono (F.run X.A X.stack s H ⟨us, []⟩ (us ++ ds) (vs ++ dvs) Q E hr I.env0 (hb s us I.kIn hl) r2 h) fun r s' hq => ?_)
  cases r with
  | error e => exact hx pins σ H s e s' I hq
  | ok fl =>
    cases fl with
    | ret u => exact I.after hq
    | next => exact False.elim hq
    | brk => exact False.elim hq
    | cont => exact False.elim hq
theorem pe_call (F : FnOk X.prog X.w X.K X.mg X.base CX k f fd ps sp) (hr : Room k X.A) (hg : Gl X x) (hm : X.mg x = some (.ref f)) (hk : PySem.W.keepIn X.K (.ref f) = true) (hb : Binds X.K fd ps ds) (hd : Vals dvs ds) (hx : Passes CX X E)
    (ha : PA X (e :: es) t) (hdb : (x == ("__debug__" : Str)) = false := by decide) (he : starEach (e :: es) X.env = (false, eval e X.env) :: starEach es X.env := by rfl) (hpl : (backTo pos (starEach es X.env)).any (·.1) = false := by rfl) :
    PE X (.Call (.Name x p) (e :: es) [] pos) (tCall sp dvs E t) := by
  intro pins s σ H Q I h
  refine wpAny_Call_Name_kw (ld_glob I hg hm ?_ hdb)
  refine PySem.W.callWith_K (h₀ := X.base) I.ok.mod.kin hk (thn (ha pos pins s σ H _ I h) fun us s1 ⟨vs, H1, I1, r, q⟩ => ⟨I1.kIn, ?_⟩) he hpl
  exact run_fn F hr hb hd hx I1 r q
theorem pe_meth {pl : Sem Bool} (he : PE X o ta) (c : Cls X.K C) (hm : Meth X.K C m f) (F : FnOk X.prog X.w X.K X.mg X.base CX k f fd ps sp) (hr : Room k X.A) (hb : Binds X.K fd ps ds) (hd : Vals dvs ds) (hx : Passes CX X E) (ha : PA X (e :: es) t)
    (hst : starEach (e :: es) X.env = (false, eval e X.env) :: starEach es X.env := by rfl) (hpl : (backTo pos (starEach es X.env)).any (·.1) = false := by rfl)
    (ht : eval (.Call (.Attribute o m apos) (e :: es) [] pos) X.env = (do
      let ov ← eval o X.env
      standAt apos.atName
      let (f, first) ← holding [ov] (getMethod ov m pl)
      callWith pos f first (backTo pos (starEach (e :: es) X.env)) (backToKw pos (keywordEach [] X.env))) := by rfl) :
    PE X (.Call (.Attribute o m apos) (e :: es) [] pos) (tMeth C m sp dvs E ta t) := by
  intro pins s σ H Q I h
  refine PySem.W.methodCall_KW (pl := pl) (thn (he pins s σ H _ I h) fun u s1 ⟨x, H1, I1, rx, a, dx, fs, ex, ea, l, q⟩ => ?_) ht
  subst ex
  obtain rfl : u = Value.ref a := rx
  refine getmeth_ok I1 ea c hm l ?_
  refine PySem.W.callWith_K (first := [.ref a]) (h₀ := X.base) I.ok.mod.kin hm.kp (thn (ha pos pins s1 σ H1 _ I1 q) fun us s2 ⟨vs, H2, I2, r, q2⟩ => ⟨I2.kIn, ?_⟩) hst hpl
  exact run_fn (us := .ref a :: us) (vs := .ref a :: vs) F hr hb hd hx I2 (.cons rfl r) q2
theorem pe_meth0 {pl : Sem Bool} (he : PE X o ta) (c : Cls X.K C) (hm : Meth X.K C m f) (F : FnOk X.prog X.w X.K X.mg X.base CX k f fd ps sp) (hr : Room k X.A) (hb : Binds X.K fd ps ds) (hd : Vals dvs ds) (hx : Passes CX X E)
    (ht : eval (.Call (.Attribute o m apos) [] [] pos) X.env = (do
      let ov ← eval o X.env
      standAt apos.atName
      let (f, first) ← holding [ov] (getMethod ov m pl)
      callWith pos f first (backTo pos (starEach [] X.env)) (backToKw pos (keywordEach [] X.env))) := by rfl) :
    PE X (.Call (.Attribute o m apos) [] [] pos) (tMeth C m sp dvs E ta tNil) := by
  intro pins s σ H Q I h
  refine PySem.W.methodCall_KW (pl := pl) (thn (he pins s σ H _ I h) fun u s1 ⟨x, H1, I1, rx, a, dx, fs, ex, ea, l, q⟩ => ?_) ht
  subst ex
  obtain rfl : u = Value.ref a := rx
  refine getmeth_ok I1 ea c hm l ?_
  exact PySem.W.callWith_K0 (first := [.ref a]) I1.kIn hm.kp (run_fn (us := [.ref a]) (vs := [.ref a]) F hr hb hd hx I1 (.cons rfl .nil) q)
structure Mk (K : PySem.W.Frag) (C f : Addr) : Prop where
  makes : PySem.W.makesIn K C = true
  init : PySem.W.findIn K (.ref C) "__init__" = some (some (.ref f))
  fn : PySem.W.isFn K (.ref f) = true
  kp : PySem.W.keepIn K (.ref C) = true
theorem run_make {pins : List (Addr × Obj)} {σ : St} {H : Hp} {s : Shared} {Q : VK} {us : List Value} {vs : List V} (M : Mk X.K C f) (F : FnOk X.prog X.w X.K X.mg X.base CX k f fd ps sp) (hr : Room (k + 1) X.A) (hb : Binds X.K fd ps ds) (hd : Vals dvs ds)
    (hx : Passes CX X E) (I : Inv X pins σ H s) (r : Vals vs us)
    (h : ∀ x dx, H x = none → H dx = none → dx ≠ x → sp (.ref x :: (vs ++ dvs)) (upd (upd H dx (.own x)) x (.ins C dx [])) (fun v H2 => v = .non ∧ Q (.ref x) H2) E) :
    wpAny (model X.prog X.w) X.A (call (.ref C) us) (EP X pins σ Q) X.xe s := by
  have hq := h (s.heap.objs.size + 1) s.heap.objs.size (I.hok.fresh (Nat.le_succ _)) (I.hok.fresh (Nat.le_refl _)) (Nat.ne_of_lt (Nat.lt_succ_self _))
  have I2 := Inv.made (C := C) I
  have r2 : Vals (V.ref (s.heap.objs.size + 1) :: (vs ++ dvs)) (Value.ref (s.heap.objs.size + 1) :: (us ++ ds)) := .cons rfl (r.append hd)
  have hl : (Value.ref (s.heap.objs.size + 1) :: us ++ ds).length = ps.length := by
    have e := r2.length
    rw [F.len _ _ _ _ hq] at e
    exact e.symm
  refine wpAny_call (make_map (f := f) I.kIn M.makes M.init (beq_iff_eq.mp M.fn) (codeAny_mono (F.run _ X.stack _ _ ⟨Value.ref (s.heap.objs.size + 1) :: us, []⟩ (Value.ref (s.heap.objs.size + 1) :: (us ++ ds)) _ _ E (hr.make C us [])
    (I2.env0.make C us []) (hb _ (Value.ref (s.heap.objs.size + 1) :: us) I2.kIn hl) r2 hq) fun r s' hq' => ?_))
  cases r with
  | error e => exact hx pins σ _ _ e s' I2 hq'
  | ok fl =>
    cases fl with
    | ret u =>
      obtain ⟨v, H', I3, rv, ev, q3⟩ := I2.after hq'
      subst ev
      exact ⟨rv, ⟨V.ref (s.heap.objs.size + 1), H', I3, rfl, q3⟩⟩
    | next => exact False.elim hq'
    | brk => exact False.elim hq'
    | cont => exact False.elim hq'
theorem pe_make (M : Mk X.K C f) (F : FnOk X.prog X.w X.K X.mg X.base CX k f fd ps sp) (hr : Room (k + 1) X.A) (hg : Gl X x) (hm : X.mg x = some (.ref C)) (hb : Binds X.K fd ps ds) (hd : Vals dvs ds) (hx : Passes CX X E)
    (ha : PA X (e :: es) t) (hdb : (x == ("__debug__" : Str)) = false := by decide) (he : starEach (e :: es) X.env = (false, eval e X.env) :: starEach es X.env := by rfl) (hpl : (backTo pos (starEach es X.env)).any (·.1) = false := by rfl) :
    PE X (.Call (.Name x p) (e :: es) [] pos) (tMake C sp dvs E t) := by
  intro pins s σ H Q I h
  refine wpAny_Call_Name_kw (ld_glob I hg hm ?_ hdb)
  refine PySem.W.callWith_K (h₀ := X.base) I.ok.mod.kin M.kp (thn (ha pos pins s σ H _ I h) fun us s1 ⟨vs, H1, I1, r, q⟩ => ⟨I1.kIn, ?_⟩) he hpl
  exact run_make M F hr hb hd hx I1 r q
end
structure FnScope (N P : List Str) (sc : Scope) : Prop where
  kind : sc.kind = .function
  co : sc.isCoroutine = false
  gen : sc.isGenerator = false
  nd : N.Nodup
  pre : N.take P.length = P
  par : ∀ x ∈ P, sc.names.lookup x = some .local ∨ sc.names.lookup x = some .cell
  nofree : ∀ y ∈ sc.names, y.2 ≠ .free
theorem bindL_out {kindOf : Str → Option NameKind} {x : Str} : ∀ {binds : List (Str × Value)} {m : Str → Option Value}, (∀ v, (x, v) ∉ binds) → bindL kindOf binds m x = m x
  | [], _, _ => rfl
  | (n, v) :: r, m, h => by
    unfold bindL
    rw [bindL_out fun w hw => h w (List.mem_cons_of_mem _ hw)]
    split
    · have : x ≠ n := by rintro rfl; exact h v List.mem_cons_self
      simp [this]
    · rfl
theorem bindC_out {kindOf : Str → Option NameKind} {x : Str} : ∀ {binds : List (Str × Value)} {m : Str → Option Value}, (∀ v, (x, v) ∉ binds) → bindC kindOf binds m x = m x
  | [], _, _ => rfl
  | (n, v) :: r, m, h => by
    unfold bindC
    rw [bindC_out fun w hw => h w (List.mem_cons_of_mem _ hw)]
    split
    · rfl
    · have : x ≠ n := by rintro rfl; exact h v List.mem_cons_self
      simp [this]
theorem bindL_get {kindOf : Str → Option NameKind} {x : Str} {v : Value} : ∀ {P : List Str} {vs : List Value} {i : Nat} {m : Str → Option Value}, P.Nodup → P[i]? = some x → vs[i]? = some v → kindOf x = some .local →
    bindL kindOf (P.zip vs) m x = some v
  | [], _, _, _, _, h, _, _ => by simp at h
  | _ :: _, [], _, _, _, _, h, _ => by simp at h
  | p :: P, w :: vs, 0, m, nd, h1, h2, hk => by
    simp at h1 h2; subst h1; subst h2
    show bindL kindOf ((p, w) :: P.zip vs) m p = _
    unfold bindL
    rw [bindL_out fun v hv => (List.nodup_cons.mp nd).1 (List.of_mem_zip hv).1, if_pos hk]
    simp
  | p :: P, w :: vs, i + 1, m, nd, h1, h2, hk => by
    show bindL kindOf ((p, w) :: P.zip vs) m x = _
    unfold bindL
    exact bindL_get (i := i) (List.nodup_cons.mp nd).2 (by simpa using h1) (by simpa using h2) hk
theorem bindC_get {kindOf : Str → Option NameKind} {x : Str} {v : Value} : ∀ {P : List Str} {vs : List Value} {i : Nat} {m : Str → Option Value}, P.Nodup → P[i]? = some x → vs[i]? = some v → kindOf x ≠ some .local →
    bindC kindOf (P.zip vs) m x = some v
  | [], _, _, _, _, h, _, _ => by simp at h
  | _ :: _, [], _, _, _, _, h, _ => by simp at h
  | p :: P, w :: vs, 0, m, nd, h1, h2, hk => by
    simp at h1 h2; subst h1; subst h2
    show bindC kindOf ((p, w) :: P.zip vs) m p = _
    unfold bindC
    rw [bindC_out fun v hv => (List.nodup_cons.mp nd).1 (List.of_mem_zip hv).1, if_neg hk]
    simp
  | p :: P, w :: vs, i + 1, m, nd, h1, h2, hk => by
    show bindC kindOf ((p, w) :: P.zip vs) m x = _
    unfold bindC
    exact bindC_get (i := i) (List.nodup_cons.mp nd).2 (by simpa using h1) (by simpa using h2) hk
def start (N : List Str) (vs : List V) : St := vs.map some ++ List.replicate (N.length - vs.length) none
def cxOf (CX : CXT) (P : Program) (w : World) (K : PySem.W.Frag) (mg : Str → Option Value) (base : Heap) (N : List Str) (qual : Str) (scope : Scope) (f : Addr) (cd : Value) (A : Around) (outer : List Env) (s : Shared) (H : Hp) (E : XK) : Cx where
  prog := P
  w := w
  K := K
  mg := mg
  base := base
  A := A.deeper (envOfC qual scope s.heap.objs.size f cd)
  N := N
  sZ := s
  HZ := H
  env := envOfC qual scope s.heap.objs.size f cd
  outer := outer
  stack := envOfC qual scope s.heap.objs.size f cd :: outer
  ex := []
  calm := true
  fn := fun _ => true
  pn := []
  xe := fun e s' => wpAny (model P w) (A.deeper (envOfC qual scope s.heap.objs.size f cd)) (leaving (envOfC qual scope s.heap.objs.size f cd) e) (fun _ s'' => CX outer H s E e s'') (fun e' s'' => CX outer H s E e' s'') s'
theorem cell_has {sc : Scope} {n : Nat} {x : Str} (h : sc.names.lookup x = some .cell) : ∃ c, (cellsFrom n sc.names []).lookup x = some c := by
  have q := PySem.W.cellsFrom_some sc.names n [] (.inl h)
  exact Option.isSome_iff_exists.mp q
theorem inv_start {CX : CXT} {P : Program} {w : World} {K : PySem.W.Frag} {mg : Str → Option Value} {base : Heap} {N ps : List Str} {qual : Str} {scope : Scope} {f : Addr} {cd : Value} {A : Around} {outer : List Env} {s s1 : Shared} {H : Hp} {E : XK} {us : List Value} {vs : List V}
    (S : FnScope N ps scope) (hd : A.handled = none) (e0 : Env0 P w K mg base A outer s H) (hl : vs.length = ps.length) (r : Vals vs us)
    (x : InCallC s s.heap.objs.size (bindL (envOfC qual scope s.heap.objs.size f cd).kindOf (ps.zip us) fun _ => none) (cellsFrom (s.heap.objs.size + 1) scope.names []) (bindC (envOfC qual scope s.heap.objs.size f cd).kindOf (ps.zip us) fun _ => none) s1) :
    Inv (cxOf CX P w K mg base N qual scope f cd A outer s H E) [] (start N vs) H s1 := by
  have hpl : ps.length ≤ N.length := by have := congrArg List.length S.pre; rw [List.length_take] at this; omega
  obtain ⟨h1, tk, rfl, hk⟩ := x.done
  have noA : ∀ b : Addr, b ∉ (cxOf CX P w K mg base N qual scope f cd A outer s H E).ex := fun b z => absurd (show b ∈ ([] : List Addr) from z) (by simp)
  refine ⟨⟨e0.mod, S.kind, rfl, rfl, Nat.le_refl _, fun y z c h1 h2 => ?_, fun y hy => ?_, fun y c _ h => ?_, fun _ => hd, Around.frames_deeper e0.frames, .inr ⟨rfl, rfl⟩, fun b z => absurd z (noA b), e0.bs, e0.bsz, fun b _ _ => noA b, fun b z => absurd z (noA b), e0.funs, e0.frf⟩,
    rfl, e0.bare, Un.kept hk, ⟨_, x.toInCall.ns, fun i y v h1 h2 h3 => ?_⟩, fun y c h => ⟨_, x.cell y c h⟩, e0.hok.fresh (Nat.le_refl _), fun y c h => ?_, fun p hp => absurd (show p ∈ ([] : List (Addr × Obj)) from hp) (by simp), e0.hok.kept hk, ?_⟩
  · exact name_of_addr x.apart (PySem.mem_of_lookup h1) (PySem.mem_of_lookup h2)
  · have hy : scope.names.lookup y = some .cell ∨ scope.names.lookup y = some .free := hy
    rcases hy with hy | hy
    · exact cell_has hy
    · exact absurd rfl (S.nofree _ (PySem.mem_of_lookup hy))
  · exact Nat.le_of_lt (x.above y c (PySem.mem_of_lookup h))
  · have hi : i < vs.length := by
      unfold start at h2
      by_cases hi : i < vs.length
      · exact hi
      · rw [List.getElem?_append_right (by simpa using hi)] at h2
        rw [List.getElem?_replicate] at h2
        split at h2 <;> cases h2
    have ha : vs[i]? = some v := by
      unfold start at h2
      rw [List.getElem?_append_left (by simpa using hi), List.getElem?_map] at h2
      cases e : vs[i]? with
      | none => rw [e] at h2; cases h2
      | some a => rw [e] at h2; cases h2; rfl
    obtain ⟨u, hu, rv⟩ := r.get ha
    have hp : ps[i]? = some y := by
      rw [← S.pre, List.getElem?_take_of_lt (by omega)]; exact h1
    have ndP : ps.Nodup := by rw [← S.pre]; exact S.nd.sublist (List.take_sublist _ _)
    refine ⟨u, rv, ?_⟩
    rcases S.par y (List.mem_of_getElem? hp) with k | k
    · exact .inl ⟨k, bindL_get ndP hp hu k⟩
    · obtain ⟨c, e⟩ := cell_has (n := s.heap.objs.size + 1) k
      refine .inr ⟨.inl k, c, e, ?_⟩
      have q := x.cell y c e
      rw [bindC_get ndP hp hu (by show scope.names.lookup y ≠ _; rw [k]; decide)] at q
      exact q
  · exact e0.hok.fresh (Nat.le_of_lt (x.above y c (PySem.mem_of_lookup h)))
  · unfold start
    show _ = N.length
    rw [List.length_append, List.length_map, List.length_replicate]
    omega
theorem fn_of {CX : CXT} {P : Program} {w : World} {K : PySem.W.Frag} {mg : Str → Option Value} {base : Heap} {k : Nat} {f : Addr} {name qual : Str} {params : Arguments} {body : List Stmt} {scope : Scope} {dV kV doc pm cdv ct oc : Value} {an od : Option Addr}
    {osl : Array (Option Value)} {N ps : List Str} {sp : Sp} (lk : K.lookup f = some ⟨oc, od, .func (PySem.W.fnOf name qual params body scope dV kV doc pm an cdv ct), osl⟩) (hcd : PySem.W.codeIn K cdv qual = true) (S : FnScope N ps scope)
    (len : ∀ vs H Q E, sp vs H Q E → vs.length = ps.length)
    (hbody : ∀ (A : Around) (outer : List Env) (s : Shared) (H : Hp) (vs : List V) (Q : VK) (E : XK), Room k (A.deeper (envOfC qual scope s.heap.objs.size f cdv)) → sp vs H Q E →
      ∃ t, PSs (cxOf CX P w K mg base N qual scope f cdv A outer s H E) body t ∧ t { nx := fun _ H' => Q .non H', rt := Q } (start N vs) H) :
    FnOk P w K mg base CX (k + 1) f (PySem.W.fnOf name qual params body scope dV kV doc pm an cdv ct) ps sp := by
  refine ⟨len, fun A outer s H args us vs Q E hr e0 hb r hsp => ?_⟩
  have hl := len _ _ _ _ hsp
  have KX : K.In s.heap := e0.mod.kin.keeps fun b o e => (e0.bs b o e).1
  have lim : s.heap.NoLimit := e0.mod.nolimit.keeps fun b o e => (e0.bs b o e).1
  have hkind : ∀ y ∈ ps.zip us, scope.names.lookup y.1 = some .local ∨ (scope.names.lookup y.1 = some .cell ∧ ((cellsFrom (s.heap.objs.size + 1) scope.names []).lookup y.1).isSome = true) := fun ⟨n, v⟩ hy => by
    rcases S.par n (List.of_mem_zip hy).1 with q | q
    · exact .inl q
    · exact .inr ⟨q, PySem.W.cellsFrom_some _ _ _ (.inl q)⟩
  refine codeAny_call_function hr.depth (KX _ _ lk) rfl S.co S.gen rfl (PySem.W.codeRec_of KX hcd) (hb _ _ _ _ ?_)
  refine wpAny_newFunctionEnv_cells S.kind hkind fun env he s1 x => ?_
  subst he
  refine ⟨lim.keeps x.toInCall.keep, codeAny_func ?_⟩
  obtain ⟨t, ht, hq⟩ := hbody A outer s H vs Q E (hr.deeper _) hsp
  have I : Inv (cxOf CX P w K mg base N qual scope f cdv A outer s H E) [] (start N vs) H s1 := inv_start S hr.hd e0 hl r x
  refine wpAny_mono (ht [] s1 (start N vs) H _ I hq) (fun fl s' hs => ?_) fun e s' hs => hs
  have fin : ∀ {σ' : St} {H' : Hp} {v : V} {u : Value}, Inv (cxOf CX P w K mg base N qual scope f cdv A outer s H E) [] σ' H' s' → RelV v u → Q v H' → CE outer P w H s Q u s' :=
    fun {σ' H' v u} J rv q => ⟨v, H', J.os, J.bare, J.base, J.hok, rv, q⟩
  cases fl with
  | ret u =>
    obtain ⟨v, σ', H', J, rv, q⟩ := hs
    exact fin J rv q
  | next =>
    obtain ⟨σ', H', J, q⟩ := hs
    exact fin (v := V.non) (u := Value.none) J rfl q
  | brk =>
    obtain ⟨_, _, _, q⟩ := hs
    exact False.elim q
  | cont =>
    obtain ⟨_, _, _, q⟩ := hs
    exact False.elim q
end L2
namespace L2
open PySem PySem.Spec PyProof.Rows
section
variable {X : Cx} {x : Str} {p pos : Pos} {e : Expr} {es : List Expr} {t : TA} {id T : String} {r : List V → Hp → VK → Prop}
def tCB (r : List V → Hp → VK → Prop) (t : TA) : TE := fun σ H Q => t σ H fun vs H1 => r vs H1 Q
theorem pe_callB (hc : CallR X (.builtin id) r) (hg : Gl X x) (hm : X.mg x = none) (hv : bootBuiltins x = some (.builtin id)) (ha : PA X (e :: es) t) (hn : x ≠ "__name__" := by decide) (hdb : (x == ("__debug__" : Str)) = false := by decide)
    (he : starEach (e :: es) X.env = (false, eval e X.env) :: starEach es X.env := by rfl) (hpl : (backTo pos (starEach es X.env)).any (·.1) = false := by rfl) : PE X (.Call (.Name x p) (e :: es) [] pos) (tCB r t) := by
  intro pins s σ H Q I h
  refine wpAny_Call_Name_kw (ld_blt I hg hm hv ?_ hn hdb)
  exact PyProof.Rows.callWith_builtin1 (thn (ha pos pins s σ H _ I h) fun us s1 ⟨vs, H1, I1, r1, q1⟩ => hc pins s1 σ H1 vs us Q I1 r1 q1) he hpl
theorem pe_callTy (hc : CallR X (.type T) r) (hg : Gl X x) (hm : X.mg x = none) (hv : bootBuiltins x = some (.type T)) (ha : PA X (e :: es) t) (hn : x ≠ "__name__" := by decide) (hdb : (x == ("__debug__" : Str)) = false := by decide)
    (he : starEach (e :: es) X.env = (false, eval e X.env) :: starEach es X.env := by rfl) (hpl : (backTo pos (starEach es X.env)).any (·.1) = false := by rfl) : PE X (.Call (.Name x p) (e :: es) [] pos) (tCB r t) := by
  intro pins s σ H Q I h
  refine wpAny_Call_Name_kw (ld_blt I hg hm hv ?_ hn hdb)
  exact PyProof.Rows.callWith_type1 (thn (ha pos pins s σ H _ I h) fun us s1 ⟨vs, H1, I1, r1, q1⟩ => hc pins s1 σ H1 vs us Q I1 r1 q1) he hpl
end
end L2
namespace HT
open PySem PyProof.Rows
section
variable {prog : Program} {w : World} {A : Around} {E : Value → Shared → Prop} {s : Shared}
def sIx (n d : Nat) : Option Int → Nat
  | none => d
  | some v => if v < 0 then (v + (n : Int)).toNat else min v.toNat n
theorem sIx_le (n d : Nat) (hd : d ≤ n) (o : Option Int) : sIx n d o ≤ n := by
  cases o with
  | none => exact hd
  | some v =>
    show (if v < 0 then (v + (n : Int)).toNat else min v.toNat n) ≤ n
    by_cases hv : v < 0
    · rw [if_pos hv]; omega
    · rw [if_neg hv]; exact Nat.min_le_right _ _
theorem clip_eq (v : Int) (n d : Nat) : (if v < 0 then max (v + (n : Int)) 0 else min v (n : Int)) = ((sIx n d (some v) : Nat) : Int) := by
  show (if v < 0 then max (v + (n : Int)) 0 else min v (n : Int)) = (((if v < 0 then (v + (n : Int)).toNat else min v.toNat n) : Nat) : Int)
  by_cases hv : v < 0
  · simp only [if_pos hv]; omega
  · simp only [if_neg hv]; omega
theorem adjust_gen (lo hi : Option Int) (n : Nat) : Builtin.Slice.sliceAdjust lo hi 1 (n : Int) = (((sIx n 0 lo : Nat) : Int), ((sIx n n hi : Nat) : Int)) := by
  have h1 : ¬ ((1 : Int) < 0) := by omega
  unfold Builtin.Slice.sliceAdjust
  simp only [h1, if_false]
  refine Prod.ext ?_ ?_
  · cases lo with
    | none => rfl
    | some v => exact clip_eq v n 0
  · cases hi with
    | none => rfl
    | some v => exact clip_eq v n n
theorem places_gen (i j : Nat) : Builtin.Slice.slicePlaces (i : Int) (j : Int) 1 = j - i := by
  unfold Builtin.Slice.slicePlaces
  have h1 : (1 : Int) > 0 := by omega
  simp only [h1, if_true, Int.ediv_one]
  split <;> omega
theorem slicePart_ {v : Value} {o : Option Int} {Q : Option Int → Shared → Prop} (p : IsPart v o) (h : Q o s) : wpAny (model prog w) A (Builtin.Slice.slicePartIndex v) Q E s := by
  cases p with
  | none => exact slicePart_none h
  | int i t => exact slicePart_int h
theorem sliceApplied_gen {sl : Addr} {vl vu : Value} {lo hi : Option Int} {n : Nat} {Q : Int × Int × Nat → Shared → Prop} (hs : s.heap.IsSliceOf sl vl vu .none) (pl : IsPart vl lo) (pu : IsPart vu hi)
    (h : Q (((sIx n 0 lo : Nat) : Int), 1, sIx n n hi - sIx n 0 lo) s) : wpAny (model prog w) A (Builtin.Slice.sliceApplied (.ref sl) (pure (n : Int))) Q E s := by
  obtain ⟨os, hos, hcs, hds⟩ := id hs
  unfold Builtin.Slice.sliceApplied Builtin.Slice.sliceFields
  refine wpAny_bind (wpAny_bind (wpAny_field hos hds (x := vl) rfl (wpAny_bind (wpAny_field hos hds (x := vu) rfl (wpAny_bind (wpAny_field hos hds (x := .none) rfl (wpAny_pure ?_)))))))
  refine wpAny_bind (slicePart_none ?_)
  show wpAny _ _ (if ((1 : Int) == 0) = true then _ else _) _ _ s
  rw [if_neg (by decide)]
  refine wpAny_bind (slicePart_ pl (wpAny_bind (slicePart_ pu (wpAny_bind (wpAny_pure ?_)))))
  show wpAny _ _ (match Builtin.Slice.sliceAdjust lo hi 1 (n : Int) with | (lo, hi) => pure (lo, (1 : Int), Builtin.Slice.slicePlaces lo hi 1)) _ _ s
  rw [adjust_gen lo hi n]
  show wpAny _ _ (pure (((sIx n 0 lo : Nat) : Int), (1 : Int), Builtin.Slice.slicePlaces ((sIx n 0 lo : Nat) : Int) ((sIx n n hi : Nat) : Int) 1)) _ _ s
  rw [places_gen]
  exact wpAny_pure h
theorem pick_gen (xs : Array Value) (i k : Nat) : ((List.range k).filterMap fun (m : Nat) => xs[((i : Int) + (m : Int) * 1).toNat]?).toArray = ((xs.toList.drop i).take k).toArray := by
  have e : (fun (m : Nat) => xs[((i : Int) + (m : Int) * 1).toNat]?) = fun m => xs[i + m]? := by
    funext m
    have : ((i : Int) + (m : Int) * 1).toNat = i + m := by omega
    rw [this]
  rw [e]
  have := pick_run xs i k
  rw [List.filterMap_map] at this
  have e2 : ((fun x => xs[x]?) ∘ fun x => i + x) = fun m => xs[i + m]? := rfl
  rw [e2] at this
  rw [this]
theorem getItem_tuple_cut {t sl : Addr} {items : Array Value} {vl vu : Value} {lo hi : Option Int} {Q : Value → Shared → Prop} (ht : IsTup s.heap t items) (hs : s.heap.IsSliceOf sl vl vu .none) (pl : IsPart vl lo) (pu : IsPart vu hi)
    (hw : ¬ (sIx items.size 0 lo = 0 ∧ sIx items.size items.size hi = items.size))
    (h : Q (.ref s.heap.objs.size) { s with heap := s.heap.push { cls := .type "tuple", data := .seq ((items.toList.drop (sIx items.size 0 lo)).take (sIx items.size items.size hi - sIx items.size 0 lo)).toArray } })
    (hsz : items.size ≤ sizeLine) : wpAny (model prog w) A (getItem (.ref t) (.ref sl)) Q E s := by
  have htake : sizeOk (.seq ((items.toList.drop (sIx items.size 0 lo)).take (sIx items.size items.size hi - sIx items.size 0 lo)).toArray) := by
    show ((items.toList.drop (sIx items.size 0 lo)).take (sIx items.size items.size hi - sIx items.size 0 lo)).toArray.size ≤ sizeLine
    rw [List.size_toArray, List.length_take, List.length_drop, Array.length_toList]
    omega
  have hj : sIx items.size items.size hi ≤ items.size := sIx_le _ _ (Nat.le_refl _) hi
  obtain ⟨os, hos, hcs, hds⟩ := id hs
  have hTs : s.TypeIs (.ref sl) "slice" := ⟨os, hos, hcs⟩
  unfold getItem
  try with_reducible refine wpAny_holding ?_
  first | refine wpAny_bind (wpAny_pure ?_) | skip
  refine wpAny_bind (wpAny_sequenceKey ht.typeIs (by decide) ?_)
  refine wpAny_bind (wpAny_callSpecial?_slot (name := Str.ofString "__getitem__") ht.typeIs PyProof.Rows.slot_tuple_getitem
    (wpAny_call_entry PyProof.Rows.slot_tuple_getitem ht.typeIs entry_tuple_getitem ?_ (args_tuple_getitem _ _)))
  show wpAny _ _ (Builtin.Tuple.tupleItemsOf (.ref t) >>= _) _ _ s
  refine wpAny_bind (tupleItemsOf_ ht ?_)
  refine wpAny_bind (wpAny_typeOf hTs ?_)
  rw [if_pos (by decide)]
  refine wpAny_bind (sliceApplied_gen hs pl pu ?_)
  have hno : ¬ ((((sIx items.size 0 lo : Nat) : Int) == 0 && (1 : Int) == 1 && (sIx items.size items.size hi - sIx items.size 0 lo) == items.size) = true) := by
    intro q
    rw [Bool.and_eq_true, Bool.and_eq_true] at q
    have q1 : ((sIx items.size 0 lo : Nat) : Int) = 0 := eq_of_beq q.1.1
    have q2 : sIx items.size items.size hi - sIx items.size 0 lo = items.size := eq_of_beq q.2
    exact hw ⟨by omega, by omega⟩
  show wpAny _ _ (if (((sIx items.size 0 lo : Nat) : Int) == 0 && (1 : Int) == 1 && (sIx items.size items.size hi - sIx items.size 0 lo) == items.size) = true then _ else _) _ _ s
  rw [if_neg hno, pick_gen]
  first
    | exact wpAny_bind (m := Builtin.Tuple.tupleExact _) (wpAny_newObj_type (wpAny_pure ⟨_, rfl, wpAny_pure h⟩) htake)
    | exact wpAny_bind (m := Builtin.Tuple.tupleExact _) (wpAny_newObj_type (wpAny_bind (wpAny_pure (wpAny_pure ⟨_, rfl, wpAny_pure h⟩))) htake)
    | exact wpAny_bind (wpAny_bind (m := Builtin.Tuple.tupleExact _) (wpAny_newObj_type (wpAny_pure (wpAny_pure ⟨_, rfl, wpAny_pure h⟩)) htake))
    | exact wpAny_bind (wpAny_bind (m := Builtin.Tuple.tupleExact _) (wpAny_newObj_type (wpAny_pure ⟨_, rfl, wpAny_pure h⟩) htake))
end
end HT
namespace L2
open PySem PySem.Spec PyProof.Rows
abbrev TO := St → Hp → (Option Int → Hp → Prop) → Prop
def PO (X : Cx) (e : Option Expr) (t : TO) : Prop :=
  ∀ (pins : List (Addr × Obj)) (s : Shared) (σ : St) (H : Hp) (Q : Option Int → Hp → Prop), Inv X pins σ H s → t σ H Q →
    wpAny (model X.prog X.w) X.A (evalPart e X.env) (fun u s' => ∃ o H', Inv X pins σ H' s' ∧ IsPart u o ∧ Q o H') X.xe s
def tNoPart : TO := fun _ H Q => Q none H
def tPart (t : TE) : TO := fun σ H Q => t σ H fun x H1 => ∃ i, x = .int i ∧ Q (some i) H1
theorem intsAre_of {ns : List Int} : ∀ {us : List Value}, Vals (ns.map V.int) us → IntsAre us ns := by
  induction ns with
  | nil => intro us r; rw [List.map_nil] at r; cases r; exact .nil
  | cons n ns ih =>
    intro us r
    rw [List.map_cons] at r
    cases r with
    | cons r1 r2 =>
      obtain ⟨t, e⟩ := r1
      subst e
      exact .cons n t (ih r2)
section
variable {X : Cx} {e : Expr} {te : TE} {lo hi : Option Expr} {tl th : TO} {pos p2 : Pos}
theorem po_none : PO X none tNoPart := by
  intro pins s σ H Q I h
  rw [evalPart_none]
  exact wpAny_pure ⟨none, H, I, .none, h⟩
theorem po_some (h : PE X e te) : PO X (some e) (tPart te) := by
  intro pins s σ H Q I hw
  rw [evalPart_some]
  refine thn (h pins s σ H _ I hw) fun u s1 ⟨x, H1, I1, r1, q1⟩ => ?_
  obtain ⟨i, rfl, q⟩ := q1
  obtain ⟨t, rfl⟩ := r1
  exact ⟨some i, H1, I1, .int i t, q⟩
def SlR (X : Cx) (r : V → Option Int → Option Int → Hp → VK → Prop) : Prop :=
  ∀ (pins : List (Addr × Obj)) (s : Shared) (σ : St) (H : Hp) (x : V) (v vl vu : Value) (lo hi : Option Int) (sl : Addr) (Q : VK), Inv X pins σ H s → RelV x v → s.heap.IsSliceOf sl vl vu .none → IsPart vl lo → IsPart vu hi → r x lo hi H Q →
    ∃ T id, typeLookup (.type T) "__getitem__" = pure (some (.builtin id)) ∧ s.TypeIs v T ∧ wpAny (model X.prog X.w) X.A (getItem v (.ref sl)) (EP X pins σ Q) X.xe s
theorem SlR.or {r r' : V → Option Int → Option Int → Hp → VK → Prop} (h : SlR X r) (h' : SlR X r') : SlR X (fun x lo hi H Q => r x lo hi H Q ∨ r' x lo hi H Q) := by
  intro pins s σ H x v vl vu lo hi sl Q I rx hs pl pu q
  rcases q with q | q
  · exact h pins s σ H x v vl vu lo hi sl Q I rx hs pl pu q
  · exact h' pins s σ H x v vl vu lo hi sl Q I rx hs pl pu q
def tSl (r : V → Option Int → Option Int → Hp → VK → Prop) (te : TE) (tl th : TO) : TE := fun σ H Q => te σ H fun x H1 => tl σ H1 fun l H2 => th σ H2 fun u H3 => r x l u H3 Q
theorem pe_slice {r : V → Option Int → Option Int → Hp → VK → Prop} (hr : SlR X r) (he : PE X e te) (hl : PO X lo tl) (hu : PO X hi th) : PE X (.Subscript e (.Slice lo hi none p2) pos) (tSl r te tl th) := by
  intro pins s σ H Q I h
  refine Subscript_ (thn (he pins s σ H _ I h) fun v s1 ⟨x, H1, I1, r1, q1⟩ => ?_)
  refine wpAny_Slice (thn (hl pins s1 σ H1 _ I1 q1) fun vl s2 ⟨l, H2, I2, pl, q2⟩ => thn (hu pins s2 σ H2 _ I2 q2) fun vu s3 ⟨u, H3, I3, pu, q3⟩ => ?_)
  rw [evalPart_none]
  refine wpAny_pure ?_
  have I4 : Inv X pins σ H3 { s3 with heap := s3.heap.push { cls := .type "slice", data := .fields #[vl, vu, .none] } } := I3.kept (t' := s3.toks) fun b ob q => Heap.get?_push_of_some _ q
  obtain ⟨T, id, hT, ht, hg⟩ := hr pins { s3 with heap := s3.heap.push { cls := .type "slice", data := .fields #[vl, vu, .none] } } σ H3 x v vl vu l u s3.heap.objs.size Q I4 r1 (Heap.IsSliceOf.new ..) pl pu q3
  show wpAny (model X.prog X.w) X.A (subscriptTail e (.Slice lo hi none p2) v (.ref s3.heap.objs.size)) (EP X pins σ Q) X.xe { s3 with heap := s3.heap.push { cls := .type "slice", data := .fields #[vl, vu, .none] } }
  exact tail_any (ops := [.ref s3.heap.objs.size, v]) ht hT hg (by with_unfolding_all rfl)
def cutV (xs : List V) (lo hi : Option Int) : List V := (xs.drop (HT.sIx xs.length 0 lo)).take (HT.sIx xs.length xs.length hi - HT.sIx xs.length 0 lo)
theorem cutV_length (xs : List V) (lo hi : Option Int) : (cutV xs lo hi).length ≤ xs.length := by
  unfold cutV
  rw [List.length_take, List.length_drop]
  omega
def rSlT (K : PySem.W.Frag) : V → Option Int → Option Int → Hp → VK → Prop := fun x lo hi H Q => ∃ a xs, x = .ref a ∧ SqT K H a xs ∧
  ¬ (HT.sIx xs.length 0 lo = 0 ∧ HT.sIx xs.length xs.length hi = xs.length) ∧ ∀ p, H p = none → Q (.ref p) (upd H p (.tup (cutV xs lo hi)))
theorem sl_tup : SlR X (rSlT X.K) := by
  intro pins s σ H x v vl vu lo hi sl Q I rx hs pl pu h
  obtain ⟨a, xs, rfl, hx, hw, q⟩ := h
  cases rx
  obtain ⟨its, r, ht, hz⟩ := I.tuple hx
  have hlen : its.toArray.size = xs.length := by rw [List.size_toArray]; exact r.length.symm
  refine ⟨"tuple", _, PyProof.Rows.slot_tuple_getitem.lookup, ht.typeIs, ?_⟩
  refine HT.getItem_tuple_cut ht hs pl pu (by rw [hlen]; exact hw) ?_ (by rw [hlen]; exact hz)
  rw [hlen]
  refine ⟨.ref s.heap.objs.size, _, I.laid (t' := s.toks) (o := .tup (cutV xs lo hi)) (fun b ob q => Heap.get?_push_of_some _ q) (Nat.le_refl _) ?_, rfl, q _ (I.hok.fresh (Nat.le_refl _))⟩
  exact ⟨Nat.le_trans (cutV_length xs lo hi) hz, _, (r.drop (HT.sIx xs.length 0 lo)).take (HT.sIx xs.length xs.length hi - HT.sIx xs.length 0 lo), IsTup.new _ _⟩
end
end L2
namespace L2
open PySem PySem.Spec PyProof.Rows
def ixN (n : Nat) (i : Int) : Option Nat := if 0 ≤ i then (if i < n then some i.toNat else none) else if -(n : Int) ≤ i then some (i + n).toNat else none
def atI {α : Type} (xs : List α) (i : Int) : Option α := (ixN xs.length i).bind fun j => xs[j]?
theorem ixN_seq {n : Nat} {i : Int} {j : Nat} (h : ixN n i = some j) : seqIndex? i n = some j ∧ j < n ∧ -(n : Int) ≤ i ∧ i < n := by
  unfold ixN at h
  by_cases h0 : 0 ≤ i
  · rw [if_pos h0] at h
    by_cases h1 : i < n
    · rw [if_pos h1] at h
      have e : i.toNat = j := Option.some.inj h
      exact ⟨by rw [seqIndex_of h0 h1, e], by omega, by omega, h1⟩
    · rw [if_neg h1] at h; cases h
  · rw [if_neg h0] at h
    by_cases h1 : -(n : Int) ≤ i
    · rw [if_pos h1] at h
      have e : (i + n).toNat = j := Option.some.inj h
      exact ⟨by rw [seqIndex_neg (by omega) h1, e], by omega, h1, by omega⟩
    · rw [if_neg h1] at h; cases h
theorem atI_get {α : Type} {xs : List α} {i : Int} {v : α} (h : atI xs i = some v) : ∃ j, seqIndex? i xs.length = some j ∧ xs[j]? = some v ∧ j < xs.length ∧ -(xs.length : Int) ≤ i ∧ i < xs.length := by
  unfold atI at h
  cases e : ixN xs.length i with
  | none => rw [e] at h; cases h
  | some j =>
    rw [e] at h
    obtain ⟨h1, h2, h3, h4⟩ := ixN_seq e
    exact ⟨j, h1, h, h2, h3, h4⟩
theorem atI_nat {α : Type} {xs : List α} {j : Nat} {v : α} (h : xs[j]? = some v) : atI xs (j : Int) = some v := by
  have hj : j < xs.length := (List.getElem?_eq_some_iff.mp h).1
  have e : ixN xs.length (j : Int) = some j := by
    unfold ixN
    rw [if_pos (by omega), if_pos (by omega)]; simp
  unfold atI; rw [e]; exact h
def PlainIx (b : Expr) : Prop := ∀ o i, subscripted b false o i = operate [o, i] (getItem o i)
def IxR (X : Cx) (r : R2) : Prop :=
  ∀ (value slice : Expr) (pins : List (Addr × Obj)) (s : Shared) (σ : St) (H : Hp) (x y : V) (v u : Value) (Q : VK), Inv X pins σ H s → RelV x v → RelV y u → r x y H Q →
    subscripted slice false v u = operate [v, u] (getItem v u) → wpAny (model X.prog X.w) X.A (subscriptTail value slice v u) (EP X pins σ Q) X.xe s
def MtR (X : Cx) (id : String) (r : V → List V → Hp → VK → Prop) : Prop :=
  ∀ (pins : List (Addr × Obj)) (s : Shared) (σ : St) (H : Hp) (x : V) (xs : List V) (v : Value) (us : List Value) (Q : VK), Inv X pins σ H s → RelV x v → Vals xs us → r x xs H Q →
    wpAny (model X.prog X.w) X.A (call (.builtin id) (v :: us)) (EP X pins σ Q) X.xe s
section
variable {X : Cx} {a b : Expr} {ta tb : TE} {pos : Pos}
theorem IxR.or {r r' : R2} (h : IxR X r) (h' : IxR X r') : IxR X (fun x y H Q => r x y H Q ∨ r' x y H Q) := by
  intro value slice pins s σ H x y v u Q I rx ry q hs
  rcases q with q | q
  · exact h value slice pins s σ H x y v u Q I rx ry q hs
  · exact h' value slice pins s σ H x y v u Q I rx ry q hs
theorem pe_ix {r : R2} (hr : IxR X r) (ha : PE X a ta) (hb : PE X b tb) (hs : PlainIx b) : PE X (.Subscript a b pos) (tOp r ta tb) := by
  intro pins s σ H Q I h
  exact Subscript_ (binT ha hb I h fun v u s2 x y H2 I2 rx ry q => hr a b pins s2 σ H2 x y v u Q I2 rx ry q (hs _ _))
def rIxL (K : PySem.W.Frag) : R2 := fun x y H Q => ∃ p xs i v, x = .ref p ∧ y = .int i ∧ SqL K H p xs ∧ atI xs i = some v ∧ Q v H
def rIxT (K : PySem.W.Frag) : R2 := fun x y H Q => ∃ p xs i v, x = .ref p ∧ y = .int i ∧ SqT K H p xs ∧ atI xs i = some v ∧ Q v H
def rIxS : R2 := fun x y H Q => ∃ z i c, x = .str z ∧ y = .int i ∧ z.length ≤ sizeLine ∧ atI z.cps.toList i = some c ∧ Q (.str ⟨#[c]⟩) H
theorem ix_list : IxR X (rIxL X.K) := by
  intro value slice pins s σ H x y v u Q I rx ry h hs
  obtain ⟨p, xs, i, z, rfl, rfl, hq, he, q⟩ := h
  cases rx
  obtain ⟨t, rfl⟩ := ry
  obtain ⟨its, r, pl, hz⟩ := I.list hq
  obtain ⟨j, h1, h2, h3, h4, h5⟩ := atI_get he
  obtain ⟨w, ew, rw'⟩ := r.get h2
  have hl := r.length
  have hn := line63
  have fin : EP X pins σ Q w s := ⟨z, H, I, rw', q⟩
  by_cases h0 : 0 ≤ i
  · have hj : i.toNat = j := by
      rw [seqIndex_of h0 h5] at h1
      exact Option.some.inj h1
    exact item_listR pl.isList h0 (by omega) (by rw [hj]; simpa using ew) fin hs
  · have hj : (i + (its.toArray.size : Int)).toNat = j := by
      rw [seqIndex_neg (by omega) h4] at h1
      rw [List.size_toArray, ← hl]
      exact Option.some.inj h1
    exact subscriptTail_builtinR (x := w) pl.isList.typeIs slot_list_getitem.lookup
      (wpAny_getItem_list_neg (Q := fun r s' => r = w ∧ EP X pins σ Q r s') pl.isList (by omega) (by rw [List.size_toArray] <;> omega) (by omega) (by rw [hj]; simpa using ew) ⟨rfl, fin⟩) hs
theorem ix_tup : IxR X (rIxT X.K) := by
  intro value slice pins s σ H x y v u Q I rx ry h hs
  obtain ⟨p, xs, i, z, rfl, rfl, hq, he, q⟩ := h
  cases rx
  obtain ⟨t, rfl⟩ := ry
  obtain ⟨its, r, pl, hz⟩ := I.tuple hq
  obtain ⟨j, h1, h2, h3, h4, h5⟩ := atI_get he
  obtain ⟨w, ew, rw'⟩ := r.get h2
  have hl := r.length
  have hn := line63
  have fin : EP X pins σ Q w s := ⟨z, H, I, rw', q⟩
  exact subscriptTail_builtinR (x := w) pl.typeIs slot_tuple_getitem.lookup
    (getItem_tuple (j := j) (Q := fun r s' => r = w ∧ EP X pins σ Q r s') pl (by omega) (by omega) (by rw [List.size_toArray, ← hl]; exact h1) (by simpa using ew) ⟨rfl, fin⟩) hs
theorem ix_str : IxR X rIxS := by
  intro value slice pins s σ H x y v u Q I rx ry h hs
  obtain ⟨z, i, c, rfl, rfl, hz, he, q⟩ := h
  obtain ⟨t, rfl⟩ := rx
  obtain ⟨t', rfl⟩ := ry
  obtain ⟨j, h1, h2, h3, h4, h5⟩ := atI_get he
  have hl : z.cps.toList.length = z.length := by simp [Str.length]
  rw [hl] at h1 h4 h5
  have hn := line63
  exact tail_any (typeIs_str s z t) slot_str_getitem.lookup (getItem_str (c := c) (by
    have e1 : decide (i < -(2 ^ 63 : Int)) = false := decide_eq_false (by omega)
    have e2 : decide (i ≥ 2 ^ 63) = false := decide_eq_false (by omega)
    rw [e1, e2, Bool.or_false]) (by rw [h1]; simpa using h2) ⟨.str ⟨#[c]⟩, H, I.tok _, ⟨_, rfl⟩, q⟩) hs
def rIx (K : PySem.W.Frag) : R2 := fun x y H Q => rIxL K x y H Q ∨ rIxT K x y H Q ∨ rIxS x y H Q
theorem ix_seq : IxR X (rIx X.K) := ix_list.or (ix_tup.or ix_str)
theorem mapSeq_set (its : List Value) (n j : Nat) (u : Value) : Obj.mapSeq (·.setIfInBounds j u) { cls := .type "list", data := .seq its.toArray n } = { cls := .type "list", data := .seq (its.set j u).toArray n } := by
  simp [Obj.mapSeq]
theorem Inv.lst {pins : List (Addr × Obj)} {σ : St} {H : Hp} {s : Shared} {p : Addr} {xs : List V} (I : Inv X pins σ H s) (h : H p = some (.lst xs)) :
    ∃ (its : List Value) (n : Nat), Vals xs its ∧ s.heap.get? p = some { cls := .type "list", data := .seq its.toArray n } ∧ xs.length ≤ sizeLine := by
  obtain ⟨z, its, n, r, e⟩ := I.hok p _ h
  exact ⟨its, n, r, e, z⟩
theorem Inv.lstUpd {pins : List (Addr × Obj)} {σ : St} {H : Hp} {s : Shared} {p : Addr} {xs ys : List V} {its its' : List Value} {n n' : Nat} {f : Obj → Obj} (I : Inv X pins σ H s) (h : H p = some (.lst xs))
    (ho : s.heap.get? p = some { cls := .type "list", data := .seq its.toArray n }) (hf : f { cls := .type "list", data := .seq its.toArray n } = { cls := .type "list", data := .seq its'.toArray n' }) (r : Vals ys its') (hz : ys.length ≤ sizeLine) (t : Nat) :
    Inv X pins σ (upd H p (.lst ys)) { s with heap := s.heap.update p f, toks := t } := by
  have e : (s.heap.update p f).get? p = some { cls := .type "list", data := .seq its'.toArray n' } := by
    rw [Heap.get?_update_self f ho (by rw [hf] <;> rfl), hf]
  refine I.write (x := p) (e := p) (by rw [h]; trivial) (.inl rfl) (fun b u hb q => (Heap.get?_update_other _ _ (Ne.symm hb)).trans q) ⟨_, e⟩ ?_
  exact ⟨hz, its', n', r, e⟩
def rSetL : V → V → V → Hp → (Hp → Prop) → Prop := fun o i v H Q => ∃ p xs k j, o = .ref p ∧ i = .int k ∧ H p = some (.lst xs) ∧ ixN xs.length k = some j ∧ Q (upd H p (.lst (xs.set j v)))
theorem set_list : PSet X rSetL := by
  intro pins s σ H o i v ov iv u Q I ro ri rv h
  obtain ⟨p, xs, k, j, rfl, rfl, hp, hj, q⟩ := h
  cases ro
  obtain ⟨t, rfl⟩ := ri
  obtain ⟨its, n, r, ho, hz⟩ := I.lst hp
  obtain ⟨h1, h2, h3, h4⟩ := ixN_seq hj
  have hl := r.length
  have hn := line63
  have I' : Inv X pins σ (upd H p (.lst (xs.set j v))) { s with heap := s.heap.update p (Obj.mapSeq (·.setIfInBounds j u)) } :=
    I.lstUpd hp ho (mapSeq_set its n j u) (r.set rv j) (by rw [List.length_set]; exact hz) s.toks
  by_cases h0 : 0 ≤ k
  · have hk : k.toNat = j := by
      rw [seqIndex_of h0 h4] at h1
      exact Option.some.inj h1
    exact PySem.W.ki_setAt ho h0 (by omega) (by rw [List.size_toArray, ← hl]; exact h4) (by rw [hk]; exact ⟨_, I', q⟩)
  · have hk : (k + (its.toArray.size : Int)).toNat = j := by
      rw [seqIndex_neg (by omega) h3] at h1
      rw [List.size_toArray, ← hl]
      exact Option.some.inj h1
    exact PySem.W.ki_setBack ho (by omega) (by rw [List.size_toArray, ← hl]; exact h3) (by omega) (by rw [hk]; exact ⟨_, I', q⟩)
theorem slice_bounds (lo hi : Option Int) (n : Nat) : (sliceBounds lo hi none n).1 = ((HT.sIx n 0 lo : Nat) : Int) ∧ (sliceBounds lo hi none n).2.1 = ((HT.sIx n n hi : Nat) : Int) ∧ (sliceBounds lo hi none n).2.2 = 1 := by
  refine ⟨?_, ?_, rfl⟩
  · cases lo with
    | none => simp [sliceBounds, HT.sIx]
    | some i =>
      simp only [sliceBounds, HT.sIx, Option.getD_none, show (1 : Int) > 0 by decide, if_true]
      by_cases h : i < 0
      · simp only [h, if_true] <;> omega
      · simp only [h, if_false] <;> omega
  · cases hi with
    | none => simp [sliceBounds, HT.sIx]
    | some i =>
      simp only [sliceBounds, HT.sIx, Option.getD_none, show (1 : Int) > 0 by decide, if_true]
      by_cases h : i < 0
      · simp only [h, if_true] <;> omega
      · simp only [h, if_false] <;> omega
theorem slicePick_cut (its : List Value) (lo hi : Option Int) : slicePick its.toArray lo hi none = ((its.drop (HT.sIx its.length 0 lo)).take (HT.sIx its.length its.length hi - HT.sIx its.length 0 lo)).toArray := by
  obtain ⟨h1, h2, h3⟩ := slice_bounds lo hi its.toArray.size
  unfold slicePick
  rw [h1, h2, h3]
  simp only [sliceRange_one, pick_run, List.size_toArray] <;> rfl
def rSlL (K : PySem.W.Frag) : V → Option Int → Option Int → Hp → VK → Prop := fun x lo hi H Q => ∃ a xs, x = .ref a ∧ SqL K H a xs ∧ ∀ p, H p = none → Q (.ref p) (upd H p (.lst (cutV xs lo hi)))
theorem sl_list : SlR X (rSlL X.K) := by
  intro pins s σ H x v vl vu lo hi sl Q I rx hs pl pu h
  obtain ⟨a, xs, rfl, hx, q⟩ := h
  cases rx
  obtain ⟨its, r, ht, hz⟩ := I.list hx
  have hlen := r.length
  refine ⟨"list", _, slot_list_getitem.lookup, ht.isList.typeIs, ?_⟩
  refine wpAny_getItem_list_slice ht.isList hs pl pu .none (by simp) ?_ (by rw [List.size_toArray] <;> omega)
  rw [slicePick_cut, ← hlen]
  refine ⟨.ref s.heap.objs.size, _, I.laid (t' := s.toks) (o := .lst (cutV xs lo hi)) (fun b ob q => Heap.get?_push_of_some _ q) (Nat.le_refl _) ?_, rfl, q _ (I.hok.fresh (Nat.le_refl _))⟩
  exact ⟨Nat.le_trans (cutV_length xs lo hi) hz, _, 0, (r.drop (HT.sIx xs.length 0 lo)).take (HT.sIx xs.length xs.length hi - HT.sIx xs.length 0 lo), Heap.get?_push_size _ rfl⟩
def flatV : V → Bool
  | .non => true
  | .bl _ => true
  | .int _ => true
  | .str _ => true
  | _ => false
def eqV : V → V → Bool
  | .non, .non => true
  | .bl a, .bl b => a == b
  | .bl a, .int b => (if a then 1 else 0) == b
  | .int a, .bl b => a == (if b then 1 else 0)
  | .int a, .int b => a == b
  | .str a, .str b => a == b
  | _, _ => false
theorem eqAt_V {A : Around} {s : Shared} {y x : V} {u v : Value} (ry : RelV y u) (rx : RelV x v) (fy : flatV y = true) (fx : flatV x = true) : SeqAt.EqAt A s u v (eqV y x) := by
  cases y with
  | non =>
    cases ry
    cases x with
    | non => cases rx; exact SeqAt.EqAt.same _
    | bl b => cases rx; exact SeqAt.EqAt.none_bool b
    | int b => obtain ⟨t, rfl⟩ := rx; exact SeqAt.EqAt.none_int b t
    | str b => obtain ⟨t, rfl⟩ := rx; exact SeqAt.EqAt.none_str b t
    | _ => exact absurd (show false = true from fx) Bool.false_ne_true
  | bl a =>
    cases ry
    cases x with
    | non => cases rx; exact SeqAt.EqAt.bool_none a
    | bl b => cases rx; exact SeqAt.EqAt.bool_bool a b
    | int b => obtain ⟨t, rfl⟩ := rx; exact SeqAt.EqAt.bool_int a b t
    | str b => obtain ⟨t, rfl⟩ := rx; exact SeqAt.EqAt.bool_str a b t
    | _ => exact absurd (show false = true from fx) Bool.false_ne_true
  | int a =>
    obtain ⟨t', rfl⟩ := ry
    cases x with
    | non => cases rx; exact SeqAt.EqAt.int_none a t'
    | bl b => cases rx; exact SeqAt.EqAt.int_bool a t' b
    | int b => obtain ⟨t, rfl⟩ := rx; exact SeqAt.EqAt.int_int a t' b t
    | str b => obtain ⟨t, rfl⟩ := rx; exact SeqAt.EqAt.int_str a t' b t
    | _ => exact absurd (show false = true from fx) Bool.false_ne_true
  | str a =>
    obtain ⟨t', rfl⟩ := ry
    cases x with
    | non => cases rx; exact SeqAt.EqAt.str_none a t'
    | bl b => cases rx; exact SeqAt.EqAt.str_bool a t' b
    | int b => obtain ⟨t, rfl⟩ := rx; exact SeqAt.EqAt.str_int a t' b t
    | str b => obtain ⟨t, rfl⟩ := rx; exact SeqAt.EqAt.str_str a t' b t
    | _ => exact absurd (show false = true from fx) Bool.false_ne_true
  | _ => exact absurd (show false = true from fy) Bool.false_ne_true
def eqU (x : V) (u : Value) : Bool := match u with
  | .none => eqV .non x
  | .bool b => eqV (.bl b) x
  | .int i _ => eqV (.int i) x
  | .str z _ => eqV (.str z) x
  | _ => false
theorem eqU_of {x y : V} {u : Value} (r : RelV y u) (f : flatV y = true) : eqU x u = eqV y x := by
  cases y with
  | non => cases r; rfl
  | bl b => cases r; rfl
  | int i => obtain ⟨t, rfl⟩ := r; rfl
  | str z => obtain ⟨t, rfl⟩ := r; rfl
  | _ => exact absurd (show false = true from f) Bool.false_ne_true
theorem any_eqU {x : V} : ∀ {xs : List V} {us : List Value}, Vals xs us → xs.all flatV = true → us.any (eqU x) = xs.any fun y => eqV y x
  | _, _, .nil, _ => rfl
  | y :: xs, u :: us, .cons r t, f => by
    rw [List.all_cons, Bool.and_eq_true] at f
    rw [List.any_cons, List.any_cons, eqU_of r f.1, any_eqU t f.2]
theorem mem_eqAt {A : Around} {s : Shared} {x : V} {v : Value} (rx : RelV x v) (fx : flatV x = true) : ∀ {xs : List V} {us : List Value}, Vals xs us → xs.all flatV = true → ∀ u ∈ us, SeqAt.EqAt A s u v (eqU x u)
  | _, _, .nil, _ => fun u hu => by cases hu
  | y :: xs, u :: us, .cons r t, f => fun u' hu => by
    rw [List.all_cons, Bool.and_eq_true] at f
    rcases List.mem_cons.mp hu with rfl | hu
    · rw [eqU_of r f.1]; exact eqAt_V r rx f.1 fx
    · exact mem_eqAt rx fx t f.2 u' hu
def inV (x : V) (xs : List V) : Bool := xs.any fun y => eqV y x
def rIn (K : PySem.W.Frag) (neg : Bool) : R2 := fun x y H Q => ∃ p xs, y = .ref p ∧ (SqL K H p xs ∨ SqT K H p xs) ∧ flatV x = true ∧ xs.all flatV = true ∧ Q (.bl (if neg then !inV x xs else inV x xs)) H
theorem op_in_seq : OpR X (compareOp .In) (rIn X.K false) := by
  intro pins s σ H x y v u Q I rx ry h
  obtain ⟨p, xs, rfl, hq, fx, fs, q⟩ := h
  cases ry
  rcases hq with hq | hq
  · obtain ⟨its, r, pl, hz⟩ := I.list hq
    refine SeqAt.in_listAt (eqU x) pl.isList (fun w hw => mem_eqAt rx fx r fs w (by simpa using hw)) ⟨.bl _, H, I, rfl, ?_⟩
    rw [show its.toArray.any (eqU x) = its.any (eqU x) by simp, any_eqU r fs]
    exact q
  · obtain ⟨its, r, pl, hz⟩ := I.tuple hq
    refine SeqAt.in_tupleAt (eqU x) pl (fun w hw => mem_eqAt rx fx r fs w (by simpa using hw)) ⟨.bl _, H, I, rfl, ?_⟩
    rw [show its.toArray.any (eqU x) = its.any (eqU x) by simp, any_eqU r fs]
    exact q
theorem CallR.or {f : Value} {r r' : List V → Hp → VK → Prop} (h : CallR X f r) (h' : CallR X f r') : CallR X f (fun xs H Q => r xs H Q ∨ r' xs H Q) := by
  intro pins s σ H xs us Q I rs q
  rcases q with q | q
  · exact h pins s σ H xs us Q I rs q
  · exact h' pins s σ H xs us Q I rs q
theorem call_tuple_of : CallR X (.type "tuple") (fun xs H Q => ∃ p ys, xs = [.ref p] ∧ ((SqL X.K H p ys ∧ ∀ l, H l = none → Q (.ref l) (upd H l (.tup ys))) ∨ (SqT X.K H p ys ∧ Q (.ref p) H))) := by
  intro pins s σ H xs us Q I r h
  obtain ⟨p, ys, rfl, h⟩ := h
  obtain ⟨u, rfl, rx⟩ := vals1 r
  cases rx
  rcases h with ⟨hq, q⟩ | ⟨hq, q⟩
  · obtain ⟨its, r', pl, hz⟩ := I.list hq
    have hlen := r'.length
    refine call_tuple_list pl.isList (fun h' kp => ?_) (by simp only [List.size_toArray] <;> omega)
    have I1 : Inv X pins σ H { s with heap := h' } := I.kept (t' := s.toks) kp
    have I2 : Inv X pins σ (upd H h'.objs.size (.tup ys)) { s with heap := h'.push { cls := .type "tuple", data := .seq its.toArray } } :=
      I1.laid (t' := s.toks) (fun b o e => Heap.get?_push_of_some _ e) (Nat.le_refl _) (show ObjOk X.prog X.w _ _ _ (.tup ys) from ⟨hz, its, r', IsTup.new _ _⟩)
    exact ⟨.ref h'.objs.size, _, I2, rfl, q _ (I1.hok.fresh (Nat.le_refl _))⟩
  · obtain ⟨its, r', pl, hz⟩ := I.tuple hq
    exact call_tuple_same pl ⟨.ref p, H, I, rfl, q⟩
def tyV (K : PySem.W.Frag) (T : String) (x : V) (H : Hp) : Prop := match x with
  | .str _ => T = "str"
  | .int _ => T = "int"
  | .ref p => (T = "list" ∧ ∃ xs, SqL K H p xs) ∨ (T = "tuple" ∧ ∃ o, K.lookup p = some o ∧ o.cls = .type "tuple" ∧ o.dict = none) ∨
      (T = "dict" ∧ ((∃ kvs, H p = some (.dK kvs)) ∨ ∃ kvs, H p = some (.dT kvs))) ∨ (T = "set" ∧ ∃ S n, H p = some (.set S n))
  | _ => False
theorem tyV_is {pins : List (Addr × Obj)} {σ : St} {H : Hp} {s : Shared} {T : String} {x : V} {v : Value} (I : Inv X pins σ H s) (r : RelV x v) (ty : tyV X.K T x H) :
    s.TypeIs v T ∧ ∀ a, v = .ref a → ∃ ob, s.heap.get? a = some ob ∧ ob.dict = none := by
  cases x with
  | str z =>
    obtain ⟨t, rfl⟩ := r
    cases (show T = "str" from ty)
    exact ⟨typeIs_str s z t, fun _ e => nomatch e⟩
  | int i =>
    obtain ⟨t, rfl⟩ := r
    cases (show T = "int" from ty)
    exact ⟨typeIs_int s i t, fun _ e => nomatch e⟩
  | ref p =>
    cases r
    rcases ty with ⟨rfl, xs, hq⟩ | ⟨rfl, o, hk, hc, hd⟩ | ⟨rfl, hk⟩ | ⟨rfl, S, n, hk⟩
    · obtain ⟨its, _, pl, _⟩ := I.list hq
      refine ⟨pl.isList.typeIs, fun a e => ?_⟩
      cases e
      obtain ⟨o, n, e, c, hd, _⟩ := pl
      exact ⟨o, e, hd⟩
    · refine ⟨⟨o, I.kIn p o hk, hc⟩, fun a e => ?_⟩
      cases e
      exact ⟨o, I.kIn _ o hk, hd⟩
    · have z : ∃ o, s.heap.get? p = some o ∧ o.ExactDict := by
        rcases hk with ⟨kvs, hk⟩ | ⟨kvs, hk⟩
        · obtain ⟨_, _, _, _, o, _, _, e, ex, _⟩ := I.hok p _ hk
          exact ⟨o, e, ex⟩
        · obtain ⟨_, _, _, _, o, _, _, e, ex, _⟩ := I.hok p _ hk
          exact ⟨o, e, ex⟩
      obtain ⟨o, e, ex⟩ := z
      refine ⟨⟨o, e, ex.1⟩, fun a e2 => ?_⟩
      cases e2
      exact ⟨o, e, ex.2.1⟩
    · obtain ⟨o, _, _, _, e, ex, _⟩ := I.hok p _ hk
      refine ⟨⟨o, e, ex.1⟩, fun a e2 => ?_⟩
      cases e2
      exact ⟨o, e, ex.2.1⟩
  | _ => exact False.elim ty
def tBM (K : PySem.W.Frag) (T : String) (r : V → List V → Hp → VK → Prop) (to : TE) (t : TA) : TE := fun σ H Q => to σ H fun x H1 => tyV K T x H1 ∧ t σ H1 fun xs H2 => r x xs H2 Q
variable {o e : Expr} {es : List Expr} {to : TE} {t : TA} {name : Str} {apos cpos : Pos} {T id : String} {r : V → List V → Hp → VK → Prop}
theorem pe_bm (pa : PlainAttrs T) (slot : Slot T name id) (hty : typeOf (.builtin id) = pure (.type "method_descriptor")) (hm : MtR X id r) (ho : PE X o to) (ha : PA X (e :: es) t)
    (hbase : attributeBase o name X.env (eval o X.env) = eval o X.env := by rfl)
    (hfew : ((backTo cpos (starEach (e :: es) X.env)).all (fun x => !x.1) && (backToKw cpos (keywordEach [] X.env)).all (fun x => x.1.isSome)
      && decide ((e :: es).length + ([] : List Keyword).length + (if ([] : List Keyword).isEmpty then 0 else 1) < 30)) = true := by rfl)
    (hline : (apos.endLine == cpos.line) = true := by rfl) (hs : starEach (e :: es) X.env = (false, eval e X.env) :: starEach es X.env := by rfl) (hplain : (backTo cpos (starEach es X.env)).any (·.1) = false := by rfl) :
    PE X (.Call (.Attribute o name apos) (e :: es) [] cpos) (tBM X.K T r to t) := by
  intro pins s σ H Q I h
  refine wpAny_Call_method_late hbase hfew hline rfl (thn (ho pins s σ H _ I h) fun v s1 ⟨x, H1, I1, r1, ty, q1⟩ => ?_)
  obtain ⟨h1, h2⟩ := tyV_is I1 r1 ty
  refine ⟨T, id, pa, slot, hty, h1, h2, ?_⟩
  have hA := ha cpos pins s1 σ H1 _ I1 q1
  rw [hs] at hA ⊢
  refine Calls.callWith_builtin (by show (false || (backTo cpos (starEach es X.env)).any (·.1)) = false; rw [hplain] <;> rfl) (Calls.evalArgs_plain ?_)
  exact thn hA fun us s2 ⟨vs, H2, I2, r2, q2⟩ => hm pins s2 σ H2 x vs v us Q I2 r1 r2 q2
end
end L2
namespace L2
open PySem PySem.Spec PyProof.Rows
def MtM (X : Cx) (id : String) (r : V → List V → Hp → VK → Prop) : Prop :=
  ∀ (pins : List (Addr × Obj)) (s : Shared) (σ : St) (H : Hp) (x : V) (xs : List V) (v : Value) (us : List Value) (Q : VK), Inv X pins σ H s → RelV x v → Vals xs us → r x xs H Q →
    wpAny (model X.prog X.w) X.A (call (.builtin id) (v :: us)) (EP X pins σ Q) X.xe s
theorem Vals.one : ∀ {x : V} {us : List Value}, Vals [x] us → ∃ u, us = [u] ∧ RelV x u
  | _, _, .cons r .nil => ⟨_, rfl, r⟩
theorem Vals.two : ∀ {x y : V} {us : List Value}, Vals [x, y] us → ∃ u v, us = [u, v] ∧ RelV x u ∧ RelV y v
  | _, _, _, .cons r (.cons q .nil) => ⟨_, _, rfl, r, q⟩
theorem Vals.rep {xs : List V} {us : List Value} (h : Vals xs us) : ∀ k : Nat, Vals (List.replicate k xs).flatten (List.replicate k us).flatten
  | 0 => .nil
  | k + 1 => by
    rw [List.replicate_succ, List.replicate_succ, List.flatten_cons, List.flatten_cons]
    exact Vals.append h (Vals.rep h k)
theorem foldl_rep (its : List Value) : ∀ (k : Nat) (acc : List Value),
    List.foldl (fun x1 x2 => x1 ++ x2) acc.toArray (List.replicate k its.toArray) = (acc ++ (List.replicate k its).flatten).toArray
  | 0, acc => by simp
  | k + 1, acc => by
    have e : acc.toArray ++ its.toArray = (acc ++ its).toArray := by simp
    have e2 : (acc ++ its) ++ (List.replicate k its).flatten = acc ++ (List.replicate (k + 1) its).flatten := by
      rw [List.replicate_succ, List.flatten_cons, List.append_assoc]
    rw [← e2, ← foldl_rep its k (acc ++ its), ← e, List.replicate_succ, List.foldl_cons]
section
variable {X : Cx} {pins : List (Addr × Obj)} {σ : St} {H : Hp} {s : Shared} {l b : Addr} {xs ys zs : List V}
theorem Inv.lset {its its' : List Value} {n : Nat} {f : Array Value → Array Value} {t' : Nat} (I : Inv X pins σ H s) (hH : H l = some (.lst xs))
    (e : s.heap.get? l = some { cls := .type "list", data := .seq its.toArray n }) (hf : f its.toArray = its'.toArray) (hv : Vals ys its') (hz : ys.length ≤ sizeLine) :
    Inv X pins σ (upd H l (.lst ys)) { s with heap := s.heap.update l (Obj.mapSeq f), toks := t' } := by
  have q := PySem.IsL.update e f
  rw [hf] at q
  refine I.write (x := l) (e := l) (by rw [hH]; exact trivial) (.inl rfl) (fun b' u hb hu => (Heap.get?_update_other s.heap (Obj.mapSeq f) (Ne.symm hb)).trans hu) ⟨_, q⟩ ?_
  exact ⟨hz, its', _, hv, q⟩
theorem Inv.lnew {its : List Value} {t' : Nat} (I : Inv X pins σ H s) (hv : Vals ys its) (hz : ys.length ≤ sizeLine) :
    Inv X pins σ (upd H s.heap.objs.size (.lst ys)) { s with heap := s.heap.push { cls := .type "list", data := .seq its.toArray }, toks := t' } :=
  I.laid (fun _ _ q => Heap.get?_push_of_some _ q) (Nat.le_refl _) ⟨hz, its, 0, hv, Heap.get?_push_size _ rfl⟩
theorem Inv.fresh (I : Inv X pins σ H s) : H s.heap.objs.size = none := I.hok.fresh (Nat.le_refl _)
theorem Inv.lstM (I : Inv X pins σ H s) (hH : H l = some (.lst xs)) : xs.length ≤ sizeLine ∧ ∃ (its : List Value) (n : Nat), Vals xs its ∧ xs.length = its.length ∧ s.heap.get? l = some { cls := .type "list", data := .seq its.toArray n } := by
  obtain ⟨z, its, n, r, e⟩ := I.hok l _ hH
  exact ⟨z, its, n, r, r.length, e⟩
theorem notLongL {n : Nat} (h : n ≤ sizeLine) : Builtin.List.listTooLong n = false := by
  unfold Builtin.List.listTooLong
  exact decide_eq_false (by omega)
end
section
variable {X : Cx}
def rAppend : V → List V → Hp → VK → Prop := fun x vs H Q => ∃ l xs y, x = .ref l ∧ vs = [y] ∧ H l = some (.lst xs) ∧ xs.length < sizeLine ∧ Q .non (upd H l (.lst (xs ++ [y])))
theorem mt_append : MtM X "list.append" rAppend := by
  intro pins s σ H x vs v us Q I rx rv h
  obtain ⟨l, xs, y, rfl, rfl, hH, hz, q⟩ := h
  cases rx
  obtain ⟨u, rfl, ru⟩ := rv.one
  obtain ⟨z, its, n, r, hl, e⟩ := I.lstM hH
  refine call_meets F.slot_list_append ⟨_, e, rfl⟩ F.entry_list_append (F.args_list_append_2 _ _) (PySem.list_append l its.toArray n u (by rw [List.size_toArray]; omega)) ⟨e, ?_⟩
  refine ⟨.non, _, I.lset (its' := its ++ [u]) hH e (by simp) (r.append (.cons ru .nil)) ?_, rfl, q⟩
  rw [List.length_append, List.length_singleton]
  omega
def rExtend : V → List V → Hp → VK → Prop := fun x vs H Q => ∃ l b xs zs, x = .ref l ∧ vs = [.ref b] ∧ H l = some (.lst xs) ∧ H b = some (.lst zs) ∧ xs.length + zs.length ≤ sizeLine ∧ Q .non (upd H l (.lst (xs ++ zs)))
theorem mt_extend : MtM X "list.extend" rExtend := by
  intro pins s σ H x vs v us Q I rx rv h
  obtain ⟨l, b, xs, zs, rfl, rfl, hH, hB, hz, q⟩ := h
  cases rx
  obtain ⟨u, rfl, ru⟩ := rv.one
  cases ru
  obtain ⟨z, its, n, r, hl, e⟩ := I.lstM hH
  obtain ⟨z2, its2, n2, r2, hl2, e2⟩ := I.lstM hB
  have hsz : its.toArray.size + its2.toArray.size ≤ sizeLine := by rw [List.size_toArray, List.size_toArray]; omega
  have hlong : ¬ (!its.toArray.isEmpty && Builtin.List.listTooLong (its.toArray.size + its2.toArray.size)) = true := by
    rw [notLongL hsz, Bool.and_false]
    exact Bool.false_ne_true
  refine call_meets F.slot_list_extend ⟨_, e, rfl⟩ F.entry_list_extend (F.args_list_extend_2 _ _)
    (AutoSeq1.list_extend_list_list_0 l its.toArray n b its2.toArray n2 hlong (by rw [List.size_toArray]; omega) (by omega)) ⟨e, e2, ?_⟩
  refine ⟨.non, _, I.lset (its' := its ++ its2) hH e (by simp) (r.append r2) ?_, rfl, q⟩
  rw [List.length_append]
  omega
def rCat : R2 := fun x y H Q => ∃ l b xs zs, x = .ref l ∧ y = .ref b ∧ H l = some (.lst xs) ∧ H b = some (.lst zs) ∧ xs.length + zs.length ≤ sizeLine ∧ ∀ p, H p = none → Q (.ref p) (upd H p (.lst (xs ++ zs)))
theorem op_cat : OpR X (binaryOp .Add) rCat := by
  intro pins s σ H x y v u Q I rx ry h
  obtain ⟨l, b, xs, zs, rfl, rfl, hH, hB, hz, q⟩ := h
  cases rx
  cases ry
  obtain ⟨z, its, n, r, hl, e⟩ := I.lstM hH
  obtain ⟨z2, its2, n2, r2, hl2, e2⟩ := I.lstM hB
  refine PySem.P.add_list e e2 ?_ (by rw [List.size_toArray, List.size_toArray]; omega)
  have ea : its.toArray ++ its2.toArray = (its ++ its2).toArray := by simp
  rw [ea]
  exact ⟨.ref _, _, I.lnew (t' := s.toks) (r.append r2) (by rw [List.length_append]; omega), rfl, q _ I.fresh⟩
def rRep : R2 := fun x y H Q => ∃ l k xs, x = .ref l ∧ y = .int k ∧ H l = some (.lst xs) ∧ -(2 ^ 63) ≤ k ∧ k < 2 ^ 63 ∧ xs.length * k.toNat ≤ sizeLine ∧
  ∀ p, H p = none → Q (.ref p) (upd H p (.lst (List.replicate k.toNat xs).flatten))
theorem len_rep {α : Type} (xs : List α) (k : Nat) : (List.replicate k xs).flatten.length = k * xs.length := by
  induction k with
  | zero => simp
  | succ k ih => rw [List.replicate_succ, List.flatten_cons, List.length_append, ih, Nat.succ_mul, Nat.add_comm]
theorem op_rep : OpR X (binaryOp .Mult) rRep := by
  intro pins s σ H x y v u Q I rx ry h
  obtain ⟨l, k, xs, rfl, rfl, hH, h1, h2, hz, q⟩ := h
  cases rx
  obtain ⟨t, rfl⟩ := ry
  obtain ⟨z, its, n, r, hl, e⟩ := I.lstM hH
  have hlen : its.toArray.size * k.toNat ≤ sizeLine := by rw [List.size_toArray, ← hl]; exact hz
  have hcap : ¬ its.toArray.size * k.toNat > (2 ^ 63 - 1) / 8 := by
    have : (sizeLine : Nat) ≤ (2 ^ 63 - 1) / 8 := by decide
    omega
  have hfit : ¬ (!Builtin.List.listFitsIndex k) = true := by
    rw [fitsIndex_both h1 h2]
    exact Bool.false_ne_true
  have hlong : ¬ Builtin.List.listTooLong (its.toArray.size * k.toNat) = true := by
    rw [notLongL hlen]
    exact Bool.false_ne_true
  have hnew : List.foldl (fun x1 x2 => x1 ++ x2) #[] (List.replicate (if its.toArray.isEmpty = true then 0 else k.toNat) its.toArray) = (List.replicate k.toNat its).flatten.toArray := by
    have f0 : ∀ m : Nat, List.foldl (fun x1 x2 => x1 ++ x2) #[] (List.replicate m its.toArray) = (List.replicate m its).flatten.toArray := fun m => by
      have := foldl_rep its m []
      rw [List.nil_append] at this
      exact this
    rw [f0]
    cases its with
    | nil => simp
    | cons a r' => rw [if_neg (by simp)]
  refine wpAny_binaryOp_repeat_ref (T := "list") (U := "int") (by decide) ⟨_, e, rfl⟩ (fun s' => typeIs_int s' k t) noFill_list_mul F.fills_int_mul F.slot_int_rmul repeat_list F.slot_int_index.lookup
    (call_meets F.slot_int_rmul (typeIs_int s k t) F.entry_int_rmul (F.args_int_rmul_2 _ _) (int___rmul___int_list k t l its.toArray n)
      ⟨e, rfl, ⟨_, e, rfl⟩, call_meets F.slot_list_mul ⟨_, e, rfl⟩ F.entry_list_mul (F.args_list_mul_2 _ _) (AutoListH.list___mul___list_int_3 l its.toArray n k t hfit hcap hlong) ⟨e, ?_⟩⟩)
  rw [hnew]
  exact ⟨.ref _, _, I.lnew (t' := s.toks) (r.rep k.toNat) (by rw [len_rep, Nat.mul_comm]; exact hz), rfl, q _ I.fresh⟩
end
end L2
namespace Att
open PySem PySem.W PySem.Calls PyProof.Rows
theorem ints_of_wellAll {P : Params} {h : Heap} : ∀ (ns : List Int) (vs : List Value), WellAll P h vs (ns.map WData.int) → IntsAre vs ns := by
  intro ns
  induction ns with
  | nil =>
    intro vs w
    rw [List.map_nil] at w
    cases w
    exact .nil
  | cons n ns ih =>
    intro vs w
    rw [List.map_cons] at w
    cases w with
    | cons a b =>
      cases a
      exact .cons _ _ (ih _ b)
theorem script_of {l : OpenLaw} {n : Nat} (hn : l.most = some n) {P : Params} {h : Heap} {args : List WData} {vals : List Value}
    (hpre : l.row.toRowW.claim.pre args = true) (hwl : WellAll P h vals args) :
    ∃ a vs ns, vals = [Value.ref a] ∧ args = [WData.list (ns.map WData.int)] ∧ h.get? a = some { cls := .type "list", data := .seq vs.toArray } ∧ IntsAre vs ns ∧ ns.length ≤ n := by
  have hsh : WShape.hasAll [] args [.list .int] = true := (pre_splitW hpre).1
  have hc : l.pre.holds [] { args := args } = true := (pre_splitW hpre).2
  obtain ⟨d, r, rfl, h1, h2⟩ := hasAllW_cons hsh
  obtain rfl := hasAllW_nil h2
  obtain ⟨xs, rfl, h3⟩ := hasW_list h1
  obtain ⟨ns, rfl⟩ := items_int h3
  have hlen : ns.length ≤ n := by
    unfold OpenLaw.pre at hc
    have h4 : (WTm.not (.lt (.lit (.int (n : Int))) (.len (.arg 0)))).holds [] { args := [.list (ns.map .int)] } = true := by
      have h4 := (holds_andW hc).1
      rw [hn] at h4
      exact h4
    have h5 := condW_of h4 (w_not (w_lt w_lit (w_len_list (w_arg rfl))))
    rw [List.length_map] at h5
    refine Nat.le_of_not_lt fun q => ?_
    have q' : (n : Int) < ((ns.length : Nat) : Int) := by omega
    first
      | (rw [decide_eq_true q'] at h5; exact absurd h5 (by decide))
      | (simp at h5; omega)
  cases hwl with
  | cons w1 w2 =>
    cases w2
    cases w1 with
    | list ho hall => exact ⟨_, _, ns, rfl, rfl, ho, ints_of_wellAll ns _ hall, hlen⟩
theorem post_true (l : OpenLaw) (args : List WData) : l.row.toRowW.claim.post args (.bool true) args = true :=
  postW_of (r := l.row.toRowW) (X := (true == true))
    (show WShape.has [] (.bool true) .bool = true by first | rfl | decide | simp [WShape.has, WShape.arms, WShape.armsAll])
    (show (WTm.eq .res (.lit (.bool true))).value [] { args := args, res := some (.bool true), after := args } = some (.bool (true == true)) from w_eq_bool (w_res rfl) w_lit) rfl
theorem attach_call {l : OpenLaw} {n : Nat} {q : Program} {loose : List Str} {XP : (Str → Option Value) → Heap → Prop} {YP : World → Heap → Prop} {d : DefRec}
    (hn : l.most = some n) (hdf : d.params.defaults = [])
    (call : ∀ (w : World) (sZ s₁ : Shared) (mg mb : Str → Option Value) (fa : Addr) (o : Obj) (pm cd doc : Value) (a : Addr) (vs : List Value) (ns : List Int),
      Ground q loose [] XP w sZ mg mb s₁.heap → YP w s₁.heap →
      s₁.heap.get? fa = some o → o.data = .func (docDef d.name d.params d.body d.scope pm cd doc) → s₁.heap.CodeRec cd d.name → mg d.name = some (.ref fa) →
      s₁.heap.get? a = some { cls := .type "list", data := .seq vs.toArray } → IntsAre vs ns → ns.length ≤ n → s₁.gens = #[] →
      codeAny (model l.prog w) callerA (.call (.ref fa) ⟨[.ref a], []⟩) (fun r s' => r = .ok (.ret (.bool true)) ∧ OldK s₁.heap s'.heap ∧ s'.os = s₁.os ∧ AllBare s'.gens) s₁) :
    WalkO q loose XP YP l.row.toRowW d [] (fun f vs => PySem.call f vs) := by
  intro w sZ s₁ mg mb G Y fa o pm cd doc dV kV ho hd hcd hD hmg hg args vals as hpre hlay hrd hwl hlo
  obtain rfl : dV = .none := Dflts.none hD hdf
  obtain rfl : kV = .none := Dflts.noKw hD
  obtain ⟨a, vs, ns, rfl, rfl, hobj, hints, hlen⟩ := script_of hn hpre hwl
  refine enter_call (codeAny_mono (call w sZ s₁ mg mb fa o pm cd doc a vs ns G Y ho (fd_plain hd) hcd hmg hobj hints hlen hg) fun r s' hq => ?_)
  obtain ⟨rfl, h2, h3, h4⟩ := hq
  exact ⟨.inl ⟨.bool true, .bool true, [], rfl, fun _ => rfl, .bool true, post_true l _, fun _ => ⟨List.Pairwise.nil, fun _ hm => (nomatch hm)⟩⟩, h2, h3, h4⟩
end Att
namespace L2
open PySem PySem.Spec PyProof.Rows
theorem vals_ints : ∀ {vs : List Value} {ns : List Int}, IntsAre vs ns → Vals (ns.map V.int) vs
  | _, _, .nil => .nil
  | _, _, .cons n t h => .cons ⟨t, rfl⟩ (vals_ints h)
def Only (H : Hp) : Prop := ∀ b, H b = none ∨ ∃ o xs, H b = some (.frz o (.lst xs))
theorem law_call {P : Program} {w : World} {K : PySem.W.Frag} {mg mb : Str → Option Value} {CX : CXT} {k : Nat} {fa a : Addr} {fd : FuncData} {x : Str} {sp : Sp} {s₁ : Shared} {vs : List Value} {ns : List Int}
    (KX : K.In s₁.heap) (hns : s₁.heap.Ns mainGlobals mg) (hb : s₁.heap.Ns builtinsNs mb) (hbb : ∀ x : Str, x ≠ "__name__" → mb x = bootBuiltins x) (hlim : s₁.heap.NoLimit) (hg : s₁.gens = #[])
    (ha : s₁.heap.get? a = some { cls := .type "list", data := .seq vs.toArray }) (hi : IntsAre vs ns) (hl : ns.length ≤ sizeLine) (hr : Room k callerA)
    (F : ∀ base : Heap, K.In base → base.Ns mainGlobals mg → FnOk P w K mg base CX k fa fd [x] sp) (hbind : ∀ (s : Shared) (u : Value), BindsTo s fd ⟨[u], []⟩ [(x, u)])
    (hsp : ∀ H : Hp, Only H → SqL K H a (ns.map V.int) → sp [.ref a] H (fun v _ => v = .bl true) fun _ _ _ => False)
    (hCX : ∀ H e s', CX [] H s₁ (fun _ _ _ => False) e s' → False) :
    codeAny (model P w) callerA (.call (.ref fa) ⟨[.ref a], []⟩) (fun r s' => r = .ok (.ret (.bool true)) ∧ OldK s₁.heap s'.heap ∧ s'.os = s₁.os ∧ AllBare s'.gens) s₁ := by
  have rv := vals_ints hi
  have lenV := hi.length
  have core : ∀ H : Hp, Only H → SqL K H a (ns.map V.int) → HOk P w H s₁.heap → (∀ b, H b ≠ none → b = a) → (H a ≠ none → K.lookup a = none) →
      codeAny (model P w) callerA (.call (.ref fa) ⟨[.ref a], []⟩) (fun r s' => r = .ok (.ret (.bool true)) ∧ OldK s₁.heap s'.heap ∧ s'.os = s₁.os ∧ AllBare s'.gens) s₁ := by
    intro H hO hS hok hA hK
    have base_of : ∀ {b : Addr} {o : Obj}, s₁.heap.get? b = some o → H b = none → (hidT s₁.heap H).get? b = some o := fun e n => hidT_get e n
    have noA : ∀ {b : Addr} {o : Obj} {es : Array DictEntry} {ep : Nat}, s₁.heap.get? b = some o → o.data = .dict es ep → H b = none := fun {b o es ep} e d => by
      cases q : H b with
      | none => rfl
      | some u =>
        have e' : b = a := hA b (by rw [q]; simp)
        subst e'
        rw [ha] at e; cases e
        have d' : Data.seq vs.toArray _ = Data.dict es ep := d
        cases d'
    have nsK : ∀ {b : Addr} {m : Str → Option Value}, s₁.heap.Ns b m → (hidT s₁.heap H).Ns b m := fun {b m} ⟨o, es, ep, e, d, r⟩ => ⟨o, es, ep, base_of e (noA e d), d, r⟩
    have hKb : K.In (hidT s₁.heap H) := fun b o e => base_of (KX b o e) (by
      cases q : H b with
      | none => rfl
      | some u =>
        have e' : b = a := hA b (by rw [q]; simp)
        subst e'
        rw [hK (by rw [q]; simp)] at e; cases e)
    have hM : Mod K mg (hidT s₁.heap H) := ⟨hKb, nsK hns, ⟨mb, nsK hb, hbb⟩, let ⟨mc, h1, h2⟩ := hlim; ⟨mc, nsK h1, h2⟩⟩
    have e0 : Env0 P w K mg (hidT s₁.heap H) callerA [] s₁ H := ⟨rfl, hM, fun b o e => of_hidT e, Nat.le_of_eq (hidT_size _ _), trivial, fun b hb => absurd (show b ∈ ([] : List Addr) from hb) (by simp), hok, .of_eq hg⟩
    refine codeAny_mono ((F _ hKb (nsK hns)).run callerA [] s₁ H ⟨[.ref a], []⟩ [.ref a] [.ref a] _ _ hr e0 (hbind s₁ (.ref a)) (.cons rfl .nil) (hsp H hO hS)) fun r s' h => ?_
    cases r with
    | error e => exact (hCX H e s' h).elim
    | ok fl =>
      cases fl with
      | next => exact False.elim h
      | brk => exact False.elim h
      | cont => exact False.elim h
      | ret u =>
        obtain ⟨v, H', os, bare, un, hok', r', q⟩ := h
        have q' : v = .bl true := q
        subst q'
        obtain rfl : u = Value.bool true := r'
        refine ⟨rfl, OldK.of_keep fun b o e => ?_, os, bare⟩
        cases q : H b with
        | none => exact un.keep b o e q (by intro z; exact absurd (show b ∈ ([] : List Addr) from z) (by simp)) (by simp)
        | some u =>
          rcases hO b with z | ⟨ob, xs, z⟩
          · rw [q] at z; cases z
          · have z2 := un.frzs b ob _ z
            obtain ⟨e1, _⟩ := hok b _ z
            obtain ⟨e2, _⟩ := hok' b _ z2
            rw [e] at e1; cases e1
            exact e2
  cases hk : K.lookup a with
  | some o =>
    have e := KX a o hk
    rw [ha] at e
    cases e
    refine core (fun _ => none) (fun _ => .inl rfl) (.inr ⟨_, vs.toArray, _, hk, rfl, rfl, rfl, by rw [List.size_toArray, lenV]; exact hl, by simpa using rv⟩) (fun b u z => by have z' : (none : Option HO) = some u := z; cases z') (fun b z => absurd rfl z) fun z => absurd rfl z
  | none =>
    refine core (fun b => if b = a then some (.frz { cls := .type "list", data := .seq vs.toArray } (.lst (ns.map V.int))) else none) (fun b => ?_) (.inl (.inr ⟨{ cls := .type "list", data := .seq vs.toArray }, if_pos rfl⟩)) (fun b u z => ?_) (fun b z => ?_) fun _ => hk
    · by_cases hb : b = a
      · exact .inr ⟨_, _, if_pos hb⟩
      · exact .inl (if_neg hb)
    · by_cases hb : b = a
      · have z' := (if_pos hb).symm.trans z
        cases z'
        subst hb
        exact ⟨ha, by rw [List.length_map]; exact hl, vs, _, rv, ha⟩
      · have z' := (if_neg hb).symm.trans z
        cases z'
    · by_cases hb : b = a
      · exact hb
      · exact absurd (if_neg hb) z
end L2
namespace L2
open PySem PySem.Spec PyProof.Rows
abbrev KOf {K : PySem.W.Frag} {h : Heap} (_ : K.In h) : PySem.W.Frag := K
theorem walk_of {l : PySem.W.OpenLaw} {n k : Nat} {q : Program} {loose : List Str} {XP : (Str → Option Value) → Heap → Prop} {YP : World → Heap → Prop} {d : DefRec} {K : Params → PySem.W.Frag} {CX : World → CXT} {sp : World → Sp} {x : Str}
    (hn : l.most = some n) (hn2 : n ≤ sizeLine) (hdf : d.params.defaults = []) (hr : Room k callerA)
    (hY : ∀ (w : World) (h : Heap), YP w h → (K w.params).In h)
    (F : ∀ (w : World) (mg : Str → Option Value) (fa : Addr) (h : Heap), (K w.params).In h → h.Ns mainGlobals mg → mg d.name = some (.ref fa) →
      ∃ fd : FuncData, (∀ (s : Shared) (u : Value), BindsTo s fd ⟨[u], []⟩ [(x, u)]) ∧
        ∀ base : Heap, (K w.params).In base → base.Ns mainGlobals mg → FnOk l.prog w (K w.params) mg base (CX w) k fa fd [x] (sp w))
    (hsp : ∀ (w : World) (H : Hp) (a : Addr) (ns : List Int), ns.length ≤ n → Only H → SqL (K w.params) H a (ns.map V.int) → sp w [.ref a] H (fun v _ => v = .bl true) fun _ _ _ => False)
    (hCX : ∀ (w : World) (H : Hp) (s : Shared) (e : Value) (s' : Shared), CX w [] H s (fun _ _ _ => False) e s' → False) :
    PySem.W.WalkO q loose XP YP l.row.toRowW d [] (fun f vs => PySem.call f vs) := by
  refine Att.attach_call hn hdf fun w sZ s₁ mg mb fa o pm cd doc a vs ns G Y ho hd hcd hmg hobj hints hlen hg => ?_
  have KX := hY w _ Y
  obtain ⟨fd, hb, hF⟩ := F w mg fa _ KX G.T.g hmg
  exact law_call KX G.T.g G.T.b G.T.builtins G.T.nolimit hg hobj hints (Nat.le_trans hlen hn2) hr hF hb (fun H hO hS => hsp w H a ns hlen hO hS) fun H e s' => hCX w H s₁ e s'
end L2
namespace L2
open PySem PySem.Spec PyProof.Rows
def inClass (s : Stmt) (j : Nat) : Stmt := match s with
  | .ClassDef _ _ _ body _ _ _ _ _ _ _ => body.getD j (.Pass ⟨0, 0, 0, 0⟩)
  | _ => .Pass ⟨0, 0, 0, 0⟩
def defArgs (s : Stmt) : Arguments := match s with
  | .FunctionDef _ a _ _ _ _ _ _ _ _ => a
  | _ => { posonlyargs := [], args := [], vararg := none, kwonlyargs := [], kw_defaults := [], kwarg := none, defaults := [] }
def defBody (s : Stmt) : List Stmt := match s with
  | .FunctionDef _ _ b _ _ _ _ _ _ _ => b
  | _ => []
def defScope (s : Stmt) : Scope := match s with
  | .FunctionDef _ _ _ _ _ _ sc _ _ _ => sc
  | _ => { kind := .function, names := [], isGenerator := false, isCoroutine := false }
abbrev CX0 : CXT := fun _ _ _ _ _ _ => False
abbrev E0 : XK := fun _ _ _ => False
theorem pass0 {X : Cx} : Passes CX0 X E0 := fun _ _ _ _ _ _ _ h => h.elim
structure Fun (K : PySem.W.Frag) (x qual : Str) (st : Stmt) (f : Addr) (fd : FuncData) : Prop where
  ex : ∃ (oc : Value) (od : Option Addr) (kV doc pm : Value) (an : Option Addr) (cdv ct : Value) (osl : Array (Option Value)),
    fd = PySem.W.fnOf x qual (defArgs st) (defBody st) (defScope st) .none kV doc pm an cdv ct ∧ K.lookup f = some ⟨oc, od, .func fd, osl⟩ ∧ PySem.W.codeIn K cdv qual = true
  kp : PySem.W.keepIn K (.ref f) = true
section
variable {P : Program} {w : World} {K : PySem.W.Frag} {mg : Str → Option Value} {base : Heap}
theorem Fun.ok {x qual : Str} {st : Stmt} {f : Addr} {fd : FuncData} {N ps : List Str} {k : Nat} {sp : Sp} (F : Fun K x qual st f fd) (S : FnScope N ps (defScope st)) (len : ∀ vs H Q E, sp vs H Q E → vs.length = ps.length)
    (hbody : ∀ (cdv : Value) (A : Around) (outer : List Env) (s : Shared) (H : Hp) (vs : List V) (Q : VK) (E : XK), Room k (A.deeper (envOfC qual (defScope st) s.heap.objs.size f cdv)) → sp vs H Q E →
      ∃ t, PSs (cxOf CX0 P w K mg base N qual (defScope st) f cdv A outer s H E).nox (defBody st) t ∧ t { nx := fun _ H' => Q .non H', rt := Q } (start N vs) H) : FnOk P w K mg base CX0 (k + 1) f fd ps sp := by
  obtain ⟨oc, od, kV, doc, pm, an, cdv, ct, osl, rfl, lk, hcd⟩ := F.ex
  refine fn_of lk hcd S len fun A outer s H vs Q E hr hsp => ?_
  obtain ⟨t, h, q⟩ := hbody cdv A outer s H vs Q E hr hsp
  exact ⟨t, h.nox, q⟩
theorem Fun.binds {x qual : Str} {st : Stmt} {f : Addr} {fd : FuncData} {ps : List Str} (F : Fun K x qual st f fd)
    (h : ∀ (kV doc pm : Value) (an : Option Addr) (cdv ct : Value) (us : List Value), us.length = ps.length → bindArgs (PySem.W.fnOf x qual (defArgs st) (defBody st) (defScope st) .none kV doc pm an cdv ct) ⟨us, []⟩ = pure (ps.zip us)) : Binds K fd ps [] := by
  obtain ⟨oc, od, kV, doc, pm, an, cdv, ct, osl, rfl, lk, hcd⟩ := F.ex
  exact .all (h kV doc pm an cdv ct)
theorem fun_mk {x qual : Str} {st : Stmt} {f : Addr} {oc : Value} {od an : Option Addr} {osl : Array (Option Value)} {kV doc pm cdv ct : Value} (l : K.lookup f = some ⟨oc, od, .func (PySem.W.fnOf x qual (defArgs st) (defBody st) (defScope st) .none kV doc pm an cdv ct), osl⟩)
    (c : PySem.W.codeIn K cdv qual = true) (k : PySem.W.keepIn K (.ref f) = true) : Fun K x qual st f (PySem.W.fnOf x qual (defArgs st) (defBody st) (defScope st) .none kV doc pm an cdv ct) := ⟨⟨oc, od, kV, doc, pm, an, cdv, ct, osl, rfl, l, c⟩, k⟩
end
theorem hu_of {A : Around} {k : Nat} (hr : Room k A) : A.units + 1 < cLine := Nat.lt_of_le_of_lt (Nat.add_le_add_left (by decide : 1 ≤ 64) _) hr.units
theorem small1000 {n : Nat} (h : n ≤ 1000) : n < sizeLine := Nat.lt_of_le_of_lt h (by decide)
section
variable {X : Cx}
theorem pv (i : Nat) {x : Str} {pos : Pos} (hN : X.N[i]? = some x := by rfl) (hv : Vis X.env.scope x := by first | exact Or.inl rfl | exact Or.inr (Or.inl rfl) | exact Or.inr (Or.inr rfl)) (hd : (x == ("__debug__" : Str)) = false := by decide)
    (hcd : (x == ("__classdict__" : Str)) = false := by decide) : PE X (.Name x pos) (tVar i) := pe_var hN hv hd hcd
end
theorem iteF {A B : Prop} (h : B) : if false = true then A else B := by
  rw [if_neg Bool.false_ne_true]
  exact h
theorem iteT {A B : Prop} (h : A) : if true = true then A else B := by
  rw [if_pos rfl]
  exact h
theorem ite2 {c A B : Prop} [Decidable c] (h1 : c → A) (h2 : ¬ c → B) : if c then A else B := by
  by_cases h : c
  · rw [if_pos h]
    exact h1 h
  · rw [if_neg h]
    exact h2 h
def Same (H H' : Hp) : Prop := ∀ b o, H b = some o → H' b = some o
theorem Same.refl (H : Hp) : Same H H := fun _ _ h => h
theorem Same.trans {H H1 H2 : Hp} (a : Same H H1) (b : Same H1 H2) : Same H H2 := fun c o h => b c o (a c o h)
theorem Same.seq {K : PySem.W.Frag} {H H' : Hp} {a : Addr} {xs : List V} (e : Same H H') (h : SqL K H a xs) : SqL K H' a xs := by
  rcases h with (h | ⟨o, h⟩) | h
  · exact .inl (.inl (e _ _ h))
  · exact .inl (.inr ⟨o, e _ _ h⟩)
  · exact .inr h
end L2
namespace L2
open PySem PySem.Spec PyProof.Rows
def clOf (cells : List (Str × Addr)) : List (Str × NameKind) → List (Str × Addr) → List (Str × Addr)
  | [], acc => acc
  | (n, k) :: r, acc => if k == .free then (match cells.lookup n with | some a => clOf cells r ((n, a) :: acc) | none => clOf cells r acc) else clOf cells r acc
theorem clOf_for {env : Env} (f : Str × NameKind → List (Str × Addr) → Sem (ForInStep (List (Str × Addr))))
    (hf : ∀ n k cs, f (n, k) cs = if k == .free then (do let a ← cellOf env n; pure (.yield ((n, a) :: cs))) else pure (.yield cs)) :
    ∀ (names : List (Str × NameKind)) (acc : List (Str × Addr)), (∀ y ∈ names, y.2 = .free → ∃ c, env.cells.lookup y.1 = some c) → forIn names acc f = pure (clOf env.cells names acc)
  | [], acc, _ => by rw [List.forIn_nil]; rfl
  | (n, k) :: r, acc, h => by
    have hr : ∀ y ∈ r, y.2 = .free → ∃ c, env.cells.lookup y.1 = some c := fun y hy => h y (List.mem_cons_of_mem _ hy)
    rw [List.forIn_cons, hf]
    unfold clOf
    by_cases hk : k = .free
    · subst hk
      obtain ⟨c, hc⟩ := h (n, .free) List.mem_cons_self rfl
      have hc' : env.cells.lookup n = some c := hc
      have e1 : cellOf env n = pure c := by unfold cellOf; rw [hc']
      have ef : (NameKind.free == NameKind.free) = true := rfl
      rw [if_pos ef, if_pos ef, e1, hc']
      exact clOf_for f hf r ((n, c) :: acc) hr
    · have hb : (k == NameKind.free) = false := by simpa using hk
      rw [hb, if_neg Bool.false_ne_true, if_neg Bool.false_ne_true]
      exact clOf_for f hf r acc hr
theorem closureFor_cl {scope : Scope} {env : Env} (h : ∀ y ∈ scope.names, y.2 = .free → ∃ c, env.cells.lookup y.1 = some c) : closureFor scope env = pure (clOf env.cells scope.names []) := by
  have e := clOf_for (env := env) (fun x cs => match x with | (n, k) => if k == .free then (do let a ← cellOf env n; pure (.yield ((n, a) :: cs))) else pure (.yield cs)) (fun _ _ _ => rfl) scope.names [] h
  show (forIn scope.names [] _ >>= fun cs => pure cs) = _
  refine Eq.trans (congrArg (· >>= fun cs => pure cs) (Eq.trans ?_ e)) rfl
  refine congrArg _ (funext fun x => funext fun cs => ?_)
  obtain ⟨n, k⟩ := x
  cases hk : k == NameKind.free <;> simp [hk]
theorem lookup_clOf {cells : List (Str × Addr)} : ∀ {names : List (Str × NameKind)} {acc : List (Str × Addr)}, (∀ n c, acc.lookup n = some c → cells.lookup n = some c) → ∀ n c, (clOf cells names acc).lookup n = some c → cells.lookup n = some c
  | [], _, h, n, c, e => h n c e
  | (m, k) :: r, acc, h, n, c, e => by
    unfold clOf at e
    split at e
    · split at e
      · rename_i a ha
        refine lookup_clOf (names := r) (acc := (m, a) :: acc) (fun x d q => ?_) n c e
        rw [List.lookup_cons] at q
        cases hb : x == m with
        | true => rw [hb] at q; cases q; rw [beq_iff_eq.mp hb]; exact ha
        | false => rw [hb] at q; exact h x d q
      · exact lookup_clOf (names := r) h n c e
    · exact lookup_clOf (names := r) h n c e
theorem clOf_acc {cells : List (Str × Addr)} {n : Str} : ∀ {names : List (Str × NameKind)} {acc : List (Str × Addr)}, (∃ c, acc.lookup n = some c) → ∃ c, (clOf cells names acc).lookup n = some c
  | [], _, h => h
  | (m, k) :: r, acc, h => by
    unfold clOf
    split
    · split
      · rename_i a ha
        refine clOf_acc (names := r) ?_
        rw [List.lookup_cons]
        cases hb : n == m with
        | true => exact ⟨a, rfl⟩
        | false => exact h
      · exact clOf_acc (names := r) h
    · exact clOf_acc (names := r) h
theorem clOf_has {cells : List (Str × Addr)} {n : Str} {c : Addr} (hc : cells.lookup n = some c) : ∀ {names : List (Str × NameKind)} {acc : List (Str × Addr)}, (n, NameKind.free) ∈ names → ∃ d, (clOf cells names acc).lookup n = some d
  | (m, k) :: r, acc, h => by
    unfold clOf
    rcases List.mem_cons.mp h with e | h
    · cases e
      rw [if_pos (show (NameKind.free == NameKind.free) = true from rfl), hc]
      exact clOf_acc (names := r) ⟨c, by rw [List.lookup_cons, beq_self_eq_true]⟩
    · split
      · split
        · exact clOf_has hc h
        · exact clOf_has hc h
      · exact clOf_has hc h
theorem cellsFrom_not {y : Str} : ∀ {names : List (Str × NameKind)} {n : Nat} {acc : List (Str × Addr)}, (∀ p ∈ names, p.2 = .cell → p.1 ≠ y) → (cellsFrom n names acc).lookup y = acc.lookup y
  | [], _, _, _ => rfl
  | (m, k) :: r, n, acc, h => by
    have hr : ∀ p ∈ r, p.2 = .cell → p.1 ≠ y := fun p hp => h p (List.mem_cons_of_mem _ hp)
    unfold cellsFrom
    by_cases hk : k = .cell
    · subst hk
      rw [if_pos (show (NameKind.cell == NameKind.cell) = true from rfl), cellsFrom_not hr, List.lookup_cons]
      have : (y == m) = false := by simpa using Ne.symm (h (m, .cell) List.mem_cons_self rfl)
      rw [this]
    · rw [if_neg (by simpa using hk)]
      exact cellsFrom_not hr
theorem cellsFrom_new : ∀ {names : List (Str × NameKind)} {h : Heap} {acc : List (Str × Addr)} {y : Str} {c : Addr}, (cellsFrom h.objs.size names acc).lookup y = some c →
    (h.objs.size ≤ c ∧ (pushCells h names).IsCell c none) ∨ acc.lookup y = some c
  | [], _, _, _, _, e => .inr e
  | (m, k) :: r, h, acc, y, c, e => by
    unfold cellsFrom at e
    unfold pushCells
    by_cases hk : (k == NameKind.cell) = true
    · rw [if_pos hk] at e ⊢
      have e' : (cellsFrom (h.push { cls := .type "cell", data := .cell none }).objs.size r ((m, h.objs.size) :: acc)).lookup y = some c := by rw [Heap.size_push]; exact e
      rcases cellsFrom_new e' with ⟨q1, q2⟩ | q
      · rw [Heap.size_push] at q1
        exact .inl ⟨Nat.le_of_succ_le q1, q2⟩
      · rw [List.lookup_cons] at q
        cases hb : y == m with
        | true =>
          rw [hb] at q; cases q
          exact .inl ⟨Nat.le_refl _, Heap.IsCell.keeps ⟨_, Heap.get?_push_size _ rfl, rfl⟩ (pushCells_keeps _ _)⟩
        | false => rw [hb] at q; exact .inr q
    · rw [if_neg hk] at e ⊢
      exact cellsFrom_new e
theorem cellsFrom_inj : ∀ {names : List (Str × NameKind)} {n : Nat} {acc : List (Str × Addr)}, (∀ x y c, acc.lookup x = some c → acc.lookup y = some c → x = y) → (∀ x c, acc.lookup x = some c → c < n) →
    ∀ x y c, (cellsFrom n names acc).lookup x = some c → (cellsFrom n names acc).lookup y = some c → x = y
  | [], _, _, h, _ => h
  | (m, k) :: r, n, acc, h, lt => by
    unfold cellsFrom
    by_cases hk : (k == NameKind.cell) = true
    · rw [if_pos hk]
      have one : ∀ x c, ((m, n) :: acc).lookup x = some c → (x = m ∧ c = n) ∨ acc.lookup x = some c := fun x c e => by
        rw [List.lookup_cons] at e
        cases hb : x == m with
        | true => rw [hb] at e; cases e; exact .inl ⟨beq_iff_eq.mp hb, rfl⟩
        | false => rw [hb] at e; exact .inr e
      refine cellsFrom_inj (fun x y c ex ey => ?_) fun x c e => ?_
      · rcases one x c ex with ⟨a1, a2⟩ | a <;> rcases one y c ey with ⟨b1, b2⟩ | b
        · rw [a1, b1]
        · exact absurd (lt y c b) (by rw [a2]; exact Nat.lt_irrefl _)
        · exact absurd (lt x c a) (by rw [b2]; exact Nat.lt_irrefl _)
        · exact h x y c a b
      · rcases one x c e with ⟨_, a2⟩ | a
        · rw [a2]; exact Nat.lt_succ_self _
        · exact Nat.lt_succ_of_lt (lt x c a)
    · rw [if_neg hk]
      exact cellsFrom_inj h lt
theorem cellsFrom_acc {y : Str} : ∀ {names : List (Str × NameKind)} {n : Nat} {acc : List (Str × Addr)}, (∃ c, acc.lookup y = some c) → ∃ c, (cellsFrom n names acc).lookup y = some c
  | [], _, _, h => h
  | (m, k) :: r, n, acc, h => by
    unfold cellsFrom
    split
    · refine cellsFrom_acc ?_
      rw [List.lookup_cons]
      cases y == m with
      | true => exact ⟨_, rfl⟩
      | false => exact h
    · exact cellsFrom_acc h
theorem cellsFrom_has {y : Str} : ∀ {names : List (Str × NameKind)} {n : Nat} {acc : List (Str × Addr)}, (y, NameKind.cell) ∈ names → ∃ c, (cellsFrom n names acc).lookup y = some c
  | (m, k) :: r, n, acc, h => by
    unfold cellsFrom
    rcases List.mem_cons.mp h with e | h
    · cases e
      rw [if_pos (show (NameKind.cell == NameKind.cell) = true from rfl)]
      exact cellsFrom_acc ⟨n, by rw [List.lookup_cons, beq_self_eq_true]⟩
    · split
      · exact cellsFrom_has h
      · exact cellsFrom_has h
theorem cellsFrom_ge {y : Str} {lo : Nat} : ∀ {names : List (Str × NameKind)} {n : Nat} {acc : List (Str × Addr)} {c : Addr}, lo ≤ n → ((y, NameKind.cell) ∈ names ∨ ∀ d, acc.lookup y = some d → lo ≤ d) → (cellsFrom n names acc).lookup y = some c → lo ≤ c
  | [], n, acc, c, hn, h, e => h.elim (fun z => nomatch z) fun z => z c e
  | (m, k) :: r, n, acc, c, hn, h, e => by
    unfold cellsFrom at e
    by_cases hk : (k == NameKind.cell) = true
    · rw [if_pos hk] at e
      have k' : k = .cell := beq_iff_eq.mp hk
      subst k'
      refine cellsFrom_ge (names := r) (Nat.le_succ_of_le hn) ?_ e
      by_cases hm : (y, NameKind.cell) ∈ r
      · exact .inl hm
      · refine .inr fun d q => ?_
        rw [List.lookup_cons] at q
        cases hb : y == m with
        | true => rw [hb] at q; cases q; exact hn
        | false =>
          rw [hb] at q
          rcases h with z | z
          · rcases List.mem_cons.mp z with z | z
            · cases z; simp at hb
            · exact absurd z hm
          · exact z d q
    · rw [if_neg hk] at e
      refine cellsFrom_ge (names := r) hn ?_ e
      rcases h with z | z
      · rcases List.mem_cons.mp z with z | z
        · cases z; exact absurd rfl hk
        · exact .inl z
      · exact .inr z
section
variable {M : Model} {A : Around} {E : Value → Shared → Prop} {s : Shared}
theorem newCompEnv {scope : Scope} {globals : Addr} {cl : List (Str × Addr)} {qual : Str} {env : Env} {Q : Env → Shared → Prop}
    (h : Q { scope := scope, locals := s.heap.objs.size, globals := globals, cells := cellsFrom (s.heap.objs.size + 1) scope.names cl, qual := qual, func := none, code := env.code, frame := env.frame, builtins := env.builtins }
      { s with heap := pushCells (s.heap.push { cls := .type "dict", data := .dict #[] }) scope.names }) :
    wpAny M A (newFunctionEnv scope globals cl [] qual none .none (some env)) Q E s := by
  simp only [newFunctionEnv, Option.isSome_some, if_true]
  refine wpAny_bind (wpAny_alloc ?_)
  refine wpAny_bind (wpAny_layCells _ (fun name kind cells => by cases hkc : kind == NameKind.cell <;> simp [hkc]) _ _ _ _ ?_)
  rw [show ({ s with heap := s.heap.push { cls := .type "dict", data := .dict #[] } } : Shared).heap.objs.size = s.heap.objs.size + 1 from Heap.size_push ..]
  refine wpAny_bind ?_
  rw [List.forIn_nil]
  exact wpAny_pure (wpAny_pure h)
end
theorem kindOf_relabel {env : Env} : ∀ (names : List (Str × NameKind)) (x : Str),
    (names.map fun (n, k) => if (k == NameKind.free && env.scope.kind == .function && env.kindOf n == some .cell) then (n, NameKind.cell) else (n, k)).lookup x =
      (names.lookup x).map fun k => if (k == NameKind.free && env.scope.kind == .function && env.kindOf x == some .cell) then NameKind.cell else k
  | [], _ => rfl
  | (n, k) :: r, x => by
    rw [List.map_cons]
    show List.lookup x ((if (k == NameKind.free && env.scope.kind == .function && env.kindOf n == some .cell) = true then (n, NameKind.cell) else (n, k)) :: _) = _
    cases hx : x == n with
    | true =>
      have e := beq_iff_eq.mp hx
      subst e
      by_cases hc : (k == NameKind.free && env.scope.kind == .function && env.kindOf x == some .cell) = true
      · rw [if_pos hc, List.lookup_cons, List.lookup_cons, beq_self_eq_true]
        show _ = some (if (k == NameKind.free && env.scope.kind == .function && env.kindOf x == some .cell) = true then NameKind.cell else k)
        rw [if_pos hc]
      · rw [if_neg hc, List.lookup_cons, List.lookup_cons, beq_self_eq_true]
        show _ = some (if (k == NameKind.free && env.scope.kind == .function && env.kindOf x == some .cell) = true then NameKind.cell else k)
        rw [if_neg hc]
    | false =>
      have ih := kindOf_relabel (env := env) r x
      by_cases hc : (k == NameKind.free && env.scope.kind == .function && env.kindOf n == some .cell) = true
      · rw [if_pos hc, List.lookup_cons, List.lookup_cons, hx]; exact ih
      · rw [if_neg hc, List.lookup_cons, List.lookup_cons, hx]; exact ih
def sel (idx : List Nat) (σ : St) : St := idx.map fun j => (σ[j]?).join
def Cx.comp (X : Cx) (scope : Scope) (cells : List (Str × Addr)) (C : Addr) (N' : List Str) (s2 : Shared) (H2 : Hp) (fp : List Addr) : Cx where
  prog := X.prog
  w := X.w
  K := X.K
  mg := X.mg
  base := X.base
  A := X.A
  N := N'
  sZ := s2
  HZ := H2
  env := compEnvC scope cells C X.env
  outer := X.stack
  stack := X.stack
  ex := fp
  fn := fun y => scope.names.lookup y == some .cell
  calm := X.calm
  pn := []
  xe := fun _ _ => False
structure CompOk (X : Cx) (scope : Scope) (M : List Str) (idx : List Nat) : Prop where
  kind : scope.kind = .function
  loc : ∀ y ∈ scope.names, y.2 = .local → scope.names.lookup y.1 = some .local
  cel : ∀ y ∈ scope.names, y.2 = .cell → scope.names.lookup y.1 = some .cell
  fre : ∀ y ∈ scope.names, y.2 = .free → X.env.kindOf y.1 = some .cell ∨ X.env.kindOf y.1 = some .free
  len : idx.length = M.length
  cap : ∀ (j : Nat) (y : Str), M[j]? = some y → scope.names.lookup y = some .free ∧ ∃ k, idx[j]? = some k ∧ X.N[k]? = some y
theorem sel_get {idx : List Nat} {σ : St} {j : Nat} {v : V} (h : (sel idx σ)[j]? = some (some v)) : ∃ k, idx[j]? = some k ∧ σ[k]? = some (some v) := by
  unfold sel at h
  rw [List.getElem?_map] at h
  cases e : idx[j]? with
  | none => rw [e] at h; cases h
  | some k =>
    rw [e] at h
    refine ⟨k, rfl, ?_⟩
    have h' : (σ[k]?).join = some v := Option.some.inj h
    cases q : σ[k]? with
    | none => rw [q] at h'; cases h'
    | some o =>
      rw [q] at h'
      have h'' : o = some v := h'
      rw [h'']
section
variable {X : Cx} {pins : List (Addr × Obj)} {σ : St} {H : Hp} {s : Shared}
theorem comp_start {scope : Scope} {M : List Str} {idx : List Nat} {fp : List Addr} {x : Str} (ok : CompOk X scope M idx) (hc : X.calm = true) (I : Inv X pins σ H s) (hf : ∀ b ∈ fp, FpOk X pins H b)
    (ho : ∀ b ∈ fp, ∃ o, s.heap.get? b = some o) :
    Inv (X.comp scope (cellsFrom (s.heap.objs.size + 2) scope.names (clOf X.env.cells scope.names [])) (s.heap.objs.size + 1) (x :: M) s H fp) [] (none :: sel idx σ) H
      { s with heap := pushCells ((s.heap.push { cls := .type "list", dict := none, data := .seq ([] : List Value).toArray }).push { cls := .type "dict", data := .dict #[] }) scope.names } := by
  have sz2 : ((s.heap.push { cls := .type "list", dict := none, data := .seq ([] : List Value).toArray }).push { cls := .type "dict", data := .dict #[] }).objs.size = s.heap.objs.size + 2 := by rw [Heap.size_push, Heap.size_push]
  have keep : ∀ b o, s.heap.get? b = some o → (pushCells ((s.heap.push { cls := .type "list", dict := none, data := .seq ([] : List Value).toArray }).push { cls := .type "dict", data := .dict #[] }) scope.names).get? b = some o :=
    fun b o e => pushCells_keeps _ _ _ _ (Heap.get?_push_of_some _ (Heap.get?_push_of_some _ e))
  have clLook : ∀ n c, (clOf X.env.cells scope.names []).lookup n = some c → X.env.cells.lookup n = some c := lookup_clOf fun n c e => by simp at e
  have clLt : ∀ n c, (clOf X.env.cells scope.names []).lookup n = some c → c < s.heap.objs.size := fun n c e => by
    obtain ⟨v, z⟩ := I.cell n c (clLook n c e)
    exact z.lt
  have look : ∀ n c, (cellsFrom (s.heap.objs.size + 2) scope.names (clOf X.env.cells scope.names [])).lookup n = some c →
      (s.heap.objs.size + 2 ≤ c ∧ (pushCells ((s.heap.push { cls := .type "list", dict := none, data := .seq ([] : List Value).toArray }).push { cls := .type "dict", data := .dict #[] }) scope.names).IsCell c none) ∨ X.env.cells.lookup n = some c := fun n c e => by
    have e' : (cellsFrom ((s.heap.push { cls := .type "list", dict := none, data := .seq ([] : List Value).toArray }).push { cls := .type "dict", data := .dict #[] }).objs.size scope.names (clOf X.env.cells scope.names [])).lookup n = some c := by rw [sz2]; exact e
    rcases cellsFrom_new e' with ⟨q1, q2⟩ | q
    · rw [sz2] at q1; exact .inl ⟨q1, q2⟩
    · exact .inr (clLook n c q)
  have fresh : ∀ a, s.heap.objs.size ≤ a → H a = none := fun a h => I.hok.fresh h
  have fpLt : ∀ b ∈ fp, b < s.heap.objs.size := fun b hb => let ⟨_, e⟩ := ho b hb; Heap.lt_size e
  have fpStk : ∀ b ∈ fp, b ∉ frs X.stack := fun b hb z => by
    obtain ⟨_, f1, f2, _⟩ := hf b hb
    exact (List.mem_cons.mp (I.stkSub b z)).elim f1 f2
  have hasFree : ∀ y ∈ scope.names, y.2 = .free → ∃ c, X.env.cells.lookup y.1 = some c := fun y hy e => I.ok.has y.1 (ok.fre y hy e)
  have kindR : ∀ y, (compEnvC scope (cellsFrom (s.heap.objs.size + 2) scope.names (clOf X.env.cells scope.names [])) (s.heap.objs.size + 1) X.env).kindOf y =
      (scope.names.lookup y).map fun k => if (k == NameKind.free && X.env.scope.kind == .function && X.env.kindOf y == some .cell) then NameKind.cell else k := fun y => kindOf_relabel scope.names y
  refine ⟨⟨I.ok.mod, ok.kind, I.ok.glob, I.ok.blt, Nat.le_succ _, ?_, fun y hy => ?_, fun y c hfn e => ?_, I.ok.hd, I.ok.frames, .inl rfl, fun b hb => ⟨?_, fun y c e => ?_⟩, I.bs, Nat.le_trans I.ok.bsz I.sz, fun b o e hb => ?_, fun b hb => fpStk b hb, I.stack, I.stkFree⟩,
    rfl, I.bare, Un.kept keep, ⟨fun _ => none, ?_, fun i y v h1 h2 h3 => ?_⟩, fun y c e => ?_, fresh _ (Nat.le_succ _), fun y c e => ?_, fun p hp => absurd (show p ∈ ([] : List (Addr × Obj)) from hp) (by simp), I.hok.kept keep, ?_⟩
  · exact cellsFrom_inj (fun a b c h1 h2 => I.ok.inj a b c (clLook a c h1) (clLook b c h2)) fun a c h1 => Nat.lt_of_lt_of_le (clLt a c h1) (Nat.le_add_right _ _)
  · -- has
    rw [show (X.comp scope (cellsFrom (s.heap.objs.size + 2) scope.names (clOf X.env.cells scope.names [])) (s.heap.objs.size + 1) (x :: M) s H fp).env.kindOf y = _ from kindR y] at hy
    show ∃ c, (cellsFrom (s.heap.objs.size + 2) scope.names (clOf X.env.cells scope.names [])).lookup y = some c
    cases hk : scope.names.lookup y with
    | none => rw [hk] at hy; rcases hy with z | z <;> cases z
    | some k =>
      have mem := PySem.mem_of_lookup hk
      by_cases k1 : k = .cell
      · subst k1; exact cellsFrom_has mem
      by_cases k2 : k = .free
      · subst k2
        obtain ⟨c, ec⟩ := hasFree _ mem rfl
        exact cellsFrom_acc (clOf_has ec mem)
      · rw [hk] at hy
        have hb : (k == NameKind.free) = false := by simpa using k2
        rw [Option.map_some, hb, Bool.false_and, Bool.false_and, if_neg Bool.false_ne_true] at hy
        rcases hy with z | z
        · exact absurd (Option.some.inj z) k1
        · exact absurd (Option.some.inj z) k2
  · -- cab
    have hl : scope.names.lookup y = some .cell := by simpa [Cx.comp] using hfn
    exact cellsFrom_ge (lo := s.heap.objs.size) (by omega) (.inl (PySem.mem_of_lookup hl)) e
  · -- exf
    exact Nat.ne_of_lt (Nat.lt_succ_of_lt (fpLt b hb))
  · rcases look y c e with ⟨q, _⟩ | q
    · exact fun z => absurd (fpLt b hb) (by rw [← z]; exact Nat.not_lt.mpr (Nat.le_trans (Nat.le_add_right _ 2) q))
    · exact (hf b hb).2.2.2.2.1 y c q
  · -- noex
    rcases (hf b hb).2.2.2.1 with z | z
    · exact I.ok.noex b o e z
    · exact absurd (Nat.lt_of_lt_of_le (Heap.lt_size e) (Nat.le_trans I.ok.bsz z)) (Nat.lt_irrefl _)
  · -- the new map
    have e0 : (s.heap.push { cls := .type "list", dict := none, data := .seq ([] : List Value).toArray }).objs.size = s.heap.objs.size + 1 := Heap.size_push ..
    have q := (Heap.Ns.new (s.heap.push { cls := .type "list", dict := none, data := .seq ([] : List Value).toArray }) (.type "dict")).keeps (pushCells_keeps scope.names _)
    rw [e0] at q
    exact q
  · -- names
    cases i with
    | zero => cases h2
    | succ j =>
      have h2' : (sel idx σ)[j]? = some (some v) := h2
      have h1' : M[j]? = some y := h1
      obtain ⟨k, ek, ev⟩ := sel_get h2'
      obtain ⟨hl, k', ek', eN⟩ := ok.cap j y h1'
      rw [ek] at ek'; cases ek'
      have mem := PySem.mem_of_lookup hl
      have hk := ok.fre _ mem rfl
      obtain ⟨m, hn, hloc⟩ := I.loc
      have vis : Vis X.env.scope y := hk.elim (fun z => .inr (.inl z)) fun z => .inr (.inr z)
      obtain ⟨u, r, l⟩ := hloc k y v eN ev vis
      refine ⟨u, r, ?_⟩
      rcases l with ⟨z, _⟩ | ⟨_, c, ec, hcell⟩
      · rw [z] at hk; rcases hk with z | z <;> cases z
      · refine .inr ⟨?_, c, ?_, hcell.keeps keep⟩
        · rw [show (X.comp scope (cellsFrom (s.heap.objs.size + 2) scope.names (clOf X.env.cells scope.names [])) (s.heap.objs.size + 1) (x :: M) s H fp).env.kindOf y = _ from kindR y, hl, Option.map_some]
          by_cases hcc : (NameKind.free == NameKind.free && X.env.scope.kind == .function && X.env.kindOf y == some .cell) = true
          · rw [if_pos hcc]; exact .inl rfl
          · rw [if_neg hcc]; exact .inr rfl
        · show (cellsFrom (s.heap.objs.size + 2) scope.names (clOf X.env.cells scope.names [])).lookup y = some c
          rw [cellsFrom_not]
          · obtain ⟨d, ed⟩ := clOf_has (acc := []) ec mem
            rw [ed, ← clLook y d ed, ec]
          · intro p hp hpc hpy
            have := ok.cel p hp hpc
            rw [hpy, hl] at this
            cases this
  · rcases look y c e with ⟨_, q⟩ | q
    · exact ⟨_, q⟩
    · obtain ⟨v, z⟩ := I.cell y c q
      exact ⟨v, z.keeps keep⟩
  · rcases look y c e with ⟨q, _⟩ | q
    · exact fresh _ (by omega)
    · exact I.freeC y c q
  · show (none :: sel idx σ).length = (x :: M).length
    unfold sel
    rw [List.length_cons, List.length_cons, List.length_map, ok.len]
theorem compLoop_any {prog : Program} {w : World} {A : Around} {R : Result → Shared → Prop} {s : Shared} {elt target iter : Expr} {ifs : List Expr} {scope : Scope} {pos : Pos} {it acc : Value} {env : Env} (I : Nat → Shared → Prop)
    (turn : ∀ n s, I n s → wpAny (model prog w) A (pyNext it) (fun r s₁ => match r with
      | none => R (.ok .next) s₁
      | some v => wpAny (model prog w) A (letOwnedTupleGo target it v) (fun _ s₁' => wpAny (model prog w) A (assign target env v) (fun _ s₂ =>
          wpAny (model prog w) A (forIn ifs true fun c r => if r = true then do let ok ← isTrue c env (eval c env); pure (ForInStep.yield ok) else pure (ForInStep.yield r)) (fun ok s₃ =>
            if ok = true then wpAny (model prog w) A (eval elt env) (fun x s₄ =>
              wpAny (model prog w) A (call (.builtin "list.append") [acc, x]) (fun _ s₅ => ∃ m, m < n ∧ I m s₅) (fun _ _ => False) s₄) (fun _ _ => False) s₃
            else ∃ m, m < n ∧ I m s₃) (fun _ _ => False) s₂) (fun _ _ => False) s₁') (fun _ _ => False) s₁) (fun _ _ => False) s)
    (n : Nat) (h : I n s) :
    codeAny (model prog w) A (.compLoop (.ListComp elt [⟨target, iter, ifs, 0⟩] scope pos) 0 it acc env) R s := by
  refine codeAny_loop rfl I (fun n s hI => ?_) n h
  show wpAny _ A ((compTurn (.ListComp elt [⟨target, iter, ifs, 0⟩] scope pos) 0 it acc env).onRaise (fun x => do noteFrame x env; theTreesLotGoes x)) _ _ s
  refine wpAny_noted ?_
  rw [compTurn_list]
  refine wpAny_bind (wpAny_standAt (wpAny_bind (wpAny_mono (turn n s hI) (fun r s₁ h₁ => ?_) fun _ _ h' => h'.elim)))
  cases r with
  | none => exact wpAny_pure h₁
  | some v =>
    refine wpAny_bind (wpAny_mono h₁ (fun _ s₁' h₁' => ?_) fun _ _ h' => h'.elim)
    refine wpAny_bind (wpAny_mono h₁' (fun _ s₂ h₂ => wpAny_bind (wpAny_mono h₂ (fun ok s₃ h₃ => ?_) fun _ _ h' => h'.elim)) fun _ _ h' => h'.elim)
    cases ok with
    | false => exact wpAny_pure ⟨rfl, h₃⟩
    | true =>
      exact wpAny_bind (wpAny_bind (wpAny_mono h₃ (fun x s₄ h₄ => wpAny_bind (wpAny_mono h₄ (fun _ s₅ h₅ => wpAny_pure (wpAny_pure ⟨rfl, h₅⟩)) fun _ _ h' => h'.elim)) fun _ _ h' => h'.elim))
def PTs (X : Cx) (cs : List Expr) (t : TT) : Prop :=
  ∀ (pins : List (Addr × Obj)) (s : Shared) (σ : St) (H : Hp) (Q : Bool → Hp → Prop), Inv X pins σ H s → t σ H Q →
    wpAny (model X.prog X.w) X.A (forIn cs true fun c r => if r = true then do let ok ← isTrue c X.env (eval c X.env); pure (ForInStep.yield ok) else pure (ForInStep.yield r)) (TP X pins σ Q) X.xe s
def ttTrue : TT := fun _ H Q => Q true H
theorem pts_nil : PTs X [] ttTrue := fun _ _ _ H _ I h => wpAny_tests_nil ⟨H, I, h⟩
theorem pts_one {c : Expr} {t : TT} (h : PT X c t) : PTs X [c] t := fun pins s σ H Q I hq => wpAny_tests_one (h pins s σ H Q I hq)
def CompW (J : It) (H1 : Hp) (one : V → Hp → (Option V → Hp → Prop) → Prop) (Q : List V → Hp → Prop) : Prop :=
  ∃ (n : Nat) (W : Nat → List V → Hp → Prop), W 0 [] H1 ∧ n ≤ sizeLine ∧ ∀ i ys H', W i ys H' → (J.stop i H' ∧ Q ys H') ∨
    (J.go i H' ∧ i < n ∧ ∃ N : Option V → Hp → Prop, (∀ o H3, N o H3 → W (i + 1) (ys ++ o.toList) H3) ∧ ∀ x H2, J.yld i H' x H2 → one x H2 N)
def oneOf (tc : TT) (te : TE) (σ : St) (x : V) (H : Hp) (k : Option V → Hp → Prop) : Prop :=
  tc (some x :: σ) H fun b H1 => if b = true then te (some x :: σ) H1 fun v H2 => k (some v) H2 else k none H1
def tCompIf (wi : TI) (idx : List Nat) (tc : TT) (te : TE) : TE := fun σ H Q => wi σ H fun J H1 => CompW J H1 (oneOf tc te (sel idx σ)) fun ys H' => ∀ p, H' p = none → Q (.ref p) (upd H' p (.lst ys))
theorem comp_block {elt iter : Expr} {ifs : List Expr} {scope : Scope} {pos : Pos} {x : Str} {px : Pos} {M : List Str} {idx : List Nat} {tc : TT} {te : TE} {itv : Value} {Q : List V → Hp → Prop}
    {RR : Value → Addr → Result → Shared → Prop} 
    (hc : X.calm = true) (ok : CompOk X scope M idx) (hN : (x :: M).Nodup) (hx : scope.names.lookup x = some .local ∨ scope.names.lookup x = some .cell)
    (ht : ∀ cells C s2 H2 fp, PTs (X.comp scope cells C (x :: M) s2 H2 fp) ifs tc) (he : ∀ cells C s2 H2 fp, PE (X.comp scope cells C (x :: M) s2 H2 fp) elt te)
    (h : PIE X pins σ (.Name x px) (fun J H1 => CompW J H1 (oneOf tc te (sel idx σ)) Q) itv s)
    (hR : ∀ (D C : Addr) (ys : List V) (H' : Hp) (s' : Shared), s.heap.objs.size ≤ D → s.heap.objs.size ≤ C → D ≠ C → H' D = none → H' C = none → Q ys H' → (∃ m, s'.heap.Ns C m) →
      (∀ h' tk, Heap.SameBut C s'.heap h' → Inv X pins σ (upd H' D (.lst ys)) { s' with heap := h', toks := tk }) → RR (.ref D) C (.ok .next) s') :
    wpAny (model X.prog X.w) X.A (newList []) (fun acc s₃ => wpAny (model X.prog X.w) X.A (newFunctionEnv scope X.env.globals (clOf X.env.cells scope.names []) [] X.env.qual none .none (some X.env)) (fun cenv s₄ =>
      codeAny (model X.prog X.w) X.A (.compStart (.ListComp elt [⟨.Name x px, iter, ifs, 0⟩] scope pos) 0 itv acc { cenv with scope := relabel scope X.env }) (RR acc cenv.locals) s₄) X.xe s₃) X.xe s := by
  obtain ⟨it, fp, tn, J, H2, e, I2, T, st2, f2, n, W, w0, hn, turn⟩ := h
  subst e
  have ho : ∀ b ∈ fp, ∃ o, s.heap.get? b = some o := fun b hb => let ⟨o, e, _⟩ := T.obj 0 _ st2 b hb; ⟨o, e⟩
  have I3 := comp_start (x := x) ok hc I2 f2 ho
  have sz1 : (s.heap.push { cls := .type "list", dict := none, data := .seq ([] : List Value).toArray }).objs.size = s.heap.objs.size + 1 := Heap.size_push ..
  have keep0 : ∀ b o, s.heap.get? b = some o → (pushCells ((s.heap.push { cls := .type "list", dict := none, data := .seq ([] : List Value).toArray }).push { cls := .type "dict", data := .dict #[] }) scope.names).get? b = some o :=
    fun b o e => pushCells_keeps _ _ _ _ (Heap.get?_push_of_some _ (Heap.get?_push_of_some _ e))
  have acc0 : (pushCells ((s.heap.push { cls := .type "list", dict := none, data := .seq ([] : List Value).toArray }).push { cls := .type "dict", data := .dict #[] }) scope.names).PlainList s.heap.objs.size ([] : List Value).toArray :=
    ⟨_, pushCells_keeps _ _ _ _ (Heap.get?_push_of_some _ (Heap.get?_push_size _ rfl))⟩
  have fpLt : ∀ b ∈ fp, b < s.heap.objs.size := fun b hb => let ⟨_, e⟩ := ho b hb; Heap.lt_size e
  refine wpAny_newList ?_
  refine newCompEnv ?_
  dsimp only
  rw [sz1]
  generalize hcells : cellsFrom (s.heap.objs.size + 1 + 1) scope.names (clOf X.env.cells scope.names []) = cells
  have hcells' : cellsFrom (s.heap.objs.size + 2) scope.names (clOf X.env.cells scope.names []) = cells := hcells
  rw [hcells'] at I3
  generalize hh : pushCells ((s.heap.push { cls := .type "list", dict := none, data := .seq ([] : List Value).toArray }).push { cls := .type "dict", data := .dict #[] }) scope.names = h1 at I3 keep0 acc0 ⊢
  have ht := ht cells (s.heap.objs.size + 1) s H2 fp
  have he := he cells (s.heap.objs.size + 1) s H2 fp
  have st3 : tn 0 h1 := T.keep 0 _ _ st2 fun b hb o e => keep0 b o e
  have hg : PG (X.comp scope cells (s.heap.objs.size + 1) (x :: M) s H2 fp) (.Name x px) (gName 0) := by
    refine pg_name hN rfl ?_ ?_
    · show (relabel scope X.env).names.lookup x = some .local ∨ (relabel scope X.env).names.lookup x = some .cell
      rw [show (relabel scope X.env).names.lookup x = _ from kindOf_relabel scope.names x]
      rcases hx with z | z
      · rw [z]; exact .inl rfl
      · rw [z]; exact .inr rfl
    · rcases hx with z | z
      · refine .inr ?_
        show (relabel scope X.env).names.lookup x = some .local
        rw [show (relabel scope X.env).names.lookup x = _ from kindOf_relabel scope.names x, z]
        rfl
      · refine .inl ?_
        show (scope.names.lookup x == some .cell) = true
        rw [z]; rfl
  have stat : ∀ {pins' : List (Addr × Obj)} {H' : Hp}, (∀ p ∈ pins', p.1 = s.heap.objs.size) → (∀ b ∈ fp, H' b = none) → ∀ b ∈ fp, FpOk (X.comp scope cells (s.heap.objs.size + 1) (x :: M) s H2 fp) pins' H' b := fun {pins' H'} hp hn b hb =>
    ⟨hn b hb, (I3.ok.exf b hb).1, I3.ok.exfs b hb, .inl hb, (I3.ok.exf b hb).2, fun p hp' => by
      have e := hp p (show p ∈ pins' from by simpa [Cx.comp] using hp')
      rw [e]; exact Nat.ne_of_gt (fpLt b hb)⟩
  have loop : ∀ (s₄ : Shared), s₄ = { s with heap := h1 } → codeAny (model X.prog X.w) X.A (.compLoop (.ListComp elt [⟨.Name x px, iter, ifs, 0⟩] scope pos) 0 (.ref it) (.ref s.heap.objs.size) (compEnvC scope cells (s.heap.objs.size + 1) X.env))
      (RR (.ref s.heap.objs.size) (s.heap.objs.size + 1)) s₄ := by
    rintro s₄ rfl
    refine compLoop_any (fun k s' => ∃ (i : Nat) (ys : List V) (its : List Value) (H' : Hp), Inv (X.comp scope cells (s.heap.objs.size + 1) (x :: M) s H2 fp) [] (none :: sel idx σ) H' s' ∧ tn i s'.heap ∧ (∀ b ∈ fp, H' b = none) ∧ H' s.heap.objs.size = none ∧
      s'.heap.PlainList s.heap.objs.size its.toArray ∧ Vals ys its ∧ ys.length ≤ i ∧ i ≤ n ∧ W i ys H' ∧ k = n - i) ?_ n ⟨0, [], [], H2, I3, st3, fun b hb => (f2 b hb).1, I2.hok.fresh (Nat.le_refl _), acc0, .nil, Nat.le_refl _, Nat.zero_le _, w0, rfl⟩
    rintro k s' ⟨i, ys, its, H', I', st', fr', hD', hpl', hv', hlen, hlin, w', rfl⟩
    obtain ⟨nn, hobj⟩ := id hpl'
    have pinD : ∀ {H5 : Hp} {s5 : Shared} {σ5 : St} {P5 : List (Addr × Obj)}, Inv (X.comp scope cells (s.heap.objs.size + 1) (x :: M) s H2 fp) P5 σ5 H5 s5 → s5.heap.get? s.heap.objs.size = some { cls := .type "list", data := .seq its.toArray nn } → H5 s.heap.objs.size = none →
        ∀ p ∈ [(s.heap.objs.size, ({ cls := .type "list", data := .seq its.toArray nn } : Obj))], s5.heap.get? p.1 = some p.2 ∧ H5 p.1 = none ∧ p.1 ≠ (X.comp scope cells (s.heap.objs.size + 1) (x :: M) s H2 fp).env.locals ∧ p.1 ∉ (X.comp scope cells (s.heap.objs.size + 1) (x :: M) s H2 fp).fs ∧ ∀ v, p.2.data ≠ .cell v :=
      fun {H5 s5 σ5 P5} I5 e5 n5 p hp => by
        have ep : p = (s.heap.objs.size, ({ cls := .type "list", data := .seq its.toArray nn } : Obj)) := by simpa using hp
        subst ep
        refine ⟨e5, n5, Nat.ne_of_lt (Nat.lt_succ_self _), fun z => ?_, fun v z => by cases z⟩
        obtain ⟨_, o, ho, _⟩ := I5.ok.funs.mem z
        exact absurd (Heap.lt_size ho) (Nat.lt_irrefl _)
    have ID := I'.pins_of (pinD I' hobj hD')
    have ndp : ∀ p ∈ [(s.heap.objs.size, ({ cls := .type "list", data := .seq its.toArray nn } : Obj))], p.1 = s.heap.objs.size := fun p hp => by
      have ep : p = (s.heap.objs.size, ({ cls := .type "list", data := .seq its.toArray nn } : Obj)) := by simpa using hp
      rw [ep]
    rcases turn i ys H' w' with ⟨stop, qn⟩ | ⟨go, hin, N, hNW, step⟩
    · refine thn (T.done (X.comp scope cells (s.heap.objs.size + 1) (x :: M) s H2 fp) rfl rfl rfl hc i _ s' _ H' (fun _ _ => False) ID (stat ndp fr') st' stop) fun r s4 ⟨hr, I4⟩ => ?_
      subst hr
      have pin4 := I4.pin (s.heap.objs.size, ({ cls := .type "list", data := .seq its.toArray nn } : Obj)) (by simp [Cx.comp])
      obtain ⟨m4, hm4, _⟩ := id I4.loc
      refine hR s.heap.objs.size (s.heap.objs.size + 1) ys H' s4 (Nat.le_refl _) (Nat.le_succ _) (Nat.ne_of_lt (Nat.lt_succ_self _)) pin4.2.1 I4.free qn ⟨m4, hm4⟩ fun h' tk hs' => ?_
      have neC : ∀ b, b < s.heap.objs.size → b ≠ s.heap.objs.size + 1 := fun b hb => Nat.ne_of_lt (Nat.lt_succ_of_lt hb)
      have neD : ∀ b, b < s.heap.objs.size → b ≠ s.heap.objs.size := fun b hb => Nat.ne_of_lt hb
      have u4 := I4.base
      refine I2.call' (s' := { s4 with heap := h', toks := tk }) (ch := fp) I4.os ?_ ?_ I4.bare fun b hb => ?_
      · refine ⟨fun b o e1 e2 e3 e4 => ?_, fun b o e1 e2 e3 e4 => ?_, fun b o e1 e2 e3 => ?_, fun b o e1 e2 => ?_, fun b xs e1 => ?_, fun b o u e1 => ?_, fun b ps e1 => ?_⟩
        · exact (hs'.2 b (neC b (Heap.lt_size e1))).trans (u4.keep b o e1 e2 e3 e4)
        · obtain ⟨sl, q⟩ := u4.slot b o e1 e2 e3 e4
          exact ⟨sl, (hs'.2 b (neC b (Heap.lt_size e1))).trans q⟩
        · rw [upd_ne (neD b (Heap.lt_size e1))]; exact u4.free b o e1 e2 e3
        · obtain ⟨o', q⟩ := u4.there b o e1 e2
          exact ⟨o', (hs'.2 b (neC b (Heap.lt_size e1))).trans q⟩
        · have q := u4.tups b xs e1
          rw [upd_ne (ne_of_none q pin4.2.1)]; exact q
        · have q := u4.frzs b o u e1
          rw [upd_ne (ne_of_none q pin4.2.1)]; exact q
        · obtain ⟨more, q⟩ := u4.tbls b ps e1
          exact ⟨more, by rw [upd_ne (ne_of_none q pin4.2.1)]; exact q⟩
      · intro b o e1
        by_cases hb : b = s.heap.objs.size
        · subst hb
          rw [upd_same] at e1; cases e1
          exact ⟨Nat.le_trans hlen (Nat.le_trans hlin hn), its, nn, hv', (hs'.2 _ (Nat.ne_of_lt (Nat.lt_succ_self _))).trans pin4.1⟩
        · rw [upd_ne hb] at e1
          refine (I4.hok b o e1).stay (fun c u hcu q => (hs'.2 c ?_).trans q) (fun c q => by rw [upd_ne (ne_of_none q pin4.2.1)]; exact q) fun c xs q => by rw [upd_ne (ne_of_none q pin4.2.1)]; exact q
          rintro rfl
          rcases hcu with z | z
          · rw [← z] at e1
            have z2 := I4.free
            rw [show (X.comp scope cells (s.heap.objs.size + 1) (x :: M) s H2 fp).env.locals = s.heap.objs.size + 1 from rfl, e1] at z2
            cases z2
          · have z2 := I4.free
            rw [show (X.comp scope cells (s.heap.objs.size + 1) (x :: M) s H2 fp).env.locals = s.heap.objs.size + 1 from rfl, z] at z2
            cases z2
      · obtain ⟨_, g1, g2, g3, g4, g5⟩ := f2 b hb
        exact ⟨g3, g1, g4, g5⟩
    · refine thn (T.item (X.comp scope cells (s.heap.objs.size + 1) (x :: M) s H2 fp) rfl rfl rfl hc i _ s' _ H' (fun _ _ => False) ID (stat ndp fr') st' go) fun r s4 ⟨u, hr, h4⟩ => ?_
      subst hr
      refine thn h4 fun _ s5 ⟨y, H5, I5, r5, y5, st5, fr5⟩ => ?_
      have I5' := I5.pinned (stat ndp fr5) (T.obj _ _ st5)
      refine thn (hg _ s5 _ H5 y u (fun σ' H6 => σ' = some y :: sel idx σ ∧ H6 = H5) I5' r5 ⟨rfl, rfl⟩) fun _ s6 ⟨σ6, H6, I6, e6, e6'⟩ => ?_
      subst e6 e6'
      have fin : ∀ {H8 : Hp} {s8 : Shared} {σ8 : St}, Inv (X.comp scope cells (s.heap.objs.size + 1) (x :: M) s H2 fp) ([(s.heap.objs.size, ({ cls := .type "list", data := .seq its.toArray nn } : Obj))] ++ pinsAt fp s5.heap) σ8 H8 s8 →
          s8.heap.PlainList s.heap.objs.size its.toArray ∧ H8 s.heap.objs.size = none ∧ tn (i + 1) s8.heap ∧ ∀ b ∈ fp, H8 b = none := fun {H8 s8 σ8} I8 => by
        have p8 := I8.pin (s.heap.objs.size, ({ cls := .type "list", data := .seq its.toArray nn } : Obj)) (by simp [Cx.comp])
        refine ⟨⟨nn, p8.1⟩, p8.2.1, T.keep _ _ _ st5 fun b hb o e => (I8.pin (b, o) (List.mem_append_right _ (List.mem_append_right _ (mem_pinsAt hb e)))).1, fun b hb => ?_⟩
        obtain ⟨o, e, _⟩ := T.obj _ _ st5 b hb
        exact (I8.pin (b, o) (List.mem_append_right _ (List.mem_append_right _ (mem_pinsAt hb e)))).2.1
      have back : ∀ {H8 : Hp} {s8 : Shared} {P8 : List (Addr × Obj)}, Inv (X.comp scope cells (s.heap.objs.size + 1) (x :: M) s H2 fp) P8 (some y :: sel idx σ) H8 s8 → Inv (X.comp scope cells (s.heap.objs.size + 1) (x :: M) s H2 fp) [] (none :: sel idx σ) H8 s8 := fun I8 =>
        (I8.pins_of fun p hp => absurd hp (by simp)).weak rfl fun j v e => by
          cases j with
          | zero => cases e
          | succ j => exact e
      refine thn (ht _ s6 _ _ _ I6 (step y _ y5)) fun b s7 ⟨H7, I7, q7⟩ => ?_
      cases b with
      | false =>
        have q7' : W (i + 1) (ys ++ []) H7 := hNW none H7 q7
        rw [List.append_nil] at q7'
        obtain ⟨g1, g2, g3, g4⟩ := fin I7
        refine show (if false = true then _ else _) from ?_
        rw [if_neg Bool.false_ne_true]
        exact ⟨n - (i + 1), by omega, i + 1, ys, its, H7, back I7, g3, g4, g2, g1, hv', Nat.le_succ_of_le hlen, hin, q7', rfl⟩
      | true =>
        refine show (if true = true then _ else _) from ?_
        rw [if_pos rfl]
        have q7' : te (some y :: sel idx σ) H7 fun v H3 => N (some v) H3 := q7
        refine thn (he _ s7 _ _ _ I7 q7') fun u8 s8 ⟨v8, H8, I8, r8, w8⟩ => ?_
        have w8 : W (i + 1) (ys ++ [v8]) H8 := hNW (some v8) H8 w8
        obtain ⟨g1, g2, g3, g4⟩ := fin I8
        refine wpAny_list_append_plain g1 (fun h' hpl hs' => ?_) (by
          rw [List.size_toArray, ← hv'.length]
          exact Nat.le_trans hlen (Nat.le_trans hlin hn))
        have I9 := back I8
        have hpl2 : h'.PlainList s.heap.objs.size (its ++ [u8]).toArray := by
          have e : (its ++ [u8]).toArray = its.toArray.push u8 := by simp
          rw [e]; exact hpl
        refine ⟨n - (i + 1), by omega, i + 1, ys ++ [v8], its ++ [u8], H8, I9.turned (it := s.heap.objs.size) (t' := s8.toks) (fun b o hb e => (hs'.2 b hb).trans e) g2 (Nat.ne_of_lt (Nat.lt_succ_self _)) (.inr (Nat.le_refl _)) (fun z c ec hcz => ?_) (fun p hp => absurd hp (by simp [Cx.comp])),
          T.keep _ _ _ g3 (fun b hb o e => (hs'.2 b (Nat.ne_of_lt (fpLt b hb))).trans e), g4, g2, hpl2, hv'.append (.cons r8 .nil), by rw [List.length_append]; exact Nat.succ_le_succ hlen, hin, w8, rfl⟩
        obtain ⟨v, o, ho, hd⟩ := I9.cell z c ec
        obtain ⟨n9, g9⟩ := g1
        rw [hcz, g9] at ho
        cases ho
        cases hd
  exact codeAny_compStart_list (loop _ rfl) (T.self _ 0 _ _ _ st3 (loop _ rfl))
theorem pe_compIf {elt iter : Expr} {ifs : List Expr} {scope : Scope} {pos : Pos} {x : Str} {px : Pos} {M : List Str} {idx : List Nat} {wi : TI} {tc : TT} {te : TE}
    (hc : X.calm = true) (hi : PI X (.Name x px) iter wi) (ok : CompOk X scope M idx) (hN : (x :: M).Nodup) (hx : scope.names.lookup x = some .local ∨ scope.names.lookup x = some .cell)
    (ht : ∀ cells C s2 H2 fp, PTs (X.comp scope cells C (x :: M) s2 H2 fp) ifs tc) (he : ∀ cells C s2 H2 fp, PE (X.comp scope cells C (x :: M) s2 H2 fp) elt te)
    (hs : ∀ x, foldedSetIterable iter X.env x = pure x := by intro _; rfl) : PE X (.ListComp elt [⟨.Name x px, iter, ifs, 0⟩] scope pos) (tCompIf wi idx tc te) := by
  intro pins s σ H Q I h
  rw [eval_ListComp]
  refine wpAny_comprehension_free (use := none) rfl hs (closureFor_cl fun y hy e => I.ok.has y.1 (ok.fre y hy e)) ok.kind ok.loc (thn (hi pins s σ H _ I h) fun v s1 h1 => thn h1 fun itv s2 h2 => ?_)
  refine comp_block (RR := fun acc C => compPost (model X.prog X.w) X.A X.xe none (EP X pins σ Q) acc C) hc ok hN hx ht he h2 fun D C ys H' s' hD hC hDC nD nC q hm hI => ?_
  obtain ⟨m, hm⟩ := hm
  exact ⟨m, hm, fun h' hs' => ⟨.ref D, upd H' D (.lst ys), hI h' s'.toks hs', rfl, q D nD⟩⟩
def tSetComp (i : Nat) (t : TE) : TS := fun D σ H => t σ H fun v H1 => D.nx (σ.set i (some v)) H1
theorem ps_setComp {elt iter : Expr} {ifs : List Expr} {scope : Scope} {pos spos py : Pos} {x y : Str} {px : Pos} {M : List Str} {idx : List Nat} {wi : TI} {tc : TT} {te : TE} {i : Nat}
    (hNd : X.N.Nodup) (hi' : X.N[i]? = some y) (hy : Loc X.env.scope y)
    (hc : X.calm = true) (hi : PI X (.Name x px) iter wi) (ok : CompOk X scope M idx) (hN : (x :: M).Nodup) (hx : scope.names.lookup x = some .local ∨ scope.names.lookup x = some .cell)
    (ht : ∀ cells C s2 H2 fp, PTs (X.comp scope cells C (x :: M) s2 H2 fp) ifs tc) (he : ∀ cells C s2 H2 fp, PE (X.comp scope cells C (x :: M) s2 H2 fp) elt te)
    (hs : ∀ x, foldedSetIterable iter X.env x = pure x := by intro _; rfl)
    (hsw : swapsWith (.ListComp elt [⟨.Name x px, iter, ifs, 0⟩] scope pos) (some (.Name y py)) spos.line X.env = pure true := by rfl)
    (hf : X.fn y = true ∨ X.env.scope.names.lookup y = some .local := by first | exact .inl rfl | exact .inr rfl | assumption) :
    PS X (.Assign [.Name y py] (.ListComp elt [⟨.Name x px, iter, ifs, 0⟩] scope pos) spos) (tSetComp i (tCompIf wi idx tc te)) := by
  intro pins s σ H D I h
  rw [exec_Assign_Name_used _ _ _ _ hsw]
  refine wpAny_bind (wpAny_standAt (wpAny_bind ?_))
  show wpAny _ X.A (do let _ ← comprehension (.ListComp elt [⟨.Name x px, iter, ifs, 0⟩] scope pos) scope X.env _ (newList []) false (eval iter X.env) (some (assign (.Name y py) X.env))) _ _ s
  refine wpAny_bind (wpAny_mono (wpAny_comprehension_free (use := some (assign (.Name y py) X.env)) (Q := fun _ s' => SP X pins D .next s') rfl hs (closureFor_cl fun y hy e => I.ok.has y.1 (ok.fre y hy e)) ok.kind ok.loc
    (thn (hi pins s σ H _ I h) fun v s1 h1 => thn h1 fun itv s2 h2 => ?_)) (fun _ s' hq => wpAny_pure (wpAny_pure hq)) fun _ _ e => e)
  have I2 : ∃ H', Inv X pins σ H' s2 := let ⟨_, _, _, _, H', _, I2, _⟩ := h2; ⟨H', I2⟩
  refine comp_block (RR := fun acc C => compPost (model X.prog X.w) X.A X.xe (some (assign (.Name y py) X.env)) (fun _ s' => SP X pins D .next s') acc C) hc ok hN hx ht he h2 fun L C ys H' s' hD hC hDC nD nC q hm hI => ?_
  obtain ⟨H2, I2⟩ := I2
  obtain ⟨m, hm⟩ := hm
  have I5 : Inv X pins σ (upd H' L (.lst ys)) s' := hI s'.heap s'.toks (Heap.SameBut.refl ..)
  obtain ⟨mL, hmL, _⟩ := id I2.loc
  have ltL : X.env.locals < s2.heap.objs.size := hmL.lt
  have neL : C ≠ X.env.locals := Nat.ne_of_gt (Nat.lt_of_lt_of_le ltL hC)
  have neCell : ∀ z c, X.env.cells.lookup z = some c → c ≠ C := fun z c e => by
    obtain ⟨v, q⟩ := I2.cell z c e
    exact Nat.ne_of_lt (Nat.lt_of_lt_of_le q.lt hC)
  show wpAny _ X.A (assign (.Name y py) X.env (.ref L)) _ _ _
  refine wpAny_assign_Name (store_ok2 (v := .ref L) I5 hNd hi' hy rfl (fun s6 I6 hch => ?_) hf)
  obtain ⟨a, hsa, ha⟩ := hch
  have neA : C ≠ a := by
    rcases ha with e | e
    · rw [e]; exact neL
    · exact Ne.symm (neCell y a e)
  refine ⟨m, hm.sameBut hsa neA, fun h' hs' => ?_⟩
  refine ⟨_, _, I6.turned (it := C) (t' := s6.toks) (fun b o hb e => (hs'.2 b hb).trans e) (by rw [upd_ne (Ne.symm hDC)]; exact nC) neL (.inr (Nat.le_trans I2.sz hC)) neCell (fun p hp z => ?_), q L nD⟩
  have e2 := (I2.pin p hp).1
  exact absurd (Nat.lt_of_lt_of_le (Heap.lt_size e2) hC) (by rw [z]; exact Nat.lt_irrefl _)
end
theorem compW_list {K : PySem.W.Frag} {a : Addr} {xs : List V} {H : Hp} {one : V → Hp → (Option V → Hp → Prop) → Prop} {Q : List V → Hp → Prop} (Pv : Nat → List V → Hp → Prop) (h0 : Pv 0 [] H) (hn : xs.length ≤ sizeLine)
    (hl : ∀ i ys H, i ≤ xs.length → Pv i ys H → SqL K H a xs) (hs : ∀ i x ys H, xs[i]? = some x → Pv i ys H → one x H fun o H2 => Pv (i + 1) (ys ++ o.toList) H2) (hd : ∀ ys H, Pv xs.length ys H → Q ys H) : CompW (Itl K a) H one Q := by
  refine ⟨xs.length, fun i ys H => i ≤ xs.length ∧ Pv i ys H, ⟨Nat.zero_le _, h0⟩, hn, ?_⟩
  rintro i ys H ⟨hi, p⟩
  have q := hl i ys H hi p
  by_cases hlt : i < xs.length
  · refine .inr ⟨⟨xs, xs[i], q, by simp [hlt]⟩, hlt, fun o H3 => Pv (i + 1) (ys ++ o.toList) H3, fun o H3 z => ⟨hlt, z⟩, fun x H2 y => ?_⟩
    obtain ⟨e, y⟩ := y
    subst e
    exact hs i x ys _ (y xs q) p
  · have e : i = xs.length := by omega
    subst e
    exact .inl ⟨⟨xs, q, Nat.le_refl _⟩, hd ys H p⟩
theorem compW_tup {K : PySem.W.Frag} {a : Addr} {xs : List V} {H : Hp} {one : V → Hp → (Option V → Hp → Prop) → Prop} {Q : List V → Hp → Prop} (Pv : Nat → List V → Hp → Prop) (h0 : Pv 0 [] H) (hn : xs.length ≤ sizeLine)
    (hl : ∀ i ys H, i ≤ xs.length → Pv i ys H → SqT K H a xs) (hs : ∀ i x ys H, xs[i]? = some x → Pv i ys H → one x H fun o H2 => Pv (i + 1) (ys ++ o.toList) H2) (hd : ∀ ys H, Pv xs.length ys H → Q ys H) : CompW (Itt K a) H one Q := by
  refine ⟨xs.length, fun i ys H => i ≤ xs.length ∧ Pv i ys H, ⟨Nat.zero_le _, h0⟩, hn, ?_⟩
  rintro i ys H ⟨hi, p⟩
  have q := hl i ys H hi p
  by_cases hlt : i < xs.length
  · refine .inr ⟨⟨xs, xs[i], q, by simp [hlt]⟩, hlt, fun o H3 => Pv (i + 1) (ys ++ o.toList) H3, fun o H3 z => ⟨hlt, z⟩, fun x H2 y => ?_⟩
    obtain ⟨e, y⟩ := y
    subst e
    exact hs i x ys _ (y xs q) p
  · have e : i = xs.length := by omega
    subst e
    exact .inl ⟨⟨xs, q, Nat.le_refl _⟩, hd ys H p⟩
theorem compW_range {lo : Int} {n : Nat} {H : Hp} {one : V → Hp → (Option V → Hp → Prop) → Prop} {Q : List V → Hp → Prop} (Pv : Nat → List V → Hp → Prop) (h0 : Pv 0 [] H) (hn : n ≤ sizeLine)
    (hs : ∀ i ys H, i < n → Pv i ys H → one (.int (lo + i)) H fun o H2 => Pv (i + 1) (ys ++ o.toList) H2) (hd : ∀ ys H, Pv n ys H → Q ys H) : CompW (Itr lo n) H one Q := by
  refine ⟨n, fun i ys H => i ≤ n ∧ Pv i ys H, ⟨Nat.zero_le _, h0⟩, hn, ?_⟩
  rintro i ys H ⟨hi, p⟩
  by_cases hlt : i < n
  · refine .inr ⟨hlt, hlt, fun o H3 => Pv (i + 1) (ys ++ o.toList) H3, fun o H3 z => ⟨hlt, z⟩, fun x H2 y => ?_⟩
    obtain ⟨e, y⟩ := y
    subst e y
    exact hs i ys _ hlt p
  · have e : i = n := by omega
    subst e
    exact .inl ⟨Nat.le_refl _, hd ys H p⟩
end L2
namespace L2
open PySem PySem.Spec PyProof.Rows
mutual
inductive IsD (H : Hp) : V → PyData → Prop
  | non : IsD H .non .none
  | bl (b : Bool) : IsD H (.bl b) (.bool b)
  | int (i : Int) : IsD H (.int i) (.int i)
  | str (x : Str) : IsD H (.str x) (.str x)
  | tup {a : Addr} {xs : List V} {ds : List PyData} : H a = some (.tup xs) → IsDs H xs ds → IsD H (.ref a) (.tuple ds)
inductive IsDs (H : Hp) : List V → List PyData → Prop
  | nil : IsDs H [] []
  | cons {x : V} {xs : List V} {d : PyData} {ds : List PyData} : IsD H x d → IsDs H xs ds → IsDs H (x :: xs) (d :: ds)
end
section
variable {X : Cx} {pins : List (Addr × Obj)} {σ : St} {H : Hp} {s : Shared}
mutual
theorem IsD.reads {P : Program} {w : World} {h : Heap} {H : Hp} (I : HOk P w H h) : ∀ {v : V} {d : PyData} {u : Value}, IsD H v d → RelV v u → ∃ as, Reads h u d as
  | _, _, u, .non, r => by cases (show u = Value.none from r); exact ⟨_, .none⟩
  | _, _, u, .bl b, r => by cases (show u = Value.bool b from r); exact ⟨_, .bool b⟩
  | _, _, u, .int i, r => by obtain ⟨t, rfl⟩ := (show ∃ t, u = Value.int i t from r); exact ⟨_, .int i t⟩
  | _, _, u, .str x, r => by obtain ⟨t, rfl⟩ := (show ∃ t, u = Value.str x t from r); exact ⟨_, .str x t⟩
  | _, _, u, .tup (a := a) (xs := xs) e rs, r => by
    cases (show u = Value.ref a from r)
    obtain ⟨_, its, rv, o, h1, h2, n, h3⟩ := (show ObjOk P w H h a (.tup xs) from I a _ e)
    obtain ⟨as, hr⟩ := IsDs.reads I rs rv
    exact ⟨as, .tuple h1 h2 h3 (by simpa using hr)⟩
theorem IsDs.reads {P : Program} {w : World} {h : Heap} {H : Hp} (I : HOk P w H h) : ∀ {xs : List V} {ds : List PyData} {us : List Value}, IsDs H xs ds → Vals xs us → ∃ as, ReadsAll h us ds as
  | _, _, _, .nil, .nil => ⟨_, .nil⟩
  | _, _, _, .cons h r, .cons v vs => by
    obtain ⟨as, h1⟩ := IsD.reads I h v
    obtain ⟨bs, h2⟩ := IsDs.reads I r vs
    exact ⟨_, .cons h1 h2⟩
end
def CmpD (u : Nat) (dx dy : PyData) : Prop := dx.canLay0 = true ∧ dy.canLay0 = true ∧ dx.depth ≤ 20
def rEqD (u : Nat) : R2 := fun x y H Q => ∃ dx dy, IsD H x dx ∧ IsD H y dy ∧ CmpD u dx dy ∧ Q (.bl (PyData.eqv dx dy)) H
def rNeD (u : Nat) : R2 := fun x y H Q => ∃ dx dy, IsD H x dx ∧ IsD H y dy ∧ CmpD u dx dy ∧ Q (.bl (!PyData.eqv dx dy)) H
theorem unitsD {A : Around} {a b : Nat} (hu : A.units + 64 < cLine) (h : a ≤ 20) : A.units + min a b < cLine := by
  have : min a b ≤ a := Nat.min_le_left _ _
  omega
theorem op_eqD (hu : X.A.units + 64 < cLine) : OpR X (compareOp .Eq) (rEqD 0) := by
  intro pins s σ H x y v u Q I rx ry h
  obtain ⟨dx, dy, hx, hy, ⟨c1, c2, c3⟩, q⟩ := h
  obtain ⟨as, r1⟩ := hx.reads I.hok rx
  obtain ⟨bs, r2⟩ := hy.reads I.hok ry
  exact PySem.SeqAt.compareEq_reads r1 r2 c1 c2 (unitsD hu c3) ⟨.bl _, H, I, rfl, q⟩
theorem op_neD (hu : X.A.units + 64 < cLine) : OpR X (compareOp .NotEq) (rNeD 0) := by
  intro pins s σ H x y v u Q I rx ry h
  obtain ⟨dx, dy, hx, hy, ⟨c1, c2, c3⟩, q⟩ := h
  obtain ⟨as, r1⟩ := hx.reads I.hok rx
  obtain ⟨bs, r2⟩ := hy.reads I.hok ry
  exact PySem.SeqAt.compareNe_reads r1 r2 c1 c2 (unitsD hu c3) ⟨.bl _, H, I, rfl, q⟩
theorem call_sum (hc : X.calm = true) : CallR X (.builtin "sum") (fun xs H Q => ∃ (p : Addr) (ns : List Int), xs = [.ref p] ∧ SqL X.K H p (ns.map V.int) ∧ Q (.int ns.sum) H) := by
  intro pins s σ H xs us Q I r h
  obtain ⟨p, ns, rfl, hS, q⟩ := h
  obtain ⟨u, rfl, e⟩ := vals1 r
  obtain rfl : u = Value.ref p := e
  obtain ⟨its, hv, ⟨o, n, h1, h2, h3, h4⟩, _⟩ := I.list hS
  have hi : IntsAre its ns := intsAre_of hv
  obtain ⟨xs, hx⟩ := hi.allInts.items
  have hl : s.heap.IsList p its.toArray := ⟨o, h1, h2, n, h4⟩
  refine sum_intListG (I.ok.hd hc) (hx ▸ hl) fun h' tk t' hk => ⟨.int ns.sum, H, I.kept hk, ⟨t', ?_⟩, q⟩
  have e1 : ns = xs.toList.map (·.1) := by
    rw [← nums_intItems, ← hx]
    exact (show numsOf its.toArray.toList = ns from hi.numsOf).symm
  rw [preSum_eq, List.take_of_length_le (by simp), e1]
def kindV (K : PySem.W.Frag) (H : Hp) (x : V) (T : String) : Prop := match x with
  | .non => T = "NoneType"
  | .bl _ => T = "bool"
  | .int _ => T = "int"
  | .str _ => T = "str"
  | .ref a => (T = "tuple" ∧ ∃ xs, H a = some (.tup xs)) ∨ (T = "list" ∧ ∃ xs, H a = some (.lst xs))
  | _ => False
theorem kind_ty {K : PySem.W.Frag} {H : Hp} {x : V} {T : String} (h : kindV K H x T) : TyOf K H x (.type T) := by
  cases x with
  | non => cases (show T = _ from h); exact .non
  | bl b => cases (show T = _ from h); exact .bl b
  | int i => cases (show T = _ from h); exact .int i
  | str i => cases (show T = _ from h); exact .str i
  | ref a =>
    rcases h with ⟨rfl, xs, e⟩ | ⟨rfl, xs, e⟩
    · exact .tup e
    · exact .lst e
  | byt b => exact h.elim
  | flt b => exact h.elim
  | ty n => exact h.elim
theorem call_isinst : CallR X (.builtin "isinstance") (fun xs H Q => ∃ (x : V) (T C : String) (b : Bool), xs = [x, .ty C] ∧ kindV X.K H x T ∧ PySem.W.kitOne X.K (.type T) (.type C) = some b ∧ Q (.bl b) H) := by
  intro pins s σ H xs us Q I r h
  obtain ⟨x, T, C, b, rfl, ty, e, q⟩ := h
  obtain ⟨u, c, rfl, rx, rc⟩ := vals2 r
  cases (show c = Value.type C from rc)
  exact isinst_ok I rx (kind_ty ty) e fun tk => ⟨.bl b, H, I.tok tk, rfl, q⟩
theorem op_fdivB : OpR X (binaryOp .FloorDiv) (rI (fun _ j => 0 < j ∧ j < 2 ^ 62) fun i j => .int (i / j)) := opI fun i j _ _ _ _ _ hc q => by
  rw [← Int.fdiv_eq_ediv_of_nonneg i (Int.le_of_lt hc.1)] at q
  refine floordiv_int (by omega) q (.inl (PyProof.noPylong_of_log2 ?_))
  have h1 : j.natAbs < 2 ^ 62 := by omega
  have h2 : j.natAbs ≠ 0 := by omega
  have := (Nat.log2_lt h2).mpr h1
  omega
end
end L2
namespace L2
open PySem PySem.Spec PyProof.Rows
def Raw (K : PySem.W.Frag) (mg : Str → Option Value) (x : Str) (ps : List Str) (st : Stmt) : Prop :=
  ∃ (f : Addr) (fd : FuncData), Fun K x x st f fd ∧ mg x = some (.ref f) ∧ Binds K fd ps []
def Df (P : Program) (w : World) (K : PySem.W.Frag) (mg : Str → Option Value) (base : Heap) (k : Nat) (x : Str) (ps : List Str) (sp : Sp) : Prop :=
  ∃ (f : Addr) (fd : FuncData), FnOk P w K mg base CX0 k f fd ps sp ∧ mg x = some (.ref f) ∧ PySem.W.keepIn K (.ref f) = true ∧ Binds K fd ps [] ∧ ∃ st, Fun K x x st f fd
section
variable {P : Program} {w : World} {K : PySem.W.Frag} {mg : Str → Option Value} {base : Heap}
theorem Raw.ok {x : Str} {ps N : List Str} {st : Stmt} {k : Nat} {sp : Sp} (R : Raw K mg x ps st) (S : FnScope N ps (defScope st)) (len : ∀ vs H Q E, sp vs H Q E → vs.length = ps.length)
    (hbody : ∀ (f : Addr) (cdv : Value) (A : Around) (outer : List Env) (s : Shared) (H : Hp) (vs : List V) (Q : VK) (E : XK), Room k (A.deeper (envOfC x (defScope st) s.heap.objs.size f cdv)) → sp vs H Q E →
      ∃ t, PSs (cxOf CX0 P w K mg base N x (defScope st) f cdv A outer s H E).nox (defBody st) t ∧ t { nx := fun _ H' => Q .non H', rt := Q } (start N vs) H) : Df P w K mg base (k + 1) x ps sp := by
  obtain ⟨f, fd, F, m, b⟩ := R
  exact ⟨f, fd, F.ok S len (fun cdv A outer s H vs Q E hr h => hbody f cdv A outer s H vs Q E hr h), m, F.kp, b, st, F⟩
end
theorem pe_df {X : Cx} {k : Nat} {x : Str} {ps : List Str} {sp : Sp} {p pos : Pos} {e : Expr} {es : List Expr} {t : TA} (D : Df X.prog X.w X.K X.mg X.base k x ps sp) (hr : Room k X.A) (ha : PA X (e :: es) t) (hg : Gl X x := by rfl)
    (hdb : (x == ("__debug__" : Str)) = false := by decide) (he : starEach (e :: es) X.env = (false, eval e X.env) :: starEach es X.env := by rfl) (hpl : (backTo pos (starEach es X.env)).any (·.1) = false := by rfl) :
    PE X (.Call (.Name x p) (e :: es) [] pos) (tCall sp [] E0 t) := by
  obtain ⟨f, fd, F, m, kp, b, _⟩ := D
  exact pe_call F hr hg m kp b .nil pass0 ha hdb he hpl
def KeepBut (d : Addr) (H H' : Hp) : Prop := ∀ b o, H b = some o → b ≠ d → H' b = some o
theorem KeepBut.trans {d : Addr} {H H1 H2 : Hp} (a : KeepBut d H H1) (b : KeepBut d H1 H2) : KeepBut d H H2 := fun c o h n => b c o (a c o h n) n
theorem KeepBut.upd {d p : Addr} {H H1 : Hp} {o : HO} (a : KeepBut d H H1) (hp : H1 p = none) : KeepBut d H (upd H1 p o) := fun c u h n => by
  rw [upd_ne (ne_of_none (a c u h n) hp)]; exact a c u h n
structure DeckAt (H : Hp) (d c : Addr) (ns : List Int) (k : Nat) (r : Int) (m : Nat) (t : Int) : Prop where
  deck : H d = some (.lst [.ref c, .int k, .int r, .int m, .int t])
  cut : H c = some (.lst (ns.map V.int))
  kle : k ≤ ns.length
  few : ns.length ≤ 63
  rnn : 0 ≤ r
def Deck (H : Hp) (d : Addr) (n : Nat) : Prop := ∃ c ns k r m t, DeckAt H d c ns k r m t ∧ m ≤ n
theorem Deck.more {H : Hp} {d : Addr} {n m : Nat} (D : Deck H d n) (h : n ≤ m) : Deck H d m := let ⟨c, ns, k, r, j, t, D, hj⟩ := D; ⟨c, ns, k, r, j, t, D, Nat.le_trans hj h⟩
theorem Deck.keep {H H' : Hp} {d : Addr} {n : Nat} (D : Deck H d n) (h : Same H H') : Deck H' d n :=
  let ⟨c, ns, k, r, m, t, D, hm⟩ := D; ⟨c, ns, k, r, m, t, ⟨h _ _ D.deck, h _ _ D.cut, D.kle, D.few, D.rnn⟩, hm⟩
theorem Deck.upd {H : Hp} {d p : Addr} {n : Nat} {o : HO} (D : Deck H d n) (hp : H p = none) : Deck (upd H p o) d n := D.keep fun b u e => by rw [upd_ne (ne_of_none e hp)]; exact e
theorem same_upd {H : Hp} {p : Addr} {o : HO} (hp : H p = none) : Same H (upd H p o) := fun b u e => by rw [upd_ne (ne_of_none e hp)]; exact e
theorem Same.but {H H' : Hp} (s : Same H H') (d : Addr) : KeepBut d H H' := fun a o e _ => s a o e
end L2
namespace L2
open PySem PySem.Spec PyProof.Rows
section
variable {X : Cx} {tg l : Expr}
theorem op_eqA (hu : X.A.units + 64 < cLine) : OpR X (compareOp .Eq) (fun x y H Q => rEq x y H Q ∨ rEqD 0 x y H Q) := op_eq.or (op_eqD hu)
theorem op_neA (hu : X.A.units + 64 < cLine) : OpR X (compareOp .NotEq) (fun x y H Q => rNe x y H Q ∨ rNeD 0 x y H Q) := op_ne.or (op_neD hu)
theorem pi_or {w1 w2 : TI} (h1 : PI X tg l w1) (h2 : PI X tg l w2) : PI X tg l (fun σ H R => w1 σ H R ∨ w2 σ H R) := fun pins s σ H R I h => h.elim (h1 pins s σ H R I) (h2 pins s σ H R I)
theorem pi_seq {tl : TE} (hl : PE X l tl) : PI X tg l (fun σ H R => iList X.K tl σ H R ∨ iTup X.K tl σ H R) := pi_or (pi_list hl) (pi_tup hl)
end
theorem bt_tuple : bootBuiltins "tuple" = some (.type "tuple") := by decide +kernel
theorem bt_int : bootBuiltins "int" = some (.type "int") := by decide +kernel
theorem bt_bool : bootBuiltins "bool" = some (.type "bool") := by decide +kernel
theorem bt_len : bootBuiltins "len" = some (.builtin "len") := by decide +kernel
theorem bt_sum : bootBuiltins "sum" = some (.builtin "sum") := by decide +kernel
theorem bt_max : bootBuiltins "max" = some (.builtin "max") := by decide +kernel
theorem bt_abs : bootBuiltins "abs" = some (.builtin "abs") := by decide +kernel
theorem bt_isinstance : bootBuiltins "isinstance" = some (.builtin "isinstance") := by decide +kernel
end L2
namespace L2
open PySem PySem.Spec PyProof.Rows
def compB (outer : List (Str × NameKind)) (scope : Scope) (M : List Str) (idx : List Nat) (N : List Str) : Bool :=
  scope.kind == .function && (scope.names.all fun y => (y.2 != .local || scope.names.lookup y.1 == some .local) && (y.2 != .cell || scope.names.lookup y.1 == some .cell) && (y.2 != .free || (outer.lookup y.1 == some .cell || outer.lookup y.1 == some .free)))
    && idx.length == M.length && (M.zip idx).all fun p => scope.names.lookup p.1 == some .free && N[p.2]? == some p.1
theorem compOk {X : Cx} {scope : Scope} {M : List Str} {idx : List Nat} (h : compB X.env.scope.names scope M idx X.N = true) : CompOk X scope M idx := by
  unfold compB at h
  simp only [Bool.and_eq_true] at h
  obtain ⟨⟨⟨h1, h2⟩, h3⟩, h4⟩ := h
  have h2' := List.all_eq_true.mp h2
  refine ⟨by simpa using h1, fun y hy e => ?_, fun y hy e => ?_, fun y hy e => ?_, by simpa using h3, fun j y ej => ?_⟩
  · have := h2' y hy
    simp [e] at this
    exact this
  · have := h2' y hy
    simp [e] at this
    exact this
  · have := h2' y hy
    simp [e] at this
    exact this
  · have hl : idx.length = M.length := by simpa using h3
    have hj : j < M.length := (List.getElem?_eq_some_iff.mp ej).1
    have hk : idx[j]? = some (idx[j]'(by omega)) := by simp [hl, hj]
    have hz : (M.zip idx)[j]? = some (y, idx[j]'(by omega)) := by
      rw [List.getElem?_zip_eq_some]
      exact ⟨ej, hk⟩
    have := List.all_eq_true.mp h4 _ (List.mem_of_getElem? hz)
    simp only [Bool.and_eq_true, beq_iff_eq] at this
    exact ⟨this.1, _, hk, this.2⟩
end L2
namespace L2
open PySem PySem.Spec PyProof.Rows
def SpLaw (K : PySem.W.Frag) : Sp := fun vs H Q _ => ∃ (a : Addr) (ns : List Int), vs = [.ref a] ∧ SqL K H a (ns.map V.int) ∧ ns.length ≤ 63 ∧ ∀ H', Q (.bl true) H'
theorem walk_df {l : PySem.W.OpenLaw} {k : Nat} {q : Program} {loose : List Str} {XP : (Str → Option Value) → Heap → Prop} {YP : World → Heap → Prop} {d : DefRec} {K : Params → PySem.W.Frag} {st : Stmt}
    (hn : l.most = some 63) (hdf : d.params.defaults = []) (hdn : d.name = "law") (hr : Room k callerA)
    (hY : ∀ (w : World) (h : Heap), YP w h → (K w.params).In h)
    (hbind : ∀ (kV doc pm : Value) (an : Option Addr) (cdv ct v : Value), bindArgs (PySem.W.fnOf "law" "law" (defArgs st) (defBody st) (defScope st) .none kV doc pm an cdv ct) ⟨[v], []⟩ = pure [(("script" : Str), v)])
    (F : ∀ (w : World) (mg : Str → Option Value) (h : Heap), (K w.params).In h → h.Ns mainGlobals mg → Raw (K w.params) mg "law" ["script"] st ∧ ∀ base : Heap, Df l.prog w (K w.params) mg base k "law" ["script"] (SpLaw (K w.params))) :
    PySem.W.WalkO q loose XP YP l.row.toRowW d [] (fun f vs => PySem.call f vs) := by
  refine L2.walk_of (n := 63) (k := k) (x := "script") (CX := fun _ => CX0) (sp := fun w => SpLaw (K w.params)) hn (by decide) hdf hr hY (fun w mg fa h KX G hmg => ?_) (fun w H a ns hl _ hS => ⟨a, ns, rfl, hS, hl, fun _ => rfl⟩) fun _ _ _ _ _ z => z
  obtain ⟨⟨f, fd, R, m, b⟩, D⟩ := F w mg h KX G
  rw [hdn] at hmg
  have e := hmg.symm.trans m
  cases e
  obtain ⟨oc, od, kV, doc, pm, an, cdv, ct, osl, e1, e2, _⟩ := R.ex
  refine ⟨fd, fun s v => .of_eq (by rw [e1]; exact hbind kV doc pm an cdv ct v), fun base _ _ => ?_⟩
  obtain ⟨f', fd', G', m', _, _, st', R'⟩ := D base
  have e := hmg.symm.trans m'
  cases e
  obtain ⟨oc', od', kV', doc', pm', an', cdv', ct', osl', e1', e2', _⟩ := R'.ex
  rw [e2] at e2'
  cases e2'
  exact G'
end L2
namespace L2
open PySem PySem.Spec PyProof.Rows
end L2
namespace L2
theorem tSeq_cut {t u : TS} {D : Ends} {σ : St} {H : Hp} (R : St → Hp → Prop) (hu : ∀ σ H, R σ H → u D σ H) (ht : (∀ σ H, R σ H → u D σ H) → t { D with nx := u D } σ H) : tSeq t u D σ H := ht hu
end L2
namespace L2
open PySem PySem.Spec PyProof.Rows
section
variable {X : Cx} {K : PySem.W.Frag} {tg l a b : Expr} {ta tb tl : TE} {pos : Pos}
theorem call_lenK (h : X.K = K) : CallR X (.builtin "len") (fun xs H Q => ∃ x n, xs = [x] ∧ LenV K x H n ∧ Q (.int n) H) := by subst h; exact call_len
theorem call_tupleK (h : X.K = K) : CallR X (.type "tuple") (fun xs H Q => ∃ p ys, xs = [.ref p] ∧ ((SqL K H p ys ∧ ∀ l, H l = none → Q (.ref l) (upd H l (.tup ys))) ∨ (SqT K H p ys ∧ Q (.ref p) H))) := by subst h; exact call_tuple_of
theorem call_sumK (h : X.K = K) (hc : X.calm = true) : CallR X (.builtin "sum") (fun xs H Q => ∃ (p : Addr) (ns : List Int), xs = [.ref p] ∧ SqL K H p (ns.map V.int) ∧ Q (.int ns.sum) H) := by subst h; exact call_sum hc
theorem call_isinstK (h : X.K = K) : CallR X (.builtin "isinstance") (fun xs H Q => ∃ (x : V) (T C : String) (b : Bool), xs = [x, .ty C] ∧ kindV K H x T ∧ PySem.W.kitOne K (.type T) (.type C) = some b ∧ Q (.bl b) H) := by subst h; exact call_isinst
theorem ix_seqK (h : X.K = K) : IxR X (rIx K) := by subst h; exact ix_seq
theorem pi_seqK (h : X.K = K) (hl : PE X l tl) : PI X tg l (fun σ H R => iList K tl σ H R ∨ iTup K tl σ H R) := by subst h; exact pi_seq hl
theorem pg_tupK {es : List Expr} {k : Nat} {t : TGs} {n : Nat} (h : X.K = K) (hc : X.calm = true) (hg : PGs X es t)
    (hn : (assignEach es X.env).length = n := by rfl) (hst : (assignEach es X.env).findIdx? (·.1) = none := by rfl) : PG X (.Tuple es k pos) (gTup K n t) := by subst h; exact pg_tup hc hg hn hst
end
end L2
namespace L2
theorem oneT {te : TE} {σ : St} {x : V} {H : Hp} {k : Option V → Hp → Prop} (h : te (some x :: σ) H fun v H2 => k (some v) H2) : oneOf ttTrue te σ x H k := by
  show if true = true then (te (some x :: σ) H fun v H2 => k (some v) H2) else k none H
  rw [if_pos rfl]
  exact h
end L2
namespace L2
open PySem PySem.Spec PyProof.Rows
end L2
namespace L2
end L2
namespace L2
end L2
namespace L2
open PySem PySem.Spec PyProof.Rows
def cellV : Option Int → V
  | none => .non
  | some i => .int i
def cellD : Option Int → PyData
  | none => .none
  | some i => .int i
theorem isCell {H : Hp} : ∀ c : Option Int, IsD H (cellV c) (cellD c)
  | none => .non
  | some i => .int i
theorem isCells {H : Hp} : ∀ r : List (Option Int), IsDs H (r.map cellV) (r.map cellD)
  | [] => .nil
  | c :: r => .cons (isCell c) (isCells r)
theorem atI_mem {α : Type} {xs : List α} {i : Int} (h0 : 0 ≤ i) (h1 : i < xs.length) : ∃ v, atI xs i = some v ∧ v ∈ xs := by
  obtain ⟨j, rfl⟩ := Int.eq_ofNat_of_zero_le h0
  have hj : j < xs.length := by omega
  exact ⟨xs[j], atI_nat (by simp [hj]), List.getElem_mem hj⟩
theorem canLay_cell (c : Option Int) : (cellD c).canLay0 = true := by cases c <;> rfl
theorem canLay_cells : ∀ r : List (Option Int), PyData.canLayAll0 (r.map cellD) = true
  | [] => rfl
  | c :: r => by rw [List.map_cons, PyData.canLayAll0, canLay_cell, canLay_cells r]; rfl
theorem depth_cell (c : Option Int) : (cellD c).depth = 0 := by cases c <;> rfl
theorem depth_cells : ∀ r : List (Option Int), PyData.depthAll (r.map cellD) = 0
  | [] => rfl
  | c :: r => by rw [List.map_cons, PyData.depthAll, depth_cell, depth_cells r]; rfl
theorem eqv_cell (a b : Option Int) : PyData.eqv (cellD a) (cellD b) = decide (a = b) := by
  cases a with
  | none => cases b <;> rfl
  | some i =>
    cases b with
    | none => rfl
    | some j =>
      show (i == j) = decide (some i = some j)
      by_cases h : i = j
      · subst h; simp
      · have : ¬ (some i = some j) := fun e => h (Option.some.inj e)
        rw [decide_eq_false this]; simpa using h
theorem eqv_cells : ∀ a b : List (Option Int), PyData.eqvAll (a.map cellD) (b.map cellD) = decide (a = b)
  | [], [] => rfl
  | [], _ :: _ => rfl
  | _ :: _, [] => rfl
  | x :: a, y :: b => by
    rw [List.map_cons, List.map_cons, PyData.eqvAll, eqv_cell, eqv_cells a b]
    by_cases h1 : x = y
    · by_cases h2 : a = b
      · simp [h1, h2]
      · simp [h1, h2]
    · simp [h1]
end L2
namespace L2
open PySem PySem.Spec PyProof.Rows
end L2
namespace L2
open PySem PySem.Spec PyProof.Rows
inductive Rule where
  | there | near | turned | round | told (c : Option Int)
def led : Rule → Int → Int → Int
  | .near, p, n => min (max p 0) (n - 1)
  | .turned, p, n => min (p % (2 * n)) (2 * n - 1 - p % (2 * n))
  | _, p, n => p % n
theorem led_in (r : Rule) (p : Int) {n : Int} (h : 1 ≤ n) : 0 ≤ led r p n ∧ led r p n < n := by
  have a := Int.emod_nonneg p (show n ≠ 0 by omega)
  have b := Int.emod_lt_of_pos p (show 0 < n by omega)
  have c := Int.emod_nonneg p (show 2 * n ≠ 0 by omega)
  have d := Int.emod_lt_of_pos p (show 0 < 2 * n by omega)
  cases r <;> simp only [led] <;> omega
def cellAt (F : List (List (Option Int))) (i j : Int) : Option Int := ((F[i.toNat]?).bind fun r => r[j.toNat]?).join
def inF (F : List (List (Option Int))) (i j : Int) : Bool := decide (0 ≤ i) && decide (i < F.length) && (decide (0 ≤ j) && decide (j < (F.headD []).length))
def stands (F : List (List (Option Int))) (r : Rule) (i j : Int) : List (Option Int) :=
  if inF F i j then [cellAt F i j] else match r with
    | .there => []
    | .told c => [c]
    | r => [cellAt F (led r i F.length) (led r j (F.headD []).length)]
structure Rect (F : List (List (Option Int))) : Prop where
  h1 : 1 ≤ F.length
  hs : F.length ≤ 1000
  w1 : 1 ≤ (F.headD []).length
  ws : (F.headD []).length ≤ 1000
  row : ∀ r ∈ F, r.length = (F.headD []).length
end L2
namespace L2
open PySem PySem.Spec PyProof.Rows
end L2
namespace L2
open PySem PySem.Spec PyProof.Rows
end L2
namespace L2
open PySem PySem.Spec PyProof.Rows
end L2
namespace L2
open PySem PySem.Spec PyProof.Rows
def rowCells (F : List (List (Option Int))) (ru : Rule) (l r : Nat) (row j : Int) : List (Option Int) := (List.range (l + r + 1)).flatMap fun b => stands F ru row (j - l + (b : Nat))
def wc (F : List (List (Option Int))) (ru : Rule) (u d l r : Nat) (i j : Int) : List (Option Int) := (List.range (u + d + 1)).flatMap fun a => rowCells F ru l r (i - u + (a : Nat)) j
end L2
namespace L2
end L2
namespace HT
open PySem PyProof.Rows
section
variable {prog : Program} {w : World} {A : Around} {E : Value → Shared → Prop} {s : Shared}
set_option maxHeartbeats 4000000 in
theorem getItem_tuple_whole {t sl : Addr} {items : Array Value} {vl vu : Value} {lo hi : Option Int} {Q : Value → Shared → Prop} (ht : IsTup s.heap t items) (hs : s.heap.IsSliceOf sl vl vu .none) (pl : IsPart vl lo) (pu : IsPart vu hi)
    (hw : sIx items.size 0 lo = 0 ∧ sIx items.size items.size hi = items.size) (h : Q (.ref t) s) : wpAny (model prog w) A (getItem (.ref t) (.ref sl)) Q E s := by
  obtain ⟨os, hos, hcs, hds⟩ := id hs
  have hTs : s.TypeIs (.ref sl) "slice" := ⟨os, hos, hcs⟩
  unfold getItem
  try with_reducible refine wpAny_holding ?_
  first | refine wpAny_bind (wpAny_pure ?_) | skip
  refine wpAny_bind (wpAny_sequenceKey ht.typeIs (by decide) ?_)
  refine wpAny_bind (wpAny_callSpecial?_slot (name := Str.ofString "__getitem__") ht.typeIs PyProof.Rows.slot_tuple_getitem
    (wpAny_call_entry PyProof.Rows.slot_tuple_getitem ht.typeIs entry_tuple_getitem ?_ (args_tuple_getitem _ _)))
  show wpAny _ _ (Builtin.Tuple.tupleItemsOf (.ref t) >>= _) _ _ s
  refine wpAny_bind (tupleItemsOf_ ht ?_)
  refine wpAny_bind (wpAny_typeOf hTs ?_)
  rw [if_pos (by decide)]
  refine wpAny_bind (sliceApplied_gen hs pl pu ?_)
  rw [hw.1, hw.2]
  show wpAny _ _ (if ((((0 : Nat) : Int) == 0 && (1 : Int) == 1 && (items.size - 0) == items.size) = true) then _ else _) _ _ s
  rw [if_pos (by simp)]
  refine wpAny_bind ?_
  unfold Builtin.Tuple.tupleIsExact
  refine wpAny_bind (wpAny_typeOf ht.typeIs (wpAny_pure ?_))
  rw [if_pos (by decide)]
  first
    | exact wpAny_bind (wpAny_rule (wpAny_bind (wpAny_pure (wpAny_pure ⟨_, rfl, wpAny_pure h⟩))))
    | exact wpAny_bind (wpAny_rule (wpAny_pure ⟨_, rfl, wpAny_pure h⟩))
    | exact wpAny_rule (wpAny_bind (wpAny_pure (wpAny_pure ⟨_, rfl, wpAny_pure h⟩)))
end
end HT
namespace L2
open PySem PySem.Spec PyProof.Rows
section
variable {X : Cx}
def rSlTA : V → Option Int → Option Int → Hp → VK → Prop := fun x lo hi H Q => ∃ a xs, x = .ref a ∧ H a = some (.tup xs) ∧ ∀ p H', Same H H' → H' p = some (.tup (cutV xs lo hi)) → Q (.ref p) H'
theorem sl_tupA : SlR X rSlTA := by
  intro pins s σ H x v vl vu lo hi sl Q I rx hs pl pu h
  obtain ⟨a, xs, rfl, hx, q⟩ := h
  by_cases hw : HT.sIx xs.length 0 lo = 0 ∧ HT.sIx xs.length xs.length hi = xs.length
  · cases rx
    obtain ⟨its, r, ht, hz⟩ := I.tuple (SqT.of hx)
    have hlen : its.toArray.size = xs.length := by rw [List.size_toArray]; exact r.length.symm
    refine ⟨"tuple", _, PyProof.Rows.slot_tuple_getitem.lookup, ht.typeIs, ?_⟩
    refine HT.getItem_tuple_whole ht hs pl pu (by rw [hlen]; exact hw) ⟨.ref a, H, I, rfl, q a H (Same.refl H) ?_⟩
    rw [hx]
    unfold cutV
    rw [hw.1, hw.2, List.drop_zero, Nat.sub_zero, List.take_of_length_le (Nat.le_refl _)]
  · exact sl_tup pins s σ H _ v vl vu lo hi sl Q I rx hs pl pu ⟨a, xs, rfl, SqT.of hx, hw, fun p hp => q p _ (same_upd hp) upd_same⟩
def rNeL : R2 := fun x y H Q => ∃ p q xs ys dx dy, x = .ref p ∧ y = .ref q ∧ H p = some (.lst xs) ∧ H q = some (.lst ys) ∧ IsDs H xs dx ∧ IsDs H ys dy ∧ CmpD 0 (.list dx) (.list dy) ∧ Q (.bl (!PyData.eqvAll dx dy)) H
theorem list_reads {P : Program} {w : World} {H : Hp} {h : Heap} (I : HOk P w H h) {p : Addr} {xs : List V} {dx : List PyData} (hp : H p = some (.lst xs)) (hd : IsDs H xs dx) : ∃ as, Reads h (.ref p) (.list dx) as := by
  obtain ⟨_, its, n, r, e⟩ := (show ObjOk P w H h p (.lst xs) from I p _ hp)
  obtain ⟨as, hr⟩ := hd.reads I r
  exact ⟨_, .list e rfl rfl (by simpa using hr)⟩
theorem op_neL (hu : X.A.units + 64 < cLine) : OpR X (compareOp .NotEq) rNeL := by
  intro pins s σ H x y v u Q I rx ry h
  obtain ⟨p, q, xs, ys, dx, dy, rfl, rfl, hp, hq, hx, hy, ⟨c1, c2, c3⟩, qq⟩ := h
  cases rx
  cases ry
  obtain ⟨as, r1⟩ := list_reads I.hok hp hx
  obtain ⟨bs, r2⟩ := list_reads I.hok hq hy
  exact PySem.SeqAt.compareNe_reads r1 r2 c1 c2 (unitsD hu c3) ⟨.bl _, H, I, rfl, qq⟩
theorem op_neX (hu : X.A.units + 64 < cLine) : OpR X (compareOp .NotEq) (fun x y H Q => (rNe x y H Q ∨ rNeD 0 x y H Q) ∨ rNeL x y H Q) := (op_neA hu).or (op_neL hu)
theorem sl_X {K : PySem.W.Frag} (h : X.K = K) : SlR X (fun x lo hi H Q => rSlL K x lo hi H Q ∨ rSlTA x lo hi H Q) := by subst h; exact sl_list.or sl_tupA
end
end L2
namespace L2
open PySem PySem.Spec PyProof.Rows
end L2
namespace L2
open PySem PySem.Spec PyProof.Rows PySem.Builtin PySem.Builtin.Str
end L2
namespace L2
open PySem PySem.Spec PyProof.Rows
end L2
namespace HT
open PySem PyProof.Rows
end HT
namespace L2
open PySem PySem.Spec PyProof.Rows
end L2
namespace L2
open PySem PySem.Spec PyProof.Rows
end L2
namespace L2
open PySem
def dg (n : Nat) : List Nat := if h : n < 10 then [48 + n] else dg (n / 10) ++ [48 + n % 10]
termination_by n
decreasing_by omega
theorem dg_low {n : Nat} (h : n < 10) : dg n = [48 + n] := by rw [dg, dif_pos h]
theorem dg_high {n : Nat} (h : ¬ n < 10) : dg n = dg (n / 10) ++ [48 + n % 10] := by rw [dg, dif_neg h]
theorem dg_ind {p : Nat → Prop} (h1 : ∀ n, n < 10 → p n) (h2 : ∀ n, ¬ n < 10 → p (n / 10) → p n) (n : Nat) : p n := by
  induction n using Nat.strongRecOn with
  | ind n ih =>
    by_cases h : n < 10
    · exact h1 n h
    · exact h2 n h (ih (n / 10) (by omega))
theorem dg_len : ∀ (k n : Nat), n < 10 ^ (k + 1) → (dg n).length ≤ k + 1
  | 0, n, h => by rw [dg_low (by simpa using h)]; simp
  | k + 1, n, h => by
    by_cases z : n < 10
    · rw [dg_low z]; simp
    · rw [dg_high z, List.length_append]
      have := dg_len k (n / 10) (by rw [Nat.pow_succ] at h; omega)
      simp
      omega
def wordL : Option Int → List Nat
  | none => [46]
  | some i => (if i < 0 then [45] else []) ++ dg i.natAbs
def wordOf (c : Option Int) : Str := ⟨(wordL c).toArray⟩
theorem wordL_len (c : Option Int) (h : ∀ i, c = some i → -10000000000 < i ∧ i < 10000000000) : (wordL c).length ≤ 11 := by
  cases c with
  | none => simp [wordL]
  | some i =>
    have := h i rfl
    have := dg_len 9 i.natAbs (by show i.natAbs < 10000000000; omega)
    unfold wordL
    rw [List.length_append]
    split <;> simp <;> omega
theorem toDigits_dg (m : Nat) : (Nat.toDigits 10 m).map Char.toNat = dg m := by
  have back : ∀ d : Nat, d < 10 → (Nat.digitChar d).toNat = 48 + d := by decide
  induction m using dg_ind with
  | h1 m h =>
    rw [Nat.toDigits_of_lt_base h, dg_low h]
    show [(Nat.digitChar m).toNat] = _
    rw [back m h]
  | h2 m h ih =>
    have hm : m % 10 < 10 := Nat.mod_lt m (by decide)
    have t : Nat.toDigits 10 (m / 10) ++ Nat.toDigits 10 (m % 10) = Nat.toDigits 10 (10 * (m / 10) + m % 10) := Nat.toDigits_append_toDigits (by decide) (by omega) hm
    rw [Nat.div_add_mod] at t
    rw [← t, List.map_append, Nat.toDigits_of_lt_base hm, ih, dg_high h]
    show _ ++ [(Nat.digitChar (m % 10)).toNat] = _
    rw [back _ hm]
theorem str_word (i : Int) : Str.ofString (toString i) = wordOf (some i) := by
  rw [Str.ofString_eq_toList]
  unfold wordOf wordL
  congr 1
  cases i with
  | ofNat m =>
    show ((Nat.repr m).toList.map Char.toNat).toArray = _
    rw [Nat.toList_repr, toDigits_dg]
    dsimp only
    rw [if_neg (by show ¬ ((m : Int) < 0); omega)]
    rfl
  | negSucc m =>
    show (("-" ++ Nat.repr (m + 1)).toList.map Char.toNat).toArray = _
    rw [String.toList_append, List.map_append, Nat.toList_repr, toDigits_dg]
    dsimp only
    rw [if_pos (Int.negSucc_lt_zero m)]
    rfl
end L2
namespace L2
open PySem PySem.Spec PyProof.Rows
section
variable {X : Cx} {pins : List (Addr × Obj)} {σ : St} {H : Hp} {s : Shared} {h' : Heap}
theorem Inv.turnedL {t' : Nat} {fp : List Addr} (I : Inv X pins σ H s) (k : ∀ b o, b ∉ fp → s.heap.get? b = some o → h'.get? b = some o) (hf : ∀ b ∈ fp, FpOk X pins H b) : Inv X pins σ H { s with heap := h', toks := t' } := by
  have nit : ∀ b u, H b = some u → b ∉ fp := fun b u e z => by rw [(hf b z).1] at e; cases e
  refine I.step (g' := s.gens) (d' := s.drawn) (ch := fp) (fun b hb => ?_) (fun b o _ _ hc e _ => k b o hc e) (fun b o _ _ hc e _ => ⟨o.slots, k b o hc e⟩) (fun _ _ _ _ n => n)
    (fun b o hc e => ⟨o, k b o hc e⟩) (fun _ _ e => e) (fun _ _ _ e => e) (fun b ps e => ⟨#[], by rw [e]; simp⟩) (fun m hm => ?_) (fun b u e => ?_) I.bare
  · obtain ⟨f0, f1, f2, f3, f4, f5⟩ := hf b hb
    exact ⟨f3, f1, f4, f5⟩
  · obtain ⟨o, es, ep, ho, r⟩ := hm
    exact ⟨o, es, ep, k _ o (fun z => (hf _ z).2.1 rfl) ho, r⟩
  · refine (I.hok b u e).stay (fun c v hc q => k c v ?_ q) (fun _ q => q) fun _ _ q => q
    rcases hc with z | z
    · rw [z]; exact nit b u e
    · exact nit c _ z
end
section
variable {X : Cx} {K : PySem.W.Frag}
def tFv (ta : TE) : TE := fun σ H Q => ta σ H fun x H1 => ∃ i : Int, x = .int i ∧ i.natAbs.log2 < 1920 ∧ Q (.str (Str.ofString (toString i))) H1
theorem pe_fv {a : Expr} {ta : TE} {pos : Pos} (ha : PE X a ta) : PE X (.FormattedValue a (-1) none pos) (tFv ta) := by
  intro pins s σ H Q I h
  refine wpAny_FormattedValue_plain (thn (ha pins s σ H _ I h) fun v s1 ⟨x, H1, I1, r1, q1⟩ => ?_)
  obtain ⟨i, rfl, hi, q⟩ := q1
  obtain ⟨t, rfl⟩ := r1
  exact wpAny_formatField_int hi ⟨.str _, H1, I1.tok _, ⟨_, rfl⟩, q⟩
abbrev TJ := Str → St → Hp → VK → Prop
def PJ (X : Cx) (es : List Expr) (t : TJ) : Prop := ∀ (acc : Str) (pins : List (Addr × Obj)) (s : Shared) (σ : St) (H : Hp) (Q : VK), Inv X pins σ H s → t acc σ H Q →
  Joins (model X.prog X.w) X.A X.xe (evalEach es X.env) acc (fun out s1 => out.length ≤ sizeLine ∧ EP X pins σ Q (.str out s1.toks) { s1 with toks := s1.toks + 1 }) s
theorem pj_nil : PJ X [] (fun acc _ H Q => acc.length ≤ sizeLine ∧ Q (.str acc) H) := by
  intro acc pins s σ H Q I h
  exact ⟨h.1, .str acc, H, I.tok _, ⟨_, rfl⟩, h.2⟩
theorem pj_cons {e : Expr} {es : List Expr} {te : TE} {t : TJ} (he : PE X e te) (hr : PJ X es t) : PJ X (e :: es) (fun acc σ H Q => te σ H fun x H1 => ∃ y : Str, x = .str y ∧ (acc ++ y).length ≤ sizeLine ∧ t (acc ++ y) σ H1 Q) := by
  intro acc pins s σ H Q I h
  show wpAny _ _ (eval e X.env) _ _ s
  refine thn (he pins s σ H _ I h) fun v s1 ⟨x, H1, I1, r1, q1⟩ => ?_
  obtain ⟨y, rfl, hz, q⟩ := q1
  obtain ⟨t', rfl⟩ := r1
  exact ⟨y, t', rfl, hz, hr _ pins s1 σ H1 Q I1 q⟩
theorem pe_fstr {e1 e2 : Expr} {es : List Expr} {t : TJ} {pos : Pos} (h : PJ X (e1 :: e2 :: es) t) : PE X (.JoinedStr (e1 :: e2 :: es) pos) (fun σ H Q => t Str.empty σ H Q) := by
  intro pins s σ H Q I hq
  exact wpAny_JoinedStr (h Str.empty pins s σ H Q I hq)
end
end L2
namespace L2
end L2
namespace L2
open PySem PySem.Spec PyProof.Rows
def Seed (H : Hp) (d : Addr) : Prop := ∃ a b n c : Int, H d = some (.lst [.int a, .int b, .int n, .int c])
theorem Seed.keep {H H' : Hp} {d : Addr} (D : Seed H d) (h : Same H H') : Seed H' d := let ⟨a, b, n, c, e⟩ := D; ⟨a, b, n, c, h _ _ e⟩
theorem Seed.upd {H : Hp} {d p : Addr} {o : HO} (D : Seed H d) (hp : H p = none) : Seed (upd H p o) d := D.keep (same_upd hp)
theorem Seed.lst {H : Hp} {d : Addr} (D : Seed H d) : ∃ xs, H d = some (.lst xs) := let ⟨_, _, _, _, e⟩ := D; ⟨_, e⟩
theorem Seed.ne {H : Hp} {d p : Addr} (D : Seed H d) (hp : H p = none) : p ≠ d := by
  obtain ⟨xs, e⟩ := D.lst
  exact (ne_of_none e hp).symm
section
variable {X : Cx} {K : PySem.W.Frag}
theorem op_in_seqK (h : X.K = K) : OpR X (compareOp .In) (rIn K false) := by subst h; exact op_in_seq
end
end L2
set_option maxHeartbeats 2000000
namespace MwSet
open PySem
def Rs (xs : Array Nat) : Prop := xs.toList.Pairwise (· < ·)
theorem Rs.lt {xs : Array Nat} (h : Rs xs) {i k j : Nat} (hik : i < k) (hk : k < xs.size) : xs.getD i j < xs.getD k j := by
  have := (List.pairwise_iff_getElem.mp h) i k (by simp; omega) (by simpa using hk) hik
  have hi : i < xs.size := by omega
  simpa [Array.getD, hi, hk] using this
theorem Rs.le {xs : Array Nat} (h : Rs xs) {i k j : Nat} (hik : i ≤ k) (hk : k < xs.size) : xs.getD i j ≤ xs.getD k j := by
  rcases Nat.lt_or_ge i k with z | z
  · exact Nat.le_of_lt (h.lt z hk)
  · have : i = k := by omega
    rw [this]; exact Nat.le_refl _
theorem below_go {xs : Array Nat} {j : Nat} (h : Rs xs) : ∀ (fuel lo hi : Nat), lo ≤ hi → hi ≤ xs.size → hi - lo ≤ fuel → (∀ i, i < lo → xs.getD i j < j) → (∀ i, hi ≤ i → i < xs.size → j ≤ xs.getD i j) →
    (∀ i, i < SetTable.below.go xs j fuel lo hi → xs.getD i j < j) ∧ (∀ i, SetTable.below.go xs j fuel lo hi ≤ i → i < xs.size → j ≤ xs.getD i j) ∧ SetTable.below.go xs j fuel lo hi ≤ xs.size
  | 0, lo, hi, h1, h2, h3, h4, h5 => by
    have : lo = hi := by omega
    subst this
    exact ⟨h4, h5, h2⟩
  | fuel + 1, lo, hi, h1, h2, h3, h4, h5 => by
    unfold SetTable.below.go
    by_cases hl : lo < hi
    · rw [if_pos hl]
      dsimp only
      by_cases hm : xs.getD ((lo + hi) / 2) j < j
      · rw [if_pos hm]
        exact below_go h fuel _ _ (by omega) h2 (by omega) (fun i hi' => Nat.lt_of_le_of_lt (h.le (show i ≤ (lo + hi) / 2 by omega) (by omega)) hm) h5
      · rw [if_neg hm]
        exact below_go h fuel _ _ (by omega) (by omega) (by omega) h4 fun i a b => Nat.le_trans (Nat.not_lt.mp hm) (h.le a b)
    · rw [if_neg hl]
      have : lo = hi := by omega
      subst this
      exact ⟨h4, h5, h2⟩
theorem below_ok {xs : Array Nat} (h : Rs xs) (j : Nat) : (∀ i, i < SetTable.below xs j → xs.getD i j < j) ∧ (∀ i, SetTable.below xs j ≤ i → i < xs.size → j ≤ xs.getD i j) ∧ SetTable.below xs j ≤ xs.size :=
  below_go h xs.size 0 xs.size (Nat.zero_le _) (Nat.le_refl _) (by omega) (fun i hi => by omega) fun i a b => by omega
theorem below_is {xs : Array Nat} (h : Rs xs) {i j : Nat} (hi : i ≤ xs.size) (h1 : ∀ k, k < i → xs.getD k j < j) (h2 : i < xs.size → j ≤ xs.getD i j) : SetTable.below xs j = i := by
  obtain ⟨a, b, c⟩ := below_ok h j
  rcases Nat.lt_trichotomy (SetTable.below xs j) i with z | z | z
  · have q := b _ (Nat.le_refl _) (by omega)
    have r := h1 _ z
    omega
  · exact z
  · have q := a i z
    have r := h2 (by omega)
    omega
theorem rs_put {xs : Array Nat} (h : Rs xs) {j : Nat} (hj : xs[SetTable.below xs j]? ≠ some j) : Rs (SetTable.insertAt xs (SetTable.below xs j) j) := by
  obtain ⟨a, b, c⟩ := below_ok h j
  unfold Rs
  rw [SetTable.toList_insertAt]
  have e : xs.toList = xs.toList.take (SetTable.below xs j) ++ xs.toList.drop (SetTable.below xs j) := (List.take_append_drop _ _).symm
  have h' : (xs.toList.take (SetTable.below xs j) ++ xs.toList.drop (SetTable.below xs j)).Pairwise (· < ·) := by rw [← e]; exact h
  obtain ⟨p1, p2, p3⟩ := List.pairwise_append.mp h'
  have lo : ∀ x ∈ xs.toList.take (SetTable.below xs j), x < j := fun x hx => by
    obtain ⟨m, hm, rfl⟩ := List.mem_iff_getElem.mp hx
    rw [List.length_take] at hm
    have := a m (by omega)
    have hms : m < xs.size := by simp at hm; omega
    simp [Array.getD, hms] at this
    simpa using this
  have hi : ∀ x ∈ xs.toList.drop (SetTable.below xs j), j < x := fun x hx => by
    obtain ⟨m, hm, rfl⟩ := List.mem_iff_getElem.mp hx
    rw [List.length_drop] at hm
    simp only [List.getElem_drop, Array.getElem_toList]
    have hms : SetTable.below xs j + m < xs.size := by simp at hm; omega
    have hb0 : SetTable.below xs j < xs.size := by omega
    have q0 := b _ (Nat.le_refl _) hb0
    have q : xs.getD (SetTable.below xs j) j ≤ xs.getD (SetTable.below xs j + m) j := h.le (by omega) hms
    simp [Array.getD, hms, hb0] at q0 q
    have : xs[SetTable.below xs j] ≠ j := fun z => hj (by rw [getElem?_pos xs _ hb0, z])
    omega
  refine List.pairwise_append.mpr ⟨p1, List.pairwise_cons.mpr ⟨hi, p2⟩, fun x hx y hy => ?_⟩
  rcases List.mem_cons.mp hy with z | z
  · rw [z]; exact lo x hx
  · exact p3 x hx y z
theorem slot_free {t : SetTable} {j : Nat} (h : ∀ i, t.slot j ≠ .live i) : t.place[SetTable.below t.place j]? ≠ some j := fun e => by
  apply h (SetTable.below t.place j)
  unfold SetTable.slot
  dsimp only
  rw [if_pos (by rw [e]; simp)]
theorem probe_go {t : SetTable} {f : Nat → Int} {h : Int} : ∀ (fuel : Nat) (p : SetTable.Probe), (∀ d, p.dummy = some d → t.slot d = .dummy) → ∀ j dm, SetTable.probe.go t f h fuel p = some (.empty j dm) → t.slot j = .empty ∧ ∀ d, dm = some d → t.slot d = .dummy
  | 0, p, _, j, dm, e => by unfold SetTable.probe.go at e; cases e
  | fuel + 1, p, hp, j, dm, e => by
    unfold SetTable.probe.go at e
    have adv : ∀ q : SetTable.Probe, (t.advance q).dummy = q.dummy := fun q => by unfold SetTable.advance; dsimp only; split <;> rfl
    cases es : t.slot p.j with
    | empty =>
      rw [es] at e
      simp only [Option.some.injEq, SetTable.Met.empty.injEq] at e
      obtain ⟨rfl, rfl⟩ := e
      exact ⟨es, hp⟩
    | dummy =>
      rw [es] at e
      refine probe_go fuel _ (fun d hd => ?_) j dm e
      rw [adv] at hd
      dsimp only at hd
      rw [← Option.some.inj hd]
      exact es
    | live i =>
      rw [es] at e
      dsimp only at e
      split at e
      · cases e
      · exact probe_go fuel _ (fun d hd => by rw [adv] at hd; exact hp d hd) j dm e
theorem freeSlot_free {t : SetTable} {h : Int} {j : Nat} {b : Bool} (e : t.freeSlot h = some (j, b)) : t.place[SetTable.below t.place j]? ≠ some j := by
  unfold SetTable.freeSlot at e
  split at e
  · rename_i j' dm e'
    have := probe_go _ _ (fun d hd => by simp [SetTable.probeStart] at hd) j' dm e'
    simp only [Option.some.injEq, Prod.mk.injEq] at e
    obtain ⟨rfl, rfl⟩ := e
    cases dm with
    | none =>
      refine slot_free fun i hi => ?_
      have hi' : t.slot j' = _ := hi
      rw [this.1] at hi'; cases hi'
    | some d =>
      refine slot_free fun i hi => ?_
      have hi' : t.slot d = _ := hi
      rw [this.2 d rfl] at hi'; cases hi'
  · cases e
structure TabOk (byText : Bool) (t : SetTable) : Prop where
  led : t.led = !byText
  rs : t.plain = true → Rs t.place
theorem tab_fresh (byText : Bool) (f m : Nat) : TabOk byText (.fresh f m (!byText)) := ⟨rfl, fun _ => List.Pairwise.nil⟩
theorem tab_standIn {b : Bool} {t : SetTable} (h : TabOk b t) (n : Nat) : TabOk b (t.standIn n) := ⟨h.led, fun z => by cases z⟩
theorem tab_or {b : Bool} {t : SetTable} (h : TabOk b t) (n : Nat) : TabOk b (t.orStandIn n) := by
  unfold SetTable.orStandIn
  split
  · exact h
  · exact tab_standIn h n
theorem tab_put {b : Bool} {t : SetTable} (h : TabOk b t) {j : Nat} (hj : t.place[SetTable.below t.place j]? ≠ some j) : TabOk b (t.put j).1 := ⟨h.led, fun z => rs_put (h.rs z) hj⟩
theorem tab_layNew {b : Bool} {t : SetTable} (h : TabOk b t) (es : Array (Int × Value)) (k : Int) (x : Value) : TabOk b (layNew t es k x).2.1 := by
  unfold layNew
  split
  · rename_i slot wasDummy e
    exact tab_or (tab_put h (freeSlot_free e)) _
  · exact tab_standIn h _
theorem tab_relay {b : Bool} {t : SetTable} (h : TabOk b t) (es : Array (Int × Value)) (n : Nat) : TabOk b (relayAll t es n).2.1 := by
  unfold relayAll
  split
  · rename_i t' order e
    dsimp only
    split
    · unfold SetTable.relaid SetTable.laid at e
      cases ho : SetTable.layClean (SetTable.sizeAbove n - 1) (es.map (·.1)) with
      | none => rw [ho] at e; cases e
      | some owner =>
        rw [ho] at e
        simp only [Option.bind_eq_bind, Option.bind_some, Option.pure_def, Option.some.injEq, Prod.mk.injEq] at e
        obtain ⟨rfl, _⟩ := e
        refine ⟨h.led, fun _ => ?_⟩
        unfold Rs
        dsimp only
        rw [List.pairwise_map, List.pairwise_filterMap]
        refine List.pairwise_lt_range.imp fun {x y} hxy p hp q hq => ?_
        obtain ⟨_, _, rfl⟩ := Option.map_eq_some_iff.mp hp
        obtain ⟨_, _, rfl⟩ := Option.map_eq_some_iff.mp hq
        exact hxy
    · exact tab_standIn h _
  · exact tab_standIn h _
end MwSet
set_option maxHeartbeats 2000000
namespace MwSet
open PySem PyProof.Rows
def byT (w : World) : Bool := w.params.followText "set-order"
abbrev setObj (es : Array (Int × Value)) (ep : Nat) (t : SetTable) : Obj := { cls := .type "set", dict := none, data := .set es ep t, slots := #[] }
def nums (es : Array (Int × Value)) : List Int := es.toList.map fun e => numOf e.2
def IntEl (es : Array (Int × Value)) : Prop := ∀ e ∈ es.toList, ∃ k u, e = (hashInt k, Value.int k u)
def SetG (w : World) (h : Heap) (a : Addr) (ks : List Int) : Prop :=
  ∃ es ep t, h.get? a = some (setObj es ep t) ∧ IntEl es ∧ (nums es).Perm ks ∧ ks.Nodup ∧ es.size < scanBound ∧ t.fits es.size = true ∧ TabOk (byT w) t
theorem SetG.at {w : World} {h h' : Heap} {a : Addr} {ks : List Int} (S : SetG w h a ks) (k : ∀ o, h.get? a = some o → h'.get? a = some o) : SetG w h' a ks := let ⟨es, ep, t, e, r⟩ := S; ⟨es, ep, t, k _ e, r⟩
theorem IntEl.elems {prog : Program} {w : World} {es : Array (Int × Value)} (h : IntEl es) : ElemsOf (intKind prog w) es.toList := fun e he => by
  obtain ⟨k, u, rfl⟩ := h e he
  exact ⟨⟨k, intKind_is _ _ _ _, rfl⟩, rfl⟩
def withK (ks : List Int) (k : Int) : List Int := if k ∈ ks then ks else ks ++ [k]
theorem withK_nodup {ks : List Int} (h : ks.Nodup) (k : Int) : (withK ks k).Nodup := by
  unfold withK
  split
  · exact h
  · rename_i hk
    exact List.nodup_append.mpr ⟨h, by simp, fun x hx y hy => by
      have : y = k := by simpa using hy
      rw [this]
      exact fun z => hk (z ▸ hx)⟩
theorem mem_withK {ks : List Int} {k z : Int} : z ∈ withK ks k ↔ z ∈ ks ∨ z = k := by
  unfold withK
  split
  · rename_i hk
    constructor
    · exact .inl
    · rintro (h | rfl)
      · exact h
      · exact hk
  · simp
theorem withK_len (ks : List Int) (k : Int) : (withK ks k).length ≤ ks.length + 1 := by
  unfold withK
  split
  · omega
  · simp
section
variable {prog : Program} {w : World} {A : Around} {E : Value → Shared → Prop} {s : Shared}
theorem setG_store {h : Heap} {a : Addr} {es : Array (Int × Value)} {ep : Nat} {t : SetTable} (ho : h.get? a = some (setObj es ep t)) (es' : Array (Int × Value)) (t' : SetTable) : (h.update a (Obj.putSet es' t')).get? a = some (setObj es' (ep + 1) t') := by
  have := Heap.get?_update_self (Obj.putSet es' t') ho (by rw [putSet_of es' t' rfl]; rfl)
  rw [putSet_of es' t' rfl] at this; exact this
theorem wpAny_addG {a : Addr} {ks : List Int} {k : Int} {u : Tok} {Q : Bool → Shared → Prop} (S : SetG w s.heap a ks) (hroom : ks.length + 1 < scanBound)
    (h : ∀ b h', Heap.SameBut a s.heap h' → SetG w h' a (withK ks k) → Q b { s with heap := h' }) : wpAny (model prog w) A (setAddHashed a (.int k u) (hashInt k)) Q E s := by
  obtain ⟨es, ep, t, ho, hel, hp, hn, hb, hf, ht⟩ := S
  have hE := hel.elems (prog := prog) (w := w)
  have hlen : es.size = ks.length := by have := hp.length_eq; unfold nums at this; simpa using this
  unfold setAddHashed setAddHashedIn
  refine wpAny_holding (wpAny_bind (wpAny_setState_of ho rfl hf ?_))
  dsimp only
  rw [byScan_of (knd := intKind prog w) rfl hb hE]
  simp only [↓reduceIte]
  unfold setAddByScan
  refine wpAny_bind (wpAny_bind (wpAny_rule (wpAny_bind (wpAny_setScan_of (knd := intKind prog w) (k := k) (intKind_is _ _ _ _) ho rfl hf hE ?_))))
  have hmem : k ∈ ks ↔ ∃ e ∈ es.toList, (intKind prog w).is k e.2 = true := by
    rw [← hp.mem_iff]
    unfold nums
    rw [List.mem_map]
    constructor
    · rintro ⟨e, he, q⟩
      obtain ⟨k', u', rfl⟩ := hel e he
      have : k' = k := q
      subst this
      exact ⟨_, he, intKind_is _ _ _ _⟩
    · rintro ⟨e, he, q⟩
      obtain ⟨k', u', rfl⟩ := hel e he
      exact ⟨_, he, (intKind prog w).inj _ _ _ (intKind_is prog w k' u') q⟩
  cases hr : List.findIdx? (fun e => (intKind prog w).is k e.2) es.toList with
  | some j =>
    dsimp only
    obtain ⟨hj, hpj, _⟩ := List.findIdx?_eq_some_iff_getElem.mp hr
    have hin : k ∈ ks := hmem.mpr ⟨_, List.getElem_mem hj, hpj⟩
    refine wpAny_pure (wpAny_pure ?_)
    have e : s = { s with heap := s.heap } := by cases s; rfl
    rw [e]
    refine h false s.heap (Heap.SameBut.refl a s.heap) ?_
    unfold withK
    rw [if_pos hin]
    exact ⟨es, ep, t, ho, hel, hp, hn, hb, hf, ht⟩
  | none =>
    dsimp only
    have hout : ¬ k ∈ ks := fun z => by
      obtain ⟨e, he, q⟩ := hmem.mp z
      have := List.findIdx?_eq_none_iff.mp hr e he
      rw [q] at this; cases this
    have gw : ∀ (b : Bool) {s₁ : Shared} {Q' : Unit → Shared → Prop}, Q' () s₁ → wpAny (model prog w) A (match b with | true => rule "set.scan.the-table-gave-way" | false => pure ()) Q' E s₁ := fun b s₁ Q' hq => by
      cases b
      · exact wpAny_pure hq
      · exact wpAny_rule hq
    have p1 := layNew_perm t es (hashInt k) (.int k u)
    have f1 := layNew_fits t es (hashInt k) (.int k u)
    have t1 := tab_layNew ht es (hashInt k) (.int k u)
    show wpAny (model prog w) A (match layNew t es (hashInt k) (.int k u) with | (es, t, wasDummy, gave) => _) _ _ s
    generalize layNew t es (hashInt k) (.int k u) = L at p1 f1 t1 ⊢
    obtain ⟨es1, tb1, wd, gave⟩ := L
    dsimp only at p1 f1 t1 ⊢
    rw [Array.toList_push] at p1
    have el1 : IntEl es1 := fun e he => by
      rcases List.mem_append.mp (p1.mem_iff.mp he) with z | z
      · exact hel e z
      · have : e = (hashInt k, Value.int k u) := by simpa using z
        exact ⟨k, u, this⟩
    have pk : (nums es1).Perm (withK ks k) := by
      unfold withK
      rw [if_neg hout]
      have := p1.map fun e : Int × Value => numOf e.2
      rw [List.map_append] at this
      exact this.trans (hp.append_right _)
    have b1 : es1.size < scanBound := by
      have := p1.length_eq
      rw [List.length_append] at this
      simp at this
      omega
    have nd1 := withK_nodup hn k
    refine wpAny_bind (gw gave ?_)
    have fin : ∀ tb : SetTable, tb.fits es1.size = true → TabOk (byT w) tb → wpAny (model prog w) A (do
        storeSet a es1 tb
        if (!wd && tb.tooFull) = true then do
            (match (relayAll tb es1 (SetTable.grown es1.size)).2.2 with | true => rule "set.scan.the-table-gave-way" | false => pure ())
            storeSet a (relayAll tb es1 (SetTable.grown es1.size)).1 (relayAll tb es1 (SetTable.grown es1.size)).2.1
            pure (some true)
          else pure (some true)) (fun r s' => ∃ b h', r = some b ∧ s' = { s with heap := h' } ∧ Q b { s with heap := h' }) E s := fun tb ft tt => by
      refine wpAny_bind (wpAny_storeSet_of ho rfl ?_ (fits_of_scanBound b1))
      have g1 := setG_store ho es1 tb
      split
      · have p2 := relayAll_perm tb es1 (SetTable.grown es1.size)
        have f2 := relayAll_fits tb es1 (SetTable.grown es1.size)
        have t2 := tab_relay tt es1 (SetTable.grown es1.size)
        generalize relayAll tb es1 (SetTable.grown es1.size) = L at p2 f2 t2 ⊢
        obtain ⟨es2, tb2, gave2⟩ := L
        dsimp only at p2 f2 t2 ⊢
        have l2 : es2.size = es1.size := by have := p2.length_eq; simpa using this
        refine wpAny_bind (gw gave2 (wpAny_bind (wpAny_storeSet_of g1 rfl ?_ (fits_of_scanBound (by rw [l2]; exact b1)))))
        refine wpAny_pure ⟨true, _, rfl, rfl, h true _ ((Heap.SameBut.update _ a _).trans (Heap.SameBut.update _ a _)) ⟨es2, _, tb2, setG_store g1 es2 tb2, fun e he => el1 e (p2.mem_iff.mp he), (p2.map _).trans pk, nd1, by rw [l2]; exact b1, f2, t2⟩⟩
      · exact wpAny_pure ⟨true, _, rfl, rfl, h true _ (Heap.SameBut.update _ a _) ⟨es1, _, tb, g1, el1, pk, nd1, b1, ft, tt⟩⟩
    have last : ∀ (r : Option Bool) (s' : Shared), (∃ b h', r = some b ∧ s' = { s with heap := h' } ∧ Q b { s with heap := h' }) → wpAny (model prog w) A (match r with | some added => pure added | none => setAddHashedIn a (.int k u) (hashInt k) 99999) Q E s' := fun r s' ⟨b, h', e1, e2, q⟩ => by
      subst e1 e2
      exact wpAny_pure q
    split
    · refine wpAny_bind ?_
      rw [hashByValue_scannable 8 rfl]
      refine wpAny_pure ?_
      simp only [plainKind, ↓reduceIte]
      exact wpAny_mono (fin tb1 f1 t1) last fun _ _ e => e
    · refine wpAny_bind (wpAny_pure ?_)
      simp only [↓reduceIte]
      exact wpAny_mono (fin tb1 f1 t1) last fun _ _ e => e
end
end MwSet
set_option maxHeartbeats 3200000
namespace MwSet
open PySem PySem.Spec PyProof.Rows
def allK (ns : List Int) : List Int := ns.foldl withK []
theorem allK_snoc (ns : List Int) (k : Int) : allK (ns ++ [k]) = withK (allK ns) k := by unfold allK; rw [List.foldl_append]; rfl
theorem mem_allK {ns : List Int} {z : Int} : z ∈ allK ns ↔ z ∈ ns := by
  have : ∀ (l acc : List Int), z ∈ l.foldl withK acc ↔ z ∈ acc ∨ z ∈ l := fun l => by
    induction l with
    | nil => intro acc; simp
    | cons k l ih =>
      intro acc
      rw [List.foldl_cons, ih, mem_withK, List.mem_cons]
      constructor
      · rintro ((h | h) | h)
        · exact .inl h
        · exact .inr (.inl h)
        · exact .inr (.inr h)
      · rintro (h | h | h)
        · exact .inl (.inl h)
        · exact .inl (.inr h)
        · exact .inr h
  rw [show allK ns = ns.foldl withK [] from rfl, this]
  simp
theorem allK_len : ∀ ns : List Int, (allK ns).length ≤ ns.length := fun ns => by
  have : ∀ (l acc : List Int), (l.foldl withK acc).length ≤ acc.length + l.length := fun l => by
    induction l with
    | nil => intro acc; simp
    | cons k l ih =>
      intro acc
      have h1 := ih (withK acc k)
      have h2 := withK_len acc k
      rw [List.foldl_cons, List.length_cons]
      omega
  have := this ns []
  simpa [allK] using this
theorem allK_nodup (ns : List Int) : (allK ns).Nodup := by
  have : ∀ (l acc : List Int), acc.Nodup → (l.foldl withK acc).Nodup := fun l => by
    induction l with
    | nil => exact fun acc h => h
    | cons k l ih => exact fun acc h => ih _ (withK_nodup h k)
  exact this ns [] List.nodup_nil
theorem setG_fresh (w : World) {h : Heap} {a : Addr} (e : h.get? a = some (setObj #[] 0 (.fresh 0 0 (!byT w)))) : SetG w h a [] :=
  ⟨#[], 0, _, e, fun x hx => by simp at hx, List.Perm.refl _, List.nodup_nil, by decide, by rfl, tab_fresh _ _ _⟩
section
variable {prog : Program} {w : World} {A : Around} {R : Result → Shared → Prop} {I : Addr} {fp wr : List Addr} {G : Array GenState → Array GenState → Prop} {P : Nat → Value → Prop} {St : Nat → Shared → Prop}
theorem set_loopG {ns : List Int} (W : WalksS prog w A.in1 I fp wr G ns.length P St) (S : Addr) (hSf : S ∉ fp) (hval : ∀ i v, P i v → ∃ t, v = .int (ns.getD i 0) t) (hb : ns.length + 1 < scanBound) :
    ∀ (d i : Nat) (s : Shared), ns.length - i = d → i ≤ ns.length → St i s → SetG w s.heap S (allK (ns.take i)) → (∀ s', Moved (S :: wr) G s s' → SetG w s'.heap S (allK ns) → R (.ok (.ret .none)) s') →
      codeAny (model prog w) A (.builtin "set.update.loop" ⟨[.ref S, .ref I], []⟩) R s := by
  have nS : S ∉ wr := fun z => hSf (W.sub _ z)
  have up : ∀ b ∈ wr, b ∈ S :: wr := fun b hb => List.mem_cons_of_mem _ hb
  intro d
  induction d with
  | zero =>
    intro i s hd hi st hS hR
    have : i = ns.length := by omega
    subst this
    refine codeAny_builtin F.entry_set_update_loop ?_
    rw [Around.under_plainId F.plain_set_update_loop _]
    show wpAny _ A.in1 (pyNext (.ref I) >>= _) _ _ s
    refine wpAny_bind (W.done s _ _ st fun s' hm => ?_)
    show wpAny _ A.in1 (ret Value.none) _ _ s'
    refine wpAny_pure (hR s' (hm.mono up) ?_)
    rw [List.take_length] at hS
    exact hS.at fun o e => hm.heap S o nS e
  | succ d ih =>
    intro i s hd hi st hS hR
    have lt : i < ns.length := by omega
    refine codeAny_builtin F.entry_set_update_loop ?_
    rw [Around.under_plainId F.plain_set_update_loop _]
    show wpAny _ A.in1 (pyNext (.ref I) >>= _) _ _ s
    refine wpAny_bind (W.item i s _ _ lt st fun v s' hP st' hm => ?_)
    obtain ⟨t, rfl⟩ := hval i v hP
    have eg : ns.getD i 0 = ns[i] := by simp [lt]
    rw [eg]
    have hS' := hS.at (h' := s'.heap) fun o e => hm.heap S o nS e
    show wpAny _ A.in1 (holding [Value.int ns[i] t] (setAdd S (.int ns[i] t)) >>= _) _ _ s'
    refine wpAny_bind (wpAny_holding ?_)
    unfold setAdd
    refine wpAny_holding (wpAny_bind ((intKind prog w).pyHash (k := ns[i]) (intKind_is _ _ _ _) ?_))
    have room : (allK (ns.take i)).length + 1 < scanBound := by
      have := allK_len (ns.take i)
      rw [List.length_take] at this
      omega
    refine wpAny_addG (s := { s' with toks := s'.toks + 1 }) (u := t) hS' room fun b h' hsb hS2 => ?_
    have en : allK (ns.take (i + 1)) = withK (allK (ns.take i)) ns[i] := by rw [List.take_succ_eq_append_getElem lt, allK_snoc]
    rw [← en] at hS2
    refine wpAny_pure ⟨plainId_quiet F.plain_set_update_loop _, ih (i + 1) _ (by omega) lt (W.frame _ s' _ _ st' (Nat.le_succ _) fun b hb o e => ?_) hS2 fun s'' hm'' hS'' => ?_⟩
    · rw [hsb.2 b fun z : b = S => hSf (z ▸ hb)]; exact e
    · refine hR s'' (Moved.trans W.gtrans ((hm.mono up).then_heap (Nat.le_succ _) fun b o hb e => ?_) hm'') hS''
      rw [hsb.2 b fun z : b = S => hb (by rw [z]; exact List.mem_cons_self)]; exact e
end
theorem sub_tuple_set : isSubtype (.type "tuple") (.type "set") = pure false := by rw [isSubtype_type]; kernel_rfl
theorem sub_tuple_frozenset : isSubtype (.type "tuple") (.type "frozenset") = pure false := by rw [isSubtype_type]; kernel_rfl
section
variable {prog : Program} {w : World} {A : Around} {E : Value → Shared → Prop} {s : Shared}
theorem set_newG (a : Value) {Q : Value → Shared → Prop} (h : Q (.ref s.heap.objs.size) { s with heap := s.heap.push (setObj #[] 0 (.fresh 0 0 (!byT w))) }) : codeAny (model prog w) A (.call (.builtin "set.__new__") ⟨[.type "set", a], []⟩) (wants Q E) s := by
  refine codeAny_of_tree ?_
  show wpAny _ A.in1 (do checkBuiltinCall "set.__new__" ⟨[.type "set", a], []⟩; again (.builtin "set.__new__" ⟨[.type "set", a], []⟩)) _ _ s
  refine wpAny_bind (wpAny_of_eq (PySem.F.newCall_set_1 a) (wpAny_pure ⟨plainId_quiet PySem.F.plain_set_new _, codeAny_builtin PySem.F.entry_set_new ?_⟩))
  rw [Around.under_plainId PySem.F.plain_set_new _]
  unfold Builtin.«set.__new__» Builtin.Frozenset.newClass
  have su := sub_set_self
  obtain ⟨hp, g, d, tk, os⟩ := s
  dsimp only
  wp_walk
  refine wpAny_askSetting (wpAny_pure ?_)
  dsimp only
  simp only [newObj]
  exact wpAny_bind (wpAny_alloc (wpAny_pure (wpAny_pure h)))
theorem call_set_tupG {l : Addr} {vs : List Value} {ns : List Int} {Q : Value → Shared → Prop} (hh : A.handled = none) (hl : s.heap.IsTuple l vs.toArray) (hi : IntsAre vs ns) (hb : ns.length + 1 < scanBound)
    (h : ∀ (h' : Heap) (tk : Nat), SetG w h' s.heap.objs.size (allK ns) → (∀ b o, s.heap.get? b = some o → h'.get? b = some o) → Q (.ref s.heap.objs.size) { s with heap := h', toks := tk }) : wpAny (model prog w) A (call (.type "set") [.ref l]) Q E s := by
  obtain ⟨c, tl, hmro⟩ := PySem.F.called_set.mro
  have k1 := PySem.F.called_set.made
  have k2 := PySem.F.called_set.sub
  refine wpAny_call (codeAny_of_tree ?_)
  show wpAny _ _ (callAny (.type "set") _) _ _ _
  refine wpAny_pure ⟨Code.quiet_builtin _ (by decide +kernel), codeAny_builtin PySem.F.entry_type_call ?_⟩
  rw [Around.under_plain (weight_type_call_type "set" [.ref l] []) rfl]
  have k3 := PySem.F.called_set.notType
  have k4 := PySem.F.called_set.canCreate
  have k5 := PySem.F.typeCall_set_1 (.ref l)
  repeat (any_goals (first | assumption | wp_step))
  refine codeAny_mono (set_newG (.ref l) (E := E) (Q := fun obj z => obj = .ref s.heap.objs.size ∧ z = { s with heap := s.heap.push (setObj #[] 0 (.fresh 0 0 (!byT w))) }) ⟨rfl, rfl⟩) fun r z hr => ?_
  cases r with
  | error e => exact hr
  | ok fl =>
    cases fl with
    | ret obj =>
      obtain ⟨rfl, rfl⟩ := hr
      have gS : (s.heap.push (setObj #[] 0 (.fresh 0 0 (!byT w)))).get? s.heap.objs.size = some (setObj #[] 0 (.fresh 0 0 (!byT w))) := Heap.get?_push_size _ rfl
      have hT : Shared.TypeIs { s with heap := s.heap.push (setObj #[] 0 (.fresh 0 0 (!byT w))) } (.ref s.heap.objs.size) "set" := ⟨_, gS, rfl⟩
      have k6 := PySem.F.called_set.init.lookup
      have k7 := PySem.F.called_set.init.bind (.ref s.heap.objs.size)
      repeat (any_goals (first | assumption | wp_step))
      refine codeAny_mono (codeAny_call_builtin (R := wants (fun r z => r = .none ∧ ∃ h' tk, z = { s with heap := h', toks := tk } ∧ SetG w h' s.heap.objs.size (allK ns) ∧ (∀ b o, s.heap.get? b = some o → h'.get? b = some o)) E) PySem.F.called_set.init.plain PySem.F.entry_set_init (check_set_init_1 hT ?_)) fun r z hr => ?_
      · obtain ⟨ol, gl, cl, nl, dl⟩ := hl
        obtain ⟨o1, o2, o3, o4⟩ := ol
        simp only at cl dl
        subst cl dl
        have gl' : (s.heap.push (setObj #[] 0 (.fresh 0 0 (!byT w)))).get? l = some { cls := .type "tuple", dict := o2, data := .seq vs.toArray nl, slots := o4 } := Heap.get?_push_of_some _ gl
        have t1 := sub_tuple_set
        have t2 := sub_tuple_frozenset
        have t3 : (Value.type "tuple" == Value.type "dict") = false := by decide
        have hl1 : (s.heap.push (setObj #[] 0 (.fresh 0 0 (!byT w)))).IsTuple l vs.toArray := ⟨_, gl', rfl, nl, rfl⟩
        unfold Builtin.«set.__init__» noKeywords Builtin.Frozenset.updateFrom
        generalize hPI : pyIter = PI
        wp_walk
        subst hPI
        refine wpAny_pyIter_tuple hl1 (wpAny_bind (wpAny_runValue ?_))
        have lt : l < s.heap.objs.size := Heap.lt_size gl
        have h3 : A.in1.in1.in1.handled = none := by simp [hh]
        have ne : l ≠ (s.heap.push (setObj #[] 0 (.fresh 0 0 (!byT w)))).objs.size := by rw [Heap.size_push]; exact Nat.ne_of_lt (Nat.lt_succ_of_lt lt)
        have hSf : s.heap.objs.size ∉ [(s.heap.push (setObj #[] 0 (.fresh 0 0 (!byT w)))).objs.size, l] := by
          rw [Heap.size_push]; simp only [List.mem_cons, List.mem_singleton, List.not_mem_nil, or_false, not_or]
          exact ⟨Nat.ne_of_lt (Nat.lt_succ_self _), Nat.ne_of_gt lt⟩
        have hval : ∀ (i : Nat) (v : Value), vs.toArray[i]? = some v → ∃ t, v = .int (ns.getD i 0) t := fun i v hv => IntsAre.int_at hi i v (by simpa using hv)
        have hlen : vs.toArray.size = ns.length := by rw [List.size_toArray]; exact IntsAre.length hi
        have W := (Walks.tuple h3 (prog := prog) (w := w) _ l ne vs.toArray).toS
        rw [hlen] at W
        refine set_loopG W s.heap.objs.size hSf hval hb (ns.length - 0) 0 _ (by omega) (Nat.zero_le _) ⟨⟨_, Heap.get?_push_size _ rfl, rfl, rfl⟩, ?_⟩ ?_ ?_
        · exact ⟨_, Heap.get?_push_of_some _ gl', rfl, nl, rfl⟩
        · exact setG_fresh w (Heap.get?_push_of_some _ gS)
        · intro z hm hS'
          obtain ⟨h', g', d', tk', os'⟩ := z
          have eg : g' = s.gens := hm.gens
          have ed : d' = s.drawn := hm.drawn
          have eo : os' = s.os := hm.os
          subst eg ed eo
          show wpAny _ _ _ _ _ _
          refine wpAny_pure ?_
          show wpAny _ _ (ret Value.none) _ _ _
          refine wpAny_pure ⟨rfl, h', tk', rfl, hS', fun b o e => ?_⟩
          have hb0 : b < s.heap.objs.size := Heap.lt_size e
          have hb2 : b ≠ (s.heap.push (setObj #[] 0 (.fresh 0 0 (!byT w)))).objs.size := by rw [Heap.size_push]; exact Nat.ne_of_lt (Nat.lt_succ_of_lt hb0)
          exact hm.heap b o (by simp only [List.mem_cons, List.mem_singleton, List.not_mem_nil, or_false, not_or]; exact ⟨Nat.ne_of_lt hb0, hb2⟩) (Heap.get?_push_of_some _ (Heap.get?_push_of_some _ e))
      · cases r with
        | error e => exact hr
        | ok fl =>
          cases fl with
          | ret r =>
            obtain ⟨rfl, h', tk, rfl, hS', hk'⟩ := hr
            repeat (any_goals (first | assumption | wp_step))
            exact h _ _ hS' hk'
          | _ => exact hr.elim
    | _ => exact hr.elim
end
end MwSet
set_option maxHeartbeats 3200000
namespace MwSet
open PySem PySem.Spec PyProof.Rows
theorem entry_set_iter : entryFor table "set.__iter__" = some Builtin.«frozenset.__iter__» := entryFor_alias (id' := "frozenset.__iter__") (by kernel_rfl) rfl (by decide +kernel) (by kernel_rfl)
theorem slot_si_next : Slot "set_iterator" "__next__" "set_iterator.__next__" :=
  .of (owner := "set_iterator") (n := "__next__") (by rw [typeLookup_type, builtinLookup_eq_fast]; kernel_rfl) (by decide +kernel) (by decide +kernel) (by decide +kernel) (by first | exact .inl (by decide +kernel) | exact .inr (by decide +kernel)) (by rw [isSubtype_type]; kernel_rfl)
theorem slot_si_iter : Slot "set_iterator" "__iter__" "set_iterator.__iter__" :=
  .of (owner := "set_iterator") (n := "__iter__") (by rw [typeLookup_type, builtinLookup_eq_fast]; kernel_rfl) (by decide +kernel) (by decide +kernel) (by decide +kernel) (by first | exact .inl (by decide +kernel) | exact .inr (by decide +kernel)) (by rw [isSubtype_type]; kernel_rfl)
theorem entry_si_next : entryFor table "set_iterator.__next__" = some Builtin.«set_iterator.__next__» := entryFor_of_tree (by kernel_rfl)
theorem entry_si_iter : entryFor table "set_iterator.__iter__" = some Builtin.«dict_keyiterator.__iter__» :=
  entryFor_alias (id' := "dict_keyiterator.__iter__") (by kernel_rfl) (by first | rfl | decide +kernel | (unfold String.splitOn; simp +decide [String.splitOnAux])) (by decide +kernel) (by kernel_rfl)
theorem owner_si : Manifest.owners.lookup (String.ofList ['r', 'o', 't', 'a', 'r', 'e', 't', 'i', '_', 't', 'e', 's'].reverse) = some Manifest.sig_set_iterator := by kernel_rfl
theorem args_si_next (a : Value) : argsOk "set_iterator.__next__" ⟨[a], []⟩ := by
  unfold argsOk
  rw [signature?_of (id := "set_iterator.__next__") (n := "__next__".toList.reverse) (o := ['r', 'o', 't', 'a', 'r', 'e', 't', 'i', '_', 't', 'e', 's']) (by kernel_rfl) owner_si]
  kernel_rfl
theorem args_si_iter (a : Value) : argsOk "set_iterator.__iter__" ⟨[a], []⟩ := by
  unfold argsOk
  rw [signature?_of (id := "set_iterator.__iter__") (n := "__iter__".toList.reverse) (o := ['r', 'o', 't', 'a', 'r', 'e', 't', 'i', '_', 't', 'e', 's']) (by kernel_rfl) owner_si]
  kernel_rfl
abbrev itObj (first : Value) (i : Nat) (a : Addr) (n ep : Nat) : Obj := { cls := .type "set_iterator", data := .fields #[first, .int i 0, .ref a, .int n 0, .int ep 0] }
section
variable {prog : Program} {w : World} {A : Around} {E : Value → Shared → Prop} {s : Shared}
theorem si_self {I a : Addr} {first : Value} {i n ep : Nat} {Q : Value → Shared → Prop} (e : s.heap.get? I = some (itObj first i a n ep)) (h : Q (.ref I) s) : wpAny (model prog w) A (pyIter (.ref I)) Q E s := by
  have hT : s.TypeIs (.ref I) "set_iterator" := ⟨_, e, rfl⟩
  refine wpAny_pyIter_slot hT slot_si_iter (wpAny_call_entry slot_si_iter hT entry_si_iter ?_ (args_si_iter _))
  show wpAny _ _ (ret (.ref I)) _ _ s
  exact wpAny_pure ⟨_, rfl, "set_iterator", _, hT, slot_si_next.lookup, h⟩
theorem si_item {I a : Addr} {slot i n ep : Nat} {es : Array (Int × Value)} {t : SetTable} {x : Value} {nx : Nat} {Q : Option Value → Shared → Prop} (e : s.heap.get? I = some (itObj (.int slot 0) i a n ep)) (ea : s.heap.get? a = some (setObj es ep t)) (hf : t.fits es.size = true) (hn : n = es.size)
    (hx : ∀ (A' : Around) (E' : Value → Shared → Prop) (Q' : Option (Value × Nat) → Shared → Prop), Q' (some (x, nx)) s → wpAny (model prog w) A' (setNext a slot i ep) Q' E' s)
    (hQ : ∀ h', h'.get? I = some (itObj (.int nx 0) (i + 1) a n ep) → Heap.SameBut I s.heap h' → Q (some x) { s with heap := h' }) : wpAny (model prog w) A (pyNext (.ref I)) Q E s := by
  have hT : s.TypeIs (.ref I) "set_iterator" := ⟨_, e, rfl⟩
  subst hn
  unfold pyNext
  refine wpAny_bind (wpAny_attempt (wpAny_callSpecial?_slot (name := Str.ofString "__next__") hT slot_si_next (wpAny_call_entry slot_si_next hT entry_si_next ?_ (args_si_next _))))
  unfold Builtin.«set_iterator.__next__»
  refine wpAny_bind (m := slotArgs "__next__" 0 _) (wpAny_pure (wpAny_bind (wpAny_fieldsOf e rfl ?_)))
  dsimp only
  refine wpAny_bind (wpAny_setEntries_of ea rfl hf ?_)
  rw [if_neg (by simp)]
  show wpAny _ _ (setNext a slot i ep >>= _) _ _ s
  refine wpAny_bind (hx _ _ _ ?_)
  dsimp only
  refine wpAny_bind (wpAny_setField e rfl (by simp) ?_)
  have e1 : (s.heap.update I (Obj.mapFields (·.setIfInBounds 0 (rawInt nx)))).get? I = some (itObj (.int nx 0) i a es.size ep) := by
    have := Heap.get?_update_self (Obj.mapFields (·.setIfInBounds 0 (rawInt nx))) e rfl
    rw [this]; rfl
  refine wpAny_bind (wpAny_setField e1 rfl (by simp) ?_)
  have e2 : ((s.heap.update I (Obj.mapFields (·.setIfInBounds 0 (rawInt nx)))).update I (Obj.mapFields (·.setIfInBounds 1 (rawInt ((i : Int) + 1))))).get? I = some (itObj (.int nx 0) (i + 1) a es.size ep) := by
    have := Heap.get?_update_self (Obj.mapFields (·.setIfInBounds 1 (rawInt ((i : Int) + 1)))) e1 rfl
    rw [this]; rfl
  exact wpAny_pure ⟨_, rfl, wpAny_pure (hQ _ e2 ((Heap.SameBut.update ..).trans (Heap.SameBut.update ..)))⟩
theorem raise_stop {B : Around} {Q : Fin → Shared → Prop} {F : Value → Shared → Prop} (hh : B.handled = none) (h : ∀ (v : Value) (h' : Heap), (∀ b o, s.heap.get? b = some o → h'.get? b = some o) → Shared.TypeIs { s with heap := h' } v "StopIteration" → F v { s with heap := h' }) :
    wpAny (model prog w) B (do raiseNew (← newExc (.type "StopIteration") [])) Q F s := by
  refine wpAny_bind ?_
  simp only [newExc, newTuple]
  refine wpAny_bind (wpAny_newObj_type ?_ (by size_fits))
  refine wpAny_bind (m := firstArgMember _ _) (wpAny_of_eq (a := Value.none) (by first | rfl | (simp only [firstArgMember]; rfl)) ?_)
  refine wpAny_newObj_type ?_ (by size_fits)
  simp only [raiseNew]
  refine wpAny_bind (wpAny_handled ?_)
  rw [hh]
  refine wpAny_bind (wpAny_pure (wpAny_throw ?_))
  exact h _ _ (fun b o e => Heap.get?_push_of_some _ (Heap.get?_push_of_some _ e)) ⟨_, Heap.get?_push_size _ rfl, rfl⟩
theorem si_end {I a : Addr} {slot i n ep : Nat} {es : Array (Int × Value)} {t : SetTable} {Q : Option Value → Shared → Prop} (hh : A.handled = none) (e : s.heap.get? I = some (itObj (.int slot 0) i a n ep)) (ea : s.heap.get? a = some (setObj es ep t)) (hf : t.fits es.size = true) (hn : n = es.size)
    (hx : ∀ (A' : Around) (E' : Value → Shared → Prop) (Q' : Option (Value × Nat) → Shared → Prop), Q' none s → wpAny (model prog w) A' (setNext a slot i ep) Q' E' s)
    (hQ : ∀ h', Heap.ExtBut I s.heap h' → Q none { s with heap := h' }) : wpAny (model prog w) A (pyNext (.ref I)) Q E s := by
  have hT : s.TypeIs (.ref I) "set_iterator" := ⟨_, e, rfl⟩
  subst hn
  unfold pyNext
  refine wpAny_bind (wpAny_attempt (wpAny_callSpecial?_slot (name := Str.ofString "__next__") hT slot_si_next (wpAny_call_entry slot_si_next hT entry_si_next ?_ (args_si_next _))))
  unfold Builtin.«set_iterator.__next__»
  refine wpAny_bind (m := slotArgs "__next__" 0 _) (wpAny_pure (wpAny_bind (wpAny_fieldsOf e rfl ?_)))
  dsimp only
  refine wpAny_bind (wpAny_setEntries_of ea rfl hf ?_)
  rw [if_neg (by simp)]
  show wpAny _ _ (setNext a slot i ep >>= _) _ _ s
  refine wpAny_bind (hx _ _ _ ?_)
  dsimp only
  refine wpAny_bind (wpAny_setField e rfl (by simp) ?_)
  refine raise_stop (s := { s with heap := s.heap.update I (Obj.mapFields (·.setIfInBounds 2 .none)) }) (by simp [hh]) fun v h' hk hv => ?_
  refine wpAny_bind (wpAny_isInstance (T := "StopIteration") (b := true) hv isSubtype_stop ?_)
  exact wpAny_pure (hQ h' fun b o hb g => hk b o ((Heap.get?_update_other _ _ hb.symm).trans g))
abbrev plObj (ps : List Nat) : Obj := { cls := .type "tuple", data := .seq (ps.map fun p : Nat => Value.int p 0).toArray 0 }
theorem sd_item {I a pl : Addr} {ps : List Nat} {i n ep p : Nat} {es : Array (Int × Value)} {t : SetTable} {x : Int × Value} {Q : Option Value → Shared → Prop} (e : s.heap.get? I = some (itObj (.ref pl) i a n ep)) (ea : s.heap.get? a = some (setObj es ep t)) (hp : s.heap.get? pl = some (plObj ps)) (hf : t.fits es.size = true) (hn : n = es.size)
    (hi : ps[i]? = some p) (hx : es[p]? = some x)
    (hQ : ∀ h', h'.get? I = some (itObj (.ref pl) (i + 1) a n ep) → Heap.SameBut I s.heap h' → Q (some x.2) { s with heap := h' }) : wpAny (model prog w) A (pyNext (.ref I)) Q E s := by
  have hT : s.TypeIs (.ref I) "set_iterator" := ⟨_, e, rfl⟩
  subst hn
  unfold pyNext
  refine wpAny_bind (wpAny_attempt (wpAny_callSpecial?_slot (name := Str.ofString "__next__") hT slot_si_next (wpAny_call_entry slot_si_next hT entry_si_next ?_ (args_si_next _))))
  unfold Builtin.«set_iterator.__next__»
  refine wpAny_bind (m := slotArgs "__next__" 0 _) (wpAny_pure (wpAny_bind (wpAny_fieldsOf e rfl ?_)))
  dsimp only
  refine wpAny_bind (wpAny_setEntries_of ea rfl hf ?_)
  rw [if_neg (by simp)]
  have e1 : wpAny (model prog w) A.in1 (seqItems? (.ref pl)) (fun r z => r = some (ps.map fun p : Nat => Value.int p 0).toArray ∧ z = s) (fun _ _ => False) s := by
    unfold seqItems?
    exact wpAny_bind (wpAny_load hp (wpAny_pure ⟨rfl, rfl⟩))
  refine wpAny_bind (wpAny_mono e1 ?_ fun _ _ z => z.elim)
  rintro r z ⟨rfl, rfl⟩
  have e2 : (ps.map fun p : Nat => Value.int p 0).toArray[i]? = some (.int p 0) := by simp [hi]
  dsimp only
  rw [Int.toNat_natCast, e2]
  dsimp only
  rw [Int.toNat_natCast, Int.toNat_natCast]
  unfold setNextDrawn
  refine wpAny_bind (wpAny_bind (wpAny_setState_of ea rfl hf ?_))
  dsimp only
  rw [if_neg (by simp), hx]
  refine wpAny_pure (wpAny_bind (wpAny_setField e rfl (by simp) ?_))
  have e3 : (z.heap.update I (Obj.mapFields (·.setIfInBounds 1 (rawInt ((i : Int) + 1))))).get? I = some (itObj (.ref pl) (i + 1) a es.size ep) := by
    have := Heap.get?_update_self (Obj.mapFields (·.setIfInBounds 1 (rawInt ((i : Int) + 1)))) e rfl
    rw [this]; rfl
  exact wpAny_pure ⟨_, rfl, wpAny_pure (hQ _ e3 (Heap.SameBut.update ..))⟩
theorem sd_end {I a pl : Addr} {ps : List Nat} {i n ep : Nat} {es : Array (Int × Value)} {t : SetTable} {Q : Option Value → Shared → Prop} (hh : A.handled = none) (e : s.heap.get? I = some (itObj (.ref pl) i a n ep)) (ea : s.heap.get? a = some (setObj es ep t)) (hp : s.heap.get? pl = some (plObj ps)) (hf : t.fits es.size = true) (hn : n = es.size)
    (hi : ps[i]? = none) (hQ : ∀ h', Heap.ExtBut I s.heap h' → Q none { s with heap := h' }) : wpAny (model prog w) A (pyNext (.ref I)) Q E s := by
  have hT : s.TypeIs (.ref I) "set_iterator" := ⟨_, e, rfl⟩
  subst hn
  unfold pyNext
  refine wpAny_bind (wpAny_attempt (wpAny_callSpecial?_slot (name := Str.ofString "__next__") hT slot_si_next (wpAny_call_entry slot_si_next hT entry_si_next ?_ (args_si_next _))))
  unfold Builtin.«set_iterator.__next__»
  refine wpAny_bind (m := slotArgs "__next__" 0 _) (wpAny_pure (wpAny_bind (wpAny_fieldsOf e rfl ?_)))
  dsimp only
  refine wpAny_bind (wpAny_setEntries_of ea rfl hf ?_)
  rw [if_neg (by simp)]
  have e1 : wpAny (model prog w) A.in1 (seqItems? (.ref pl)) (fun r z => r = some (ps.map fun p : Nat => Value.int p 0).toArray ∧ z = s) (fun _ _ => False) s := by
    unfold seqItems?
    exact wpAny_bind (wpAny_load hp (wpAny_pure ⟨rfl, rfl⟩))
  refine wpAny_bind (wpAny_mono e1 ?_ fun _ _ z => z.elim)
  rintro r z ⟨rfl, rfl⟩
  have e2 : (ps.map fun p : Nat => Value.int p 0).toArray[i]? = none := by simpa using hi
  dsimp only
  rw [Int.toNat_natCast, e2]
  dsimp only
  refine wpAny_bind (wpAny_setField e rfl (by simp) ?_)
  have e3 : (z.heap.update I (Obj.mapFields (·.setIfInBounds 0 (rawInt 0)))).get? I = some (itObj (rawInt 0) i a es.size ep) := by
    have := Heap.get?_update_self (Obj.mapFields (·.setIfInBounds 0 (rawInt 0))) e rfl
    rw [this]; rfl
  refine wpAny_bind (wpAny_setField e3 rfl (by simp) ?_)
  refine raise_stop (s := { z with heap := (z.heap.update I (Obj.mapFields (·.setIfInBounds 0 (rawInt 0)))).update I (Obj.mapFields (·.setIfInBounds 2 .none)) }) (by simp [hh]) fun v h' hk hv => ?_
  refine wpAny_bind (wpAny_isInstance (T := "StopIteration") (b := true) hv isSubtype_stop ?_)
  exact wpAny_pure (hQ h' fun b o hb g => hk b o ((Heap.get?_update_other _ _ hb.symm).trans ((Heap.get?_update_other _ _ hb.symm).trans g)))
theorem next_byText {a : Addr} {slot i ep : Nat} {es : Array (Int × Value)} {t : SetTable} {Q : Option (Value × Nat) → Shared → Prop} (ea : s.heap.get? a = some (setObj es ep t)) (hf : t.fits es.size = true) (hb : byT w = true)
    (h : Q (((pickOrder (w.params.setOrder a ep) es)[i]?).map fun e => (e.2, slot)) s) : wpAny (model prog w) A (setNext a slot i ep) Q E s := by
  unfold setNext
  refine wpAny_bind (wpAny_setState_of ea rfl hf ?_)
  dsimp only
  unfold setsByText
  refine wpAny_bind (wpAny_bind (wpAny_askSetting (wpAny_pure ?_)))
  have hb' : (model prog w).w.params.followText "set-order" = true := hb
  dsimp only
  rw [hb', if_pos rfl, if_neg (by simp)]
  unfold setWalk setsByText
  refine wpAny_bind (wpAny_bind (wpAny_setState_of ea rfl hf ?_))
  dsimp only
  refine wpAny_bind (wpAny_bind (wpAny_askSetting (wpAny_pure ?_)))
  dsimp only
  rw [hb', if_pos rfl]
  exact wpAny_bind (wpAny_askSetting (wpAny_pure (wpAny_pure h)))
theorem next_plain {a : Addr} {slot i ep : Nat} {es : Array (Int × Value)} {t : SetTable} {Q : Option (Value × Nat) → Shared → Prop} (ea : s.heap.get? a = some (setObj es ep t)) (hf : t.fits es.size = true) (hb : byT w = false) (hl : t.led = true) (hd : t.plain = true ∨ es.size ≤ 1)
    (h : Q (match es[SetTable.below t.place slot]?, t.place[SetTable.below t.place slot]? with | some (_, x), some j => some (x, j + 1) | _, _ => none) s) : wpAny (model prog w) A (setNext a slot i ep) Q E s := by
  unfold setNext
  refine wpAny_bind (wpAny_setState_of ea rfl hf ?_)
  dsimp only
  unfold setsByText
  refine wpAny_bind (wpAny_bind (wpAny_askSetting (wpAny_pure ?_)))
  have hb' : (model prog w).w.params.followText "set-order" = false := hb
  dsimp only
  rw [hb', if_neg Bool.false_ne_true]
  refine wpAny_ite_split (fun z => ?_) (fun _ => wpAny_bind ?_)
  · have z' : (!t.plain && decide (es.size > 1)) = true := z
    rcases hd with q | q
    · rw [q] at z'; cases z'
    · rw [show decide (es.size > 1) = false from decide_eq_false (by omega), Bool.and_false] at z'; cases z'
  · show wpAny _ _ (if (!t.led && !es.isEmpty) = true then unsupported "set:maker-not-led" else pure ()) _ _ s
    rw [hl, if_neg (by simp)]
    exact wpAny_pure (wpAny_pure h)
theorem erase_perm {α : Type} {l : List α} {i : Nat} (h : i < l.length) : (l[i] :: l.eraseIdx i).Perm l := by
  have e : l = l.take i ++ l[i] :: l.drop (i + 1) := by rw [← List.drop_eq_getElem_cons h, List.take_append_drop]
  rw [List.eraseIdx_eq_take_drop_succ]
  have p := (List.perm_middle (a := l[i]) (l₁ := l.take i) (l₂ := l.drop (i + 1))).symm
  exact p.trans (by rw [← e])
theorem wpAny_choose {src : Source} {n : Nat} {Q : Nat → Shared → Prop} (hn : n ≠ 0) (h : ∀ i, i < n → ∀ d, Q i { s with drawn := d }) : wpAny (model prog w) A (choose src n) Q E s := fun Γ p hΓ => ⟨hn, h _ (Nat.mod_lt _ (Nat.pos_of_ne_zero hn)) _⟩
theorem pick_go {α : Type} (next : Nat → Nat) : ∀ (fuel k : Nat) (left : List α) (out : Array α), left.length ≤ fuel → (pickOrder.go next fuel k left out).toList.Perm (out.toList ++ left)
  | 0, k, left, out, h => by
    have : left = [] := List.length_eq_zero_iff.mp (by omega)
    subst this
    unfold pickOrder.go
    simp
  | fuel + 1, k, left, out, h => by
    unfold pickOrder.go
    cases e : left[next k % left.length]? with
    | none =>
      dsimp only
      have : left = [] := by
        cases left with
        | nil => rfl
        | cons x l =>
          have hlt : next k % (x :: l).length < (x :: l).length := Nat.mod_lt _ (by simp)
          rw [List.getElem?_eq_getElem hlt] at e
          cases e
      subst this
      simp
    | some x =>
      dsimp only
      obtain ⟨hlt, hx⟩ := List.getElem?_eq_some_iff.mp e
      have ih := pick_go next fuel (k + 1) (left.eraseIdx (next k % left.length)) (out.push x) (by rw [List.length_eraseIdx, if_pos hlt]; omega)
      refine ih.trans ?_
      rw [Array.toList_push, List.append_assoc]
      refine List.Perm.append_left _ ?_
      rw [← hx]
      exact erase_perm hlt
theorem pick_perm {α : Type} (next : Nat → Nat) (xs : Array α) : (pickOrder next xs).toList.Perm xs.toList := by
  unfold pickOrder
  have := pick_go next xs.size 0 xs.toList #[] (by simp)
  simpa using this
theorem draw_ok {α : Type} {Q : List α → Shared → Prop} : ∀ (n : Nat) (l : List α) (s : Shared), l.length = n → (∀ (r : List α) (d : Drawn), r.Perm l → Q r { s with drawn := d }) → wpAny (model prog w) A (drawOrder n l) Q E s
  | 0, l, s, hn, h => by
    have : l = [] := List.length_eq_zero_iff.mp hn
    subst this
    unfold drawOrder
    exact wpAny_pure (h [] s.drawn (List.Perm.refl _))
  | n + 1, [], s, hn, h => by cases hn
  | n + 1, x :: l, s, hn, h => by
    unfold drawOrder
    refine wpAny_bind (wpAny_choose (by simp) fun i hi d => ?_)
    rw [List.getElem?_eq_getElem hi]
    dsimp only
    refine wpAny_bind (draw_ok n ((x :: l).eraseIdx i) _ (by rw [List.length_eraseIdx, if_pos hi]; omega) fun r d' hr => wpAny_pure (h _ _ ?_))
    exact (hr.cons _).trans (erase_perm hi)
end
section
variable {prog : Program} {w : World} {A : Around}
def SetWalk (prog : Program) (w : World) (A : Around) (lo : Nat) (I a : Addr) (h : Heap) (ks : List Int) : Prop :=
  ∃ (fp : List Addr) (St : Nat → Heap → Prop) (L : List Value) (ms : List Int), I ∈ fp ∧ (∀ b ∈ fp, b = a ∨ lo ≤ b) ∧ IntsAre L ms ∧ ms.Perm ks ∧ Walks prog w A I fp [I] ms.length (fun i v => L[i]? = some v) St ∧ St 0 h
theorem ints_of {es : List (Int × Value)} (h : ∀ e ∈ es, ∃ k u, e = (hashInt k, Value.int k u)) : IntsAre (es.map (·.2)) (es.map fun e => numOf e.2) := by
  induction es with
  | nil => exact .nil
  | cons e es ih =>
    obtain ⟨k, u, rfl⟩ := h e List.mem_cons_self
    exact .cons k u (ih fun e he => h e (List.mem_cons_of_mem _ he))
theorem walk_byText (hh : A.handled = none) {I a : Addr} (hne : a ≠ I) {es : Array (Int × Value)} {ep : Nat} {t : SetTable} (hf : t.fits es.size = true) (hb : byT w = true) :
    Walks prog w A I [I, a] [I] es.size (fun i v => ((pickOrder (w.params.setOrder a ep) es).toList.map (·.2))[i]? = some v) (fun i h => h.get? I = some (itObj (.int 0 0) i a es.size ep) ∧ h.get? a = some (setObj es ep t)) where
  sub := fun b hb => by simp at hb; simp [hb]
  frame := fun _ _ _ st hk => ⟨hk I (by simp) _ st.1, hk a (by simp) _ st.2⟩
  item := fun i s Q E hi st hQ => by
    have hl : (pickOrder (w.params.setOrder a ep) es).size = es.size := by have := (pick_perm (w.params.setOrder a ep) es).length_eq; simpa using this
    have hi' : i < (pickOrder (w.params.setOrder a ep) es).size := by omega
    have ex : (pickOrder (w.params.setOrder a ep) es)[i]? = some (pickOrder (w.params.setOrder a ep) es)[i] := Array.getElem?_eq_getElem hi'
    refine si_item (slot := 0) (nx := 0) (x := (pickOrder (w.params.setOrder a ep) es)[i].2) st.1 st.2 hf rfl (fun A' E' Q' q => next_byText st.2 hf hb ?_) fun h' e1 e2 => hQ _ h' s.toks ?_ ⟨e1, ?_⟩ ?_
    · rw [ex]; exact q
    · rw [List.getElem?_map, Array.getElem?_toList, ex]; rfl
    · rw [e2.2 a hne]; exact st.2
    · intro b o hb e
      rw [e2.2 b (by simpa using hb)]; exact e
  done := fun s Q E st hQ => by
    have hl : (pickOrder (w.params.setOrder a ep) es).size = es.size := by have := (pick_perm (w.params.setOrder a ep) es).length_eq; simpa using this
    refine si_end (slot := 0) hh st.1 st.2 hf rfl (fun A' E' Q' q => next_byText st.2 hf hb ?_) fun h' e => hQ h' s.toks fun b o hb g => e b o (by simpa using hb) g
    rw [Array.getElem?_eq_none (by omega)]; exact q
  self := fun i s Q E st h => si_self st.1 h
def slotAt (t : SetTable) (i : Nat) : Nat := if i = 0 then 0 else t.place.getD (i - 1) 0 + 1
theorem below_slot {t : SetTable} (hr : Rs t.place) {i : Nat} (hi : i ≤ t.place.size) : SetTable.below t.place (slotAt t i) = i := by
  unfold slotAt
  refine below_is hr hi (fun k hk => ?_) fun hi' => ?_
  · rw [if_neg (by omega)]
    have hk' : k < t.place.size := by omega
    have hi1 : i - 1 < t.place.size := by omega
    have : t.place.getD k 0 ≤ t.place.getD (i - 1) 0 := hr.le (by omega) hi1
    simp [Array.getD, hk', hi1] at this ⊢
    omega
  · split
    · omega
    · have hi1 : i - 1 < t.place.size := by omega
      have : t.place.getD (i - 1) 0 < t.place.getD i 0 := hr.lt (by omega) hi'
      simp [Array.getD, hi', hi1] at this ⊢
      omega
theorem walk_plain (hh : A.handled = none) {I a : Addr} (hne : a ≠ I) {es : Array (Int × Value)} {ep : Nat} {t : SetTable} (hf : t.fits es.size = true) (hb : byT w = false) (hl : t.led = true) (hd : t.plain = true ∨ es.size ≤ 1) (hr : Rs t.place) :
    Walks prog w A I [I, a] [I] es.size (fun i v => (es.toList.map (·.2))[i]? = some v) (fun i h => h.get? I = some (itObj (.int (slotAt t i) 0) i a es.size ep) ∧ h.get? a = some (setObj es ep t)) where
  sub := fun b hb => by simp at hb; simp [hb]
  frame := fun _ _ _ st hk => ⟨hk I (by simp) _ st.1, hk a (by simp) _ st.2⟩
  item := fun i s Q E hi st hQ => by
    have hp : t.place.size = es.size := by simp only [SetTable.fits, Bool.and_eq_true, beq_iff_eq] at hf; exact hf.1
    have hi' : i < t.place.size := by omega
    refine si_item (nx := slotAt t (i + 1)) (x := es[i].2) st.1 st.2 hf rfl (fun A' E' Q' q => next_plain st.2 hf hb hl hd ?_) fun h' e1 e2 => hQ _ h' s.toks ?_ ⟨e1, ?_⟩ ?_
    · rw [below_slot hr (by omega), getElem?_pos es i hi, getElem?_pos t.place i hi']
      have : slotAt t (i + 1) = t.place[i] + 1 := by simp [slotAt, Array.getD, hi']
      rw [this] at q
      exact q
    · simp [hi]
    · rw [e2.2 a hne]; exact st.2
    · intro b o hb e
      rw [e2.2 b (by simpa using hb)]; exact e
  done := fun s Q E st hQ => by
    have hp : t.place.size = es.size := by simp only [SetTable.fits, Bool.and_eq_true, beq_iff_eq] at hf; exact hf.1
    refine si_end hh st.1 st.2 hf rfl (fun A' E' Q' q => next_plain st.2 hf hb hl hd ?_) fun h' e => hQ h' s.toks fun b o hb g => e b o (by simpa using hb) g
    rw [below_slot hr (by omega), Array.getElem?_eq_none (Nat.le_refl es.size)]
    exact q
  self := fun i s Q E st h => si_self st.1 h
theorem fm_places {es : Array (Int × Value)} : ∀ {ps : List Nat}, (∀ p ∈ ps, p < es.size) → (ps.filterMap fun p => es[p]?.map (·.2)) = ps.map fun p => (es.getD p (0, .none)).2
  | [], _ => rfl
  | p :: l, hm => by
    have := hm p List.mem_cons_self
    rw [List.filterMap_cons_some (b := es[p].2) (by simp [this]), List.map_cons, fm_places fun q hq => hm q (List.mem_cons_of_mem _ hq)]
    simp [Array.getD, this]
theorem walk_drawn (hh : A.handled = none) {I a pl : Addr} (hne : a ≠ I) (hnp : pl ≠ I) {es : Array (Int × Value)} {ep : Nat} {t : SetTable} (hf : t.fits es.size = true) {ps : List Nat} (hp : ps.Perm (List.range es.size)) :
    Walks prog w A I [I, a, pl] [I] es.size (fun i v => (ps.filterMap fun p => es[p]?.map (·.2))[i]? = some v) (fun i h => h.get? I = some (itObj (.ref pl) i a es.size ep) ∧ h.get? a = some (setObj es ep t) ∧ h.get? pl = some (plObj ps)) where
  sub := fun b hb => by simp at hb; simp [hb]
  frame := fun _ _ _ st hk => ⟨hk I (by simp) _ st.1, hk a (by simp) _ st.2.1, hk pl (by simp) _ st.2.2⟩
  item := fun i s Q E hi st hQ => by
    have hl : ps.length = es.size := by have := hp.length_eq; simpa using this
    have hi' : i < ps.length := by omega
    have hm : ∀ p ∈ ps, p < es.size := fun p hp' => by have := hp.mem_iff.mp hp'; simpa using this
    have hpi : ps[i] < es.size := hm _ (List.getElem_mem hi')
    have efm := fm_places hm
    refine sd_item (p := ps[i]) (x := es[ps[i]]) st.1 st.2.1 st.2.2 hf rfl (List.getElem?_eq_getElem hi') (getElem?_pos es _ hpi) fun h' e1 e2 => hQ _ h' s.toks ?_ ⟨e1, ?_, ?_⟩ ?_
    · rw [efm, List.getElem?_map, List.getElem?_eq_getElem hi']
      simp [Array.getD, hpi]
    · rw [e2.2 a hne]; exact st.2.1
    · rw [e2.2 pl hnp]; exact st.2.2
    · intro b o hb e
      rw [e2.2 b (by simpa using hb)]; exact e
  done := fun s Q E st hQ => by
    have hl : ps.length = es.size := by have := hp.length_eq; simpa using this
    exact sd_end hh st.1 st.2.1 st.2.2 hf rfl (List.getElem?_eq_none (by omega)) fun h' e => hQ h' s.toks fun b o hb g => e b o (by simpa using hb) g
  self := fun i s Q E st h => si_self st.1 h
end
end MwSet
set_option maxHeartbeats 2000000
namespace MwSortR
open PySem PyProof.Rows
class Ranks where
  ρ : Value → Int
  κ : SortKind
  V : Value → Prop
class CmpOk [Ranks] (prog : Program) (w : World) (A : Around) (s : Shared) : Prop where
  lt : ∀ (x y : Value) (Q : Bool → Shared → Prop) (E : Value → Shared → Prop), Ranks.V x → Ranks.V y → Q (decide (Ranks.ρ x < Ranks.ρ y)) s → wpAny (model prog w) A (keyLt' Ranks.κ x y) Q E s
variable [Ranks]
def K (xs : Array Keyed) (i : Nat) : Int := match xs[i]? with
  | some p => Ranks.ρ p.1
  | none => 0
def SortedTo (xs : Array Keyed) (k : Nat) : Prop := ∀ i j, i ≤ j → j < k → K xs i ≤ K xs j
def KeysIn (xs : Array Keyed) : Prop := ∀ p, p ∈ xs.toList → Ranks.V p.1
def IsK (v : Value) (a : Int) : Prop := Ranks.V v ∧ Ranks.ρ v = a
theorem K_congr {xs ys : Array Keyed} {i j : Nat} (h : xs[i]? = ys[j]?) : K xs i = K ys j := congrArg (fun z : Option Keyed => match z with | some p => Ranks.ρ p.1 | none => 0) h
theorem K_ite {xs ys : Array Keyed} {k m n : Nat} {c : Prop} [Decidable c] (e : xs[k]? = if c then ys[m]? else ys[n]?) : K xs k = if c then K ys m else K ys n := by
  by_cases z : c
  · rw [if_pos z] at e ⊢
    exact K_congr e
  · rw [if_neg z] at e ⊢
    exact K_congr e
theorem K_bubble {xs : Array Keyed} {src d : Nat} (hs : src < xs.size) (hd : d ≤ src) (k : Nat) : K (bubble xs src d) k = if k = src - d then K xs src else if src - d < k ∧ k ≤ src then K xs (k - 1) else K xs k := by
  have e := getElem?_bubble hs d hd k
  by_cases z : k = src - d
  · rw [if_pos z] at e ⊢
    exact K_congr e
  · rw [if_neg z] at e ⊢
    exact K_ite e
theorem K_mirror {xs : Array Keyed} {i j : Nat} (hj : j ≤ xs.size) (k : Nat) : K (mirror xs i j ((j - i) / 2)) k = if i ≤ k ∧ k < j then K xs (i + j - 1 - k) else K xs k := K_ite (getElem?_mirror_all (i := i) hj k)
theorem K_mirror_equal {xs : Array Keyed} {i j : Nat} (hj : j ≤ xs.size) (heq : ∀ k, i ≤ k → k < j → K xs k = K xs (j - 1)) (k : Nat) : K (mirror xs i j ((j - i) / 2)) k = K xs k := by
  rw [K_mirror hj]
  by_cases z : i ≤ k ∧ k < j
  · rw [if_pos z, heq k z.1 z.2]
    exact heq _ (by omega) (by omega)
  · rw [if_neg z]
def gallop' : Bool → Keyed → Array Keyed → Nat → Nat → Nat → StateT SortSt Sem (Option Nat) := sortPriv% PySem.Builtin.gallop
theorem gallop'_eq (lf : Bool) (ky : Keyed) (ar : Array Keyed) (bs n hint : Nat) : gallop' lf ky ar bs n hint = (do
  let ask (i : Nat) : StateT SortSt Sem (Option Bool) := do
    let y ← elem' ar (bs + i)
    if lf then lt' y ky else return (← lt' ky y).map (!·)
  let mut l := 0
  let mut o := 1
  let mut lw := 0
  let mut up := 0
  let some fw ← ask hint | return none
  if fw then
    let far := n - hint
    for _ in [0:n] do
      if o ≥ far then break
      let some go ← ask (hint + o) | return none
      if !go then break
      l := o
      o := 2 * o + 1
    lw := hint + l + 1
    up := hint + min o far
  else
    let far := hint + 1
    for _ in [0:n] do
      if o ≥ far then break
      let some go ← ask (hint - o) | return none
      if go then break
      l := o
      o := 2 * o + 1
    lw := hint + 1 - min o far
    up := hint - l
  for _ in [0:n] do
    if lw ≥ up then break
    let mid := lw + (up - lw) / 2
    let some go ← ask mid | return none
    if go then lw := mid + 1 else up := mid
  return some up) := rfl
section
variable {prog : Program} {w : World} {A : Around} {E : Value → Shared → Prop} {s : Shared} [CmpOk prog w A s]
theorem wpS_lt2 {st : SortSt} {x y : Keyed} {a b : Int} {Q : Option Bool → SortSt → Prop} (hk : kindOf st = Ranks.κ) (hx : IsK x.1 a) (hy : IsK y.1 b) (h : Q (some (decide (a < b))) st) :
    wpS (model prog w) A E s (lt' x y) Q st := by
  rw [lt'_eq]
  refine wpS_bind (wpS_get ?_)
  rw [hk]
  refine wpS_bind (wpS_lift (wpAny_attempt (CmpOk.lt _ _ _ _ hx.1 hy.1 ⟨rfl, ?_⟩)))
  rw [hx.2, hy.2]
  exact wpS_pure h
theorem wpS_elem {st : SortSt} {arr : Array Keyed} {i : Nat} {p : Keyed} {Q : Keyed → SortSt → Prop} (h : arr[i]? = some p) (q : Q p st) : wpS (model prog w) A E s (elem' arr i) Q st := by
  rw [elem'_eq, h]
  exact wpS_pure q
def Turns (B : Nat → Bool) (n k : Nat) : Prop := k ≤ n ∧ (∀ i, i < k → B i = true) ∧ ∀ i, k ≤ i → i < n → B i = false
def Fwd (left : Bool) (kk : Int) (arr : Array Keyed) (b : Nat) (i : Nat) : Bool := if left = true then decide (K arr (b + i) < kk) else !decide (kk < K arr (b + i))
theorem at_int {arr : Array Keyed} (hI : KeysIn arr) {i : Nat} (h : i < arr.size) : ∃ (p : Keyed) (t : Tok), arr[i]? = some p ∧ IsK p.1 (K arr i) := by
  have e : arr[i]? = some arr[i] := getElem?_pos arr i h
  refine ⟨arr[i], 0, e, hI arr[i] (by simp), ?_⟩
  unfold K
  rw [e]
theorem fwd_mono {left : Bool} {kk : Int} {arr : Array Keyed} {b n : Nat} (hs : ∀ i j, i ≤ j → j < n → K arr (b + i) ≤ K arr (b + j)) {i j : Nat} (hij : i ≤ j) (hj : j < n) (h : Fwd left kk arr b j = true) : Fwd left kk arr b i = true := by
  have := hs i j hij hj
  unfold Fwd at h ⊢
  cases left
  · simp at h ⊢
    omega
  · simp at h ⊢
    omega
theorem wpS_fwd {st : SortSt} {left : Bool} {key : Keyed} {arr : Array Keyed} {b i : Nat} {kk : Int} {Q : Option Bool → SortSt → Prop} (hk : kindOf st = Ranks.κ) (hkey : IsK key.1 kk) (hI : KeysIn arr) (hi : b + i < arr.size)
    (h : Q (some (Fwd left kk arr b i)) st) :
    wpS (model prog w) A E s (do let x ← (sortPriv% PySem.Builtin.elem) arr (b + i); if left = true then (sortPriv% PySem.Builtin.lt) x key else do let r ← (sortPriv% PySem.Builtin.lt) key x; pure (Option.map (fun x => !x) r)) Q st := by
  obtain ⟨p, t, e, hp⟩ := at_int hI hi
  refine wpS_bind (wpS_elem (arr := arr) e ?_)
  unfold Fwd at h
  cases left with
  | true =>
    rw [if_pos rfl]
    exact wpS_lt2 hk hp hkey (by simpa using h)
  | false =>
    rw [if_neg Bool.false_ne_true]
    exact wpS_bind (wpS_lt2 hk hkey hp (wpS_pure (by simpa using h)))
theorem wpS_gallop {st : SortSt} {left : Bool} {key : Keyed} {arr : Array Keyed} {b n hint : Nat} {kk : Int} {Q : Option Nat → SortSt → Prop} (hk : kindOf st = Ranks.κ) (hkey : IsK key.1 kk)
    (hI : KeysIn arr) (hb : b + n ≤ arr.size) (hh : hint < n) (hs : ∀ i j, i ≤ j → j < n → K arr (b + i) ≤ K arr (b + j))
    (h : ∀ k, Turns (Fwd left kk arr b) n k → Q (some k) st) : wpS (model prog w) A E s (gallop' left key arr b n hint) Q st := by
  have mono : ∀ {i j : Nat}, i ≤ j → j < n → Fwd left kk arr b j = true → Fwd left kk arr b i = true := fun a b c => fwd_mono hs a b c
  have anti : ∀ {i j : Nat}, i ≤ j → j < n → Fwd left kk arr b i = false → Fwd left kk arr b j = false := fun {i j} a b c => by
    cases e : Fwd left kk arr _ j with
    | false => rfl
    | true => rw [mono a b e] at c; cases c
  have half : ∀ (lo hi : Nat), lo ≤ hi → hi ≤ n → (∀ i, i < lo → Fwd left kk arr b i = true) → (∀ i, hi ≤ i → i < n → Fwd left kk arr b i = false) →
      ∀ (f : Nat → (Option (Option Nat) × Nat × Nat) → StateT SortSt Sem (ForInStep (Option (Option Nat) × Nat × Nat))),
      (∀ x c, f x c = (if c.snd.fst ≥ c.snd.snd then pure (ForInStep.done (none, c.snd.fst, c.snd.snd)) else do
        let r ← (do let x ← (sortPriv% PySem.Builtin.elem) arr (b + (c.snd.fst + (c.snd.snd - c.snd.fst) / 2)); if left = true then (sortPriv% PySem.Builtin.lt) x key else do let r ← (sortPriv% PySem.Builtin.lt) key x; pure (Option.map (fun x => !x) r))
        match r with
        | some more => if more = true then pure (ForInStep.yield (none, c.snd.fst + (c.snd.snd - c.snd.fst) / 2 + 1, c.snd.snd)) else pure (ForInStep.yield (none, c.snd.fst, c.snd.fst + (c.snd.snd - c.snd.fst) / 2))
        | x => pure (ForInStep.done (some none, c.snd.fst, c.snd.snd)))) →
      wpS (model prog w) A E s (forIn [:n] (none, lo, hi) f) (fun c st' => st' = st ∧ c.fst = none ∧ Turns (Fwd left kk arr b) n c.snd.snd) st := by
    intro lo hi h1 h2 h3 h4 f hf
    refine wpS_forRange (a := 0) (I := fun (x : Nat) (c : Option (Option Nat) × Nat × Nat) (st' : SortSt) => st' = st ∧ c.fst = none ∧ c.snd.fst ≤ c.snd.snd ∧ c.snd.snd ≤ n ∧ (∀ i, i < c.snd.fst → Fwd left kk arr b i = true) ∧ (∀ i, c.snd.snd ≤ i → i < n → Fwd left kk arr b i = false) ∧ c.snd.snd - c.snd.fst ≤ n - x) ?_ ?_ ⟨rfl, rfl, h1, h2, h3, h4, by show hi - lo ≤ n - 0; omega⟩
    · rintro x ⟨c0, l, r⟩ st' _ hx ⟨rfl, rfl, i1, i2, i3, i4, i5⟩
      dsimp only at i1 i2 i3 i4 i5
      rw [hf]
      dsimp only
      by_cases hlr : l ≥ r
      · rw [if_pos hlr]
        have : l = r := by omega
        subst this
        exact wpS_pure ⟨rfl, rfl, i2, i3, i4⟩
      · rw [if_neg hlr]
        refine wpS_bind (wpS_fwd hk hkey hI (by omega) ?_)
        cases e : Fwd left kk arr b (l + (r - l) / 2) with
        | true =>
          dsimp only
          rw [if_pos rfl]
          exact wpS_pure ⟨rfl, rfl, by dsimp only; omega, i2, fun i hi => mono (show i ≤ l + (r - l) / 2 by dsimp only at hi; omega) (by omega) e, i4, by dsimp only; omega⟩
        | false =>
          dsimp only
          rw [if_neg Bool.false_ne_true]
          exact wpS_pure ⟨rfl, rfl, by dsimp only; omega, by dsimp only; omega, i3, fun i hi hn => anti hi hn e, by dsimp only; omega⟩
    · rintro ⟨c0, l, r⟩ st' ⟨rfl, rfl, i1, i2, i3, i4, i5⟩
      dsimp only at i1 i2 i3 i4 i5 ⊢
      have : l = r := by omega
      subst this
      exact ⟨rfl, rfl, i2, i3, i4⟩
  rw [gallop'_eq]
  dsimp only
  refine wpS_bind (wpS_fwd hk hkey hI (by omega) ?_)
  cases e0 : Fwd left kk arr b hint with
  | true =>
    dsimp only
    rw [if_pos rfl]
    refine wpS_bind (wpS_mono (wpS_forRange (a := 0) (I := fun (x : Nat) (c : Option (Option Nat) × Nat × Nat) (st' : SortSt) => st' = st ∧ c.fst = none ∧ c.snd.fst < c.snd.snd ∧ hint + c.snd.fst < n ∧ Fwd left kk arr b (hint + c.snd.fst) = true ∧ x + 1 ≤ c.snd.snd)
      (Q := fun (c : Option (Option Nat) × Nat × Nat) (st' : SortSt) => st' = st ∧ c.fst = none ∧ c.snd.fst < c.snd.snd ∧ hint + c.snd.fst < n ∧ Fwd left kk arr b (hint + c.snd.fst) = true ∧ (n - hint ≤ c.snd.snd ∨ (hint + c.snd.snd < n ∧ Fwd left kk arr b (hint + c.snd.snd) = false))) ?_ ?_ ⟨rfl, rfl, by decide, hh, (show Fwd left kk arr b (hint + 0) = true from e0), by decide⟩) ?_)
    · rintro x ⟨c0, l, r⟩ st' _ hx ⟨rfl, rfl, i1, i2, i3, i4⟩
      dsimp only at i1 i2 i3 i4 ⊢
      by_cases hlr : r ≥ n - hint
      · rw [if_pos hlr]
        exact wpS_pure ⟨rfl, rfl, i1, i2, i3, .inl hlr⟩
      · rw [if_neg hlr]
        refine wpS_bind (wpS_fwd hk hkey hI (by omega) ?_)
        cases e : Fwd left kk arr b (hint + r) with
        | true =>
          dsimp only
          rw [if_neg (by simp)]
          exact wpS_pure ⟨rfl, rfl, by dsimp only; omega, by dsimp only; omega, e, by dsimp only; omega⟩
        | false =>
          dsimp only
          rw [if_pos (show (!false) = true from rfl)]
          exact wpS_pure ⟨rfl, rfl, i1, i2, i3, .inr ⟨by dsimp only; omega, e⟩⟩
    · rintro ⟨c0, l, r⟩ st' ⟨rfl, rfl, i1, i2, i3, i4⟩
      dsimp only at i1 i2 i3 i4 ⊢
      exact ⟨rfl, rfl, i1, i2, i3, .inl (by omega)⟩
    · rintro ⟨c0, l, r⟩ st' ⟨rfl, rfl, i1, i2, i3, i4⟩
      dsimp only at i1 i2 i3 i4 ⊢
      refine wpS_bind (wpS_mono (half (hint + l + 1) (hint + min r (n - hint)) (by omega) (by omega) (fun i hi => mono (show i ≤ hint + l by omega) i2 i3) (fun i hi hn => ?_) _ (fun x c => rfl)) ?_)
      · rcases i4 with z | ⟨z1, z2⟩
        · omega
        · exact anti (show hint + r ≤ i by omega) hn z2
      · rintro ⟨c0, l2, r2⟩ st' ⟨rfl, rfl, t⟩
        exact wpS_pure (h _ t)
  | false =>
    dsimp only
    rw [if_neg Bool.false_ne_true]
    refine wpS_bind (wpS_mono (wpS_forRange (a := 0) (I := fun (x : Nat) (c : Option (Option Nat) × Nat × Nat) (st' : SortSt) => st' = st ∧ c.fst = none ∧ c.snd.fst < c.snd.snd ∧ c.snd.fst ≤ hint ∧ Fwd left kk arr b (hint - c.snd.fst) = false ∧ x + 1 ≤ c.snd.snd)
      (Q := fun (c : Option (Option Nat) × Nat × Nat) (st' : SortSt) => st' = st ∧ c.fst = none ∧ c.snd.fst < c.snd.snd ∧ c.snd.fst ≤ hint ∧ Fwd left kk arr b (hint - c.snd.fst) = false ∧ (hint + 1 ≤ c.snd.snd ∨ (c.snd.snd ≤ hint ∧ Fwd left kk arr b (hint - c.snd.snd) = true))) ?_ ?_ ⟨rfl, rfl, by decide, Nat.zero_le _, (show Fwd left kk arr b (hint - 0) = false from e0), by decide⟩) ?_)
    · rintro x ⟨c0, l, r⟩ st' _ hx ⟨rfl, rfl, i1, i2, i3, i4⟩
      dsimp only at i1 i2 i3 i4 ⊢
      by_cases hlr : r ≥ hint + 1
      · rw [if_pos hlr]
        exact wpS_pure ⟨rfl, rfl, i1, i2, i3, .inl hlr⟩
      · rw [if_neg hlr]
        refine wpS_bind (wpS_fwd hk hkey hI (by omega) ?_)
        cases e : Fwd left kk arr b (hint - r) with
        | true =>
          dsimp only
          rw [if_pos rfl]
          exact wpS_pure ⟨rfl, rfl, i1, i2, i3, .inr ⟨by dsimp only; omega, e⟩⟩
        | false =>
          dsimp only
          rw [if_neg Bool.false_ne_true]
          exact wpS_pure ⟨rfl, rfl, by dsimp only; omega, by dsimp only; omega, e, by dsimp only; omega⟩
    · rintro ⟨c0, l, r⟩ st' ⟨rfl, rfl, i1, i2, i3, i4⟩
      dsimp only at i1 i2 i3 i4 ⊢
      exact ⟨rfl, rfl, i1, i2, i3, .inl (by omega)⟩
    · rintro ⟨c0, l, r⟩ st' ⟨rfl, rfl, i1, i2, i3, i4⟩
      dsimp only at i1 i2 i3 i4 ⊢
      refine wpS_bind (wpS_mono (half (hint + 1 - min r (hint + 1)) (hint - l) (by omega) (by omega) (fun i hi => ?_) (fun i hi hn => anti hi hn i3) _ (fun x c => rfl)) ?_)
      · rcases i4 with z | ⟨z1, z2⟩
        · omega
        · exact mono (show i ≤ hint - r by omega) (by omega) z2
      · rintro ⟨c0, l2, r2⟩ st' ⟨rfl, rfl, t⟩
        exact wpS_pure (h _ t)
end
end MwSortR
namespace MwSortR
open PySem PyProof.Rows
variable [Ranks]
def kf (p : Keyed) : Int := Ranks.ρ p.1
def Rise (l : List Keyed) : Prop := l.Pairwise (fun x y => kf x ≤ kf y)
def Ahead (l r : List Keyed) : Prop := ∀ x ∈ l, ∀ y ∈ r, kf x ≤ kf y
theorem Rise.append {l r : List Keyed} (h1 : Rise l) (h2 : Rise r) (h : Ahead l r) : Rise (l ++ r) := List.pairwise_append.mpr ⟨h1, h2, h⟩
theorem Rise.sub {l r : List Keyed} (h : Rise r) (s : l.Sublist r) : Rise l := h.sublist s
structure MI (a b out : List Keyed) (ia ib : Nat) : Prop where
  perm : out.Perm (a.take ia ++ b.take ib)
  rise : Rise out
  ahA : Ahead out (a.drop ia)
  ahB : Ahead out (b.drop ib)
theorem MI.moreB {a b out : List Keyed} {ia ib k : Nat} (h : MI a b out ia ib) (hb : Rise b) (hk : ib + k ≤ b.length) (hx : Ahead ((b.drop ib).take k) (a.drop ia)) : MI a b (out ++ (b.drop ib).take k) ia (ib + k) := by
  have e : b.drop ib = (b.drop ib).take k ++ b.drop (ib + k) := by rw [← List.drop_drop, List.take_append_drop]
  have r : Rise ((b.drop ib).take k ++ b.drop (ib + k)) := by rw [← e]; exact hb.sub (List.drop_sublist _ _)
  have c := List.pairwise_append.mp r
  refine ⟨?_, h.rise.append c.1 fun x hx y hy => h.ahB x hx y (List.mem_of_mem_take hy), fun x hx' y hy => ?_, fun x hx' y hy => ?_⟩
  · rw [List.take_add]
    have := h.perm.append_right ((b.drop ib).take k)
    rwa [List.append_assoc] at this
  · rcases List.mem_append.mp hx' with z | z
    · exact h.ahA x z y hy
    · exact hx x z y hy
  · rcases List.mem_append.mp hx' with z | z
    · exact h.ahB x z y (by rw [e]; exact List.mem_append_right _ hy)
    · exact c.2.2 x z y hy
theorem MI.swap {a b out : List Keyed} {ia ib : Nat} (h : MI a b out ia ib) : MI b a out ib ia := ⟨h.perm.trans List.perm_append_comm, h.rise, h.ahB, h.ahA⟩
theorem MI.moreA {a b out : List Keyed} {ia ib k : Nat} (h : MI a b out ia ib) (ha : Rise a) (hk : ia + k ≤ a.length) (hx : Ahead ((a.drop ia).take k) (b.drop ib)) : MI a b (out ++ (a.drop ia).take k) (ia + k) ib := (h.swap.moreB ha hk hx).swap
theorem MI.fin {a b out : List Keyed} (h : MI a b out a.length b.length) : out.Perm (a ++ b) ∧ Rise out := by
  refine ⟨?_, h.rise⟩
  have := h.perm
  rwa [List.take_length, List.take_length] at this
theorem MI.restA {a b out : List Keyed} {ia : Nat} (h : MI a b out ia b.length) (ha : Rise a) (hi : ia ≤ a.length) : (out ++ a.drop ia).Perm (a ++ b) ∧ Rise (out ++ a.drop ia) := by
  have m := h.moreA (k := a.length - ia) ha (by omega) (by rw [List.drop_length]; exact fun x _ y hy => absurd hy (by simp))
  have e : (a.drop ia).take (a.length - ia) = a.drop ia := List.take_of_length_le (by rw [List.length_drop]; exact Nat.le_refl _)
  rw [e, show ia + (a.length - ia) = a.length by omega] at m
  exact m.fin
theorem MI.lastA {a b out : List Keyed} {ia ib : Nat} (h : MI a b out ia ib) (ha : Rise a) (hb : Rise b) (hi : ia ≤ a.length) (hj : ib ≤ b.length) (hx : Ahead (b.drop ib) (a.drop ia)) :
    (out ++ b.drop ib ++ a.drop ia).Perm (a ++ b) ∧ Rise (out ++ b.drop ib ++ a.drop ia) := by
  have e : (b.drop ib).take (b.length - ib) = b.drop ib := List.take_of_length_le (by rw [List.length_drop]; exact Nat.le_refl _)
  have m := h.moreB (k := b.length - ib) hb (by omega) (by rw [e]; exact hx)
  rw [e, show ib + (b.length - ib) = b.length by omega] at m
  exact m.restA ha hi
theorem MI.restB {a b out : List Keyed} {ib : Nat} (h : MI a b out a.length ib) (hb : Rise b) (hi : ib ≤ b.length) : (out ++ b.drop ib).Perm (a ++ b) ∧ Rise (out ++ b.drop ib) := by
  have := h.swap.restA hb hi
  exact ⟨this.1.trans List.perm_append_comm, this.2⟩
theorem MI.nil {a b : List Keyed} : MI a b [] 0 0 := ⟨by simp, List.Pairwise.nil, fun x hx => absurd hx (by simp), fun x hx => absurd hx (by simp)⟩
theorem MI.len {a b out : List Keyed} {ia ib : Nat} (h : MI a b out ia ib) (h1 : ia ≤ a.length) (h2 : ib ≤ b.length) : out.length = ia + ib := by
  have := h.perm.length_eq
  rw [List.length_append, List.length_take, List.length_take] at this
  omega
theorem mem_seg {l : List Keyed} {x : Keyed} {i k : Nat} (h : x ∈ (l.drop i).take k) : ∃ n, ∃ _ : n < l.length, i ≤ n ∧ n < i + k ∧ l[n] = x := by
  obtain ⟨m, hm, e⟩ := List.mem_iff_getElem.mp h
  rw [List.length_take, List.length_drop] at hm
  refine ⟨i + m, by omega, by omega, by omega, ?_⟩
  rw [List.getElem_take, List.getElem_drop] at e
  exact e
theorem mem_rest {l : List Keyed} {x : Keyed} {i : Nat} (h : x ∈ l.drop i) : ∃ n, ∃ _ : n < l.length, i ≤ n ∧ l[n] = x := by
  obtain ⟨m, hm, e⟩ := List.mem_iff_getElem.mp h
  rw [List.length_drop] at hm
  refine ⟨i + m, by omega, by omega, ?_⟩
  rw [List.getElem_drop] at e
  exact e
theorem mem_first {l : List Keyed} {x : Keyed} {i : Nat} (h : x ∈ l.take i) : ∃ n, ∃ _ : n < l.length, n < i ∧ l[n] = x := by
  obtain ⟨m, hm, e⟩ := List.mem_iff_getElem.mp h
  rw [List.length_take] at hm
  refine ⟨m, by omega, by omega, ?_⟩
  rw [List.getElem_take] at e
  exact e
theorem kf_at {a : Array Keyed} {n : Nat} (h : n < a.toList.length) : kf a.toList[n] = K a n := by
  unfold kf K
  rw [getElem?_pos a n (by simpa using h)]
  simp
theorem riseK {a : Array Keyed} (h : Rise a.toList) {i j : Nat} (hij : i ≤ j) (hj : j < a.size) : K a i ≤ K a j := by
  rcases Nat.lt_or_ge i j with z | z
  · have := (List.pairwise_iff_getElem.mp h) i j (by simp; omega) (by simpa using hj) z
    rwa [kf_at, kf_at] at this
  · have : i = j := by omega
    rw [this]; exact Int.le_refl _
theorem rise_of {a : Array Keyed} (h : ∀ i j, i ≤ j → j < a.size → K a i ≤ K a j) : Rise a.toList := by
  refine List.pairwise_iff_getElem.mpr fun i j hi hj hij => ?_
  rw [kf_at, kf_at]
  exact h i j (by omega) (by simpa using hj)
structure MH (a b out : List Keyed) (na nb : Nat) : Prop where
  perm : out.Perm (a.drop na ++ b.drop nb)
  rise : Rise out.reverse
  ahA : Ahead (a.take na) out
  ahB : Ahead (b.take nb) out
theorem MH.swap {a b out : List Keyed} {na nb : Nat} (h : MH a b out na nb) : MH b a out nb na := ⟨h.perm.trans List.perm_append_comm, h.rise, h.ahB, h.ahA⟩
theorem MH.nil {a b : List Keyed} : MH a b [] a.length b.length := ⟨by simp, List.Pairwise.nil, fun x _ y hy => absurd hy (by simp), fun x _ y hy => absurd hy (by simp)⟩
theorem seg_split {l : List Keyed} {i j : Nat} (h : i ≤ j) : l.drop i = (l.drop i).take (j - i) ++ l.drop j := by
  have e : l.drop j = (l.drop i).drop (j - i) := by rw [List.drop_drop]; congr 1; omega
  rw [e, List.take_append_drop]
theorem first_split {l : List Keyed} {i j : Nat} (h : i ≤ j) : l.take j = l.take i ++ (l.drop i).take (j - i) := by
  have : j = i + (j - i) := by omega
  rw [this, List.take_add]
  congr 3
theorem MH.moreA {a b out : List Keyed} {na nb p : Nat} (h : MH a b out na nb) (ha : Rise a) (hp : p ≤ na) (hx : Ahead (b.take nb) ((a.drop p).take (na - p))) : MH a b (out ++ ((a.drop p).take (na - p)).reverse) p nb := by
  have e1 := seg_split (l := a) hp
  have e2 := first_split (l := a) hp
  have r1 : Rise (a.take p ++ (a.drop p).take (na - p)) := by rw [← e2]; exact ha.sub (List.take_sublist _ _)
  have c := List.pairwise_append.mp r1
  have hA : Ahead ((a.drop p).take (na - p)) out := fun x hx' y hy => h.ahA x (by rw [e2]; exact List.mem_append_right _ hx') y hy
  refine ⟨?_, ?_, fun x hx' y hy => ?_, fun x hx' y hy => ?_⟩
  · have e3 : a.drop p ++ b.drop nb = (a.drop p).take (na - p) ++ (a.drop na ++ b.drop nb) := by rw [← List.append_assoc, ← e1]
    rw [e3]
    refine (h.perm.append_right _).trans ?_
    refine ((List.reverse_perm _).append_left _).trans ?_
    exact List.perm_append_comm
  · rw [List.reverse_append, List.reverse_reverse]
    refine Rise.append c.2.1 h.rise fun x hx' y hy => hA x hx' y (List.mem_reverse.mp hy)
  · rcases List.mem_append.mp hy with z | z
    · exact h.ahA x (by rw [e2]; exact List.mem_append_left _ hx') y z
    · exact c.2.2 x hx' y (List.mem_reverse.mp z)
  · rcases List.mem_append.mp hy with z | z
    · exact h.ahB x hx' y z
    · exact hx x hx' y (List.mem_reverse.mp z)
theorem MH.moreB {a b out : List Keyed} {na nb p : Nat} (h : MH a b out na nb) (hb : Rise b) (hp : p ≤ nb) (hx : Ahead (a.take na) ((b.drop p).take (nb - p))) : MH a b (out ++ ((b.drop p).take (nb - p)).reverse) na p := (h.swap.moreA hb hp hx).swap
theorem MH.fin {a b out : List Keyed} (h : MH a b out 0 0) : out.reverse.Perm (a ++ b) ∧ Rise out.reverse := ⟨(List.reverse_perm _).trans (by simpa using h.perm), h.rise⟩
theorem MH.restB {a b out : List Keyed} {nb : Nat} (h : MH a b out 0 nb) (hb : Rise b) (hi : nb ≤ b.length) : (b.take nb ++ out.reverse).Perm (a ++ b) ∧ Rise (b.take nb ++ out.reverse) := by
  have m := h.moreB (p := 0) hb (by omega) (fun x hx => absurd hx (by simp))
  have := m.fin
  simpa using this
theorem MH.restA {a b out : List Keyed} {na : Nat} (h : MH a b out na 0) (ha : Rise a) (hi : na ≤ a.length) : (a.take na ++ out.reverse).Perm (a ++ b) ∧ Rise (a.take na ++ out.reverse) := by
  have m := h.moreA (p := 0) ha (by omega) (fun x hx => absurd hx (by simp))
  have := m.fin
  simpa using this
theorem MH.firstB {a b out : List Keyed} {na nb : Nat} (h : MH a b out na nb) (ha : Rise a) (hb : Rise b) (hi : na ≤ a.length) (hj : nb ≤ b.length) (hx : Ahead (b.take nb) (a.take na)) :
    (b.take nb ++ a.take na ++ out.reverse).Perm (a ++ b) ∧ Rise (b.take nb ++ a.take na ++ out.reverse) := by
  have m := h.moreA (p := 0) ha (by omega) (by simpa using hx)
  have := m.restB hb hj
  simpa using this
end MwSortR
set_option maxHeartbeats 2000000
namespace MwSortR
open PySem PyProof.Rows
variable [Ranks]
def mergeLo' : Array Keyed → Array Keyed → StateT SortSt Sem (Array Keyed) := sortPriv% PySem.Builtin.mergeLo
def setG' : Nat → StateT SortSt Sem Unit := sortPriv% PySem.Builtin.setMinGallop
theorem setG'_eq (g : Nat) : setG' g = modify fun z => SortSt.mk' (kindOf z) (arrOf z) (pendingOf z) g (failedOf z) := rfl
abbrev LoR := Option (Array Keyed) × Array Keyed × Nat × Nat × Nat × Nat
abbrev LoG := Option (Array Keyed) × Array Keyed × Nat × Nat × Nat × Nat × Nat
abbrev LoO := Option (Array Keyed) × Array Keyed × Nat × Nat × Nat
def fDone (a b out : Array Keyed) (ia ib : Nat) : Array Keyed := out ++ a.extract ia a.size ++ b.extract ib b.size
def fLast (a b out : Array Keyed) (ia ib : Nat) : Array Keyed := out ++ b.extract ib b.size ++ a.extract ia a.size
def loR (a b : Array Keyed) (mg : Nat) (out : Array Keyed) (ia ib ac bc : Nat) : StateT SortSt Sem (ForInStep LoR) := do
  let p ← elem' b ib
  let q ← elem' a ia
  let r ← lt' p q
  match r with
  | some t =>
    if t = true then do
      let z ← elem' b ib
      if (ib + 1 == b.size) = true then pure (.done (some (fDone a b (out.push z) ia (ib + 1)), out.push z, ia, ib + 1, 0, bc + 1))
      else if bc + 1 ≥ mg then pure (.done (none, out.push z, ia, ib + 1, 0, bc + 1))
      else pure (.yield (none, out.push z, ia, ib + 1, 0, bc + 1))
    else do
      let z ← elem' a ia
      if (ia + 1 + 1 == a.size) = true then pure (.done (some (fLast a b (out.push z) (ia + 1) ib), out.push z, ia + 1, ib, ac + 1, 0))
      else if ac + 1 ≥ mg then pure (.done (none, out.push z, ia + 1, ib, ac + 1, 0))
      else pure (.yield (none, out.push z, ia + 1, ib, ac + 1, 0))
  | _ => pure (.done (some (fDone a b out ia ib), out, ia, ib, ac, bc))
def loG3 (a b : Array Keyed) (out : Array Keyed) (ia ib mg ac bc : Nat) : StateT SortSt Sem (ForInStep LoG) := do
  let z ← elem' a ia
  if (ia + 1 + 1 == a.size) = true then pure (.done (some (fLast a b (out.push z) (ia + 1) ib), out.push z, ia + 1, ib, mg, ac, bc))
  else if (decide (ac < 7) && decide (bc < 7)) = true then pure (.done (none, out.push z, ia + 1, ib, mg, ac, bc))
  else pure (.yield (none, out.push z, ia + 1, ib, mg, ac, bc))
def loG2 (a b : Array Keyed) (out : Array Keyed) (ia ib mg ac bc : Nat) : StateT SortSt Sem (ForInStep LoG) := do
  let z ← elem' b ib
  if (ib + 1 == b.size) = true then pure (.done (some (fDone a b (out.push z) ia (ib + 1)), out.push z, ia, ib + 1, mg, ac, bc))
  else do
    let y ← elem' a ia
    let r ← gallop' true y b (ib + 1) (b.size - (ib + 1)) 0
    match r with
    | some k =>
      if k > 0 then
        if (ib + 1 + k == b.size) = true then pure (.done (some (fDone a b (out.push z ++ b.extract (ib + 1) (ib + 1 + k)) ia (ib + 1 + k)), out.push z ++ b.extract (ib + 1) (ib + 1 + k), ia, ib + 1 + k, mg, ac, k))
        else loG3 a b (out.push z ++ b.extract (ib + 1) (ib + 1 + k)) ia (ib + 1 + k) mg ac k
      else loG3 a b (out.push z) ia (ib + 1) mg ac k
    | _ => pure (.done (some (fDone a b (out.push z) ia (ib + 1)), out.push z, ia, ib + 1, mg, ac, bc))
def loG1 (a b : Array Keyed) (out : Array Keyed) (ia ib mg ac bc : Nat) : StateT SortSt Sem (ForInStep LoG) := do
  setG' mg
  let y ← elem' b ib
  let r ← gallop' false y a ia (a.size - ia) 0
  match r with
  | some k =>
    if k > 0 then
      if (ia + k + 1 == a.size) = true then pure (.done (some (fLast a b (out ++ a.extract ia (ia + k)) (ia + k) ib), out ++ a.extract ia (ia + k), ia + k, ib, mg, k, bc))
      else if (ia + k == a.size) = true then pure (.done (some (fDone a b (out ++ a.extract ia (ia + k)) (ia + k) ib), out ++ a.extract ia (ia + k), ia + k, ib, mg, k, bc))
      else loG2 a b (out ++ a.extract ia (ia + k)) (ia + k) ib mg k bc
    else loG2 a b out ia ib mg k bc
  | _ => pure (.done (some (fDone a b out ia ib), out, ia, ib, mg, ac, bc))
def loG (a b : Array Keyed) (out : Array Keyed) (ia ib mg ac bc : Nat) : StateT SortSt Sem (ForInStep LoG) :=
  if mg > 1 then loG1 a b out ia ib (mg - 1) ac bc else loG1 a b out ia ib mg ac bc
def loO (a b : Array Keyed) (out : Array Keyed) (ia ib mg : Nat) : StateT SortSt Sem (ForInStep LoO) := do
  let c ← forIn [:a.size + b.size] ((none, out, ia, ib, 0, 0) : LoR) fun _ c => loR a b mg c.2.1 c.2.2.1 c.2.2.2.1 c.2.2.2.2.1 c.2.2.2.2.2
  match c.1 with
  | some r => pure (.done (some r, c.2.1, c.2.2.1, c.2.2.2.1, mg))
  | none => do
    liftM (rule "list.sort.gallop")
    let d ← forIn [:a.size + b.size] ((none, c.2.1, c.2.2.1, c.2.2.2.1, mg + 1, c.2.2.2.2.1, c.2.2.2.2.2) : LoG) fun _ d => loG a b d.2.1 d.2.2.1 d.2.2.2.1 d.2.2.2.2.1 d.2.2.2.2.2.1 d.2.2.2.2.2.2
    match d.1 with
    | some r => pure (.done (some r, d.2.1, d.2.2.1, d.2.2.2.1, d.2.2.2.2.1))
    | none => do
      setG' (d.2.2.2.2.1 + 1)
      pure (.yield (none, d.2.1, d.2.2.1, d.2.2.2.1, d.2.2.2.2.1 + 1))
theorem bindC {α β : Type} {x y : StateT SortSt Sem α} {f g : α → StateT SortSt Sem β} (h1 : x = y) (h2 : ∀ c, f c = g c) : (x >>= f) = (y >>= g) := by rw [h1, funext h2]
theorem forC {β : Type} {r : Std.Legacy.Range} {i : β} {f g : Nat → β → StateT SortSt Sem (ForInStep β)} (h : ∀ x c, f x c = g x c) : forIn r i f = forIn r i g := by rw [funext fun x => funext fun c => h x c]
theorem mergeLo'_eq (a b : Array Keyed) : mergeLo' a b = (do
    liftM (rule "list.sort.merge-lo")
    let z ← elem' b 0
    if (1 == b.size) = true then pure (fDone a b #[z] 0 1)
    else if (0 + 1 == a.size) = true then pure (fLast a b #[z] 0 1)
    else do
      let g ← get
      let c ← forIn [:a.size + b.size] ((none, #[z], 0, 1, gallopOf g) : LoO) fun _ c => loO a b c.2.1 c.2.2.1 c.2.2.2.1 c.2.2.2.2
      match c.1 with
      | some r => pure r
      | none => liftM (unsupported "internal:list.sort.merge-bound" : Sem (Array Keyed))) := by
  refine bindC rfl fun u => bindC rfl fun z => ite_congr rfl (fun _ => rfl) fun _ => ite_congr rfl (fun _ => rfl) fun _ => bindC rfl fun g => bindC (forC fun x c => bindC rfl fun d => ?_) fun c => ?_
  · obtain ⟨d1, d2⟩ := d
    cases d1 with
    | some r => rfl
    | none =>
      refine bindC rfl fun v => bindC rfl fun d => ?_
      obtain ⟨d1, d2⟩ := d
      cases d1 with
      | some r => rfl
      | none => rfl
  · obtain ⟨c1, c2⟩ := c
    cases c1 with
    | some r => rfl
    | none => rfl
structure Two (a b : Array Keyed) : Prop where
  ia : KeysIn a
  ib : KeysIn b
  ra : Rise a.toList
  rb : Rise b.toList
  na : 1 ≤ a.size
  nb : 1 ≤ b.size
  h0 : K b 0 < K a 0
  hl : K b (b.size - 1) < K a (a.size - 1)
def Stay (st st' : SortSt) : Prop := kindOf st' = kindOf st ∧ arrOf st' = arrOf st ∧ pendingOf st' = pendingOf st ∧ failedOf st' = failedOf st
theorem Stay.rfl {st : SortSt} : Stay st st := ⟨_root_.rfl, _root_.rfl, _root_.rfl, _root_.rfl⟩
theorem Stay.kind {st st' : SortSt} (h : Stay st st') (k : kindOf st = Ranks.κ) : kindOf st' = Ranks.κ := h.1.trans k
def Merged (a b r : Array Keyed) : Prop := r.toList.Perm (a.toList ++ b.toList) ∧ Rise r.toList
abbrev MA (a b out : Array Keyed) (ia ib : Nat) : Prop := MI a.toList b.toList out.toList ia ib
theorem Two.last {a b : Array Keyed} (T : Two a b) {j : Nat} (hj : j < b.size) : K b j < K a (a.size - 1) := Int.lt_of_le_of_lt (riseK T.rb (show j ≤ b.size - 1 by omega) (by omega)) T.hl
theorem Two.first {a b : Array Keyed} (T : Two a b) {i : Nat} (hi : i < a.size) : K b 0 < K a i := Int.lt_of_lt_of_le T.h0 (riseK T.ra (Nat.zero_le i) hi)
theorem MA.addA {a b out : Array Keyed} {ia ib k : Nat} (h : MA a b out ia ib) (ra : Rise a.toList) (hk : ia + k ≤ a.size) (hx : ∀ i j, ia ≤ i → i < ia + k → ib ≤ j → j < b.size → K a i ≤ K b j) : MA a b (out ++ a.extract ia (ia + k)) (ia + k) ib := by
  have := MI.moreA (k := k) h ra (by simpa using hk) (fun x hx' y hy => by
    obtain ⟨n, hn, n1, n2, rfl⟩ := mem_seg hx'
    obtain ⟨m, hm, m1, rfl⟩ := mem_rest hy
    rw [kf_at, kf_at]
    exact hx n m n1 n2 m1 (by simpa using hm))
  show MI _ _ _ _ _
  rw [Array.toList_append, Array.toList_extract, List.extract_eq_take_drop, Nat.add_sub_cancel_left]
  exact this
theorem MA.swap {a b out : Array Keyed} {ia ib : Nat} (h : MA a b out ia ib) : MA b a out ib ia := MI.swap h
theorem MA.addB {a b out : Array Keyed} {ia ib k : Nat} (h : MA a b out ia ib) (rb : Rise b.toList) (hk : ib + k ≤ b.size) (hx : ∀ i j, ib ≤ i → i < ib + k → ia ≤ j → j < a.size → K b i ≤ K a j) : MA a b (out ++ b.extract ib (ib + k)) ia (ib + k) := (h.swap.addA rb hk hx).swap
theorem push_ext {a out : Array Keyed} {i : Nat} {z : Keyed} (h : a[i]? = some z) : out.push z = out ++ a.extract i (i + 1) := by
  obtain ⟨hi, rfl⟩ := Array.getElem?_eq_some_iff.mp h
  apply Array.ext'
  simp [List.extract_eq_take_drop, List.take_one, List.head?_drop, hi]
theorem MA.pushA {a b out : Array Keyed} {ia ib : Nat} {z : Keyed} (h : MA a b out ia ib) (ra : Rise a.toList) (hz : a[ia]? = some z) (hx : ∀ j, ib ≤ j → j < b.size → K a ia ≤ K b j) : MA a b (out.push z) (ia + 1) ib := by
  rw [push_ext hz]
  obtain ⟨hi, _⟩ := Array.getElem?_eq_some_iff.mp hz
  exact h.addA ra (by omega) fun i j h1 h2 h3 h4 => by
    have : i = ia := by omega
    rw [this]; exact hx j h3 h4
theorem MA.pushB {a b out : Array Keyed} {ia ib : Nat} {z : Keyed} (h : MA a b out ia ib) (rb : Rise b.toList) (hz : b[ib]? = some z) (hx : ∀ j, ia ≤ j → j < a.size → K b ib ≤ K a j) : MA a b (out.push z) ia (ib + 1) := (h.swap.pushA rb hz hx).swap
theorem ext_rest (a : Array Keyed) (i : Nat) : (a.extract i a.size).toList = a.toList.drop i := by
  rw [Array.toList_extract, List.extract_eq_take_drop]
  exact List.take_of_length_le (by simp)
theorem MA.doneB {a b out : Array Keyed} {ia ib : Nat} (T : Two a b) (h : MA a b out ia ib) (e : ib = b.size) (hi : ia ≤ a.size) : Merged a b (fDone a b out ia ib) := by
  subst e
  unfold Merged fDone
  have e2 : (b.extract b.size b.size).toList = [] := by rw [ext_rest]; simp
  rw [Array.toList_append, Array.toList_append, ext_rest, e2, List.append_nil]
  exact MI.restA (by simpa using h) T.ra (by simpa using hi)
theorem MA.doneA {a b out : Array Keyed} {ia ib : Nat} (T : Two a b) (h : MA a b out ia ib) (e : ia = a.size) (hi : ib ≤ b.size) : Merged a b (fDone a b out ia ib) := by
  subst e
  unfold Merged fDone
  have e2 : (a.extract a.size a.size).toList = [] := by rw [ext_rest]; simp
  rw [Array.toList_append, Array.toList_append, ext_rest b, e2, List.append_nil]
  exact MI.restB (by simpa using h) T.rb (by simpa using hi)
theorem MA.last {a b out : Array Keyed} {ia ib : Nat} (T : Two a b) (h : MA a b out ia ib) (e : ia + 1 = a.size) (hi : ib ≤ b.size) : Merged a b (fLast a b out ia ib) := by
  unfold Merged fLast
  rw [Array.toList_append, Array.toList_append, ext_rest, ext_rest]
  refine MI.lastA h T.ra T.rb (by simp; omega) (by simpa using hi) fun x hx y hy => ?_
  obtain ⟨n, hn, n1, rfl⟩ := mem_rest hx
  obtain ⟨m, hm, m1, rfl⟩ := mem_rest hy
  rw [kf_at, kf_at]
  have hm' : m < a.size := by simpa using hm
  have : m = a.size - 1 := by omega
  rw [this]
  exact Int.le_of_lt (T.last (by simpa using hn))
section
variable {prog : Program} {w : World} {A : Around} {E : Value → Shared → Prop} {s : Shared} [CmpOk prog w A s]
theorem at_some {arr : Array Keyed} (hI : KeysIn arr) {i : Nat} (h : i < arr.size) : ∃ p, arr[i]? = some p ∧ ∃ t : Tok, IsK p.1 (K arr i) := by
  obtain ⟨p, t, e, k⟩ := at_int hI h
  exact ⟨p, e, t, k⟩
theorem wpS_setG {st₀ st : SortSt} {g : Nat} {Q : Unit → SortSt → Prop} (hS : Stay st₀ st) (h : ∀ st', Stay st₀ st' → Q () st') : wpS (model prog w) A E s (setG' g) Q st := by
  rw [setG'_eq]
  exact wpS_modify (h _ ⟨hS.1, hS.2.1, hS.2.2.1, hS.2.2.2⟩)
theorem turns_false {kk : Int} {arr : Array Keyed} {b n k : Nat} (h : Turns (Fwd false kk arr b) n k) : k ≤ n ∧ (∀ i, i < k → K arr (b + i) ≤ kk) ∧ ∀ i, k ≤ i → i < n → kk < K arr (b + i) := by
  refine ⟨h.1, fun i hi => ?_, fun i hi hn => ?_⟩
  · have := h.2.1 i hi
    simp [Fwd] at this
    exact this
  · have := h.2.2 i hi hn
    simp [Fwd] at this
    exact this
theorem turns_true {kk : Int} {arr : Array Keyed} {b n k : Nat} (h : Turns (Fwd true kk arr b) n k) : k ≤ n ∧ (∀ i, i < k → K arr (b + i) < kk) ∧ ∀ i, k ≤ i → i < n → kk ≤ K arr (b + i) := by
  refine ⟨h.1, fun i hi => ?_, fun i hi hn => ?_⟩
  · have := h.2.1 i hi
    simp [Fwd] at this
    exact this
  · have := h.2.2 i hi hn
    simp [Fwd] at this
    exact this
def OkR (a b : Array Keyed) (n : Nat) (st₀ : SortSt) (c : LoR) (st : SortSt) : Prop := Stay st₀ st ∧ ((∃ r, c.1 = some r ∧ Merged a b r) ∨ (c.1 = none ∧ MA a b c.2.1 c.2.2.1 c.2.2.2.1 ∧ c.2.2.1 + 1 < a.size ∧ c.2.2.2.1 < b.size ∧ n ≤ c.2.2.1 + c.2.2.2.1))
def OkG (a b : Array Keyed) (n : Nat) (st₀ : SortSt) (c : LoG) (st : SortSt) : Prop := Stay st₀ st ∧ ((∃ r, c.1 = some r ∧ Merged a b r) ∨ (c.1 = none ∧ MA a b c.2.1 c.2.2.1 c.2.2.2.1 ∧ c.2.2.1 + 1 < a.size ∧ c.2.2.2.1 < b.size ∧ n ≤ c.2.2.1 + c.2.2.2.1))
theorem loR_ok {st₀ st : SortSt} {a b out : Array Keyed} {mg ia ib ac bc n : Nat} (T : Two a b) (hk : kindOf st₀ = Ranks.κ) (hS : Stay st₀ st) (hM : MA a b out ia ib) (hA : ia + 1 < a.size) (hB : ib < b.size) (hn : n ≤ ia + ib) :
    wpS (model prog w) A E s (loR a b mg out ia ib ac bc) (fun r st' => match r with | .done c => OkR a b (n + 1) st₀ c st' | .yield c => c.1 = none ∧ OkR a b (n + 1) st₀ c st') st := by
  obtain ⟨p, ep, t, hp⟩ := at_some T.ib hB
  obtain ⟨q, eq, u, hq⟩ := at_some T.ia (show ia < a.size by omega)
  unfold loR
  refine wpS_bind (wpS_elem ep (wpS_bind (wpS_elem eq (wpS_bind (wpS_lt2 (hS.kind hk) hp hq ?_)))))
  dsimp only
  by_cases hlt : K b ib < K a ia
  · rw [if_pos (by simpa using hlt)]
    refine wpS_bind (wpS_elem ep ?_)
    have M : MA a b (out.push p) ia (ib + 1) := hM.pushB T.rb ep fun j h1 h2 => Int.le_of_lt (Int.lt_of_lt_of_le hlt (riseK T.ra h1 h2))
    by_cases e : ib + 1 = b.size
    · rw [if_pos (by simpa using e)]
      exact wpS_pure ⟨hS, .inl ⟨_, rfl, M.doneB T e (by omega)⟩⟩
    · rw [if_neg (by simpa using e)]
      have R : OkR a b (n + 1) st₀ (none, out.push p, ia, ib + 1, 0, bc + 1) st := ⟨hS, .inr ⟨rfl, M, hA, by dsimp only; omega, by dsimp only; omega⟩⟩
      by_cases g : bc + 1 ≥ mg
      · rw [if_pos g]; exact wpS_pure R
      · rw [if_neg g]; exact wpS_pure ⟨rfl, R⟩
  · rw [if_neg (by simpa using hlt)]
    refine wpS_bind (wpS_elem eq ?_)
    have M : MA a b (out.push q) (ia + 1) ib := hM.pushA T.ra eq fun j h1 h2 => Int.le_trans (Int.not_lt.mp hlt) (riseK T.rb h1 h2)
    by_cases e : ia + 1 + 1 = a.size
    · rw [if_pos (by simpa using e)]
      exact wpS_pure ⟨hS, .inl ⟨_, rfl, M.last T e (by omega)⟩⟩
    · rw [if_neg (by simpa using e)]
      have R : OkR a b (n + 1) st₀ (none, out.push q, ia + 1, ib, ac + 1, 0) st := ⟨hS, .inr ⟨rfl, M, by dsimp only; omega, hB, by dsimp only; omega⟩⟩
      by_cases g : ac + 1 ≥ mg
      · rw [if_pos g]; exact wpS_pure R
      · rw [if_neg g]; exact wpS_pure ⟨rfl, R⟩
abbrev PG (a b : Array Keyed) (n : Nat) (st₀ : SortSt) (r : ForInStep LoG) (st' : SortSt) : Prop := match r with | .done c => OkG a b n st₀ c st' | .yield c => c.1 = none ∧ OkG a b n st₀ c st'
theorem loG3_ok {st₀ st : SortSt} {a b out : Array Keyed} {mg ia ib ac bc n : Nat} (T : Two a b) (hS : Stay st₀ st) (hM : MA a b out ia ib) (hA : ia + 1 < a.size) (hB : ib < b.size) (hn : n ≤ ia + ib) (hx : ∀ j, ib ≤ j → j < b.size → K a ia ≤ K b j) :
    wpS (model prog w) A E s (loG3 a b out ia ib mg ac bc) (PG a b n st₀) st := by
  obtain ⟨q, eq, u, hq⟩ := at_some T.ia (show ia < a.size by omega)
  unfold loG3
  refine wpS_bind (wpS_elem eq ?_)
  have M : MA a b (out.push q) (ia + 1) ib := hM.pushA T.ra eq hx
  by_cases e : ia + 1 + 1 = a.size
  · rw [if_pos (by simpa using e)]
    exact wpS_pure ⟨hS, .inl ⟨_, rfl, M.last T e (by omega)⟩⟩
  · rw [if_neg (by simpa using e)]
    have R : OkG a b n st₀ (none, out.push q, ia + 1, ib, mg, ac, bc) st := ⟨hS, .inr ⟨rfl, M, by dsimp only; omega, hB, by dsimp only; omega⟩⟩
    by_cases g : (decide (ac < 7) && decide (bc < 7)) = true
    · rw [if_pos g]; exact wpS_pure R
    · rw [if_neg g]; exact wpS_pure ⟨rfl, R⟩
theorem loG2_ok {st₀ st : SortSt} {a b out : Array Keyed} {mg ia ib ac bc n : Nat} (T : Two a b) (hk : kindOf st₀ = Ranks.κ) (hS : Stay st₀ st) (hM : MA a b out ia ib) (hA : ia + 1 < a.size) (hB : ib < b.size) (hn : n ≤ ia + ib) (hx : ∀ j, ia ≤ j → j < a.size → K b ib ≤ K a j) :
    wpS (model prog w) A E s (loG2 a b out ia ib mg ac bc) (PG a b n st₀) st := by
  obtain ⟨p, ep, t, hp⟩ := at_some T.ib hB
  obtain ⟨q, eq, u, hq⟩ := at_some T.ia (show ia < a.size by omega)
  unfold loG2
  refine wpS_bind (wpS_elem ep ?_)
  have M : MA a b (out.push p) ia (ib + 1) := hM.pushB T.rb ep hx
  by_cases e : ib + 1 = b.size
  · rw [if_pos (by simpa using e)]
    exact wpS_pure ⟨hS, .inl ⟨_, rfl, M.doneB T e (by omega)⟩⟩
  · rw [if_neg (by simpa using e)]
    refine wpS_bind (wpS_elem eq (wpS_bind (wpS_gallop (hS.kind hk) hq T.ib (by omega) (by omega) (fun i j h1 h2 => riseK T.rb (by omega) (by omega)) fun k hT => ?_)))
    obtain ⟨k1, k2, k3⟩ := turns_true hT
    dsimp only
    by_cases hk0 : k > 0
    · rw [if_pos hk0]
      have M2 := M.addB (k := k) T.rb (by omega) fun i j h1 h2 h3 h4 => Int.le_of_lt (Int.lt_of_lt_of_le (by
        have := k2 (i - (ib + 1)) (by omega)
        rwa [show ib + 1 + (i - (ib + 1)) = i by omega] at this) (riseK T.ra h3 h4))
      by_cases e2 : ib + 1 + k = b.size
      · rw [if_pos (by simpa using e2)]
        exact wpS_pure ⟨hS, .inl ⟨_, rfl, M2.doneB T e2 (by omega)⟩⟩
      · rw [if_neg (by simpa using e2)]
        exact loG3_ok T hS M2 hA (by omega) (by omega) fun j h1 h2 => by
          have := k3 (j - (ib + 1)) (by omega) (by omega)
          rwa [show ib + 1 + (j - (ib + 1)) = j by omega] at this
    · rw [if_neg hk0]
      exact loG3_ok T hS M hA (by omega) (by omega) fun j h1 h2 => by
        have := k3 (j - (ib + 1)) (by omega) (by omega)
        rwa [show ib + 1 + (j - (ib + 1)) = j by omega] at this
theorem loG1_ok {st₀ st : SortSt} {a b out : Array Keyed} {mg ia ib ac bc n : Nat} (T : Two a b) (hk : kindOf st₀ = Ranks.κ) (hS : Stay st₀ st) (hM : MA a b out ia ib) (hA : ia + 1 < a.size) (hB : ib < b.size) (hn : n ≤ ia + ib) :
    wpS (model prog w) A E s (loG1 a b out ia ib mg ac bc) (PG a b n st₀) st := by
  obtain ⟨p, ep, t, hp⟩ := at_some T.ib hB
  unfold loG1
  refine wpS_bind (wpS_setG hS fun st' hS' => wpS_bind (wpS_elem ep (wpS_bind (wpS_gallop (hS'.kind hk) hp T.ia (by omega) (by omega) (fun i j h1 h2 => riseK T.ra (by omega) (by omega)) fun k hT => ?_))))
  obtain ⟨k1, k2, k3⟩ := turns_false hT
  dsimp only
  by_cases hk0 : k > 0
  · rw [if_pos hk0]
    have M2 := hM.addA (k := k) T.ra (by omega) fun i j h1 h2 h3 h4 => Int.le_trans (by
      have := k2 (i - ia) (by omega)
      rwa [show ia + (i - ia) = i by omega] at this) (riseK T.rb h3 h4)
    by_cases e : ia + k + 1 = a.size
    · rw [if_pos (by simpa using e)]
      exact wpS_pure ⟨hS', .inl ⟨_, rfl, M2.last T e (by omega)⟩⟩
    · rw [if_neg (by simpa using e)]
      by_cases e2 : ia + k = a.size
      · rw [if_pos (by simpa using e2)]
        exact wpS_pure ⟨hS', .inl ⟨_, rfl, M2.doneA T e2 (by omega)⟩⟩
      · rw [if_neg (by simpa using e2)]
        exact loG2_ok T hk hS' M2 (by omega) hB (by omega) fun j h1 h2 => by
          have := k3 (j - ia) (by omega) (by omega)
          rw [show ia + (j - ia) = j by omega] at this
          exact Int.le_of_lt this
  · rw [if_neg hk0]
    exact loG2_ok T hk hS' hM hA hB hn fun j h1 h2 => by
      have := k3 (j - ia) (by omega) (by omega)
      rw [show ia + (j - ia) = j by omega] at this
      exact Int.le_of_lt this
theorem loG_ok {st₀ st : SortSt} {a b out : Array Keyed} {mg ia ib ac bc n : Nat} (T : Two a b) (hk : kindOf st₀ = Ranks.κ) (hS : Stay st₀ st) (hM : MA a b out ia ib) (hA : ia + 1 < a.size) (hB : ib < b.size) (hn : n ≤ ia + ib) :
    wpS (model prog w) A E s (loG a b out ia ib mg ac bc) (PG a b n st₀) st := by
  unfold loG
  by_cases h : mg > 1
  · rw [if_pos h]; exact loG1_ok T hk hS hM hA hB hn
  · rw [if_neg h]; exact loG1_ok T hk hS hM hA hB hn
def OkO (a b : Array Keyed) (n : Nat) (st₀ : SortSt) (c : LoO) (st : SortSt) : Prop := Stay st₀ st ∧ ((∃ r, c.1 = some r ∧ Merged a b r) ∨ (c.1 = none ∧ MA a b c.2.1 c.2.2.1 c.2.2.2.1 ∧ c.2.2.1 + 1 < a.size ∧ c.2.2.2.1 < b.size ∧ n ≤ c.2.2.1 + c.2.2.2.1))
theorem loO_ok {st₀ st : SortSt} {a b out : Array Keyed} {mg ia ib n : Nat} (T : Two a b) (hk : kindOf st₀ = Ranks.κ) (hS : Stay st₀ st) (hM : MA a b out ia ib) (hA : ia + 1 < a.size) (hB : ib < b.size) (hn : n ≤ ia + ib) :
    wpS (model prog w) A E s (loO a b out ia ib mg) (fun r st' => match r with | .done c => OkO a b (n + 1) st₀ c st' ∧ c.1 ≠ none | .yield c => c.1 = none ∧ OkO a b (n + 1) st₀ c st') st := by
  unfold loO
  refine wpS_bind (wpS_mono (wpS_forRange (I := fun x c st' => c.1 = none ∧ OkR a b (n + x) st₀ c st') (Q := fun c st' => OkR a b (n + 1) st₀ c st') ?_ ?_ ⟨rfl, hS, .inr ⟨rfl, hM, hA, hB, by dsimp only; omega⟩⟩) ?_)
  · rintro x ⟨c0, o, i, j, ac, bc⟩ st' _ hx ⟨e, hS', z⟩
    rcases z with ⟨r, e', _⟩ | ⟨_, m, h1, h2, h3⟩
    · rw [e'] at e; cases e
    · refine wpS_mono (loR_ok T hk hS' m h1 h2 h3) fun r st2 hr => ?_
      have le : ∀ c, OkR a b (n + x + 1) st₀ c st2 → OkR a b (n + 1) st₀ c st2 := fun c hc => ⟨hc.1, hc.2.imp id fun ⟨q1, q2, q3, q4, q5⟩ => ⟨q1, q2, q3, q4, by omega⟩⟩
      cases r with
      | done c => exact le c hr
      | yield c => exact hr
  · rintro c st' ⟨e, hc⟩
    exact ⟨hc.1, hc.2.imp id fun ⟨q1, q2, q3, q4, q5⟩ => ⟨q1, q2, q3, q4, by omega⟩⟩
  · rintro ⟨c0, o, i, j, ac, bc⟩ st' ⟨hS', z⟩
    rcases z with ⟨r, e, hr⟩ | ⟨e, m, h1, h2, h3⟩
    · dsimp only at e
      subst e
      exact wpS_pure ⟨⟨hS', .inl ⟨r, rfl, hr⟩⟩, by simp⟩
    · dsimp only at e
      subst e
      dsimp only
      refine wpS_bind (wpS_lift (wpAny_rule ⟨rfl, ?_⟩))
      refine wpS_bind (wpS_mono (wpS_forRange (I := fun x c st' => c.1 = none ∧ OkG a b (n + 1) st₀ c st') (Q := fun c st' => OkG a b (n + 1) st₀ c st') ?_ ?_ ⟨rfl, hS', .inr ⟨rfl, m, h1, h2, h3⟩⟩) ?_)
      · rintro x ⟨c0, o, i, j, mg, ac, bc⟩ st' _ hx ⟨e, hS', z⟩
        rcases z with ⟨r, e', _⟩ | ⟨_, m, h1, h2, h3⟩
        · rw [e'] at e; cases e
        · refine wpS_mono (loG_ok T hk hS' m h1 h2 h3) fun r st2 hr => ?_
          cases r with
          | done c => exact hr
          | yield c => exact hr
      · exact fun c st' hc => hc.2
      · rintro ⟨c0, o, i, j, mg, ac, bc⟩ st' ⟨hS', z⟩
        rcases z with ⟨r, e, hr⟩ | ⟨e, m, h1, h2, h3⟩
        · dsimp only at e
          subst e
          exact wpS_pure ⟨⟨hS', .inl ⟨r, rfl, hr⟩⟩, by simp⟩
        · dsimp only at e
          subst e
          dsimp only
          exact wpS_bind (wpS_setG hS' fun st2 hS2 => wpS_pure ⟨rfl, hS2, .inr ⟨rfl, m, h1, h2, h3⟩⟩)
theorem wpS_mergeLo {st : SortSt} {a b : Array Keyed} {Q : Array Keyed → SortSt → Prop} (T : Two a b) (hk : kindOf st = Ranks.κ) (h : ∀ r st', Stay st st' → Merged a b r → Q r st') : wpS (model prog w) A E s (mergeLo' a b) Q st := by
  rw [mergeLo'_eq]
  obtain ⟨p, ep, t, hp⟩ := at_some T.ib (show 0 < b.size by have := T.nb; omega)
  have hna := T.na
  have hnb := T.nb
  refine wpS_bind (wpS_lift (wpAny_rule ⟨rfl, wpS_bind (wpS_elem ep ?_)⟩))
  have M : MA a b #[p] 0 1 := (show MA a b #[] 0 0 from MI.nil).pushB T.rb ep fun j _ hj => Int.le_of_lt (T.first hj)
  by_cases e1 : 1 = b.size
  · rw [if_pos (by simpa using e1)]
    exact wpS_pure (h _ _ Stay.rfl (M.doneB T e1 (by omega)))
  · rw [if_neg (by simpa using e1)]
    by_cases e2 : 0 + 1 = a.size
    · rw [if_pos (by simpa using e2)]
      exact wpS_pure (h _ _ Stay.rfl (M.last T e2 (by omega)))
    · rw [if_neg (by simpa using e2)]
      refine wpS_bind (wpS_get ?_)
      refine wpS_bind (wpS_mono (wpS_forRange (I := fun x c st' => c.1 = none ∧ OkO a b (x + 1) st c st') (Q := fun c st' => OkO a b 0 st c st' ∧ c.1 ≠ none) ?_ ?_ ⟨rfl, Stay.rfl, .inr ⟨rfl, M, by dsimp only; omega, by dsimp only; omega, by dsimp only; omega⟩⟩) ?_)
      · rintro x ⟨c0, o, i, j, mg⟩ st' _ hx ⟨e, hS', z⟩
        rcases z with ⟨r, e', _⟩ | ⟨_, m, h1, h2, h3⟩
        · rw [e'] at e; cases e
        · refine wpS_mono (loO_ok T hk hS' m h1 h2 h3) fun r st2 hr => ?_
          cases r with
          | done c => exact ⟨⟨hr.1.1, hr.1.2.imp id fun ⟨q1, q2, q3, q4, q5⟩ => ⟨q1, q2, q3, q4, by omega⟩⟩, hr.2⟩
          | yield c => exact hr
      · rintro ⟨c0, o, i, j, mg⟩ st' ⟨e, hS', z⟩
        rcases z with ⟨r, e', _⟩ | ⟨_, m, h1, h2, h3⟩
        · rw [e'] at e; cases e
        · dsimp only at h1 h2 h3
          exfalso; omega
      · rintro ⟨c0, o, i, j, mg⟩ st' ⟨⟨hS', z⟩, hne⟩
        rcases z with ⟨r, e, hr⟩ | ⟨e, _⟩
        · dsimp only at e
          subst e
          exact wpS_pure (h _ _ hS' hr)
        · exact absurd e hne
end
end MwSortR
set_option maxHeartbeats 2000000
namespace MwSortR
open PySem PyProof.Rows
variable [Ranks]
def mergeHi' : Array Keyed → Array Keyed → StateT SortSt Sem (Array Keyed) := sortPriv% PySem.Builtin.mergeHi
abbrev HiR := Option (Array Keyed) × Nat × Nat × Array Keyed × Nat × Nat
abbrev HiG := Option (Array Keyed) × Nat × Nat × Array Keyed × Nat × Nat × Nat
abbrev HiO := Option (Array Keyed) × Nat × Nat × Array Keyed × Nat
def gDone (a b out : Array Keyed) (na nb : Nat) : Array Keyed := a.extract 0 na ++ b.extract 0 nb ++ out.reverse
def gFirst (a b out : Array Keyed) (na nb : Nat) : Array Keyed := b.extract 0 nb ++ a.extract 0 na ++ out.reverse
def hiR (a b : Array Keyed) (mg : Nat) (out : Array Keyed) (na nb ac bc : Nat) : StateT SortSt Sem (ForInStep HiR) := do
  let p ← elem' b (nb - 1)
  let q ← elem' a (na - 1)
  let r ← lt' p q
  match r with
  | some t =>
    if t = true then do
      let z ← elem' a (na - 1)
      if (na - 1 == 0) = true then pure (.done (some (gDone a b (out.push z) (na - 1) nb), na - 1, nb, out.push z, ac + 1, 0))
      else if ac + 1 ≥ mg then pure (.done (none, na - 1, nb, out.push z, ac + 1, 0))
      else pure (.yield (none, na - 1, nb, out.push z, ac + 1, 0))
    else do
      let z ← elem' b (nb - 1)
      if (nb - 1 == 1) = true then pure (.done (some (gFirst a b (out.push z) na (nb - 1)), na, nb - 1, out.push z, 0, bc + 1))
      else if bc + 1 ≥ mg then pure (.done (none, na, nb - 1, out.push z, 0, bc + 1))
      else pure (.yield (none, na, nb - 1, out.push z, 0, bc + 1))
  | _ => pure (.done (some (gDone a b out na nb), na, nb, out, ac, bc))
def hiG3 (a b : Array Keyed) (out : Array Keyed) (na nb mg ac bc : Nat) : StateT SortSt Sem (ForInStep HiG) := do
  let z ← elem' a (na - 1)
  if (na - 1 == 0) = true then pure (.done (some (gDone a b (out.push z) (na - 1) nb), na - 1, nb, out.push z, mg, ac, bc))
  else if (decide (ac < 7) && decide (bc < 7)) = true then pure (.done (none, na - 1, nb, out.push z, mg, ac, bc))
  else pure (.yield (none, na - 1, nb, out.push z, mg, ac, bc))
def hiG2 (a b : Array Keyed) (out : Array Keyed) (na nb mg ac bc : Nat) : StateT SortSt Sem (ForInStep HiG) := do
  let z ← elem' b (nb - 1)
  if (nb - 1 == 1) = true then pure (.done (some (gFirst a b (out.push z) na (nb - 1)), na, nb - 1, out.push z, mg, ac, bc))
  else do
    let y ← elem' a (na - 1)
    let r ← gallop' true y b 0 (nb - 1) (nb - 1 - 1)
    match r with
    | some p =>
      if nb - 1 - p > 0 then
        if (p == 1) = true then pure (.done (some (gFirst a b (out.push z ++ (b.extract p (nb - 1)).reverse) na p), na, p, out.push z ++ (b.extract p (nb - 1)).reverse, mg, ac, nb - 1 - p))
        else if (p == 0) = true then pure (.done (some (gDone a b (out.push z ++ (b.extract p (nb - 1)).reverse) na p), na, p, out.push z ++ (b.extract p (nb - 1)).reverse, mg, ac, nb - 1 - p))
        else hiG3 a b (out.push z ++ (b.extract p (nb - 1)).reverse) na p mg ac (nb - 1 - p)
      else hiG3 a b (out.push z) na (nb - 1) mg ac (nb - 1 - p)
    | _ => pure (.done (some (gDone a b (out.push z) na (nb - 1)), na, nb - 1, out.push z, mg, ac, bc))
def hiG1 (a b : Array Keyed) (out : Array Keyed) (na nb mg ac bc : Nat) : StateT SortSt Sem (ForInStep HiG) := do
  setG' mg
  let y ← elem' b (nb - 1)
  let r ← gallop' false y a 0 na (na - 1)
  match r with
  | some p =>
    if na - p > 0 then
      if (p == 0) = true then pure (.done (some (gDone a b (out ++ (a.extract p na).reverse) p nb), p, nb, out ++ (a.extract p na).reverse, mg, na - p, bc))
      else hiG2 a b (out ++ (a.extract p na).reverse) p nb mg (na - p) bc
    else hiG2 a b out na nb mg (na - p) bc
  | _ => pure (.done (some (gDone a b out na nb), na, nb, out, mg, ac, bc))
def hiG (a b : Array Keyed) (out : Array Keyed) (na nb mg ac bc : Nat) : StateT SortSt Sem (ForInStep HiG) :=
  if mg > 1 then hiG1 a b out na nb (mg - 1) ac bc else hiG1 a b out na nb mg ac bc
def hiO (a b : Array Keyed) (na nb : Nat) (out : Array Keyed) (mg : Nat) : StateT SortSt Sem (ForInStep HiO) := do
  let c ← forIn [:a.size + b.size] ((none, na, nb, out, 0, 0) : HiR) fun _ c => hiR a b mg c.2.2.2.1 c.2.1 c.2.2.1 c.2.2.2.2.1 c.2.2.2.2.2
  match c.1 with
  | some r => pure (.done (some r, c.2.1, c.2.2.1, c.2.2.2.1, mg))
  | none => do
    liftM (rule "list.sort.gallop")
    let d ← forIn [:a.size + b.size] ((none, c.2.1, c.2.2.1, c.2.2.2.1, mg + 1, c.2.2.2.2.1, c.2.2.2.2.2) : HiG) fun _ d => hiG a b d.2.2.2.1 d.2.1 d.2.2.1 d.2.2.2.2.1 d.2.2.2.2.2.1 d.2.2.2.2.2.2
    match d.1 with
    | some r => pure (.done (some r, d.2.1, d.2.2.1, d.2.2.2.1, d.2.2.2.2.1))
    | none => do
      setG' (d.2.2.2.2.1 + 1)
      pure (.yield (none, d.2.1, d.2.2.1, d.2.2.2.1, d.2.2.2.2.1 + 1))
theorem mergeHi'_eq (a b : Array Keyed) : mergeHi' a b = (do
    liftM (rule "list.sort.merge-hi")
    let z ← elem' a (a.size - 1)
    if (a.size - 1 == 0) = true then pure (gDone a b #[z] (a.size - 1) b.size)
    else if (b.size == 1) = true then pure (gFirst a b #[z] (a.size - 1) b.size)
    else do
      let g ← get
      let c ← forIn [:a.size + b.size] ((none, a.size - 1, b.size, #[z], gallopOf g) : HiO) fun _ c => hiO a b c.2.1 c.2.2.1 c.2.2.2.1 c.2.2.2.2
      match c.1 with
      | some r => pure r
      | none => liftM (unsupported "internal:list.sort.merge-bound" : Sem (Array Keyed))) := by
  refine bindC rfl fun u => bindC rfl fun z => ite_congr rfl (fun _ => rfl) fun _ => ite_congr rfl (fun _ => rfl) fun _ => bindC rfl fun g => bindC (forC fun x c => bindC rfl fun d => ?_) fun c => ?_
  · obtain ⟨d1, d2⟩ := d
    cases d1 with
    | some r => rfl
    | none =>
      refine bindC rfl fun v => bindC rfl fun d => ?_
      obtain ⟨d1, d2⟩ := d
      cases d1 with
      | some r => rfl
      | none => rfl
  · obtain ⟨c1, c2⟩ := c
    cases c1 with
    | some r => rfl
    | none => rfl
abbrev MB (a b out : Array Keyed) (na nb : Nat) : Prop := MH a.toList b.toList out.toList na nb
theorem MB.swap {a b out : Array Keyed} {na nb : Nat} (h : MB a b out na nb) : MB b a out nb na := MH.swap h
theorem MB.addA {a b out : Array Keyed} {na nb p : Nat} (h : MB a b out na nb) (ra : Rise a.toList) (hp : p ≤ na) (hx : ∀ i j, p ≤ i → i < na → j < nb → i < a.size → j < b.size → K b j ≤ K a i) : MB a b (out ++ (a.extract p na).reverse) p nb := by
  have := MH.moreA (p := p) h ra hp (fun x hx' y hy => by
    obtain ⟨n, hn, n1, n2, rfl⟩ := mem_seg hy
    obtain ⟨m, hm, m1, rfl⟩ := mem_first hx'
    rw [kf_at, kf_at]
    exact hx n m n1 (by omega) m1 (by simpa using hn) (by simpa using hm))
  show MH _ _ _ _ _
  rw [Array.toList_append, Array.toList_reverse, Array.toList_extract, List.extract_eq_take_drop]
  exact this
theorem MB.addB {a b out : Array Keyed} {na nb p : Nat} (h : MB a b out na nb) (rb : Rise b.toList) (hp : p ≤ nb) (hx : ∀ i j, p ≤ i → i < nb → j < na → i < b.size → j < a.size → K a j ≤ K b i) : MB a b (out ++ (b.extract p nb).reverse) na p := (h.swap.addA rb hp hx).swap
theorem push_rev {a out : Array Keyed} {n : Nat} {z : Keyed} (h1 : 1 ≤ n) (h : a[n - 1]? = some z) : out.push z = out ++ (a.extract (n - 1) n).reverse := by
  have e := push_ext (out := #[]) h
  rw [show n - 1 + 1 = n by omega] at e
  have e2 : a.extract (n - 1) n = #[z] := by
    rw [Array.empty_append] at e
    exact e.symm
  rw [e2]
  rfl
theorem MB.pushA {a b out : Array Keyed} {na nb : Nat} {z : Keyed} (h : MB a b out na nb) (ra : Rise a.toList) (h1 : 1 ≤ na) (hz : a[na - 1]? = some z) (hx : ∀ j, j < nb → j < b.size → K b j ≤ K a (na - 1)) : MB a b (out.push z) (na - 1) nb := by
  rw [push_rev h1 hz]
  exact h.addA ra (by omega) fun i j g1 g2 g3 g4 g5 => by
    have : i = na - 1 := by omega
    rw [this]; exact hx j g3 g5
theorem MB.pushB {a b out : Array Keyed} {na nb : Nat} {z : Keyed} (h : MB a b out na nb) (rb : Rise b.toList) (h1 : 1 ≤ nb) (hz : b[nb - 1]? = some z) (hx : ∀ j, j < na → j < a.size → K a j ≤ K b (nb - 1)) : MB a b (out.push z) na (nb - 1) := (h.swap.pushA rb h1 hz hx).swap
theorem ext_first (a : Array Keyed) (i : Nat) : (a.extract 0 i).toList = a.toList.take i := by
  rw [Array.toList_extract, List.extract_eq_take_drop]
  simp
theorem MB.doneA {a b out : Array Keyed} {na nb : Nat} (T : Two a b) (h : MB a b out na nb) (e : na = 0) (hi : nb ≤ b.size) : Merged a b (gDone a b out na nb) := by
  subst e
  unfold Merged gDone
  rw [Array.toList_append, Array.toList_append, ext_first, ext_first, Array.toList_reverse, List.take_zero, List.nil_append]
  exact MH.restB h T.rb (by simpa using hi)
theorem MB.doneB {a b out : Array Keyed} {na nb : Nat} (T : Two a b) (h : MB a b out na nb) (e : nb = 0) (hi : na ≤ a.size) : Merged a b (gDone a b out na nb) := by
  subst e
  unfold Merged gDone
  rw [Array.toList_append, Array.toList_append, ext_first, ext_first, Array.toList_reverse, List.take_zero, List.append_nil]
  exact MH.restA h T.ra (by simpa using hi)
theorem MB.first {a b out : Array Keyed} {na nb : Nat} (T : Two a b) (h : MB a b out na nb) (e : nb = 1) (hi : na ≤ a.size) : Merged a b (gFirst a b out na nb) := by
  unfold Merged gFirst
  rw [Array.toList_append, Array.toList_append, ext_first, ext_first, Array.toList_reverse]
  have hnb := T.nb
  refine MH.firstB h T.ra T.rb (by simpa using hi) (by simp; omega) fun x hx y hy => ?_
  obtain ⟨n, hn, n1, rfl⟩ := mem_first hx
  obtain ⟨m, hm, m1, rfl⟩ := mem_first hy
  rw [kf_at, kf_at]
  have : n = 0 := by omega
  rw [this]
  exact Int.le_of_lt (T.first (by simpa using hm))
section
variable {prog : Program} {w : World} {A : Around} {E : Value → Shared → Prop} {s : Shared} [CmpOk prog w A s]
def Left (a b : Array Keyed) (n : Nat) (out : Array Keyed) (na nb : Nat) : Prop := MB a b out na nb ∧ 1 ≤ na ∧ na ≤ a.size ∧ 2 ≤ nb ∧ nb ≤ b.size ∧ na + nb + n ≤ a.size + b.size
theorem Left.le {a b : Array Keyed} {n m : Nat} {out : Array Keyed} {na nb : Nat} (h : Left a b n out na nb) (hm : m ≤ n) : Left a b m out na nb := ⟨h.1, h.2.1, h.2.2.1, h.2.2.2.1, h.2.2.2.2.1, by have := h.2.2.2.2.2; omega⟩
def HkR (a b : Array Keyed) (n : Nat) (st₀ : SortSt) (c : HiR) (st : SortSt) : Prop := Stay st₀ st ∧ ((∃ r, c.1 = some r ∧ Merged a b r) ∨ (c.1 = none ∧ Left a b n c.2.2.2.1 c.2.1 c.2.2.1))
def HkG (a b : Array Keyed) (n : Nat) (st₀ : SortSt) (c : HiG) (st : SortSt) : Prop := Stay st₀ st ∧ ((∃ r, c.1 = some r ∧ Merged a b r) ∨ (c.1 = none ∧ Left a b n c.2.2.2.1 c.2.1 c.2.2.1))
def HkO (a b : Array Keyed) (n : Nat) (st₀ : SortSt) (c : HiO) (st : SortSt) : Prop := Stay st₀ st ∧ ((∃ r, c.1 = some r ∧ Merged a b r) ∨ (c.1 = none ∧ Left a b n c.2.2.2.1 c.2.1 c.2.2.1))
theorem hiR_ok {st₀ st : SortSt} {a b out : Array Keyed} {mg na nb ac bc n : Nat} (T : Two a b) (hk : kindOf st₀ = Ranks.κ) (hS : Stay st₀ st) (hL : Left a b n out na nb) :
    wpS (model prog w) A E s (hiR a b mg out na nb ac bc) (fun r st' => match r with | .done c => HkR a b (n + 1) st₀ c st' | .yield c => c.1 = none ∧ HkR a b (n + 1) st₀ c st') st := by
  obtain ⟨hM, a1, a2, b1, b2, hn⟩ := hL
  obtain ⟨p, ep, t, hp⟩ := at_some T.ib (show nb - 1 < b.size by omega)
  obtain ⟨q, eq, u, hq⟩ := at_some T.ia (show na - 1 < a.size by omega)
  unfold hiR
  refine wpS_bind (wpS_elem ep (wpS_bind (wpS_elem eq (wpS_bind (wpS_lt2 (hS.kind hk) hp hq ?_)))))
  dsimp only
  by_cases hlt : K b (nb - 1) < K a (na - 1)
  · rw [if_pos (by simpa using hlt)]
    refine wpS_bind (wpS_elem eq ?_)
    have M : MB a b (out.push q) (na - 1) nb := hM.pushA T.ra a1 eq fun j h1 h2 => Int.le_of_lt (Int.lt_of_le_of_lt (riseK T.rb (show j ≤ nb - 1 by omega) (by omega)) hlt)
    by_cases e : na - 1 = 0
    · rw [if_pos (by simpa using e)]
      exact wpS_pure ⟨hS, .inl ⟨_, rfl, M.doneA T e (by omega)⟩⟩
    · rw [if_neg (by simpa using e)]
      have R : HkR a b (n + 1) st₀ (none, na - 1, nb, out.push q, ac + 1, 0) st := ⟨hS, .inr ⟨rfl, M, by dsimp only; omega, by dsimp only; omega, b1, b2, by dsimp only; omega⟩⟩
      by_cases g : ac + 1 ≥ mg
      · rw [if_pos g]; exact wpS_pure R
      · rw [if_neg g]; exact wpS_pure ⟨rfl, R⟩
  · rw [if_neg (by simpa using hlt)]
    refine wpS_bind (wpS_elem ep ?_)
    have M : MB a b (out.push p) na (nb - 1) := hM.pushB T.rb (by omega) ep fun j h1 h2 => Int.le_trans (riseK T.ra (show j ≤ na - 1 by omega) (by omega)) (Int.not_lt.mp hlt)
    by_cases e : nb - 1 = 1
    · rw [if_pos (by simpa using e)]
      exact wpS_pure ⟨hS, .inl ⟨_, rfl, M.first T e (by omega)⟩⟩
    · rw [if_neg (by simpa using e)]
      have R : HkR a b (n + 1) st₀ (none, na, nb - 1, out.push p, 0, bc + 1) st := ⟨hS, .inr ⟨rfl, M, a1, a2, by dsimp only; omega, by dsimp only; omega, by dsimp only; omega⟩⟩
      by_cases g : bc + 1 ≥ mg
      · rw [if_pos g]; exact wpS_pure R
      · rw [if_neg g]; exact wpS_pure ⟨rfl, R⟩
abbrev PH (a b : Array Keyed) (n : Nat) (st₀ : SortSt) (r : ForInStep HiG) (st' : SortSt) : Prop := match r with | .done c => HkG a b n st₀ c st' | .yield c => c.1 = none ∧ HkG a b n st₀ c st'
theorem hiG3_ok {st₀ st : SortSt} {a b out : Array Keyed} {mg na nb ac bc n : Nat} (T : Two a b) (hS : Stay st₀ st) (hL : Left a b n out na nb) (hx : ∀ j, j < nb → j < b.size → K b j ≤ K a (na - 1)) :
    wpS (model prog w) A E s (hiG3 a b out na nb mg ac bc) (PH a b n st₀) st := by
  obtain ⟨hM, a1, a2, b1, b2, hn⟩ := hL
  obtain ⟨q, eq, u, hq⟩ := at_some T.ia (show na - 1 < a.size by omega)
  unfold hiG3
  refine wpS_bind (wpS_elem eq ?_)
  have M : MB a b (out.push q) (na - 1) nb := hM.pushA T.ra a1 eq hx
  by_cases e : na - 1 = 0
  · rw [if_pos (by simpa using e)]
    exact wpS_pure ⟨hS, .inl ⟨_, rfl, M.doneA T e (by omega)⟩⟩
  · rw [if_neg (by simpa using e)]
    have R : HkG a b n st₀ (none, na - 1, nb, out.push q, mg, ac, bc) st := ⟨hS, .inr ⟨rfl, M, by dsimp only; omega, by dsimp only; omega, b1, b2, by dsimp only; omega⟩⟩
    by_cases g : (decide (ac < 7) && decide (bc < 7)) = true
    · rw [if_pos g]; exact wpS_pure R
    · rw [if_neg g]; exact wpS_pure ⟨rfl, R⟩
theorem hiG2_ok {st₀ st : SortSt} {a b out : Array Keyed} {mg na nb ac bc n : Nat} (T : Two a b) (hk : kindOf st₀ = Ranks.κ) (hS : Stay st₀ st) (hL : Left a b n out na nb) (hx : ∀ j, j < na → j < a.size → K a j ≤ K b (nb - 1)) :
    wpS (model prog w) A E s (hiG2 a b out na nb mg ac bc) (PH a b n st₀) st := by
  obtain ⟨hM, a1, a2, b1, b2, hn⟩ := hL
  obtain ⟨p, ep, t, hp⟩ := at_some T.ib (show nb - 1 < b.size by omega)
  obtain ⟨q, eq, u, hq⟩ := at_some T.ia (show na - 1 < a.size by omega)
  unfold hiG2
  refine wpS_bind (wpS_elem ep ?_)
  have M : MB a b (out.push p) na (nb - 1) := hM.pushB T.rb (by omega) ep hx
  by_cases e : nb - 1 = 1
  · rw [if_pos (by simpa using e)]
    exact wpS_pure ⟨hS, .inl ⟨_, rfl, M.first T e (by omega)⟩⟩
  · rw [if_neg (by simpa using e)]
    refine wpS_bind (wpS_elem eq (wpS_bind (wpS_gallop (hS.kind hk) hq T.ib (by omega) (by omega) (fun i j h1 h2 => riseK T.rb (by omega) (by omega)) fun k hT => ?_)))
    obtain ⟨k1, k2, k3⟩ := turns_true hT
    simp only [Nat.zero_add] at k2 k3
    dsimp only
    by_cases hk0 : nb - 1 - k > 0
    · rw [if_pos hk0]
      have M2 := M.addB (p := k) T.rb (by omega) fun i j h1 h2 h3 h4 h5 => Int.le_trans (riseK T.ra (show j ≤ na - 1 by omega) (by omega)) (k3 i h1 h2)
      by_cases e1 : k = 1
      · rw [if_pos (by simpa using e1)]
        exact wpS_pure ⟨hS, .inl ⟨_, rfl, M2.first T e1 (by omega)⟩⟩
      · rw [if_neg (by simpa using e1)]
        by_cases e2 : k = 0
        · rw [if_pos (by simpa using e2)]
          exact wpS_pure ⟨hS, .inl ⟨_, rfl, M2.doneB T e2 (by omega)⟩⟩
        · rw [if_neg (by simpa using e2)]
          exact hiG3_ok T hS ⟨M2, a1, a2, by omega, by omega, by omega⟩ fun j h1 h2 => Int.le_of_lt (k2 j h1)
    · rw [if_neg hk0]
      exact hiG3_ok T hS ⟨M, a1, a2, by omega, by omega, by omega⟩ fun j h1 h2 => Int.le_of_lt (k2 j (by omega))
theorem hiG1_ok {st₀ st : SortSt} {a b out : Array Keyed} {mg na nb ac bc n : Nat} (T : Two a b) (hk : kindOf st₀ = Ranks.κ) (hS : Stay st₀ st) (hL : Left a b n out na nb) :
    wpS (model prog w) A E s (hiG1 a b out na nb mg ac bc) (PH a b n st₀) st := by
  obtain ⟨hM, a1, a2, b1, b2, hn⟩ := id hL
  obtain ⟨p, ep, t, hp⟩ := at_some T.ib (show nb - 1 < b.size by omega)
  unfold hiG1
  refine wpS_bind (wpS_setG hS fun st' hS' => wpS_bind (wpS_elem ep (wpS_bind (wpS_gallop (hS'.kind hk) hp T.ia (by omega) (by omega) (fun i j h1 h2 => riseK T.ra (by omega) (by omega)) fun k hT => ?_))))
  obtain ⟨k1, k2, k3⟩ := turns_false hT
  simp only [Nat.zero_add] at k2 k3
  dsimp only
  by_cases hk0 : na - k > 0
  · rw [if_pos hk0]
    have M2 := hM.addA (p := k) T.ra (by omega) fun i j h1 h2 h3 h4 h5 => Int.le_of_lt (Int.lt_of_le_of_lt (riseK T.rb (show j ≤ nb - 1 by omega) (by omega)) (k3 i h1 h2))
    by_cases e : k = 0
    · rw [if_pos (by simpa using e)]
      exact wpS_pure ⟨hS', .inl ⟨_, rfl, M2.doneA T e (by omega)⟩⟩
    · rw [if_neg (by simpa using e)]
      exact hiG2_ok T hk hS' ⟨M2, by omega, by omega, b1, b2, by omega⟩ fun j h1 h2 => k2 j h1
  · rw [if_neg hk0]
    exact hiG2_ok T hk hS' hL fun j h1 h2 => k2 j (by omega)
theorem hiG_ok {st₀ st : SortSt} {a b out : Array Keyed} {mg na nb ac bc n : Nat} (T : Two a b) (hk : kindOf st₀ = Ranks.κ) (hS : Stay st₀ st) (hL : Left a b n out na nb) :
    wpS (model prog w) A E s (hiG a b out na nb mg ac bc) (PH a b n st₀) st := by
  unfold hiG
  by_cases h : mg > 1
  · rw [if_pos h]; exact hiG1_ok T hk hS hL
  · rw [if_neg h]; exact hiG1_ok T hk hS hL
theorem hiO_ok {st₀ st : SortSt} {a b out : Array Keyed} {mg na nb n : Nat} (T : Two a b) (hk : kindOf st₀ = Ranks.κ) (hS : Stay st₀ st) (hL : Left a b n out na nb) :
    wpS (model prog w) A E s (hiO a b na nb out mg) (fun r st' => match r with | .done c => HkO a b (n + 1) st₀ c st' ∧ c.1 ≠ none | .yield c => c.1 = none ∧ HkO a b (n + 1) st₀ c st') st := by
  have hna := T.na
  unfold hiO
  refine wpS_bind (wpS_mono (wpS_forRange (I := fun x c st' => c.1 = none ∧ HkR a b (n + x) st₀ c st') (Q := fun c st' => HkR a b (n + 1) st₀ c st') ?_ ?_ ⟨rfl, hS, .inr ⟨rfl, hL⟩⟩) ?_)
  · rintro x ⟨c0, i, j, o, ac, bc⟩ st' _ hx ⟨e, hS', z⟩
    rcases z with ⟨r, e', _⟩ | ⟨_, l⟩
    · rw [e'] at e; cases e
    · refine wpS_mono (hiR_ok T hk hS' l) fun r st2 hr => ?_
      cases r with
      | done c => exact ⟨hr.1, hr.2.imp id fun ⟨q1, q2⟩ => ⟨q1, q2.le (by omega)⟩⟩
      | yield c => exact hr
  · rintro c st' ⟨e, hc⟩
    exact ⟨hc.1, hc.2.imp id fun ⟨q1, q2⟩ => ⟨q1, q2.le (by omega)⟩⟩
  · rintro ⟨c0, i, j, o, ac, bc⟩ st' ⟨hS', z⟩
    rcases z with ⟨r, e, hr⟩ | ⟨e, l⟩
    · dsimp only at e
      subst e
      exact wpS_pure ⟨⟨hS', .inl ⟨r, rfl, hr⟩⟩, by simp⟩
    · dsimp only at e
      subst e
      dsimp only
      refine wpS_bind (wpS_lift (wpAny_rule ⟨rfl, ?_⟩))
      refine wpS_bind (wpS_mono (wpS_forRange (I := fun x c st' => c.1 = none ∧ HkG a b (n + 1) st₀ c st') (Q := fun c st' => HkG a b (n + 1) st₀ c st') ?_ ?_ ⟨rfl, hS', .inr ⟨rfl, l⟩⟩) ?_)
      · rintro x ⟨c0, i, j, o, mg, ac, bc⟩ st' _ hx ⟨e, hS', z⟩
        rcases z with ⟨r, e', _⟩ | ⟨_, l⟩
        · rw [e'] at e; cases e
        · refine wpS_mono (hiG_ok T hk hS' l) fun r st2 hr => ?_
          cases r with
          | done c => exact hr
          | yield c => exact hr
      · exact fun c st' hc => hc.2
      · rintro ⟨c0, i, j, o, mg, ac, bc⟩ st' ⟨hS', z⟩
        rcases z with ⟨r, e, hr⟩ | ⟨e, l⟩
        · dsimp only at e
          subst e
          exact wpS_pure ⟨⟨hS', .inl ⟨r, rfl, hr⟩⟩, by simp⟩
        · dsimp only at e
          subst e
          dsimp only
          exact wpS_bind (wpS_setG hS' fun st2 hS2 => wpS_pure ⟨rfl, hS2, .inr ⟨rfl, l⟩⟩)
theorem wpS_mergeHi {st : SortSt} {a b : Array Keyed} {Q : Array Keyed → SortSt → Prop} (T : Two a b) (hk : kindOf st = Ranks.κ) (h : ∀ r st', Stay st st' → Merged a b r → Q r st') : wpS (model prog w) A E s (mergeHi' a b) Q st := by
  rw [mergeHi'_eq]
  have hna := T.na
  have hnb := T.nb
  obtain ⟨p, ep, t, hp⟩ := at_some T.ia (show a.size - 1 < a.size by omega)
  refine wpS_bind (wpS_lift (wpAny_rule ⟨rfl, wpS_bind (wpS_elem ep ?_)⟩))
  have M0 : MB a b #[] a.size b.size := by
    have := MH.nil (a := a.toList) (b := b.toList)
    simpa using this
  have M : MB a b #[p] (a.size - 1) b.size := M0.pushA T.ra hna ep fun j _ hj => Int.le_of_lt (T.last hj)
  by_cases e1 : a.size - 1 = 0
  · rw [if_pos (by simpa using e1)]
    exact wpS_pure (h _ _ Stay.rfl (M.doneA T e1 (by omega)))
  · rw [if_neg (by simpa using e1)]
    by_cases e2 : b.size = 1
    · rw [if_pos (by simpa using e2)]
      exact wpS_pure (h _ _ Stay.rfl (M.first T e2 (by omega)))
    · rw [if_neg (by simpa using e2)]
      refine wpS_bind (wpS_get ?_)
      refine wpS_bind (wpS_mono (wpS_forRange (I := fun x c st' => c.1 = none ∧ HkO a b (x + 1) st c st') (Q := fun c st' => HkO a b 0 st c st' ∧ c.1 ≠ none) ?_ ?_ ⟨rfl, Stay.rfl, .inr ⟨rfl, M, by dsimp only; omega, by dsimp only; omega, by dsimp only; omega, by dsimp only; omega, by dsimp only; omega⟩⟩) ?_)
      · rintro x ⟨c0, i, j, o, mg⟩ st' _ hx ⟨e, hS', z⟩
        rcases z with ⟨r, e', _⟩ | ⟨_, l⟩
        · rw [e'] at e; cases e
        · refine wpS_mono (hiO_ok T hk hS' l) fun r st2 hr => ?_
          cases r with
          | done c => exact ⟨⟨hr.1.1, hr.1.2.imp id fun ⟨q1, q2⟩ => ⟨q1, q2.le (by omega)⟩⟩, hr.2⟩
          | yield c => exact hr
      · rintro ⟨c0, i, j, o, mg⟩ st' ⟨e, hS', z⟩
        rcases z with ⟨r, e', _⟩ | ⟨_, l⟩
        · rw [e'] at e; cases e
        · obtain ⟨_, l1, l2, l3, l4, l5⟩ := l
          dsimp only at l1 l2 l3 l4 l5
          exfalso; omega
      · rintro ⟨c0, i, j, o, mg⟩ st' ⟨⟨hS', z⟩, hne⟩
        rcases z with ⟨r, e, hr⟩ | ⟨e, _⟩
        · dsimp only at e
          subst e
          exact wpS_pure (h _ _ hS' hr)
        · exact absurd e hne
end
end MwSortR
set_option maxHeartbeats 2000000
namespace MwSortR
open PySem PyProof.Rows
variable [Ranks]
def lay (at_ : Nat) (l : List (Keyed × Nat)) (xs : Array Keyed) : Array Keyed := l.foldl (fun z (p, j) => z.setIfInBounds (at_ + j) p) xs
theorem lay_cons (at_ : Nat) (p : Keyed) (j : Nat) (l : List (Keyed × Nat)) (xs : Array Keyed) : lay at_ ((p, j) :: l) xs = lay at_ l (xs.setIfInBounds (at_ + j) p) := rfl
theorem lay_get {at_ : Nat} : ∀ (l : List Keyed) (n : Nat) (xs : Array Keyed), at_ + n + l.length ≤ xs.size → ∀ k, (lay at_ (l.zipIdx n) xs)[k]? = if at_ + n ≤ k ∧ k < at_ + n + l.length then l[k - (at_ + n)]? else xs[k]?
  | [], n, xs, h, k => by
    rw [if_neg (by simp only [List.length_nil]; omega)]; rfl
  | p :: l, n, xs, h, k => by
    rw [List.zipIdx_cons, lay_cons, lay_get l (n + 1) _ (by rw [Array.size_setIfInBounds]; simp only [List.length_cons] at h; omega) k]
    simp only [List.length_cons] at h ⊢
    by_cases h1 : at_ + (n + 1) ≤ k ∧ k < at_ + (n + 1) + l.length
    · rw [if_pos h1, if_pos (by omega), show k - (at_ + n) = (k - (at_ + (n + 1))) + 1 by omega, List.getElem?_cons_succ]
    · rw [if_neg h1]
      by_cases h2 : at_ + n = k
      · subst h2
        rw [if_pos (by omega), Nat.sub_self]
        rw [Array.getElem?_setIfInBounds_self_of_lt (by omega)]
        rfl
      · rw [if_neg (by omega), Array.getElem?_setIfInBounds_ne h2]
theorem lay_list {at_ : Nat} {m xs : Array Keyed} (h : at_ + m.size ≤ xs.size) : (lay at_ m.toList.zipIdx xs).toList = xs.toList.take at_ ++ m.toList ++ xs.toList.drop (at_ + m.size) := by
  apply List.ext_getElem?
  intro k
  rw [Array.getElem?_toList, lay_get m.toList 0 xs (by simpa using h) k]
  simp only [Nat.add_zero, Array.length_toList]
  rw [List.append_assoc, List.getElem?_append, List.getElem?_append]
  have e1 : (xs.toList.take at_).length = at_ := by simp; omega
  rw [e1]
  by_cases h1 : k < at_
  · rw [if_neg (by omega), if_pos h1, List.getElem?_take_of_lt h1, Array.getElem?_toList]
  · rw [if_neg h1]
    simp only [Array.length_toList]
    by_cases h2 : k < at_ + m.size
    · rw [if_pos ⟨by omega, h2⟩, if_pos (by omega)]
    · rw [if_neg (by omega), if_neg (by omega), List.getElem?_drop, Array.getElem?_toList]
      congr 1
      omega
def Up (xs : Array Keyed) (i j : Nat) : Prop := ∀ p q, i ≤ p → p ≤ q → q < j → K xs p ≤ K xs q
theorem K_ext {xs : Array Keyed} {i j k : Nat} (hj : j ≤ xs.size) (hk : i + k < j) : K (xs.extract i j) k = K xs (i + k) := by
  apply K_congr
  rw [Array.getElem?_extract]
  rw [if_pos (by omega)]
theorem ext_rise {xs : Array Keyed} {i j : Nat} (hj : j ≤ xs.size) (h : Up xs i j) : Rise (xs.extract i j).toList := rise_of fun p q hpq hq => by
  have hs : (xs.extract i j).size = j - i := by rw [Array.size_extract]; omega
  rw [hs] at hq
  rw [K_ext hj (by omega), K_ext hj (by omega)]
  exact h _ _ (by omega) (by omega) (by omega)
theorem ext_int {xs : Array Keyed} {i j : Nat} (h : KeysIn xs) : KeysIn (xs.extract i j) := fun p hp => h p (by
  rw [Array.toList_extract, List.extract_eq_take_drop] at hp
  exact List.mem_of_mem_drop (List.mem_of_mem_take hp))
theorem joined {xs m : Array Keyed} {sa sb e c d : Nat} (h1 : sa ≤ c) (h2 : c ≤ sb) (h3 : sb ≤ d) (h4 : d ≤ e) (h5 : e ≤ xs.size) (ua : Up xs sa sb) (ub : Up xs sb e)
    (hlo : ∀ i, sa ≤ i → i < c → K xs i ≤ K xs sb) (hhi : ∀ i, d ≤ i → i < e → K xs (sb - 1) ≤ K xs i) (hc : c < sb) (hd : sb < d) (hM : Merged (xs.extract c sb) (xs.extract sb d) m) :
    (lay c m.toList.zipIdx xs).toList.Perm xs.toList ∧ (∀ k, k < c ∨ d ≤ k → K (lay c m.toList.zipIdx xs) k = K xs k) ∧ Up (lay c m.toList.zipIdx xs) sa e := by
  have hm : m.size = d - c := by
    have := hM.1.length_eq
    simp at this
    omega
  have hfit : c + m.size ≤ xs.size := by omega
  have hg : ∀ k, (lay c m.toList.zipIdx xs)[k]? = if c ≤ k ∧ k < d then m[k - c]? else xs[k]? := fun k => by
    rw [lay_get m.toList 0 xs (by simpa using hfit) k]
    simp only [Nat.add_zero, Array.length_toList, hm, Array.getElem?_toList]
    rw [show c + (d - c) = d by omega]
  have kout : ∀ k, k < c ∨ d ≤ k → K (lay c m.toList.zipIdx xs) k = K xs k := fun k hk => K_congr (by rw [hg, if_neg (by omega)])
  have kin : ∀ k, c ≤ k → k < d → K (lay c m.toList.zipIdx xs) k = K m (k - c) := fun k a b => K_congr (by rw [hg, if_pos ⟨a, b⟩])
  have mid : ∀ k, k < m.size → ∃ n, c ≤ n ∧ n < d ∧ K m k = K xs n := fun k hk => by
    have hmem : m.toList[k]'(by simpa using hk) ∈ (xs.extract c sb).toList ++ (xs.extract sb d).toList := hM.1.mem_iff.mp (List.getElem_mem _)
    have ek := kf_at (a := m) (n := k) (by simpa using hk)
    rcases List.mem_append.mp hmem with z | z
    · rw [Array.toList_extract, List.extract_eq_take_drop] at z
      obtain ⟨n, hn, n1, n2, e⟩ := mem_seg z
      refine ⟨n, n1, by omega, ?_⟩
      rw [← ek, ← e, kf_at]
    · rw [Array.toList_extract, List.extract_eq_take_drop] at z
      obtain ⟨n, hn, n1, n2, e⟩ := mem_seg z
      refine ⟨n, by omega, by omega, ?_⟩
      rw [← ek, ← e, kf_at]
  refine ⟨?_, kout, ?_⟩
  · rw [lay_list hfit, hm, show c + (d - c) = d by omega]
    have e1 : xs.toList = xs.toList.take c ++ ((xs.extract c sb).toList ++ (xs.extract sb d).toList) ++ xs.toList.drop d := by
      rw [Array.toList_extract, Array.toList_extract, List.extract_eq_take_drop, List.extract_eq_take_drop]
      have q1 := seg_split (l := xs.toList) h3
      have q2 := seg_split (l := xs.toList) h2
      have q3 := List.take_append_drop c xs.toList
      rw [List.append_assoc, List.append_assoc, ← q1, ← q2, q3]
    have p := (hM.1.append_left (xs.toList.take c)).append_right (xs.toList.drop d)
    rwa [← e1] at p
  · intro p q hp hpq hq
    rcases Nat.lt_or_ge p c with p1 | p1
    · rw [kout p (.inl p1)]
      rcases Nat.lt_or_ge q c with q1 | q1
      · rw [kout q (.inl q1)]
        exact ua p q hp hpq (by omega)
      · have low : ∀ n, c ≤ n → n < e → K xs p ≤ K xs n := fun n n1 n2 => by
          rcases Nat.lt_or_ge n sb with z | z
          · exact ua p n hp (by omega) z
          · exact Int.le_trans (hlo p hp p1) (ub sb n (by omega) z n2)
        rcases Nat.lt_or_ge q d with q2 | q2
        · rw [kin q q1 q2]
          obtain ⟨n, n1, n2, e⟩ := mid (q - c) (by omega)
          rw [e]
          exact low n n1 (by omega)
        · rw [kout q (.inr q2)]
          exact low q q1 hq
    · rcases Nat.lt_or_ge p d with p2 | p2
      · rw [kin p p1 p2]
        rcases Nat.lt_or_ge q d with q2 | q2
        · rw [kin q (by omega) q2]
          exact riseK hM.2 (by omega) (by omega)
        · rw [kout q (.inr q2)]
          obtain ⟨n, n1, n2, e⟩ := mid (p - c) (by omega)
          rw [e]
          rcases Nat.lt_or_ge n sb with z | z
          · exact Int.le_trans (ua n (sb - 1) (by omega) (by omega) (by omega)) (hhi q q2 hq)
          · exact ub n q z (by omega) hq
      · rw [kout p (.inr p2), kout q (.inr (by omega))]
        exact ub p q (by omega) hpq hq
theorem mergeAt'_eq (i : Nat) : mergeAt' i = (do
  let g ← get
  let (some (p, m, pw), some (q, n, _)) := ((pendingOf g)[i]?, (pendingOf g)[i + 1]?) | unsupported "internal:list.sort.pending"
  set (setPending g (((pendingOf g).setIfInBounds i (p, m + n, pw)).eraseIdxIfInBounds (i + 1)))
  let some k ← gallop' false (← elem' (arrOf g) q) (arrOf g) p m 0 | return false
  let (p, m) := (p + k, m - k)
  if m == 0 then return true
  let some n ← gallop' true (← elem' (arrOf g) (p + m - 1)) (arrOf g) q n (n - 1) | return false
  if n == 0 then return true
  let x := (arrOf g).extract p q
  let y := (arrOf g).extract q (q + n)
  let r ← if m ≤ n then mergeLo' x y else mergeHi' x y
  modify fun z => setArr z (lay p r.toList.zipIdx (arrOf z))
  return (failedOf (← get)).isNone) := rfl
section
variable {prog : Program} {w : World} {A : Around} {E : Value → Shared → Prop} {s : Shared} [CmpOk prog w A s]
theorem wpS_set {st st' : SortSt} {Q : PUnit → SortSt → Prop} (h : Q ⟨⟩ st') : wpS (model prog w) A E s (set st' : StateT SortSt Sem PUnit) Q st := by
  unfold wpS; rw [StateT.run_set]; exact wpAny_pure ⟨rfl, h⟩
structure Joined (st st' : SortSt) (p e : Nat) : Prop where
  kind : kindOf st' = kindOf st
  failed : failedOf st' = failedOf st
  perm : (arrOf st').toList.Perm (arrOf st).toList
  out : ∀ k, k < p ∨ e ≤ k → K (arrOf st') k = K (arrOf st) k
  up : Up (arrOf st') p e
theorem wpS_mergeAt {st : SortSt} {i p m pw n pw2 : Nat} {Q : Bool → SortSt → Prop} (hk : kindOf st = Ranks.κ) (hf : failedOf st = none) (hI : KeysIn (arrOf st))
    (hp : (pendingOf st)[i]? = some (p, m, pw)) (hq : (pendingOf st)[i + 1]? = some (p + m, n, pw2)) (m1 : 1 ≤ m) (n1 : 1 ≤ n) (he : p + m + n ≤ (arrOf st).size) (ua : Up (arrOf st) p (p + m)) (ub : Up (arrOf st) (p + m) (p + m + n))
    (h : ∀ st', Joined st st' p (p + m + n) → pendingOf st' = ((pendingOf st).setIfInBounds i (p, m + n, pw)).eraseIdxIfInBounds (i + 1) → Q true st') : wpS (model prog w) A E s (mergeAt' i) Q st := by
  rw [mergeAt'_eq]
  refine wpS_bind (wpS_get ?_)
  rw [hp, hq]
  dsimp only
  refine wpS_bind (wpS_set ?_)
  obtain ⟨b0, eb, tb, hb⟩ := at_some hI (show p + m < (arrOf st).size by omega)
  refine wpS_bind (wpS_elem eb (wpS_bind (wpS_gallop hk hb hI (by omega) (by omega) (fun i j h1 h2 => ua _ _ (by omega) (by omega) (by omega)) fun k hT => ?_)))
  obtain ⟨k1, k2, k3⟩ := turns_false hT
  have hlo : ∀ i, p ≤ i → i < p + k → K (arrOf st) i ≤ K (arrOf st) (p + m) := fun i h1 h2 => by
    have := k2 (i - p) (by omega)
    rwa [show p + (i - p) = i by omega] at this
  dsimp only
  by_cases e0 : m - k = 0
  · rw [if_pos (by simpa using e0)]
    refine wpS_pure (h _ ⟨rfl, rfl, List.Perm.refl _, fun _ _ => rfl, fun x y hx hxy hy => ?_⟩ rfl)
    show K (arrOf st) x ≤ K (arrOf st) y
    rcases Nat.lt_or_ge y (p + m) with z | z
    · exact ua x y hx hxy z
    · rcases Nat.lt_or_ge x (p + m) with z2 | z2
      · exact Int.le_trans (hlo x hx (by omega)) (ub _ y (by omega) z hy)
      · exact ub x y z2 hxy hy
  · rw [if_neg (by simpa using e0)]
    have hlast : p + k + (m - k) - 1 = p + m - 1 := by omega
    obtain ⟨a1, ea, ta, ha⟩ := at_some hI (show p + k + (m - k) - 1 < (arrOf st).size by omega)
    refine wpS_bind (wpS_elem ea (wpS_bind (wpS_gallop hk ha hI (by omega) (by omega) (fun i j h1 h2 => ub _ _ (by omega) (by omega) (by omega)) fun k' hT' => ?_)))
    obtain ⟨j1, j2, j3⟩ := turns_true hT'
    rw [hlast] at j2 j3
    have hhi : ∀ i, p + m + k' ≤ i → i < p + m + n → K (arrOf st) (p + m - 1) ≤ K (arrOf st) i := fun i h1 h2 => by
      have := j3 (i - (p + m)) (by omega) (by omega)
      rwa [show p + m + (i - (p + m)) = i by omega] at this
    dsimp only
    by_cases e1 : k' = 0
    · rw [if_pos (by simpa using e1)]
      refine wpS_pure (h _ ⟨rfl, rfl, List.Perm.refl _, fun _ _ => rfl, fun x y hx hxy hy => ?_⟩ rfl)
      show K (arrOf st) x ≤ K (arrOf st) y
      rcases Nat.lt_or_ge y (p + m) with z | z
      · exact ua x y hx hxy z
      · rcases Nat.lt_or_ge x (p + m) with z2 | z2
        · exact Int.le_trans (ua x (p + m - 1) hx (by omega) (by omega)) (hhi y (by omega) hy)
        · exact ub x y z2 hxy hy
    · rw [if_neg (by simpa using e1)]
      have sx : ((arrOf st).extract (p + k) (p + m)).size = m - k := by rw [Array.size_extract]; omega
      have sy : ((arrOf st).extract (p + m) (p + m + k')).size = k' := by rw [Array.size_extract]; omega
      have T : Two ((arrOf st).extract (p + k) (p + m)) ((arrOf st).extract (p + m) (p + m + k')) := {
        ia := ext_int hI
        ib := ext_int hI
        ra := ext_rise (by omega) fun x y h1 h2 h3 => ua x y (by omega) h2 h3
        rb := ext_rise (by omega) fun x y h1 h2 h3 => ub x y (by omega) h2 (by omega)
        na := by rw [sx]; omega
        nb := by rw [sy]; omega
        h0 := by
          rw [K_ext (by omega) (by omega), K_ext (by omega) (by omega)]
          have := k3 k (by omega) (by omega)
          simpa using this
        hl := by
          rw [sx, sy, K_ext (by omega) (by omega), K_ext (by omega) (by omega)]
          have := j2 (k' - 1) (by omega)
          rwa [show p + k + (m - k - 1) = p + m - 1 by omega] }
      have fin : ∀ (r : Array Keyed) (st' : SortSt), Stay (setPending st (((pendingOf st).setIfInBounds i (p, m + n, pw)).eraseIdxIfInBounds (i + 1))) st' → Merged ((arrOf st).extract (p + k) (p + m)) ((arrOf st).extract (p + m) (p + m + k')) r →
          wpS (model prog w) A E s (do modify fun z => setArr z (lay (p + k) r.toList.zipIdx (arrOf z)); return (failedOf (← get)).isNone) Q st' := fun r st' hS hM => by
        refine wpS_bind (wpS_modify (wpS_bind (wpS_get (wpS_pure ?_))))
        have hj := joined (sa := p) (e := p + m + n) (by omega) (by omega) (by omega) (by omega) he ua ub hlo hhi (by omega) (by omega) hM
        have ef : failedOf st' = none := hS.2.2.2.trans hf
        have ex : arrOf st' = arrOf st := hS.2.1
        have : (failedOf (setArr st' (lay (p + k) r.toList.zipIdx (arrOf st')))).isNone = true := by show (failedOf st').isNone = true; rw [ef]; rfl
        rw [this]
        refine h _ ⟨hS.1, hS.2.2.2, ?_, ?_, ?_⟩ hS.2.2.1
        · show (lay (p + k) r.toList.zipIdx (arrOf st')).toList.Perm _
          rw [ex]; exact hj.1
        · intro x hx
          show K (lay (p + k) r.toList.zipIdx (arrOf st')) x = _
          rw [ex]; exact hj.2.1 x (by omega)
        · show Up (lay (p + k) r.toList.zipIdx (arrOf st')) _ _
          rw [ex]; exact hj.2.2
      by_cases hc : m - k ≤ k'
      · rw [if_pos hc]
        exact wpS_bind (wpS_mergeLo T hk fun r st' hS hM => fin r st' hS hM)
      · rw [if_neg hc]
        exact wpS_bind (wpS_mergeHi T hk fun r st' hS hM => fin r st' hS hM)
end
end MwSortR
set_option maxHeartbeats 2000000
namespace MwSortR
open PySem PyProof.Rows
variable [Ranks]
def ascL (lo a nr : Nat) : StateT SortSt Sem (Option (Option Nat) × Nat) := forIn [a:nr] ((none, a) : Option (Option Nat) × Nat) fun _ c => do
  let r ← ltAt' (lo + c.2) (lo + c.2 - 1)
  match r with
  | some t => if t = true then pure (.done (none, c.2)) else pure (.yield (none, c.2 + 1))
  | _ => pure (.done (some none, c.2))
def tailL (lo n nr : Nat) : StateT SortSt Sem (Option Nat) := do
  reverseSlice' lo (lo + n)
  let c ← ascL lo n nr
  match c.1 with
  | some r => pure r
  | none => pure (some c.2)
def dscL (lo n nr : Nat) : StateT SortSt Sem (Option (Option Nat) × Nat × Nat) := forIn [n:nr] ((none, n, 0) : Option (Option Nat) × Nat × Nat) fun _ c => do
  let r ← ltAt' (lo + c.2.1) (lo + c.2.1 - 1)
  match r with
  | some t =>
    if t = true then
      if c.2.2 > 0 then do
        reverseSlice' (lo + c.2.1 - (c.2.2 + 1)) (lo + c.2.1)
        pure (.yield (none, c.2.1 + 1, 0))
      else pure (.yield (none, c.2.1 + 1, 0))
    else do
      let r ← ltAt' (lo + c.2.1 - 1) (lo + c.2.1)
      match r with
      | some g => if g = true then pure (.done (none, c.2.1, c.2.2)) else pure (.yield (none, c.2.1 + 1, c.2.2 + 1))
      | _ => pure (.done (some none, c.2.1, c.2.2))
  | _ => pure (.done (some none, c.2.1, c.2.2))
def partL (lo n nr : Nat) : StateT SortSt Sem (Option Nat) := do
  liftM (rule "list.sort.descending-run")
  let c ← dscL lo (n + 1) nr
  match c.1 with
  | some r => pure r
  | none =>
    if c.2.2 > 0 then do
      reverseSlice' (lo + c.2.1 - (c.2.2 + 1)) (lo + c.2.1)
      tailL lo c.2.1 nr
    else tailL lo c.2.1 nr
theorem countL_eq (lo nr : Nat) : countRun' lo nr = (do
    let c ← ascL lo 1 nr
    match c.1 with
    | some r => pure r
    | none =>
      if (c.2 == nr) = true then pure (some c.2)
      else if c.2 > 1 then do
        let r ← ltAt' lo (lo + c.2 - 1)
        match r with
        | some g => if g = true then pure (some c.2) else do
            reverseSlice' lo (lo + c.2)
            partL lo c.2 nr
        | _ => pure none
      else partL lo c.2 nr) := by
  refine bindC rfl fun c => ?_
  obtain ⟨c1, n⟩ := c
  cases c1 with
  | some r => rfl
  | none =>
    refine ite_congr rfl (fun _ => rfl) fun _ => ite_congr rfl (fun _ => bindC rfl fun r => ?_) fun _ => bindC rfl fun _ => bindC rfl fun c => ?_
    · cases r with
      | none => rfl
      | some g =>
        refine ite_congr rfl (fun _ => rfl) fun _ => bindC rfl fun _ => bindC rfl fun _ => bindC rfl fun c => ?_
        obtain ⟨c1, n2, q⟩ := c
        cases c1 with
        | some r => rfl
        | none =>
          refine ite_congr rfl (fun _ => bindC rfl fun _ => bindC rfl fun _ => bindC rfl fun c => ?_) fun _ => bindC rfl fun _ => bindC rfl fun c => ?_
          all_goals (obtain ⟨c1, n3⟩ := c; cases c1 <;> rfl)
    · obtain ⟨c1, n2, q⟩ := c
      cases c1 with
      | some r => rfl
      | none =>
        refine ite_congr rfl (fun _ => bindC rfl fun _ => bindC rfl fun _ => bindC rfl fun c => ?_) fun _ => bindC rfl fun _ => bindC rfl fun c => ?_
        all_goals (obtain ⟨c1, n3⟩ := c; cases c1 <;> rfl)
structure Moved (lo : Nat) (st st' : SortSt) : Prop where
  kind : kindOf st' = kindOf st
  failed : failedOf st' = failedOf st
  pend : pendingOf st' = pendingOf st
  perm : (arrOf st').Perm (arrOf st)
  out : ∀ k, k < lo → K (arrOf st') k = K (arrOf st) k
theorem Moved.rfl {lo : Nat} {st : SortSt} : Moved lo st st := ⟨_root_.rfl, _root_.rfl, _root_.rfl, Array.Perm.refl _, fun _ _ => _root_.rfl⟩
theorem Moved.trans {lo : Nat} {a b c : SortSt} (h : Moved lo a b) (g : Moved lo b c) : Moved lo a c := ⟨g.kind.trans h.kind, g.failed.trans h.failed, g.pend.trans h.pend, g.perm.trans h.perm, fun k hk => (g.out k hk).trans (h.out k hk)⟩
theorem Moved.size {lo : Nat} {st st' : SortSt} (h : Moved lo st st') : (arrOf st').size = (arrOf st).size := h.perm.size_eq
theorem int_perm {xs ys : Array Keyed} (hI : KeysIn xs) (h : ys.Perm xs) : KeysIn ys := fun p hp => hI p ((Array.perm_iff_toList_perm.mp h).mem_iff.mp hp)
theorem moved_mirror {lo i j : Nat} {st : SortSt} (hi : lo ≤ i) (hj : j ≤ (arrOf st).size) : Moved lo st (setArr st (mirror (arrOf st) i j ((j - i) / 2))) :=
  ⟨rfl, rfl, rfl, mirror_perm _ _ _ _, fun k hk => by show K (mirror (arrOf st) i j ((j - i) / 2)) k = _; rw [K_mirror hj, if_neg (by omega)]⟩
def Dn (xs : Array Keyed) (i j : Nat) : Prop := ∀ p q, i ≤ p → p ≤ q → q < j → K xs q ≤ K xs p
theorem Up.more {xs : Array Keyed} {i j : Nat} (h : Up xs i j) (hj : i < j) (hx : K xs (j - 1) ≤ K xs j) : Up xs i (j + 1) := fun p q h1 h2 h3 => by
  rcases Nat.lt_or_ge q j with z | z
  · exact h p q h1 h2 z
  · have : q = j := by omega
    subst this
    rcases Nat.lt_or_ge p q with z2 | z2
    · exact Int.le_trans (h p (q - 1) h1 (by omega) (by omega)) hx
    · have : p = q := by omega
      rw [this]; exact Int.le_refl _
theorem Dn.more {xs : Array Keyed} {i j : Nat} (h : Dn xs i j) (hj : i < j) (hx : K xs j ≤ K xs (j - 1)) : Dn xs i (j + 1) := fun p q h1 h2 h3 => by
  rcases Nat.lt_or_ge q j with z | z
  · exact h p q h1 h2 z
  · have : q = j := by omega
    subst this
    rcases Nat.lt_or_ge p q with z2 | z2
    · exact Int.le_trans hx (h p (q - 1) h1 (by omega) (by omega))
    · have : p = q := by omega
      rw [this]; exact Int.le_refl _
theorem Up.one (xs : Array Keyed) (i : Nat) : Up xs i (i + 1) := fun p q h1 h2 h3 => by
  have : p = q := by omega
  rw [this]; exact Int.le_refl _
section
variable {prog : Program} {w : World} {A : Around} {E : Value → Shared → Prop} {s : Shared} [CmpOk prog w A s]
theorem wpS_ltI {st : SortSt} {i j : Nat} {Q : Option Bool → SortSt → Prop} (hk : kindOf st = Ranks.κ) (hI : KeysIn (arrOf st)) (hi : i < (arrOf st).size) (hj : j < (arrOf st).size) (h : Q (some (decide (K (arrOf st) i < K (arrOf st) j))) st) :
    wpS (model prog w) A E s (ltAt' i j) Q st := by
  obtain ⟨p, t1, e1, h1⟩ := at_int hI hi
  obtain ⟨q, t2, e2, h2⟩ := at_int hI hj
  rw [ltAt'_eq]
  refine wpS_bind (wpS_get ?_)
  show wpS _ _ _ _ (elem' (arrOf st) i >>= fun x => elem' (arrOf st) j >>= fun y => lt' x y) Q st
  exact wpS_bind (wpS_elem e1 (wpS_bind (wpS_elem e2 (wpS_lt2 hk h1 h2 h))))
theorem ascL_ok {st : SortSt} {lo a nr : Nat} {Q : Option (Option Nat) × Nat → SortSt → Prop} (hk : kindOf st = Ranks.κ) (hI : KeysIn (arrOf st)) (h1 : 1 ≤ a) (h2 : a ≤ nr) (h3 : lo + nr ≤ (arrOf st).size) (hu : Up (arrOf st) lo (lo + a))
    (h : ∀ n, a ≤ n → n ≤ nr → Up (arrOf st) lo (lo + n) → (n = nr ∨ K (arrOf st) (lo + n) < K (arrOf st) (lo + n - 1)) → Q (none, n) st) : wpS (model prog w) A E s (ascL lo a nr) Q st := by
  unfold ascL
  refine wpS_forRange (I := fun x c z => z = st ∧ c = (none, x) ∧ Up (arrOf st) lo (lo + x)) ?_ ?_ ⟨rfl, rfl, hu⟩
  · rintro x c z hx1 hx2 ⟨rfl, rfl, u⟩
    dsimp only
    refine wpS_bind (wpS_ltI hk hI (by omega) (by omega) ?_)
    by_cases hl : K (arrOf z) (lo + x) < K (arrOf z) (lo + x - 1)
    · rw [decide_eq_true hl]
      exact wpS_pure (h x hx1 (by omega) u (.inr hl))
    · rw [decide_eq_false hl]
      exact wpS_pure ⟨rfl, rfl, u.more (by omega) (Int.not_lt.mp hl)⟩
  · rintro c z ⟨rfl, rfl, u⟩
    rw [show max a nr = nr by omega] at u ⊢
    exact h nr h2 (Nat.le_refl _) u (.inl rfl)
theorem tailL_ok {st₀ st : SortSt} {lo n nr : Nat} {Q : Option Nat → SortSt → Prop} (hk : kindOf st₀ = Ranks.κ) (hI : KeysIn (arrOf st₀)) (hm : Moved lo st₀ st) (h1 : 1 ≤ n) (h2 : n ≤ nr) (h3 : lo + nr ≤ (arrOf st₀).size) (hd : Dn (arrOf st) lo (lo + n))
    (h : ∀ m st', Moved lo st₀ st' → 1 ≤ m → m ≤ nr → Up (arrOf st') lo (lo + m) → Q (some m) st') : wpS (model prog w) A E s (tailL lo n nr) Q st := by
  have hsz := hm.size
  unfold tailL
  refine wpS_bind (wpS_reverse ?_)
  have hm2 := hm.trans (moved_mirror (lo := lo) (i := lo) (j := lo + n) (Nat.le_refl _) (by omega))
  have hsz2 := hm2.size
  refine wpS_bind (ascL_ok (hm2.kind.trans hk) (int_perm hI hm2.perm) h1 h2 (by omega) (fun p q g1 g2 g3 => ?_) fun m m1 m2 m3 m4 => wpS_pure (h m _ hm2 (by omega) m2 m3))
  show K (mirror (arrOf st) lo (lo + n) _) p ≤ K (mirror (arrOf st) lo (lo + n) _) q
  rw [K_mirror (by omega), K_mirror (by omega), if_pos (by omega), if_pos (by omega)]
  exact hd _ _ (by omega) (by omega) (by omega)
theorem mirror_alike {xs : Array Keyed} {i j k : Nat} (hj : j ≤ xs.size) (h : ∀ p, i ≤ p → p < j → K xs p = K xs (j - 1)) : K (mirror xs i j ((j - i) / 2)) k = K xs k := K_mirror_equal hj h k
theorem dscL_ok {st₀ st : SortSt} {lo n nr : Nat} {Q : Option (Option Nat) × Nat × Nat → SortSt → Prop} (hk : kindOf st₀ = Ranks.κ) (hI : KeysIn (arrOf st₀)) (hm : Moved lo st₀ st) (h1 : 1 ≤ n) (h2 : n ≤ nr) (h3 : lo + nr ≤ (arrOf st₀).size) (hd : Dn (arrOf st) lo (lo + n))
    (h : ∀ m e st', Moved lo st₀ st' → n ≤ m → m ≤ nr → Dn (arrOf st') lo (lo + m) → e + 1 ≤ m → (∀ i, lo + m - (e + 1) ≤ i → i < lo + m → K (arrOf st') i = K (arrOf st') (lo + m - 1)) → Q (none, m, e) st') : wpS (model prog w) A E s (dscL lo n nr) Q st := by
  unfold dscL
  refine wpS_forRange (I := fun x c z => ∃ e, c = (none, x, e) ∧ Moved lo st₀ z ∧ Dn (arrOf z) lo (lo + x) ∧ e + 1 ≤ x ∧ (∀ i, lo + x - (e + 1) ≤ i → i < lo + x → K (arrOf z) i = K (arrOf z) (lo + x - 1))) ?_ ?_ ⟨0, rfl, hm, hd, by omega, fun i g1 g2 => by congr 1; omega⟩
  · rintro x c z hx1 hx2 ⟨e, rfl, hm, hd, he, ha⟩
    have hsz := hm.size
    have hk' := hm.kind.trans hk
    have hI' := int_perm hI hm.perm
    dsimp only
    refine wpS_bind (wpS_ltI hk' hI' (by omega) (by omega) ?_)
    by_cases hl : K (arrOf z) (lo + x) < K (arrOf z) (lo + x - 1)
    · rw [decide_eq_true hl]
      dsimp only
      rw [if_pos rfl]
      by_cases h0 : e > 0
      · rw [if_pos h0]
        refine wpS_bind (wpS_reverse (wpS_pure ⟨0, rfl, hm.trans (moved_mirror (by omega) (by omega)), ?_, by omega, fun i g1 g2 => by congr 1; omega⟩))
        intro p q g1 g2 g3
        show K (mirror (arrOf z) _ _ _) q ≤ K (mirror (arrOf z) _ _ _) p
        rw [mirror_alike (by omega) ha, mirror_alike (by omega) ha]
        exact (hd.more (by omega) (Int.le_of_lt hl)) p q g1 g2 (by omega)
      · rw [if_neg h0]
        exact wpS_pure ⟨0, rfl, hm, hd.more (by omega) (Int.le_of_lt hl), by omega, fun i g1 g2 => by congr 1; omega⟩
    · rw [decide_eq_false hl]
      dsimp only
      rw [if_neg Bool.false_ne_true]
      refine wpS_bind (wpS_ltI hk' hI' (by omega) (by omega) ?_)
      by_cases hg : K (arrOf z) (lo + x - 1) < K (arrOf z) (lo + x)
      · rw [decide_eq_true hg]
        exact wpS_pure (h x e z hm hx1 (by omega) hd he ha)
      · rw [decide_eq_false hg]
        have eq : K (arrOf z) (lo + x) = K (arrOf z) (lo + x - 1) := by omega
        refine wpS_pure ⟨e + 1, rfl, hm, hd.more (by omega) (by omega), by omega, fun i g1 g2 => ?_⟩
        rw [show lo + (x + 1) - 1 = lo + x by omega]
        rcases Nat.lt_or_ge i (lo + x) with z1 | z1
        · rw [eq]; exact ha i (by omega) z1
        · have : i = lo + x := by omega
          rw [this]
  · rintro c z ⟨e, rfl, hm, hd, he, ha⟩
    rw [show max n nr = nr by omega] at hd he ha ⊢
    exact h nr e z hm h2 (Nat.le_refl _) hd he ha
theorem partL_ok {st₀ st : SortSt} {lo n nr : Nat} {Q : Option Nat → SortSt → Prop} (hk : kindOf st₀ = Ranks.κ) (hI : KeysIn (arrOf st₀)) (hm : Moved lo st₀ st) (h2 : n + 1 ≤ nr) (h3 : lo + nr ≤ (arrOf st₀).size) (hd : Dn (arrOf st) lo (lo + (n + 1)))
    (h : ∀ m st', Moved lo st₀ st' → 1 ≤ m → m ≤ nr → Up (arrOf st') lo (lo + m) → Q (some m) st') : wpS (model prog w) A E s (partL lo n nr) Q st := by
  unfold partL
  refine wpS_bind (wpS_lift (wpAny_rule ⟨rfl, ?_⟩))
  refine wpS_bind (dscL_ok hk hI hm (by omega) h2 h3 hd fun m e z hm hx1 hx2 hd he ha => ?_)
  have hsz := hm.size
  dsimp only
  by_cases h0 : e > 0
  · rw [if_pos h0]
    refine wpS_bind (wpS_reverse (tailL_ok hk hI (hm.trans (moved_mirror (by omega) (by omega))) (by omega) hx2 h3 ?_ h))
    intro p q g1 g2 g3
    show K (mirror (arrOf z) _ _ _) q ≤ K (mirror (arrOf z) _ _ _) p
    rw [mirror_alike (by omega) ha, mirror_alike (by omega) ha]
    exact hd p q g1 g2 g3
  · rw [if_neg h0]
    exact tailL_ok hk hI hm (by omega) hx2 h3 hd h
theorem wpS_countL {st : SortSt} {lo nr : Nat} {Q : Option Nat → SortSt → Prop} (hk : kindOf st = Ranks.κ) (hI : KeysIn (arrOf st)) (h1 : 1 ≤ nr) (h3 : lo + nr ≤ (arrOf st).size)
    (h : ∀ m st', Moved lo st st' → 1 ≤ m → m ≤ nr → Up (arrOf st') lo (lo + m) → Q (some m) st') : wpS (model prog w) A E s (countRun' lo nr) Q st := by
  rw [countL_eq]
  refine wpS_bind (ascL_ok hk hI (Nat.le_refl 1) h1 h3 (Up.one _ _) fun n n1 n2 hu ho => ?_)
  dsimp only
  by_cases e : n = nr
  · rw [if_pos (by simpa using e)]
    exact wpS_pure (h n st Moved.rfl n1 n2 hu)
  · rw [if_neg (by simpa using e)]
    have hl := ho.resolve_left e
    by_cases g : n > 1
    · rw [if_pos g]
      refine wpS_bind (wpS_ltI hk hI (by omega) (by omega) ?_)
      by_cases hr : K (arrOf st) lo < K (arrOf st) (lo + n - 1)
      · rw [decide_eq_true hr]
        exact wpS_pure (h n st Moved.rfl n1 n2 hu)
      · rw [decide_eq_false hr]
        dsimp only
        rw [if_neg Bool.false_ne_true]
        have ha : ∀ p, lo ≤ p → p < lo + n → K (arrOf st) p = K (arrOf st) (lo + n - 1) := fun p p1 p2 => by
          have a1 := hu lo p (by omega) p1 p2
          have a2 := hu p (lo + n - 1) p1 (by omega) (by omega)
          omega
        refine wpS_bind (wpS_reverse (partL_ok hk hI (moved_mirror (Nat.le_refl _) (by omega)) (by omega) h3 ?_ h))
        intro p q g1 g2 g3
        show K (mirror (arrOf st) _ _ _) q ≤ K (mirror (arrOf st) _ _ _) p
        rw [mirror_alike (by omega) ha, mirror_alike (by omega) ha]
        have d0 : Dn (arrOf st) lo (lo + n) := fun p q g1 g2 g3 => by rw [ha p g1 (by omega), ha q (by omega) g3]; exact Int.le_refl _
        exact (d0.more (by omega) (Int.le_of_lt hl)) p q g1 g2 (by omega)
    · rw [if_neg g]
      have : n = 1 := by omega
      subst this
      refine partL_ok hk hI Moved.rfl (by omega) h3 ?_ h
      have d0 : Dn (arrOf st) lo (lo + 1) := fun p q g1 g2 g3 => by
        have : p = q := by omega
        rw [this]; exact Int.le_refl _
      exact d0.more (by omega) (Int.le_of_lt hl)
theorem wpS_binL {st : SortSt} {lo n ok : Nat} {Q : Bool → SortSt → Prop} (hk : kindOf st = Ranks.κ) (hI : KeysIn (arrOf st)) (h1 : 1 ≤ ok) (h2 : ok ≤ n) (h3 : lo + n ≤ (arrOf st).size) (hu : Up (arrOf st) lo (lo + ok))
    (h : ∀ st', Moved lo st st' → Up (arrOf st') lo (lo + n) → Q true st') : wpS (model prog w) A E s (binarySort' lo n ok) Q st := by
  rw [binarySort'_eq]
  refine wpS_bind (wpS_mono (wpS_forRange (I := fun x c z => c = (none, ()) ∧ Moved lo st z ∧ Up (arrOf z) lo (lo + x)) (Q := fun c z => c = (none, ()) ∧ Moved lo st z ∧ Up (arrOf z) lo (lo + n)) ?_ ?_ ⟨rfl, Moved.rfl, by rw [show max ok 1 = ok by omega]; exact hu⟩) ?_)
  · rintro x c z hx1 hx2 ⟨rfl, hm, u⟩
    have hsz := hm.size
    have hk' := hm.kind.trans hk
    have hI' := int_perm hI hm.perm
    refine wpS_bind (wpS_mono (wpS_forRange (I := fun y c z' => z' = z ∧ ∃ l r, c = (none, l, r) ∧ l ≤ r ∧ r ≤ x ∧ r - l ≤ x - y ∧ (∀ i, lo ≤ i → i < lo + l → K (arrOf z) i ≤ K (arrOf z) (lo + x)) ∧ (∀ i, lo + r ≤ i → i < lo + x → K (arrOf z) (lo + x) < K (arrOf z) i))
      (Q := fun c z' => z' = z ∧ ∃ l r, c = (none, l, r) ∧ l ≤ x ∧ (∀ i, lo ≤ i → i < lo + l → K (arrOf z) i ≤ K (arrOf z) (lo + x)) ∧ (∀ i, lo + l ≤ i → i < lo + x → K (arrOf z) (lo + x) < K (arrOf z) i)) ?_ ?_ ⟨rfl, 0, x, rfl, by omega, by omega, by omega, fun i _ _ => by omega, fun i _ _ => by omega⟩) ?_)
    · rintro y c z' _ hy ⟨rfl, l, r, rfl, i1, i2, i3, i4, i5⟩
      dsimp only
      by_cases hlr : l ≥ r
      · rw [if_pos hlr]
        have : l = r := by omega
        subst this
        exact wpS_pure ⟨rfl, l, l, rfl, i2, i4, i5⟩
      · rw [if_neg hlr]
        refine wpS_bind (wpS_ltI hk' hI' (by omega) (by omega) ?_)
        by_cases hl : K (arrOf z') (lo + x) < K (arrOf z') (lo + (l + r) / 2)
        · rw [decide_eq_true hl]
          exact wpS_pure ⟨rfl, l, (l + r) / 2, rfl, by omega, by omega, by omega, i4, fun i g1 g2 => Int.lt_of_lt_of_le hl (u _ i (by omega) g1 g2)⟩
        · rw [decide_eq_false hl]
          exact wpS_pure ⟨rfl, (l + r) / 2 + 1, r, rfl, by omega, by omega, by omega, fun i g1 g2 => Int.le_trans (u i (lo + (l + r) / 2) g1 (by omega) (by omega)) (Int.not_lt.mp hl), i5⟩
    · rintro c z' ⟨rfl, l, r, rfl, i1, i2, i3, i4, i5⟩
      have : l = r := by omega
      subst this
      exact ⟨rfl, l, l, rfl, i2, i4, i5⟩
    · rintro c z' ⟨rfl, l, r, rfl, i2, i4, i5⟩
      show wpS _ _ _ _ (do moveDown' (lo + x) (lo + l); pure (ForInStep.yield (none, ()))) _ _
      rw [moveDown'_eq]
      have hx : lo + x < (arrOf z').size := by omega
      have kb : ∀ k, K (bubble (arrOf z') (lo + x) (lo + x - (lo + l))) k = if k = lo + l then K (arrOf z') (lo + x) else if lo + l < k ∧ k ≤ lo + x then K (arrOf z') (k - 1) else K (arrOf z') k := fun k => by
        rw [K_bubble hx (by omega), show lo + x - (lo + x - (lo + l)) = lo + l by omega]
      refine wpS_bind (wpS_modify (wpS_pure ⟨rfl, hm.trans ⟨rfl, rfl, rfl, bubble_perm _ _ _, fun k hk => ?_⟩, fun p q g1 g2 g3 => ?_⟩))
      · show K (bubble _ _ _) k = _
        rw [kb, if_neg (by omega), if_neg (by omega)]
      · show K (bubble _ _ _) p ≤ K (bubble _ _ _) q
        rw [kb, kb]
        repeat' split
        all_goals first
          | (exfalso; omega)
          | exact Int.le_refl _
          | exact i4 _ (by omega) (by omega)
          | exact Int.le_of_lt (i5 _ (by omega) (by omega))
          | exact u _ _ (by omega) (by omega) (by omega)
  · rintro c z ⟨rfl, hm, u⟩
    rw [show max (max ok 1) n = n by omega] at u
    exact ⟨rfl, hm, u⟩
  · rintro c z ⟨rfl, hm, u⟩
    exact wpS_pure (h z hm u)
end
end MwSortR
set_option maxHeartbeats 2000000
namespace MwSortR
open PySem PyProof.Rows
variable [Ranks]
def Runs (xs : Array Keyed) : Nat → List (Nat × Nat × Nat) → Nat → Prop
  | s, [], e => s = e
  | s, c :: l, e => c.1 = s ∧ 1 ≤ c.2.1 ∧ Up xs s (s + c.2.1) ∧ Runs xs (s + c.2.1) l e
theorem Runs.le {xs : Array Keyed} : ∀ {l : List (Nat × Nat × Nat)} {s e : Nat}, Runs xs s l e → s + l.length ≤ e
  | [], s, e, h => by have : s = e := h; simp [this]
  | c :: l, s, e, h => by
    have := Runs.le h.2.2.2
    have h1 := h.2.1
    rw [List.length_cons]
    omega
theorem Up.congr {xs ys : Array Keyed} {i j : Nat} (h : ∀ k, i ≤ k → k < j → K ys k = K xs k) (u : Up xs i j) : Up ys i j := fun p q h1 h2 h3 => by
  rw [h p h1 (by omega), h q (by omega) h3]; exact u p q h1 h2 h3
theorem Runs.congr {xs ys : Array Keyed} : ∀ {l : List (Nat × Nat × Nat)} {s e : Nat}, (∀ k, s ≤ k → k < e → K ys k = K xs k) → Runs xs s l e → Runs ys s l e
  | [], s, e, _, r => r
  | c :: l, s, e, h, r => by
    have := Runs.le r.2.2.2
    exact ⟨r.1, r.2.1, r.2.2.1.congr fun k h1 h2 => h k h1 (by omega), Runs.congr (fun k h1 h2 => h k (by omega) h2) r.2.2.2⟩
theorem Runs.push {xs : Array Keyed} {n q : Nat} : ∀ {l : List (Nat × Nat × Nat)} {s e : Nat}, Runs xs s l e → 1 ≤ n → Up xs e (e + n) → Runs xs s (l ++ [(e, n, q)]) (e + n)
  | [], s, e, r, h, u => by
    have : s = e := r
    subst this
    exact ⟨rfl, h, u, rfl⟩
  | c :: l, s, e, r, h, u => ⟨r.1, r.2.1, r.2.2.1, Runs.push r.2.2.2 h u⟩
theorem Runs.mod {xs : Array Keyed} (f : Nat × Nat × Nat → Nat × Nat × Nat) (hf : ∀ c, (f c).1 = c.1 ∧ (f c).2.1 = c.2.1) : ∀ {l : List (Nat × Nat × Nat)} {i s e : Nat}, Runs xs s l e → Runs xs s (l.modify i f) e
  | [], i, s, e, r => by cases i <;> exact r
  | c :: l, 0, s, e, r => by
    show (f c).1 = s ∧ 1 ≤ (f c).2.1 ∧ Up xs s (s + (f c).2.1) ∧ Runs xs (s + (f c).2.1) l e
    rw [(hf c).1, (hf c).2]
    exact r
  | c :: l, i + 1, s, e, r => ⟨r.1, r.2.1, r.2.2.1, Runs.mod f hf r.2.2.2⟩
theorem Runs.two {xs : Array Keyed} : ∀ {l : List (Nat × Nat × Nat)} {i s e : Nat}, Runs xs s l e → i + 1 < l.length →
    ∃ p m pw n pw2, l[i]? = some (p, m, pw) ∧ l[i + 1]? = some (p + m, n, pw2) ∧ 1 ≤ m ∧ 1 ≤ n ∧ s ≤ p ∧ p + m + n ≤ e ∧ Up xs p (p + m) ∧ Up xs (p + m) (p + m + n) ∧
      ∀ ys, (∀ k, k < p ∨ p + m + n ≤ k → K ys k = K xs k) → Up ys p (p + m + n) → Runs ys s ((l.set i (p, m + n, pw)).eraseIdx (i + 1)) e
  | [], i, s, e, r, h => by simp at h
  | [c], 0, s, e, r, h => by simp at h
  | (p, m, pw) :: (q, n, pw2) :: l, 0, s, e, r, h => by
    obtain ⟨h1, h2, h3, h4, h5, h6, h7⟩ := r
    dsimp only at h1 h2 h3 h4 h5 h6 h7
    subst h1
    have := Runs.le h7
    refine ⟨p, m, pw, n, pw2, rfl, by rw [← h4]; rfl, h2, h5, Nat.le_refl _, by omega, h3, h6, fun ys hy hu => ?_⟩
    show p = p ∧ 1 ≤ m + n ∧ Up ys p (p + (m + n)) ∧ Runs ys (p + (m + n)) l e
    rw [← Nat.add_assoc]
    exact ⟨rfl, by omega, hu, h7.congr fun k a b => hy k (.inr a)⟩
  | c :: l, i + 1, s, e, r, h => by
    obtain ⟨p, m, pw, n, pw2, g1, g2, g3, g4, g5, g6, g7, g8, g9⟩ := Runs.two (i := i) r.2.2.2 (by simpa using h)
    refine ⟨p, m, pw, n, pw2, by simpa using g1, by simpa using g2, g3, g4, by omega, g6, g7, g8, fun ys hy hu => ?_⟩
    exact ⟨r.1, r.2.1, r.2.2.1.congr fun k a b => hy k (.inl (by omega)), g9 ys hy hu⟩
section
variable {prog : Program} {w : World} {A : Around} {E : Value → Shared → Prop} {s : Shared} [CmpOk prog w A s]
structure SInv (a₀ : Array Keyed) (lo : Nat) (st : SortSt) : Prop where
  kind : kindOf st = Ranks.κ
  failed : failedOf st = none
  perm : (arrOf st).Perm a₀
  runs : Runs (arrOf st) 0 (pendingOf st).toList lo
theorem SInv.merge {a₀ : Array Keyed} {lo i : Nat} {st : SortSt} {Q : Bool → SortSt → Prop} (hI : KeysIn a₀) (h : SInv a₀ lo st) (hlo : lo ≤ a₀.size) (hi : i + 1 < (pendingOf st).size)
    (hq : ∀ st', SInv a₀ lo st' → (pendingOf st').size + 1 = (pendingOf st).size → (∀ k, lo ≤ k → K (arrOf st') k = K (arrOf st) k) → Q true st') : wpS (model prog w) A E s (mergeAt' i) Q st := by
  obtain ⟨p, m, pw, n, pw2, g1, g2, g3, g4, g5, g6, g7, g8, g9⟩ := h.runs.two (i := i) (by simpa using hi)
  have hsz := h.perm.size_eq
  refine wpS_mergeAt h.kind h.failed (int_perm hI h.perm) (by simpa using g1) (by simpa using g2) g3 g4 (by omega) g7 g8 fun st' hJ hp => hq st' ⟨hJ.kind.trans h.kind, hJ.failed.trans h.failed, ?_, ?_⟩ ?_ fun k hk => hJ.out k (.inr (by omega))
  · exact (Array.perm_iff_toList_perm.mpr hJ.perm).trans h.perm
  · rw [hp]
    have e : (((pendingOf st).setIfInBounds i (p, m + n, pw)).eraseIdxIfInBounds (i + 1)).toList = ((pendingOf st).toList.set i (p, m + n, pw)).eraseIdx (i + 1) := by simp
    rw [e]
    exact g9 _ hJ.out hJ.up
  · have e : (((pendingOf st).setIfInBounds i (p, m + n, pw)).eraseIdxIfInBounds (i + 1)).toList = ((pendingOf st).toList.set i (p, m + n, pw)).eraseIdx (i + 1) := by simp
    rw [hp, ← Array.length_toList, e, List.length_eraseIdx, List.length_set, if_pos (by simpa using hi), Array.length_toList]
    omega
theorem wpS_sortAll {st : SortSt} {a₀ : Array Keyed} {Q : Unit → SortSt → Prop} (hI : KeysIn a₀) (hp : (arrOf st).Perm a₀) (hk : kindOf st = Ranks.κ) (hf : failedOf st = none) (hpe : pendingOf st = #[])
    (h : ∀ st', (arrOf st').Perm a₀ → failedOf st' = none → SortedTo (arrOf st') a₀.size → Q () st') : wpS (model prog w) A E s sortRuns' Q st := by
  rw [sortRuns'_eq]
  refine wpS_bind (wpS_get ?_)
  dsimp only
  have hsz := hp.size_eq
  rw [hsz]
  generalize minRun' a₀.size a₀.size 0 = mr
  refine wpS_bind (wpS_mono (wpS_forRange (I := fun x c z => ∃ lo, c = (none, lo) ∧ x ≤ lo ∧ lo ≤ a₀.size ∧ SInv a₀ lo z) (Q := fun c z => c.1 = none ∧ SInv a₀ a₀.size z) ?_ ?_ ⟨0, rfl, Nat.le_refl _, Nat.zero_le _, hk, hf, hp, by rw [hpe]; rfl⟩) ?_)
  · rintro x c z _ hx ⟨lo, rfl, i1, i2, i3⟩
    dsimp only
    by_cases hlo : lo ≥ a₀.size
    · rw [if_pos hlo]
      have : lo = a₀.size := by omega
      subst this
      exact wpS_pure ⟨rfl, i3⟩
    · rw [if_neg hlo]
      have hz := i3.perm.size_eq
      refine wpS_bind (wpS_countL i3.kind (int_perm hI i3.perm) (by omega) (by omega) fun m z1 hm m1 m2 mu => ?_)
      dsimp only
      have keep : ∀ z2 : SortSt, Moved lo z z2 → SInv a₀ lo z2 := fun z2 hm => ⟨hm.kind.trans i3.kind, hm.failed.trans i3.failed, hm.perm.trans i3.perm, by rw [hm.pend]; exact i3.runs.congr fun k _ hk => hm.out k hk⟩
      have fin : ∀ (n : Nat) (z2 : SortSt), 1 ≤ n → lo + n ≤ a₀.size → SInv a₀ lo z2 → Up (arrOf z2) lo (lo + n) → wpS (model prog w) A E s (do
            modify fun y => setPending y ((pendingOf y).push (lo, n, 0))
            (pure (ForInStep.yield ((none, lo + n) : Option Unit × Nat)) : StateT SortSt Sem (ForInStep (Option Unit × Nat)))) (fun r st' => match r with | .done c' => c'.1 = none ∧ SInv a₀ a₀.size st' | .yield c' => ∃ lo, c' = (none, lo) ∧ x + 1 ≤ lo ∧ lo ≤ a₀.size ∧ SInv a₀ lo st') z2 := fun n z2 n1 n2 hi hu => by
        refine wpS_bind (wpS_modify (wpS_pure ⟨lo + n, rfl, by omega, n2, hi.kind, hi.failed, hi.perm, ?_⟩))
        show Runs (arrOf z2) 0 ((pendingOf z2).push (lo, n, 0)).toList (lo + n)
        rw [Array.toList_push]
        exact hi.runs.push n1 hu
      have back : ∀ (n : Nat) (z2 : SortSt), 1 ≤ n → lo + n ≤ a₀.size → SInv a₀ lo z2 → Up (arrOf z2) lo (lo + n) → ∀ (pw : Nat) (f : Nat → Option Unit × Unit → StateT SortSt Sem (ForInStep (Option Unit × Unit))),
          (∀ y c, f y c = do
            let g ← get
            match (if (pendingOf g).size > 1 then (pendingOf g)[(pendingOf g).size - 2]? else none) with
            | some (_, _, older) => if older ≤ pw then pure (.done (none, ())) else do
                let r ← mergeAt' ((pendingOf g).size - 2)
                if (!r) = true then pure (.done (some (), ())) else pure (.yield (none, ()))
            | _ => pure (.done (none, ()))) →
          wpS (model prog w) A E s (forIn [:a₀.size] (none, ()) f) (fun c z3 => c = (none, ()) ∧ SInv a₀ lo z3 ∧ Up (arrOf z3) lo (lo + n)) z2 := fun n z2 n1 n2 hi hu pw f hf => by
        refine wpS_forRange (I := fun _ c z3 => c = (none, ()) ∧ SInv a₀ lo z3 ∧ Up (arrOf z3) lo (lo + n)) ?_ (fun c z3 hc => hc) ⟨rfl, hi, hu⟩
        rintro y c z3 _ hy ⟨rfl, hi, hu⟩
        rw [hf]
        refine wpS_bind (wpS_get ?_)
        by_cases h1 : (pendingOf z3).size > 1
        · rw [if_pos h1]
          have e : (pendingOf z3)[(pendingOf z3).size - 2]? = some (pendingOf z3)[(pendingOf z3).size - 2] := getElem?_pos _ _ (by omega)
          rw [e]
          dsimp only
          by_cases ho : (pendingOf z3)[(pendingOf z3).size - 2].2.2 ≤ pw
          · rw [if_pos ho]
            exact wpS_pure ⟨rfl, hi, hu⟩
          · rw [if_neg ho]
            refine wpS_bind (hi.merge hI i2 (by omega) fun z4 hi4 _ hk4 => ?_)
            exact wpS_pure ⟨rfl, hi4, hu.congr fun k a b => hk4 k a⟩
        · rw [if_neg h1]
          exact wpS_pure ⟨rfl, hi, hu⟩
      by_cases hn : m < mr
      · rw [if_pos hn]
        refine wpS_bind (wpS_lift (wpAny_rule ⟨rfl, ?_⟩))
        have hz1 := hm.size
        refine wpS_bind (wpS_binL (hm.kind.trans i3.kind) (int_perm hI (hm.perm.trans i3.perm)) m1 (by omega) (by omega) mu fun z2 hm2 mu2 => ?_)
        simp only [Bool.not_true, Bool.false_eq_true, if_false]
        refine wpS_bind (wpS_get ?_)
        have hi2 := keep z2 (hm.trans hm2)
        cases eb : (pendingOf z2).back? with
        | none => exact fin _ z2 (by omega) (by omega) hi2 mu2
        | some t =>
          obtain ⟨s1, n1, t1⟩ := t
          dsimp only
          refine wpS_bind (wpS_mono (back _ z2 (by omega) (by omega) hi2 mu2 _ _ (fun y c => rfl)) ?_)
          rintro c z3 ⟨rfl, hi3, mu3⟩
          dsimp only
          refine wpS_bind (wpS_modify ?_)
          refine fin _ _ (by omega) (by omega) ⟨hi3.kind, hi3.failed, hi3.perm, ?_⟩ mu3
          show Runs (arrOf z3) 0 ((pendingOf z3).modify _ _).toList lo
          rw [Array.toList_modify]
          refine hi3.runs.mod _ ?_
          exact fun c => ⟨rfl, rfl⟩
      · rw [if_neg hn]
        refine wpS_bind (wpS_get ?_)
        have hi2 := keep z1 hm
        cases eb : (pendingOf z1).back? with
        | none => exact fin _ z1 (by omega) (by omega) hi2 mu
        | some t =>
          obtain ⟨s1, n1, t1⟩ := t
          dsimp only
          refine wpS_bind (wpS_mono (back _ z1 (by omega) (by omega) hi2 mu _ _ (fun y c => rfl)) ?_)
          rintro c z3 ⟨rfl, hi3, mu3⟩
          dsimp only
          refine wpS_bind (wpS_modify ?_)
          refine fin _ _ (by omega) (by omega) ⟨hi3.kind, hi3.failed, hi3.perm, ?_⟩ mu3
          show Runs (arrOf z3) 0 ((pendingOf z3).modify _ _).toList lo
          rw [Array.toList_modify]
          refine hi3.runs.mod _ ?_
          exact fun c => ⟨rfl, rfl⟩
  · rintro c z ⟨lo, rfl, i1, i2, i3⟩
    have : lo = a₀.size := by omega
    subst this
    exact ⟨rfl, i3⟩
  · rintro ⟨c1, c2⟩ z ⟨e, hi⟩
    dsimp only at e
    subst e
    dsimp only
    have hle := hi.runs.le
    simp only [Array.length_toList, Nat.zero_add] at hle
    refine wpS_bind (wpS_mono (wpS_forRange (I := fun x c z => c = (none, ()) ∧ SInv a₀ a₀.size z ∧ (pendingOf z).size + x ≤ a₀.size) (Q := fun c z => c = (none, ()) ∧ SInv a₀ a₀.size z ∧ (pendingOf z).size ≤ 1) ?_ ?_ ⟨rfl, hi, hle⟩) ?_)
    · rintro x c z _ hx ⟨rfl, hi, hs⟩
      refine wpS_bind (wpS_get ?_)
      by_cases h1 : (pendingOf z).size ≤ 1
      · rw [if_pos h1]
        exact wpS_pure ⟨rfl, hi, h1⟩
      · rw [if_neg h1]
        refine wpS_bind (hi.merge hI (Nat.le_refl _) ?_ fun z4 hi4 hs4 _ => wpS_pure ⟨rfl, hi4, by omega⟩)
        repeat' split
        all_goals omega
    · rintro c z ⟨rfl, hi, hs⟩
      exact ⟨rfl, hi, by omega⟩
    · rintro c z ⟨rfl, hi, hs⟩
      refine wpS_pure (h z hi.perm hi.failed ?_)
      have hr := hi.runs
      match e : (pendingOf z).toList, hr with
      | [], hr =>
        have : 0 = a₀.size := hr
        intro i j _ hj
        omega
      | [c], hr =>
        obtain ⟨h1, h2, h3, h4⟩ := hr
        have h4' : 0 + c.2.1 = a₀.size := h4
        rw [h4'] at h3
        exact fun i j hij hj => h3 i j (Nat.zero_le _) hij hj
      | c :: d :: l, hr =>
        have : (pendingOf z).toList.length = (c :: d :: l).length := by rw [e]
        simp at this
        omega
end
end MwSortR
set_option maxHeartbeats 2000000
namespace MwSort
open PySem PyProof.Rows
section
variable {prog : Program} {w : World} {A : Around} {E : Value → Shared → Prop} {s : Shared}
def intRanks : MwSortR.Ranks := ⟨numOf, oneType', fun v => ∃ n t, v = .int n t⟩
theorem int_cmp : @MwSortR.CmpOk intRanks prog w A s := by
  letI := intRanks
  refine ⟨fun x y Q E hx hy q => ?_⟩
  obtain ⟨n, t, rfl⟩ := hx
  obtain ⟨m, u, rfl⟩ := hy
  show wpAny _ _ (keyLt' oneType' (.int n t) (.int m u)) Q E s
  rw [keyLt'_oneType]
  exact oneLt_int q
theorem wpS_sortAll {st : SortSt} {a₀ : Array Keyed} {Q : Unit → SortSt → Prop} (hI : IntKeys a₀) (hp : (arrOf st).Perm a₀) (hk : kindOf st = oneType') (hf : failedOf st = none) (hpe : pendingOf st = #[])
    (h : ∀ st', (arrOf st').Perm a₀ → failedOf st' = none → SortedTo (arrOf st') a₀.size → Q () st') : wpS (model prog w) A E s sortRuns' Q st := by
  letI := intRanks
  haveI : MwSortR.CmpOk prog w A s := int_cmp
  exact MwSortR.wpS_sortAll (fun p hp => hI p hp) hp hk hf hpe h
theorem sortedHeap_keep {h : Heap} {a : Addr} {vs : List Value} {out : Array Value} {b : Addr} {o : Obj} (hb : b ≠ a) (e : h.get? b = some o) : (sortedHeap h a vs out).get? b = some o := by
  unfold sortedHeap
  rw [Heap.get?_update_other _ _ hb.symm]
  refine Heap.get?_push_of_some _ (Heap.get?_push_of_some _ ?_)
  rw [Heap.get?_update_other _ _ hb.symm]
  exact e
theorem sortedHeap_at {h : Heap} {a : Addr} {vs xs : List Value} {n : Nat} {out : Array Value} (e : h.get? a = some (seqObj "list" xs.toArray n)) : ∃ c, (sortedHeap h a vs out).get? a = some (seqObj "list" out c) := by
  have hlt : a < h.objs.size := Heap.lt_size e
  have e1 := get?_update_seq e fun _ => #[]
  have e2 := Heap.get?_push_of_some (seqObj "list" #[] 0) (Heap.get?_push_of_some (seqObj "tuple" vs.toArray 0) e1)
  exact ⟨_, get?_update_seq e2 fun _ => out⟩
theorem list_sort_any {a : Addr} {vs : List Value} {ns : List Int} {n : Nat} {P : Fin → Shared → Prop} (ho : s.heap.get? a = some (seqObj "list" vs.toArray n)) (hI : IntsAre vs ns) (hz : vs.length ≤ sizeLine)
    (h : ∀ (out : Array Value) (ms : List Int), IntsAre out.toList ms → ms.Perm ns → ms.Pairwise (· ≤ ·) → P (.done (.ret .none)) { s with heap := sortedHeap s.heap a vs out }) : wpAny (model prog w) A (Builtin.«list.sort» ⟨[.ref a], []⟩) P E s := by
  rw [list_sort_plain]
  have ha : a < s.heap.objs.size := Heap.lt_size ho
  have hzA : vs.toArray.size ≤ sizeLine := by rw [List.size_toArray]; exact hz
  refine wpAny_bind (listItems_at ho rfl (wpAny_bind (listUpdate_at ho rfl ?_ (hsz := hzA) (hsz2 := Nat.zero_le _))))
  obtain ⟨c1, g1⟩ : ∃ c, (s.heap.update a (Obj.mapSeq fun _ => #[])).get? a = some (seqObj "list" #[] c) := ⟨_, get?_update_seq ho fun _ => #[]⟩
  refine wpAny_bind (seqEpoch_at g1 rfl (wpAny_bind (wpAny_newTuple (wpAny_bind (wpAny_newList (wpAny_holding ?_))))))
  have g2 := Heap.get?_push_of_some (seqObj "list" #[] 0) (Heap.get?_push_of_some (seqObj "tuple" vs.toArray 0) g1)
  show wpAny (model prog w) A _ P E { s with heap := ((s.heap.update a (Obj.mapSeq fun _ => #[])).push (seqObj "tuple" vs.toArray 0)).push (seqObj "list" #[] 0) }
  dsimp only
  have hl : vs.toArray.size = vs.length := by simp
  have fin : ∀ z : SortSt, (arrOf z).Perm (pairsOf vs) → SortedTo (arrOf z) (pairsOf vs).size → P (.done (.ret .none)) { s with heap := sortedHeap s.heap a vs ((arrOf z).map (·.2)) } := fun z p q => by
    obtain ⟨ms, i1, i2, i3⟩ := sorted_out hI p q
    exact h _ ms i1 i2 i3
  by_cases few : vs.toArray.size < 2
  · rw [if_pos few, if_pos few]
    refine wpAny_bind (wpAny_pure ?_)
    rw [StateT.run_pure]
    refine wpAny_bind (wpAny_pure ?_)
    dsimp only
    refine wpAny_bind (seqEpoch_at g2 rfl (wpAny_bind (listUpdate_at g2 rfl ?_ (hsz := Nat.zero_le _) (hsz2 := ?_))))
    · simp only [bne_self_eq_false, Bool.false_eq_true, if_false]
      refine wpAny_pure (fin (SortSt.mk' general' (vs.toArray.zip vs.toArray) #[] 7 none) (Array.Perm.refl _) fun i j hij hj => ?_)
      rw [pairsOf_size] at hj
      have : i = j := by omega
      rw [this]; exact Int.le_refl _
    · rw [Array.size_map]
      show (pairsOf vs).size ≤ _
      rw [pairsOf_size]; omega
  · rw [if_neg few, if_neg few]
    obtain ⟨x, y, r, rfl⟩ : ∃ x y r, vs = x :: y :: r := by
      rcases vs with _ | ⟨x, _ | ⟨y, r⟩⟩
      · exact absurd (by simp) few
      · exact absurd (by simp) few
      · exact ⟨x, y, r, rfl⟩
    rw [keyKind_ints hI]
    refine wpAny_bind (wpAny_pure ?_)
    refine wpAny_bind (wpAny_mono (wpS_sortAll (a₀ := pairsOf (x :: y :: r)) (st := SortSt.mk' oneType' ((x :: y :: r).toArray.zip (x :: y :: r).toArray) #[] 7 none) (Q := fun _ z => (arrOf z).Perm (pairsOf (x :: y :: r)) ∧ failedOf z = none ∧ SortedTo (arrOf z) (pairsOf (x :: y :: r)).size)
      hI.intKeys (Array.Perm.refl _) rfl rfl rfl fun z b1 b2 b3 => ⟨b1, b2, b3⟩) ?_ fun _ _ e => e)
    rintro ⟨⟨⟩, z⟩ s' ⟨rfl, p, f, q⟩
    dsimp only
    refine wpAny_bind (seqEpoch_at g2 rfl (wpAny_bind (listUpdate_at g2 rfl ?_ (hsz := Nat.zero_le _) (hsz2 := ?_))))
    · rw [f]
      simp only [bne_self_eq_false, Bool.false_eq_true, if_false]
      exact wpAny_pure (fin z p q)
    · have := (Array.size_map (f := (·.2)) (xs := arrOf z)).trans (p.size_eq.trans (pairsOf_size _))
      rw [this]; omega
theorem sorted_any {v : Value} {ns : List Int} {Q : Value → Shared → Prop}
    (hc : ∀ R : List Value → Shared → Prop, (∀ (vs : List Value) (h₁ : Heap) (t : Nat) (dr : Drawn) (ks : List Int), IntsAre vs ks → ks.Perm ns → vs.length ≤ sizeLine → (∀ b o, s.heap.get? b = some o → h₁.get? b = some o) → R vs { s with heap := h₁, toks := t, drawn := dr }) → wpAny (model prog w) A.in1 (collect v) R E s)
    (h : ∀ (h₁ h' : Heap) (t : Nat) (dr : Drawn) (D : Addr) (c : Nat) (out : List Value) (ms : List Int), (∀ b o, s.heap.get? b = some o → h₁.get? b = some o) → (∀ b o, h₁.get? b = some o → h'.get? b = some o) → h₁.objs.size ≤ D → h'.get? D = some (seqObj "list" out.toArray c) → IntsAre out ms → ms.Perm ns → ms.Pairwise (· ≤ ·) → Q (.ref D) { s with heap := h', toks := t, drawn := dr }) :
    wpAny (model prog w) A (call (.builtin "sorted") [v]) Q E s := by
  refine Calls.call_function_entry kind_sorted plain_sorted entry_sorted (args_sorted1 _) ?_
  unfold Builtin.«sorted»
  refine wpAny_bind (m := checkCount "sorted" 1 1 _) (wpAny_pure (wpAny_bind (hc _ fun vs h₁ t dr ks hI hP hz hk => wpAny_bind (wpAny_newList ?_))))
  have g : (h₁.push (seqObj "list" vs.toArray 0)).get? h₁.objs.size = some (seqObj "list" vs.toArray 0) := Heap.get?_push_size _ rfl
  show wpAny _ _ _ _ _ { s with heap := h₁.push (seqObj "list" vs.toArray 0), toks := t, drawn := dr }
  refine wpAny_bind (wpAny_holding (wpAny_call_entry slot_list_sort ⟨_, g, rfl⟩ entry_list_sort (list_sort_any g hI hz fun out ms i1 i2 i3 => ⟨_, rfl, ?_⟩) (args_list_sort _)))
  obtain ⟨c, gc⟩ := sortedHeap_at (vs := vs) (out := out) g
  exact wpAny_pure ⟨_, rfl, h h₁ _ t dr _ c out.toList ms hk (fun b o e => sortedHeap_keep (Nat.ne_of_lt (Heap.lt_size e)) (Heap.get?_push_of_some _ e)) (Nat.le_refl _) (by simpa using gc) i1 (i2.trans hP) i3⟩
theorem sorted_seq {p : Addr} {T : String} {o : Obj} {vs : List Value} {n : Nat} {ns : List Int} {Q : Value → Shared → Prop} (hT : T = "list" ∨ T = "tuple") (ho : s.heap.get? p = some o) (hc : o.cls = .type T) (hd : o.data = .seq vs.toArray n) (hI : IntsAre vs ns) (hz : vs.length ≤ sizeLine)
    (h : ∀ (h₁ h' : Heap) (t : Nat) (dr : Drawn) (D : Addr) (c : Nat) (out : List Value) (ms : List Int), (∀ b o, s.heap.get? b = some o → h₁.get? b = some o) → (∀ b o, h₁.get? b = some o → h'.get? b = some o) → h₁.objs.size ≤ D → h'.get? D = some (seqObj "list" out.toArray c) → IntsAre out ms → ms.Perm ns → ms.Pairwise (· ≤ ·) → Q (.ref D) { s with heap := h', toks := t, drawn := dr }) :
    wpAny (model prog w) A (call (.builtin "sorted") [.ref p]) Q E s :=
  sorted_any (ns := ns) (fun R k => wpAny_collect_seq p hT ho hc hd (fun g e => k _ g s.toks s.drawn ns (by simpa using hI) (List.Perm.refl _) (by simpa using hz) e) (by simpa using hz)) h
end
end MwSort
set_option maxHeartbeats 3200000
namespace MwSet
open PySem PySem.Spec PyProof.Rows
section
variable {prog : Program} {w : World} {A : Around} {E : Value → Shared → Prop} {s : Shared}
theorem sizeOf_set {a : Addr} {es : Array (Int × Value)} {ep : Nat} {t : SetTable} {Q : Nat → Shared → Prop} (ea : s.heap.get? a = some (setObj es ep t)) (hf : t.fits es.size = true) (h : Q es.size s) : wpAny (model prog w) A (Builtin.Frozenset.sizeOf a) Q E s := by
  unfold Builtin.Frozenset.sizeOf
  exact wpAny_bind (wpAny_setEntries_of ea rfl hf (wpAny_pure h))
theorem drawn_set {a : Addr} {es : Array (Int × Value)} {ep : Nat} {t : SetTable} {Q : Bool → Shared → Prop} (ea : s.heap.get? a = some (setObj es ep t)) (hf : t.fits es.size = true) (h : Q (!byT w && (!t.plain && decide (es.size > 1))) s) : wpAny (model prog w) A (setDrawn a) Q E s := by
  unfold setDrawn setsByText
  refine wpAny_bind (wpAny_setState_of ea rfl hf ?_)
  dsimp only
  exact wpAny_bind (wpAny_bind (wpAny_askSetting (wpAny_pure (wpAny_pure h))))
theorem set_iterG {a : Addr} {ks : List Int} {Q : Value → Shared → Prop} (S : SetG w s.heap a ks)
    (hQ : ∀ (h' : Heap) (dr : Drawn) (I : Addr), (∀ b o, s.heap.get? b = some o → h'.get? b = some o) → s.heap.objs.size ≤ I → (∀ B : Around, B.handled = none → SetWalk prog w B s.heap.objs.size I a h' ks) → Q (.ref I) { s with heap := h', drawn := dr }) : wpAny (model prog w) A (pyIter (.ref a)) Q E s := by
  obtain ⟨es, ep, t, ea, hel, hp, hn, hb, hf, ht⟩ := S
  have hT : s.TypeIs (.ref a) "set" := ⟨_, ea, rfl⟩
  have hplace : t.place.size = es.size := by simp only [SetTable.fits, Bool.and_eq_true, beq_iff_eq] at hf; exact hf.1
  have ha : a < s.heap.objs.size := Heap.lt_size ea
  have hlen : ks.length = es.size := by have := hp.length_eq; unfold nums at this; simp at this; omega
  refine wpAny_pyIter_slot hT PySem.F.slot_set_iter (wpAny_call_entry PySem.F.slot_set_iter hT entry_set_iter ?_ (PySem.F.args_set_iter_1 _))
  unfold Builtin.«frozenset.__iter__»
  refine wpAny_bind (m := Builtin.Frozenset.slot0 "__iter__" _) ?_
  show wpAny _ _ (pure a) _ _ s
  refine wpAny_pure (wpAny_bind (sizeOf_set ea hf (wpAny_bind (drawn_set ea hf ?_))))
  cases hdr : (!byT w && (!t.plain && decide (es.size > 1))) with
  | true =>
    rw [if_pos rfl]
    refine wpAny_bind (draw_ok es.size (List.range es.size) s (by simp) fun ps d hps => ?_)
    have hpl : ps.length = es.size := by have := hps.length_eq; simpa using this
    refine wpAny_bind (wpAny_newTuple ?_ (by rw [List.length_map, hpl]; exact fits_of_scanBound hb))
    have ea1 := Heap.get?_push_of_some (plObj ps) ea
    refine wpAny_bind (wpAny_setEpoch_of (s := { s with heap := s.heap.push (plObj ps), drawn := d }) ea1 rfl hf ?_)
    refine wpAny_bind (wpAny_newObj_type (wpAny_pure ⟨_, rfl, "set_iterator", _, ⟨_, Heap.get?_push_size _ rfl, rfl⟩, slot_si_next.lookup, ?_⟩))
    refine hQ _ d _ (fun b o e => Heap.get?_push_of_some _ (Heap.get?_push_of_some _ e)) (by show _ ≤ (s.heap.push (plObj ps)).objs.size; rw [Heap.size_push]; omega) fun B hB => ?_
    have hsz : (s.heap.push (plObj ps)).objs.size = s.heap.objs.size + 1 := Heap.size_push _ _
    have hm : ∀ p ∈ ps, p < es.size := fun p hp' => by have := hps.mem_iff.mp hp'; simpa using this
    have efm := fm_places hm
    have W := walk_drawn (prog := prog) (w := w) hB (I := (s.heap.push (plObj ps)).objs.size) (a := a) (pl := s.heap.objs.size) (ep := ep) (by rw [hsz]; exact Nat.ne_of_lt (Nat.lt_succ_of_lt ha)) (by rw [hsz]; exact Nat.ne_of_lt (Nat.lt_succ_self _)) hf hps
    have hI : IntsAre (ps.filterMap fun p => es[p]?.map (·.2)) ((ps.map fun p => es.getD p (0, .none)).map fun e => numOf e.2) := by
      rw [efm]
      have := ints_of (es := ps.map fun p => es.getD p (0, .none)) fun e he => by
        obtain ⟨p, hp', rfl⟩ := List.mem_map.mp he
        have hlt := hm p hp'
        refine hel _ ?_
        simp [Array.getD, hlt]
      rw [List.map_map] at this
      exact this
    have eP : (ps.map fun p => es.getD p (0, .none)).Perm es.toList := by
      have := hps.map fun p => es.getD p (0, .none)
      refine this.trans ?_
      have e2 : (List.range es.size).map (fun p => es.getD p (0, .none)) = es.toList := by
        apply List.ext_getElem
        · simp
        · intro i h1 h2
          have hi : i < es.size := by simpa using h2
          simp [Array.getD, hi]
      rw [e2]
    refine ⟨[(s.heap.push (plObj ps)).objs.size, a, s.heap.objs.size], (fun i h => h.get? (s.heap.push (plObj ps)).objs.size = some (itObj (.ref s.heap.objs.size) i a es.size ep) ∧ h.get? a = some (setObj es ep t) ∧ h.get? s.heap.objs.size = some (plObj ps)), _, _, List.mem_cons_self, ?_, hI, (eP.map _).trans hp, ?_, ?_⟩
    · intro b hb'
      simp only [List.mem_cons, List.not_mem_nil, or_false] at hb'
      rcases hb' with e | e | e
      · rw [e, hsz]; exact .inr (Nat.le_succ _)
      · exact .inl e
      · rw [e]; exact .inr (Nat.le_refl _)
    · rw [show ((ps.map fun p => es.getD p (0, .none)).map fun e => numOf e.2).length = es.size by simp [hpl]]
      exact W
    · exact ⟨Heap.get?_push_size _ rfl, Heap.get?_push_of_some _ ea1, Heap.get?_push_of_some _ (Heap.get?_push_size _ rfl)⟩
  | false =>
    rw [if_neg Bool.false_ne_true]
    refine wpAny_bind (wpAny_pure (wpAny_bind (wpAny_setEpoch_of ea rfl hf ?_)))
    refine wpAny_bind (wpAny_newObj_type (wpAny_pure ⟨_, rfl, "set_iterator", _, ⟨_, Heap.get?_push_size _ rfl, rfl⟩, slot_si_next.lookup, ?_⟩))
    refine hQ _ s.drawn _ (fun b o e => Heap.get?_push_of_some _ e) (Nat.le_refl _) fun B hB => ?_
    have st1 : (s.heap.push (itObj (rawInt 0) 0 a es.size ep)).get? s.heap.objs.size = some (itObj (rawInt 0) 0 a es.size ep) := Heap.get?_push_size _ rfl
    have st2 : (s.heap.push (itObj (rawInt 0) 0 a es.size ep)).get? a = some (setObj es ep t) := Heap.get?_push_of_some _ ea
    have mem : ∀ b ∈ [s.heap.objs.size, a], b = a ∨ s.heap.objs.size ≤ b := fun b hb' => by
      simp only [List.mem_cons, List.not_mem_nil, or_false] at hb'
      rcases hb' with e | e
      · rw [e]; exact .inr (Nat.le_refl _)
      · exact .inl e
    cases hby : byT w with
    | true =>
      have W := walk_byText (prog := prog) (w := w) hB (I := s.heap.objs.size) (a := a) (ep := ep) (Nat.ne_of_lt ha) hf hby
      have pp := pick_perm (w.params.setOrder a ep) es
      refine ⟨[s.heap.objs.size, a], (fun i h => h.get? s.heap.objs.size = some (itObj (.int 0 0) i a es.size ep) ∧ h.get? a = some (setObj es ep t)), _, _, List.mem_cons_self, mem, ints_of (es := (pickOrder (w.params.setOrder a ep) es).toList) fun e he => hel e (pp.mem_iff.mp he), (pp.map _).trans hp, ?_, ?_⟩
      · rw [show ((pickOrder (w.params.setOrder a ep) es).toList.map fun e => numOf e.2).length = es.size by have := pp.length_eq; simpa using this]
        exact W
      · exact ⟨st1, st2⟩
    | false =>
      have hl : t.led = true := by rw [ht.led, hby]; rfl
      have hd : t.plain = true ∨ es.size ≤ 1 := by
        rw [hby] at hdr
        cases hpl : t.plain with
        | true => exact .inl rfl
        | false =>
          rw [hpl] at hdr
          simp at hdr
          exact .inr (by omega)
      have hr : Rs t.place := by
        rcases hd with q | q
        · exact ht.rs q
        · unfold Rs
          match e : t.place.toList with
          | [] => exact List.Pairwise.nil
          | [x] => exact List.pairwise_singleton _ _
          | x :: y :: l =>
            have : t.place.toList.length = (x :: y :: l).length := by rw [e]
            simp at this
            omega
      have W := walk_plain (prog := prog) (w := w) hB (I := s.heap.objs.size) (a := a) (ep := ep) (Nat.ne_of_lt ha) hf hby hl hd hr
      refine ⟨[s.heap.objs.size, a], (fun i h => h.get? s.heap.objs.size = some (itObj (.int (slotAt t i) 0) i a es.size ep) ∧ h.get? a = some (setObj es ep t)), _, _, List.mem_cons_self, mem, ints_of (es := es.toList) hel, hp, ?_, ?_⟩
      · rw [show (es.toList.map fun e => numOf e.2).length = es.size by simp]
        exact W
      · exact ⟨st1, st2⟩
theorem hint_set {r : Addr} {Q : Bool → Shared → Prop} (hT : s.TypeIs (.ref r) "set") (h : Q false s) : wpAny (model prog w) A (Builtin.List.listLengthHint (.ref r)) Q E s := by
  unfold Builtin.List.listLengthHint
  refine wpAny_bind (wpAny_specialOf hT PySem.F.slot_set_len.lookup ?_)
  generalize hid : ("set.__len__" : String) = id0
  wp_delta
  rw [show splitId id0 = some ("set", "__len__") from by subst hid; decide +kernel]
  subst hid
  refine wpAny_bind (wpAny_isInstance (T := "set") (b := true) hT (by rw [isSubtype_type]; kernel_rfl) ?_)
  refine wpAny_ite_split (fun z => absurd z (by decide)) (fun _ => ?_)
  refine wpAny_ite_split (fun _ => ?_) (fun z => absurd (by decide +kernel) z)
  exact wpAny_bind (wpAny_typeOf hT (wpAny_pure h))
theorem collect_set {a : Addr} {ks : List Int} {R : List Value → Shared → Prop} (hh : A.handled = none) (S : SetG w s.heap a ks) (hz : ks.length ≤ sizeLine)
    (h : ∀ (vs : List Value) (h₁ : Heap) (t : Nat) (dr : Drawn) (ms : List Int), IntsAre vs ms → ms.Perm ks → vs.length ≤ sizeLine → (∀ b o, s.heap.get? b = some o → h₁.get? b = some o) → R vs { s with heap := h₁, toks := t, drawn := dr }) : wpAny (model prog w) A (collect (.ref a)) R E s := by
  have ha : a < s.heap.objs.size := by obtain ⟨es, ep, t, ea, _⟩ := S; exact Heap.lt_size ea
  unfold collect
  refine wpAny_bind (wpAny_runValue (codeAny_builtin entry_proto_collect' ?_))
  rw [Around.under_plainId PySem.F.plain_proto_collect _]
  show wpAny _ A.in1 (newList [] >>= fun l => again (.builtin "list.__iadd__" ⟨[l, .ref a], []⟩)) _ _ s
  refine wpAny_bind (wpAny_newObj_type (wpAny_pure ⟨plainId_quiet PySem.F.plain_list_iadd _, codeAny_builtin entry_list_iadd' ?_⟩))
  rw [Around.under_plainId PySem.F.plain_list_iadd _]
  have gS : (s.heap.push { cls := .type "list", data := .seq ([] : List Value).toArray }).get? s.heap.objs.size = some { cls := .type "list", data := .seq #[] } := Heap.get?_push_size _ rfl
  have S1 : SetG w (s.heap.push { cls := .type "list", data := .seq ([] : List Value).toArray }) a ks := S.at fun o e => Heap.get?_push_of_some _ e
  have hT1 : Shared.TypeIs { s with heap := s.heap.push { cls := .type "list", data := .seq ([] : List Value).toArray } } (.ref a) "set" := by obtain ⟨es, ep, t, ea, _⟩ := S1; exact ⟨_, ea, rfl⟩
  show wpAny _ A.in1 (Builtin.List.listExtendWith (.ref s.heap.objs.size) (.ref a) (.ref s.heap.objs.size)) _ _ _
  unfold Builtin.List.listExtendWith
  refine wpAny_bind (wpAny_typeOf (T := "set") hT1 ?_)
  have n1 : Builtin.List.listSameRef (.ref s.heap.objs.size) (.ref a) = false := by simp [Builtin.List.listSameRef]; exact Nat.ne_of_gt ha
  have n2 : (Value.type "set" == Value.type "list") = false := by decide
  have n3 : (Value.type "set" == Value.type "tuple") = false := by decide
  simp only [n1, n2, n3, Bool.or_false, Bool.false_eq_true, if_false]
  refine wpAny_bind (set_iterG S1 fun h' dr I hk hle hW => ?_)
  obtain ⟨fp, St, L, ms, hIf, hlt, hIs, hP, W, st⟩ := hW A.in1 (by simp [hh])
  have e1 := hk _ _ gS
  have hT2 : Shared.TypeIs { s with heap := h', drawn := dr } (.ref a) "set" := by obtain ⟨es, ep, t, ea, _⟩ := S1; exact ⟨_, hk _ _ ea, rfl⟩
  refine wpAny_bind (wpAny_holding (hint_set hT2 ?_))
  have hml : ms.length ≤ sizeLine := by rw [hP.length_eq]; exact hz
  have hLl : L.length = ms.length := IntsAre.length hIs
  have sz1 : (s.heap.push { cls := .type "list", data := .seq ([] : List Value).toArray }).objs.size = s.heap.objs.size + 1 := Heap.size_push _ _
  have hSf : s.heap.objs.size ∉ fp := fun z => by
    rcases hlt _ z with e | e
    · exact absurd e.symm (Nat.ne_of_lt ha)
    · rw [sz1] at e; exact absurd e (Nat.not_succ_le_self _)
  have hSI : s.heap.objs.size ≠ I := fun z => hSf (z ▸ hIf)
  have key : ∀ (g : Heap) (c tk : Nat), St 0 g → (∀ b o, s.heap.get? b = some o → g.get? b = some o) → g.get? s.heap.objs.size = some { cls := .type "list", data := .seq #[] c } →
      codeAny (model prog w) A (.builtin "list.extend.loop" ⟨[.ref s.heap.objs.size, .ref I, .ref s.heap.objs.size], []⟩)
        (fun (q : Result) (z : Shared) => ∃ (h₁ : Heap) (tk : Nat) (acc : Array Value) (c : Nat), q = .ok (.ret (.ref s.heap.objs.size)) ∧ z = { s with heap := h₁, toks := tk, drawn := dr } ∧ (∀ b o, s.heap.get? b = some o → h₁.get? b = some o) ∧ h₁.get? s.heap.objs.size = some { cls := .type "list", dict := none, data := .seq acc c, slots := #[] } ∧ ItemsOf (fun i v => L[i]? = some v) acc ms.length)
        { s with heap := g, toks := tk, drawn := dr } := fun g c tk st' hk' hS' => by
    refine codeAny_extend_loopS W.toS hml s.heap.objs.size hSf _ ms.length 0 _ #[] c rfl (Nat.zero_le _) st' hS' (ItemsOf.nil _) fun z acc c' hm hz' hacc => ?_
    rw [Moved.eq_with hm]
    refine ⟨z.heap, z.toks, acc, c', rfl, rfl, fun b o e => hm.heap b o (fun hmem => ?_) (hk' b o e), hz', hacc⟩
    have hlt' : b < s.heap.objs.size := Heap.lt_size e
    rcases List.mem_cons.mp hmem with q | q
    · exact absurd q (Nat.ne_of_lt hlt')
    · have : b = I := by simpa using q
      rw [this] at hlt'
      have hle' : (s.heap.push { cls := .type "list", data := .seq ([] : List Value).toArray }).objs.size ≤ I := hle
      rw [sz1] at hle'
      exact absurd (Nat.lt_of_lt_of_le hlt' (Nat.le_of_succ_le hle')) (Nat.lt_irrefl _)
  have fin : ∀ (q : Result) (z : Shared), (∃ (h₁ : Heap) (tk : Nat) (acc : Array Value) (c : Nat), q = .ok (.ret (.ref s.heap.objs.size)) ∧ z = { s with heap := h₁, toks := tk, drawn := dr } ∧ (∀ b o, s.heap.get? b = some o → h₁.get? b = some o) ∧ h₁.get? s.heap.objs.size = some { cls := .type "list", dict := none, data := .seq acc c, slots := #[] } ∧ ItemsOf (fun i v => L[i]? = some v) acc ms.length) →
      ∃ (acc : Array Value) (h₁ : Heap) (tk c : Nat), q = .ok (.ret (.ref s.heap.objs.size)) ∧ z = { s with heap := h₁, toks := tk, drawn := dr } ∧ h₁.get? s.heap.objs.size = some { cls := .type "list", dict := none, data := .seq acc c, slots := #[] } ∧ R acc.toList { s with heap := h₁, toks := tk, drawn := dr } := fun q z ⟨h₁, tk, acc, c, e1, e2, hk', hg, hacc⟩ => by
    refine ⟨acc, h₁, tk, c, e1, e2, hg, ?_⟩
    have eL : acc.toList = L := by
      apply List.ext_getElem?
      intro k
      have hl1 : acc.size = ms.length := hacc.1
      by_cases hk0 : k < ms.length
      · have hk1 : k < acc.size := by omega
        have := hacc.2 k acc[k] (Array.getElem?_eq_getElem hk1)
        rw [this, Array.getElem?_toList, Array.getElem?_eq_getElem hk1]
      · rw [List.getElem?_eq_none (by simp; omega), List.getElem?_eq_none (by omega)]
    rw [eL]
    exact h L h₁ tk dr ms hIs hP (by omega) hk'
  have keep : ∀ b o, s.heap.get? b = some o → h'.get? b = some o := fun b o e => hk b o (Heap.get?_push_of_some _ e)
  refine wpAny_ite_split (fun _ => ?_) (fun _ => wpAny_pure ⟨plainId_quiet PySem.F.plain_extend_loop _, codeAny_mono (key h' 0 s.toks st keep e1) fun q z y => ?_⟩)
  · refine wpAny_bind (wpAny_rule (wpAny_bind ?_))
    show wpAny _ _ (updateSeq s.heap.objs.size (·.push .none) >>= fun _ => updateSeq s.heap.objs.size (·.pop)) _ _ _
    refine wpAny_bind (wpAny_updateSeq e1 rfl ?_)
    have e2 := Heap.get?_update_self (Obj.mapSeq (·.push Value.none)) e1 rfl
    refine wpAny_updateSeq (hz := by seq_fits) e2 rfl ?_
    have e3 := Heap.get?_update_self (Obj.mapSeq (·.pop)) e2 rfl
    refine wpAny_pure ⟨plainId_quiet PySem.F.plain_extend_loop _, codeAny_mono (key _ _ s.toks ?_ ?_ e3) fun q z y => ?_⟩
    · refine W.frame 0 _ _ st fun b hb o e => ?_
      have hbS : s.heap.objs.size ≠ b := fun z => hSf (z ▸ hb)
      exact (Heap.get?_update_other _ _ hbS).trans ((Heap.get?_update_other _ _ hbS).trans e)
    · intro b o e
      have hbS : s.heap.objs.size ≠ b := Nat.ne_of_gt (Heap.lt_size e)
      exact (Heap.get?_update_other _ _ hbS).trans ((Heap.get?_update_other _ _ hbS).trans (keep b o e))
    · obtain ⟨acc, h₁, tk, c, rfl, rfl, hg, hR⟩ := fin q z y
      show wpAny _ A (load s.heap.objs.size >>= _) _ _ _
      exact wpAny_bind (wpAny_load hg (wpAny_pure hR))
  · obtain ⟨acc, h₁, tk, c, rfl, rfl, hg, hR⟩ := fin q z y
    show wpAny _ A (load s.heap.objs.size >>= _) _ _ _
    exact wpAny_bind (wpAny_load hg (wpAny_pure hR))
theorem sorted_set {a : Addr} {ks : List Int} {Q : Value → Shared → Prop} (hh : A.handled = none) (S : SetG w s.heap a ks) (hz : ks.length ≤ sizeLine)
    (h : ∀ (h₁ h' : Heap) (t : Nat) (dr : Drawn) (D : Addr) (c : Nat) (out : List Value) (ms : List Int), (∀ b o, s.heap.get? b = some o → h₁.get? b = some o) → (∀ b o, h₁.get? b = some o → h'.get? b = some o) → h₁.objs.size ≤ D → h'.get? D = some (seqObj "list" out.toArray c) → IntsAre out ms → ms.Perm ks → ms.Pairwise (· ≤ ·) → Q (.ref D) { s with heap := h', toks := t, drawn := dr }) :
    wpAny (model prog w) A (call (.builtin "sorted") [.ref a]) Q E s :=
  MwSort.sorted_any (ns := ks) (fun R k => collect_set (by simp [hh]) S hz k) h
theorem sorted_dict {K : Type} [DecidableEq K] {knd : KeyKind prog w K} {d : Addr} {kvs : List (K × Value)} {ep : Nat} {ks : List Int} {Q : Value → Shared → Prop} (hh : A.handled = none) (lo : (d == sysModules) = false) (hd : s.heap.DictAt knd d kvs ep) (hz : kvs.length ≤ sizeLine)
    (hks : ∀ (i : Nat) (k : K) (x v : Value), kvs[i]? = some (k, x) → knd.is k v = true → ∃ t, v = .int (ks.getD i 0) t) (hl : kvs.length = ks.length)
    (h : ∀ (h₁ h' : Heap) (t : Nat) (dr : Drawn) (D : Addr) (c : Nat) (out : List Value) (ms : List Int), (∀ b o, s.heap.get? b = some o → h₁.get? b = some o) → (∀ b o, h₁.get? b = some o → h'.get? b = some o) → h₁.objs.size ≤ D → h'.get? D = some (seqObj "list" out.toArray c) → IntsAre out ms → ms.Perm ks → ms.Pairwise (· ≤ ·) → Q (.ref D) { s with heap := h', toks := t, drawn := dr }) :
    wpAny (model prog w) A (call (.builtin "sorted") [.ref d]) Q E s := by
  refine MwSort.sorted_any (ns := ks) (fun R k => PySem.W.kdu_collect (PySem.W.kdl_dict lo) (by simp [hh]) hd hz fun h' tk acc hk hacc => k acc.toList h' tk s.drawn ks ?_ (List.Perm.refl _) ?_ hk) h
  · have hl1 : acc.size = kvs.length := hacc.1
    have : ∀ (vs : List Value) (ns : List Int), vs.length = ns.length → (∀ i v, vs[i]? = some v → ∃ t, v = Value.int (ns.getD i 0) t) → IntsAre vs ns := fun vs => by
      induction vs with
      | nil =>
        intro ns e _
        have : ns = [] := List.length_eq_zero_iff.mp (by simpa using e.symm)
        subst this; exact .nil
      | cons v vs ih =>
        intro ns e hv
        cases ns with
        | nil => cases e
        | cons n ns =>
          obtain ⟨t, et⟩ := hv 0 v rfl
          have et' : v = .int n t := et
          subst et'
          exact .cons n t (ih ns (by simpa using e) fun i u hu => hv (i + 1) u (by simpa using hu))
    refine this _ _ (by simp; omega) fun i v hv => ?_
    obtain ⟨k, x, e1, e2⟩ := hacc.2 i v (by rw [← Array.getElem?_toList]; exact hv)
    exact hks i k x v e1 e2
  · have hl1 : acc.size = kvs.length := hacc.1
    simp; omega
end
end MwSet
namespace L2
open PySem PySem.Spec PyProof.Rows
def sortI (ns : List Int) : List Int := ns.mergeSort fun a b => decide (a ≤ b)
theorem sortI_perm (ns : List Int) : (sortI ns).Perm ns := List.mergeSort_perm _ _
theorem sortI_rise (ns : List Int) : (sortI ns).Pairwise (· ≤ ·) := by
  have := List.pairwise_mergeSort (le := fun a b : Int => decide (a ≤ b)) (fun a b c h1 h2 => by simp at h1 h2 ⊢; omega) (fun a b => by simp; omega) ns
  exact this.imp fun {a b} h => by simpa using h
theorem sortI_len (ns : List Int) : (sortI ns).length = ns.length := (sortI_perm ns).length_eq
theorem rise_eq {a b : List Int} (hp : a.Perm b) (ha : a.Pairwise (· ≤ ·)) (hb : b.Pairwise (· ≤ ·)) : a = b := PySem.W.ksm_same hp ha hb
theorem sortI_eq {ms ns : List Int} (hp : ms.Perm ns) (hs : ms.Pairwise (· ≤ ·)) : ms = sortI ns := rise_eq (hp.trans (sortI_perm ns).symm) hs (sortI_rise ns)
theorem mem_sortI {ns : List Int} {x : Int} : x ∈ sortI ns ↔ x ∈ ns := (sortI_perm ns).mem_iff
theorem are_ints : ∀ {ns : List Int} {us : List Value}, Vals (ns.map V.int) us → IntsAre us ns
  | [], _, .nil => .nil
  | n :: ns, _, .cons r t => by
    obtain ⟨tk, rfl⟩ := r
    exact .cons n tk (are_ints t)
theorem ints_vals : ∀ {us : List Value} {ns : List Int}, IntsAre us ns → Vals (ns.map V.int) us
  | _, _, .nil => .nil
  | _, _, .cons n t h => .cons ⟨t, rfl⟩ (ints_vals h)
section
variable {X : Cx} {pins : List (Addr × Obj)} {σ : St} {H : Hp} {s : Shared}
theorem Inv.drew {d : Drawn} (I : Inv X pins σ H s) : Inv X pins σ H { s with drawn := d } := ⟨I.ok, I.os, I.bare, I.base, I.loc, I.cell, I.free, I.freeC, I.pin, I.hok, I.len⟩
theorem Inv.sorted {ns : List Int} {Q : VK} (I : Inv X pins σ H s) (hz : ns.length ≤ sizeLine) (q : ∀ l, H l = none → Q (.ref l) (upd H l (.lst ((sortI ns).map V.int)))) :
    ∀ (h₁ h' : Heap) (t : Nat) (dr : Drawn) (D : Addr) (c : Nat) (out : List Value) (ms : List Int), (∀ b o, s.heap.get? b = some o → h₁.get? b = some o) → (∀ b o, h₁.get? b = some o → h'.get? b = some o) → h₁.objs.size ≤ D → h'.get? D = some (seqObj "list" out.toArray c) → IntsAre out ms → ms.Perm ns → ms.Pairwise (· ≤ ·) →
      EP X pins σ Q (.ref D) { s with heap := h', toks := t, drawn := dr } := by
  intro h₁ h' t dr D c out ms k1 k2 hD hg hI hp hs
  have e := sortI_eq hp hs
  subst e
  have I1 : Inv X pins σ H { s with heap := h₁, toks := t, drawn := dr } := (I.kept (t' := t) k1).drew
  refine ⟨.ref D, _, I1.laid (t' := t) (o := .lst ((sortI ns).map V.int)) k2 hD ⟨?_, out, c, ints_vals hI, hg⟩, rfl, q D (I1.hok.fresh hD)⟩
  rw [List.length_map, sortI_len]
  exact hz
end
theorem bt_sorted : bootBuiltins "sorted" = some (.builtin "sorted") := by decide +kernel
theorem bt_set : bootBuiltins "set" = some (.type "set") := by decide +kernel
section
variable {X : Cx}
def rSorted : List V → Hp → VK → Prop := fun xs H Q => ∃ (p : Addr) (ns : List Int), xs = [.ref p] ∧ (H p = some (.tup (ns.map V.int)) ∨ H p = some (.lst (ns.map V.int))) ∧ ∀ l, H l = none → Q (.ref l) (upd H l (.lst ((sortI ns).map V.int)))
theorem call_sorted : CallR X (.builtin "sorted") rSorted := by
  intro pins s σ H xs us Q I r h
  obtain ⟨p, ns, rfl, hp, q⟩ := h
  obtain ⟨u, rfl, e⟩ := vals1 r
  obtain rfl : u = Value.ref p := e
  rcases hp with hp | hp
  · obtain ⟨z, its, rv, o, ho, hc, n, hd⟩ := (show ObjOk X.prog X.w H s.heap p (.tup (ns.map V.int)) from I.hok p _ hp)
    have hl := rv.length
    rw [List.length_map] at z hl
    exact MwSort.sorted_seq (.inr rfl) ho hc hd (are_ints rv) (by omega) (I.sorted z q)
  · obtain ⟨z, its, n, rv, hg⟩ := (show ObjOk X.prog X.w H s.heap p (.lst (ns.map V.int)) from I.hok p _ hp)
    have hl := rv.length
    rw [List.length_map] at z hl
    exact MwSort.sorted_seq (.inl rfl) hg rfl rfl (are_ints rv) (by omega) (I.sorted z q)
def SetO (w : World) (a : Addr) (ks : List Int) : HO := .ext fun h => MwSet.SetG w h a ks
theorem call_set (hc : X.calm = true) : CallR X (.type "set") (fun xs H Q => ∃ (p : Addr) (ns : List Int), xs = [.ref p] ∧ H p = some (.tup (ns.map V.int)) ∧ ns.length + 1 < 4096 ∧ ∀ l, H l = none → Q (.ref l) (upd H l (SetO X.w l (MwSet.allK ns)))) := by
  intro pins s σ H xs us Q I r h
  obtain ⟨p, ns, rfl, hp, hb, q⟩ := h
  obtain ⟨u, rfl, e⟩ := vals1 r
  obtain rfl : u = Value.ref p := e
  obtain ⟨z, its, rv, hT⟩ := (show ObjOk X.prog X.w H s.heap p (.tup (ns.map V.int)) from I.hok p _ hp)
  refine MwSet.call_set_tupG (I.ok.hd hc) hT (are_ints rv) hb fun h' tk hS hk => ?_
  refine ⟨.ref s.heap.objs.size, _, I.laid (o := SetO X.w s.heap.objs.size (MwSet.allK ns)) hk (Nat.le_refl _) ⟨hS, ?_, fun h1 h2 hS1 hk1 => hS1.at fun o e => hk1 o e⟩, rfl, q _ (I.hok.fresh (Nat.le_refl _))⟩
  obtain ⟨es, ep, t, e, _⟩ := hS
  exact ⟨_, e⟩
theorem call_sorted_set (hc : X.calm = true) {w : World} (hw : X.w = w) : CallR X (.builtin "sorted") (fun xs H Q => ∃ (p : Addr) (ks : List Int), xs = [.ref p] ∧ H p = some (SetO w p ks) ∧ ks.length ≤ 4096 ∧ ∀ l, H l = none → Q (.ref l) (upd H l (.lst ((sortI ks).map V.int)))) := by
  subst hw
  intro pins s σ H xs us Q I r h
  obtain ⟨p, ks, rfl, hp, hb, q⟩ := h
  obtain ⟨u, rfl, e⟩ := vals1 r
  obtain rfl : u = Value.ref p := e
  obtain ⟨hS, _⟩ := (show ObjOk X.prog X.w H s.heap p (SetO X.w p ks) from I.hok p _ hp)
  have hz : ks.length ≤ sizeLine := Nat.le_trans hb (by decide)
  exact MwSet.sorted_set (I.ok.hd hc) hS hz (I.sorted hz q)
end
end L2
namespace L2
open PySem PySem.Spec PyProof.Rows
end L2
namespace L2
open PySem PySem.Spec PyProof.Rows
end L2
namespace L2
open PySem PySem.Spec PyProof.Rows
end L2
namespace L2
open PySem PySem.Spec PyProof.Rows
end L2
namespace L2
open PySem PySem.Spec PyProof.Rows
end L2
namespace L2
open PySem PySem.Spec PyProof.Rows
end L2
namespace L2
open PySem PySem.Spec PyProof.Rows
end L2
namespace L2
open PySem PySem.Spec PyProof.Rows
end L2
namespace L2
open PySem PySem.Spec PyProof.Rows
end L2
namespace L2
open PySem PySem.Spec PyProof.Rows
end L2
namespace L2
open PySem PySem.Spec PyProof.Rows
section
variable {κ : Type} [DecidableEq κ]
def valV (kvs : List (κ × V)) (k : κ) : Option V := (kvs.find? fun kv => decide (kv.1 = k)).map (·.2)
def putK (kvs : List (κ × V)) (k : κ) (v : V) : List (κ × V) :=
  if (kvs.any fun kv => decide (kv.1 = k)) = true then kvs.map (fun kv => if kv.1 = k then (kv.1, v) else kv) else kvs ++ [(k, v)]
theorem valV_pos {p : κ × V} {r : List (κ × V)} {k : κ} (e : p.1 = k) : valV (p :: r) k = some p.2 := by simp [valV, List.find?_cons, e]
theorem valV_neg {p : κ × V} {r : List (κ × V)} {k : κ} (e : ¬ p.1 = k) : valV (p :: r) k = valV r k := by simp [valV, List.find?_cons, e]
theorem valV_any (k : κ) : ∀ kvs : List (κ × V), (kvs.any fun kv => decide (kv.1 = k)) = (valV kvs k).isSome
  | [] => rfl
  | p :: r => by
    rw [List.any_cons]
    by_cases e : p.1 = k
    · simp only [valV_pos e, decide_eq_true e, Bool.true_or, Option.isSome_some]
    · rw [valV_neg e, decide_eq_false e, Bool.false_or]; exact valV_any k r
theorem length_putK (kvs : List (κ × V)) (k : κ) (v : V) : (putK kvs k v).length ≤ kvs.length + 1 := by
  unfold putK
  split
  · rw [List.length_map]; omega
  · rw [List.length_append, List.length_cons, List.length_nil]; omega
theorem putK_new {kvs : List (κ × V)} {k : κ} (v : V) (h : valV kvs k = none) : putK kvs k v = kvs ++ [(k, v)] := by
  unfold putK
  rw [valV_any, h]
  exact if_neg (by decide)
theorem RelO.isSome_eq {o : Option V} {u : Option Value} (r : RelO o u) : o.isSome = u.isSome := by
  cases o with
  | none => cases u with
    | none => rfl
    | some _ => exact (show False from r).elim
  | some _ => cases u with
    | none => exact (show False from r).elim
    | some _ => rfl
theorem RelO.getD {o : Option V} {u : Option Value} {d : V} {d' : Value} (r : RelO o u) (rd : RelV d d') : RelV (o.getD d) (u.getD d') := by
  cases o with
  | none => cases u with
    | none => exact rd
    | some _ => exact (show False from r).elim
  | some _ => cases u with
    | none => exact (show False from r).elim
    | some _ => exact r
theorem KV.val {kvs : List (κ × V)} {vs : List (κ × Value)} (r : KV kvs vs) (k : κ) : RelO (valV kvs k) (valueAt vs k) := by
  unfold KV at r
  induction r with
  | nil => exact True.intro
  | @cons p q ps qs h t ih =>
    obtain ⟨h1, h2⟩ := h
    by_cases e : p.1 = k
    · have e' : q.1 = k := h1.symm.trans e
      have b : valueAt (q :: qs) k = some q.2 := by simp [valueAt, List.find?_cons, e']
      rw [valV_pos e, b]; exact h2
    · have e' : ¬ q.1 = k := fun z => e (h1.trans z)
      have b : valueAt (q :: qs) k = valueAt qs k := by simp [valueAt, List.find?_cons, e']
      rw [valV_neg e, b]; exact ih
theorem KV.any {kvs : List (κ × V)} {vs : List (κ × Value)} (r : KV kvs vs) (k : κ) : (kvs.any fun kv => decide (kv.1 = k)) = vs.any fun kv => decide (kv.1 = k) := by
  unfold KV at r
  induction r with
  | nil => rfl
  | cons h t ih => rw [List.any_cons, List.any_cons, ih, h.1]
theorem KV.repl {kvs : List (κ × V)} {vs : List (κ × Value)} (r : KV kvs vs) (k : κ) {y : V} {u : Value} (ry : RelV y u) :
    KV (kvs.map fun kv => if kv.1 = k then (kv.1, y) else kv) (vs.map fun kv => if kv.1 = k then (kv.1, u) else kv) := by
  unfold KV at r ⊢
  induction r with
  | nil => exact .nil
  | @cons p q ps qs h t ih =>
    rw [List.map_cons, List.map_cons]
    refine .cons ?_ ih
    obtain ⟨h1, h2⟩ := h
    by_cases e : p.1 = k
    · rw [if_pos e, if_pos (h1.symm.trans e)]; exact ⟨h1, ry⟩
    · rw [if_neg e, if_neg (fun z => e (h1.trans z))]; exact ⟨h1, h2⟩
theorem KV.put {kvs : List (κ × V)} {vs : List (κ × Value)} (r : KV kvs vs) (k : κ) {y : V} {u : Value} (ry : RelV y u) : KV (putK kvs k y) (stored vs k u) := by
  unfold putK stored
  rw [r.any k]
  by_cases e : (vs.any fun kv => decide (kv.1 = k)) = true
  · rw [if_pos e, if_pos e]; exact r.repl k ry
  · rw [if_neg e, if_neg e]; exact Paired.snoc r ⟨rfl, ry⟩
theorem KV.keys {kvs : List (κ × V)} {vs : List (κ × Value)} (r : KV kvs vs) : kvs.map (·.1) = vs.map (·.1) := by
  unfold KV at r
  induction r with
  | nil => rfl
  | cons h t ih => rw [List.map_cons, List.map_cons, ih, h.1]
theorem KV.length {kvs : List (κ × V)} {vs : List (κ × Value)} (r : KV kvs vs) : kvs.length = vs.length := Paired.length r
end
theorem kV_is {P : Program} {w : World} {k : Key} {u : Value} (r : RelV (kV k) u) : (mixKind P w).is k u = true := by
  cases k with
  | inl i => obtain ⟨t, e⟩ := (show ∃ t, u = Value.int i t from r); subst e; exact mixKind_int P w i t
  | inr x => obtain ⟨t, e⟩ := (show ∃ t, u = Value.str x t from r); subst e; exact mixKind_str P w x t
theorem items_are {P : Program} {w : World} : ∀ {ks : List Key} {us : List Value}, Vals (ks.map kV) us → ItemsAre (mixKind P w) ks us
  | [], _, r => by rw [List.map_nil] at r; cases r; exact .nil
  | k :: ks, _, r => by
    rw [List.map_cons] at r
    cases r with
    | cons h t => exact .cons (kV_is h) (items_are t)
abbrev KT (H : Hp) : List (List Key × V) → List (List Key × Addr × Value) → Prop := Paired fun p q => p.1 = q.1 ∧ H q.2.1 = some (.tup (p.1.map kV)) ∧ RelV p.2 q.2.2
theorem KT.val {H : Hp} {kvs : List (List Key × V)} {xs : List (List Key × Addr × Value)} (r : KT H kvs xs) (k : List Key) : RelO (valV kvs k) ((atKey xs k).map (·.2)) := by
  induction r with
  | nil => exact True.intro
  | @cons p q ps qs h t ih =>
    obtain ⟨h1, _, h2⟩ := h
    by_cases e : p.1 = k
    · have e' : q.1 = k := h1.symm.trans e
      have b : atKey (q :: qs) k = some q.2 := by simp [atKey, List.find?_cons, e']
      rw [valV_pos e, b]; exact h2
    · have e' : ¬ q.1 = k := fun z => e (h1.trans z)
      have b : atKey (q :: qs) k = atKey qs k := by simp [atKey, List.find?_cons, e']
      rw [valV_neg e, b]; exact ih
theorem KT.repl {H : Hp} {kvs : List (List Key × V)} {xs : List (List Key × Addr × Value)} (r : KT H kvs xs) (k : List Key) {y : V} {u : Value} (ry : RelV y u) :
    KT H (kvs.map fun kv => if kv.1 = k then (kv.1, y) else kv) (xs.map (putAt k u)) := by
  induction r with
  | nil => exact .nil
  | @cons p q ps qs h t ih =>
    rw [List.map_cons, List.map_cons]
    refine .cons ?_ ih
    obtain ⟨h1, h2, h3⟩ := h
    unfold putAt
    by_cases e : p.1 = k
    · rw [if_pos e, if_pos (h1.symm.trans e)]; exact ⟨h1, h2, ry⟩
    · rw [if_neg e, if_neg (fun z => e (h1.trans z))]; exact ⟨h1, h2, h3⟩
theorem KT.put {H : Hp} {kvs : List (List Key × V)} {xs : List (List Key × Addr × Value)} (r : KT H kvs xs) (k : List Key) {b : Addr} {y : V} {u : Value} (hb : H b = some (.tup (k.map kV))) (ry : RelV y u) :
    KT H (putK kvs k y) (storedH xs k b u) := by
  have e : (kvs.any fun kv => decide (kv.1 = k)) = (atKey xs k).isSome := by
    rw [valV_any, (r.val k).isSome_eq, Option.isSome_map]
  unfold putK storedH
  rw [e]
  by_cases q : (atKey xs k).isSome = true
  · rw [if_pos q, if_pos q]; exact r.repl k ry
  · rw [if_neg q, if_neg q]; exact Paired.snoc r ⟨rfl, hb, ry⟩
theorem KT.keeps {H H' : Hp} {kvs : List (List Key × V)} {xs : List (List Key × Addr × Value)} (r : KT H kvs xs) (ht : ∀ b ys, H b = some (.tup ys) → H' b = some (.tup ys)) : KT H' kvs xs :=
  Paired.mapP r fun _ _ z => ⟨z.1, ht _ _ z.2.1, z.2.2⟩
section
variable {P : Program} {w : World} {H : Hp} {h : Heap} {a : Addr}
theorem rd_of {u : HO} (ok : HOk P w H h) (e : Rd H a u) : ObjOk P w H h a u := e.ok ok
theorem dk_rd {kvs : List (Key × V)} (ok : HOk P w H h) (e : Rd H a (.dK kvs)) : kvs.length ≤ sizeLine ∧ (a == sysModules) = false ∧ ∃ vs, KV kvs vs ∧ h.DictOf (mixKind P w) a vs :=
  show ObjOk P w H h a (.dK kvs) from rd_of ok e
theorem dk_of {kvs : List (Key × V)} (ok : HOk P w H h) (e : H a = some (.dK kvs)) : kvs.length ≤ sizeLine ∧ (a == sysModules) = false ∧ ∃ vs, KV kvs vs ∧ h.DictOf (mixKind P w) a vs := dk_rd ok (.inl e)
theorem key_of {ks : List Key} (ok : HOk P w H h) (e : H a = some (.tup (ks.map kV))) : (tupleKind (mixKind P w)).is h ks a := by
  obtain ⟨_, its, r, o, h1, h2, n, h3⟩ := (show ObjOk P w H h a (.tup (ks.map kV)) from ok a _ e)
  exact ⟨o, its.toArray, n, h1, h2, h3, by simpa using items_are r⟩
theorem dt_rd {kvs : List (List Key × V)} (ok : HOk P w H h) (e : Rd H a (.dT kvs)) : kvs.length ≤ sizeLine ∧ (a == sysModules) = false ∧
    ∃ xs, KT H kvs xs ∧ h.DictOfH (tupleKind (mixKind P w)) a xs := by
  obtain ⟨z, y, xs, r, o, es, ep, h1, h2, h3, h4, h5⟩ := (show ObjOk P w H h a (.dT kvs) from rd_of ok e)
  refine ⟨z, y, xs, r, o, es, ep, h1, h2, h3, h4, fun x hx => ?_, h5⟩
  have all : ∀ {l : List (List Key × V)} {m : List (List Key × Addr × Value)}, KT H l m → ∀ x ∈ m, (tupleKind (mixKind P w)).is h x.1 x.2.1 := by
    intro l m q
    induction q with
    | nil => intro x hx; exact nomatch hx
    | @cons p q ps qs hq t ih =>
      intro x hx
      rcases List.mem_cons.mp hx with e | hx
      · subst e
        exact key_of ok (by rw [← hq.1]; exact hq.2.1)
      · exact ih x hx
  exact all r x hx
theorem dt_of {kvs : List (List Key × V)} (ok : HOk P w H h) (e : H a = some (.dT kvs)) : kvs.length ≤ sizeLine ∧ (a == sysModules) = false ∧
    ∃ xs, KT H kvs xs ∧ h.DictOfH (tupleKind (mixKind P w)) a xs := dt_rd ok (.inl e)
end
def DGet (H : Hp) (a : Addr) (y : V) (r : Option V) : Prop :=
  (∃ kvs k, Rd H a (.dK kvs) ∧ y = kV k ∧ r = valV kvs k) ∨ ∃ kvs k b, Rd H a (.dT kvs) ∧ y = .ref b ∧ H b = some (.tup (k.map kV)) ∧ r = valV kvs k
def DPut (H : Hp) (a : Addr) (y v : V) (H' : Hp) : Prop :=
  (∃ kvs k, H a = some (.dK kvs) ∧ y = kV k ∧ kvs.length < sizeLine ∧ H' = upd H a (.dK (putK kvs k v))) ∨
  ∃ kvs k b, H a = some (.dT kvs) ∧ y = .ref b ∧ H b = some (.tup (k.map kV)) ∧ kvs.length < sizeLine ∧ H' = upd H a (.dT (putK kvs k v))
theorem DGet.k {H : Hp} {a : Addr} {kvs : List (Key × V)} {k : Key} (e : H a = some (.dK kvs)) : DGet H a (kV k) (valV kvs k) := .inl ⟨kvs, k, .inl e, rfl, rfl⟩
theorem DGet.t {H : Hp} {a b : Addr} {kvs : List (List Key × V)} {k : List Key} (e : H a = some (.dT kvs)) (eb : H b = some (.tup (k.map kV))) : DGet H a (.ref b) (valV kvs k) := .inr ⟨kvs, k, b, .inl e, rfl, eb, rfl⟩
theorem DPut.k {H : Hp} {a : Addr} {kvs : List (Key × V)} {k : Key} {v : V} (e : H a = some (.dK kvs)) (hl : kvs.length < sizeLine) : DPut H a (kV k) v (upd H a (.dK (putK kvs k v))) := .inl ⟨kvs, k, e, rfl, hl, rfl⟩
theorem DPut.t {H : Hp} {a b : Addr} {kvs : List (List Key × V)} {k : List Key} {v : V} (e : H a = some (.dT kvs)) (eb : H b = some (.tup (k.map kV))) (hl : kvs.length < sizeLine) :
    DPut H a (.ref b) v (upd H a (.dT (putK kvs k v))) := .inr ⟨kvs, k, b, e, rfl, eb, hl, rfl⟩
section
variable {X : Cx} {pins : List (Addr × Obj)} {σ : St} {H : Hp} {s : Shared} {a : Addr} {y v : V} {u r : Value} {o : Option V} {A : Around} {E : Value → Shared → Prop}
theorem Inv.big (I : Inv X pins σ H s) : sysModules < s.heap.objs.size := by
  have h : mainGlobals < s.heap.objs.size := (I.mod.glob.keeps I.bk).lt
  exact Nat.lt_trans (by decide) h
theorem d_getItem {Q : Value → Shared → Prop} (hu : A.units + 1 < cLine) (I : Inv X pins σ H s) (g : DGet H a y (some v)) (ry : RelV y u) (h : ∀ w' s', Inv X pins σ H s' → RelV v w' → Q w' s') :
    wpAny (model X.prog X.w) A (getItem (.ref a) u) Q E s := by
  rcases g with ⟨kvs, k, e, ey, l⟩ | ⟨kvs, k, b, e, ey, eb, l⟩
  · subst ey
    obtain ⟨z, hd, vs, rel, dd⟩ := dk_rd I.hok e
    obtain ⟨w', hw, rw'⟩ := RelO.some_of (v := v) (o := valueAt vs k) (by rw [l]; exact rel.val k)
    exact wpAny_getItem_of (kV_is ry) dd.mapOf hw (h w' _ (I.tok _) rw')
  · subst ey
    cases (show u = Value.ref b from ry)
    obtain ⟨z, hd, xs, rel, dd⟩ := dt_rd I.hok e
    obtain ⟨w', hw, rw'⟩ := RelO.some_of (v := v) (o := (atKey xs k).map (·.2)) (by rw [l]; exact rel.val k)
    obtain ⟨p, hp, hp2⟩ := Option.map_eq_some_iff.mp hw
    refine wpAny_getItem_heap (tupleKind_room_in1 hu) (key_of I.hok eb) dd hp ?_
    rw [hp2]
    exact h w' _ (I.tok _) rw'
theorem d_notIn {Q : Value → Shared → Prop} (hu : A.units + 1 < cLine) (I : Inv X pins σ H s) (g : DGet H a y o) (ry : RelV y u) (h : ∀ s', Inv X pins σ H s' → Q (.bool (!o.isSome)) s') :
    wpAny (model X.prog X.w) A (compareOp .NotIn u (.ref a)) Q E s := by
  rcases g with ⟨kvs, k, e, ey, l⟩ | ⟨kvs, k, b, e, ey, eb, l⟩
  · subst ey
    obtain ⟨z, hd, vs, rel, dd⟩ := dk_rd I.hok e
    refine wpAny_notIn_of (kV_is ry) hd dd.mapOf ?_
    rw [← (rel.val k).isSome_eq, ← l]
    exact h _ (I.tok _)
  · subst ey
    cases (show u = Value.ref b from ry)
    obtain ⟨z, hd, xs, rel, dd⟩ := dt_rd I.hok e
    refine wpAny_notIn_heap (tupleKind_room_in1 hu) (key_of I.hok eb) hd dd ?_
    have q := (rel.val k).isSome_eq
    rw [Option.isSome_map] at q
    rw [← q, ← l]
    exact h _ (I.tok _)
theorem d_write {h' : Heap} {t' : Nat} {ob : HO} (I : Inv X pins σ H s) (mu : Mut (H a)) (hs : Heap.SameBut a s.heap h') (he : ∃ q, h'.get? a = some q) (new : ObjOk X.prog X.w (upd H a ob) h' a ob) :
    Inv X pins σ (upd H a ob) { s with heap := h', toks := t' } :=
  I.write (x := a) (e := a) mu (.inl rfl) (fun b q hb z => (hs.2 b hb).trans z) he new
theorem dk_new {P : Program} {w : World} {H' : Hp} {h' : Heap} {kvs : List (Key × V)} {vs : List (Key × Value)} (z : kvs.length ≤ sizeLine) (hd : (a == sysModules) = false) (rel : KV kvs vs) (dd : h'.DictOf (mixKind P w) a vs) :
    ObjOk P w H' h' a (.dK kvs) := ⟨z, hd, vs, rel, dd⟩
theorem d_setItem {H' : Hp} {Q : Unit → Shared → Prop} (hu : A.units + 1 < cLine) (I : Inv X pins σ H s) (g : DPut H a y v H') (ry : RelV y u) (rv : RelV v r) (h : ∀ s', Inv X pins σ H' s' → Q () s') :
    wpAny (model X.prog X.w) A (setItem (.ref a) u r) Q E s := by
  rcases g with ⟨kvs, k, e, ey, l, eH⟩ | ⟨kvs, k, b, e, ey, eb, l, eH⟩
  · subst ey eH
    obtain ⟨z, hd, vs, rel, dd⟩ := dk_of I.hok e
    have hz : vs.length ≤ sizeLine := by rw [← rel.length]; exact z
    have hl : (putK kvs k v).length ≤ sizeLine := by have := length_putK kvs k v; omega
    refine wpAny_setItem_pairs (hsz := hz) (kV_is ry) dd fun h' dd' hs => h _ ?_
    have he : ∃ q, h'.get? a = some q := let ⟨q, _, _, hq, _⟩ := dd'; ⟨q, hq⟩
    exact d_write I (by rw [e]; exact True.intro) hs he (dk_new hl hd (rel.put k rv) dd')
  · subst ey eH
    cases (show u = Value.ref b from ry)
    obtain ⟨z, hd, xs, rel, dd⟩ := dt_of I.hok e
    have hz : xs.length ≤ sizeLine := by rw [← Paired.length rel]; exact z
    have hl : (putK kvs k v).length ≤ sizeLine := by have := length_putK kvs k v; omega
    refine wpAny_setItem_heap (hsz := hz) (tupleKind_room_in1 hu) (key_of I.hok eb) dd fun h' dd' hs => h _ ?_
    obtain ⟨q, es, ep, hq, h2, h3, h4, _, h5⟩ := dd'
    refine d_write I (by rw [e]; exact True.intro) hs ⟨q, hq⟩ ⟨hl, hd, _, (rel.put k eb rv).keeps fun c ys ec => ?_, q, es, ep, hq, h2, h3, h4, h5⟩
    rw [upd_ne (ne_of ec e (fun z => nomatch z))]
    exact ec
end
def NoSl (i : Expr) : Prop := ∀ ov iv, subscripted i false ov iv = operate [ov, iv] (getItem ov iv)
theorem subD_of {prog : Program} {w : World} {A : Around} {E : Value → Shared → Prop} {s : Shared} {env : Env} {value slice : Expr} {pos : Pos} {T id : String} {Q : Value → Shared → Prop}
    (hl : typeLookup (.type T) "__getitem__" = pure (some (.builtin id))) (hs : NoSl slice)
    (h : wpAny (model prog w) A (eval value env) (fun o s₁ => wpAny (model prog w) A (eval slice env) (fun i s₂ => s₂.TypeIs o T ∧ wpAny (model prog w) A (getItem o i) Q E s₂) E s₁) E s) :
    wpAny (model prog w) A (eval (.Subscript value slice pos) env) Q E s := by
  refine Subscript_ (wpAny_mono h (fun o s₁ h₁ => wpAny_mono h₁ (fun i s₂ h₂ => ?_) fun _ _ x => x) fun _ _ x => x)
  obtain ⟨hT, h₂⟩ := h₂
  unfold subscriptTail
  refine wpAny_bind ?_
  rw [getitemInPython_of_ne hT.not_modules]
  refine wpAny_bind (wpAny_specialOf hT hl ?_)
  have fin : wpAny (model prog w) A (subscripted slice false o i) (fun r s₃ => wpAny (model prog w) A (letTemporaryGo value o r >>= fun _ => pure r) Q E s₃) E s₂ := by
    rw [hs o i]
    exact wpAny_operating (wpAny_mono h₂ (fun r s₃ h₃ => wpAny_bind (wpAny_letTemporaryGo (wpAny_pure h₃))) fun _ _ x => x)
  first
    | exact wpAny_pure (wpAny_bind fin)
    | exact wpAny_bind (wpAny_pure (wpAny_bind fin))
    | exact wpAny_bind fin
theorem dict_typeIs {X : Cx} {pins : List (Addr × Obj)} {σ : St} {H : Hp} {s : Shared} {a : Addr} {y : V} {o : Option V} (I : Inv X pins σ H s) (g : DGet H a y o) : s.TypeIs (.ref a) "dict" := by
  rcases g with ⟨kvs, k, e, _, _⟩ | ⟨kvs, k, b, e, _, _, _⟩
  · obtain ⟨_, _, vs, _, dd⟩ := dk_rd I.hok e
    exact dd.typeIs
  · obtain ⟨_, _, xs, _, dd⟩ := dt_rd I.hok e
    exact dd.typeIs
def tDGet (td ty : TE) : TE := fun σ H Q => td σ H fun x H1 => ty σ H1 fun y H2 => ∃ a v, x = .ref a ∧ DGet H2 a y (some v) ∧ Q v H2
def tDNotIn (ty td : TE) : TE := fun σ H Q => ty σ H fun y H1 => td σ H1 fun x H2 => ∃ a o, x = .ref a ∧ DGet H2 a y o ∧ Q (.bl (!o.isSome)) H2
def sDPut (td ty tv : TE) : TS := fun D σ H => tv σ H fun v H1 => td σ H1 fun x H2 => ty σ H2 fun y H3 => ∃ a H4, x = .ref a ∧ DPut H3 a y v H4 ∧ D.nx σ H4
def sDAug (td ty tv : TE) (rd : V → V → Hp → VK → Prop) : TS := fun D σ H => td σ H fun x H1 => ty σ H1 fun y H2 => ∃ a v, x = .ref a ∧ DGet H2 a y (some v) ∧
  tv σ H2 fun y2 H3 => rd v y2 H3 fun z H4 => ∃ H5, DPut H4 a y z H5 ∧ D.nx σ H5
section
variable {X : Cx} {o i e value : Expr} {pos pos' tpos : Pos} {td ty tv : TE}
theorem pe_dget (hu : X.A.units + 1 < cLine) (ho : PE X o td) (hi : PE X i ty) (hs : NoSl i) : PE X (.Subscript o i pos) (tDGet td ty) := by
  intro pins s σ H Q I h
  refine subD_of PySem.F.slot_dict_getitem.lookup hs (thn (ho pins s σ H _ I h) fun u s1 ⟨x, H1, I1, rx, q1⟩ => thn (hi pins s1 σ H1 _ I1 q1) fun iv s2 ⟨y, H2, I2, ry, a, v, ex, g, q2⟩ => ?_)
  subst ex
  obtain rfl : u = Value.ref a := rx
  exact ⟨dict_typeIs I2 g, d_getItem hu I2 g ry fun w' s3 I3 rw' => ⟨v, H2, I3, rw', q2⟩⟩
theorem pc_dnotin (hu : X.A.units + 1 < cLine) (hi : PE X i ty) (ho : PE X o td) : PC X .NotIn i o (tDNotIn ty td) := by
  intro pins s σ H Q I h
  refine thn (hi pins s σ H _ I h) fun iv s1 ⟨y, H1, I1, ry, q1⟩ => thn (ho pins s1 σ H1 _ I1 q1) fun u s2 ⟨x, H2, I2, rx, a, ov, ex, g, q2⟩ => ?_
  subst ex
  obtain rfl : u = Value.ref a := rx
  exact d_notIn hu I2 g ry fun s3 I3 => ⟨.bl (!ov.isSome), H2, I3, rfl, q2⟩
theorem ps_dput (hu : X.A.units + 1 < cLine) (ho : PE X o td) (hi : PE X i ty) (hv : PE X value tv) (hs : swapsWith value (some (.Subscript o i pos')) pos.line X.env = pure false) :
    PS X (.Assign [.Subscript o i pos'] value pos) (sDPut td ty tv) := by
  intro pins s σ H D I h
  refine wpAny_Assign_Subscript (thn (hv pins s σ H _ I h) fun r s1 ⟨v, H1, I1, rv, q1⟩ => thn (ho pins s1 σ H1 _ I1 q1) fun u s2 ⟨x, H2, I2, rx, q2⟩ => thn (hi pins s2 σ H2 _ I2 q2) fun iv s3 ⟨y, H3, I3, ry, a, H4, ex, g, q3⟩ => ?_) hs
  subst ex
  obtain rfl : u = Value.ref a := rx
  exact d_setItem hu I3 g ry rv fun s4 I4 => ⟨σ, H4, I4, q3⟩
theorem ps_daug {op : Operator} {rd : V → V → Hp → VK → Prop} (hu : X.A.units + 1 < cLine) (ho : PE X o td) (hi : PE X i ty) (hv : PE X value tv) (hop : InOp X op rd)
    (ha : ∀ ov iv new, augStore i ov iv new = (do holding [new, ov, iv] (setItem ov iv new); release [new, ov, iv] []; pure .next)) : PS X (.AugAssign (.Subscript o i tpos) op value pos) (sDAug td ty tv rd) := by
  intro pins s σ H D I h
  refine wpAny_AugAssign_SubscriptAny (thn (ho pins s σ H _ I h) fun u s1 ⟨x, H1, I1, rx, q1⟩ => thn (hi pins s1 σ H1 _ I1 q1) fun iv s2 ⟨y, H2, I2, ry, a, v, ex, g, q2⟩ => ?_) ha
  subst ex
  obtain rfl : u = Value.ref a := rx
  refine d_getItem hu I2 g ry fun w' s3 I3 rw' => thn (hv pins s3 σ H2 _ I3 q2) fun w2 s4 ⟨y2, H3, I4, ry2, q3⟩ => thn (hop pins s4 σ H3 v y2 w' w2 _ I4 rw' ry2 q3) fun w3 s5 ⟨z, H4, I5, rz, H5, g5, q4⟩ => ?_
  exact d_setItem hu I5 g5 ry rz fun s6 I6 => ⟨σ, H5, I6, q4⟩
end
theorem dk_empty {P : Program} {w : World} {H : Hp} (h : Heap) (hb : sysModules < h.objs.size) : ObjOk P w H (h.push { cls := .type "dict", data := .dict #[] }) h.objs.size (.dK []) :=
  ⟨Nat.zero_le _, beq_eq_false_iff_ne.mpr (Ne.symm (Nat.ne_of_lt hb)), [], .nil, Heap.DictOf.new h⟩
def tDNewK : TE := fun _ H Q => ∀ p, H p = none → Q (.ref p) (upd H p (.dK []))
section
variable {X : Cx} {pos : Pos}
theorem pe_dnewK : PE X (.Dict [] [] pos) tDNewK := fun pins s σ H Q I h =>
  wpAny_Dict_empty ⟨.ref s.heap.objs.size, _, I.laid (a := s.heap.objs.size) (o := .dK []) (t' := s.toks) (fun _ _ q => Heap.get?_push_of_some _ q) (Nat.le_refl _) (dk_empty s.heap I.big), rfl, h _ (I.hok.fresh (Nat.le_refl _))⟩
end
structure M2 (X : Cx) (o : Expr) (m : Str) (apos : Pos) (e f : Expr) (cpos : Pos) : Prop where
  base : attributeBase o m X.env (eval o X.env) = eval o X.env
  few : ((backTo cpos (starEach [e, f] X.env)).all (fun x => !x.1) && (backToKw cpos (keywordEach [] X.env)).all (fun x => x.1.isSome)
    && decide (([e, f] : List Expr).length + ([] : List Keyword).length + (if ([] : List Keyword).isEmpty then 0 else 1) < 30)) = true
  line : (apos.endLine == cpos.line) = true
  trees : backTo cpos (starEach [e, f] X.env) = [(false, eval e X.env), (false, eval f X.env)]
def IsDi (H : Hp) (a : Addr) : Prop := (∃ kvs, Rd H a (.dK kvs)) ∨ ∃ kvs, Rd H a (.dT kvs)
theorem isD_at {X : Cx} {pins : List (Addr × Obj)} {σ : St} {H : Hp} {s : Shared} {a : Addr} (I : Inv X pins σ H s) (d : IsDi H a) :
    s.TypeIs (.ref a) "dict" ∧ (∀ b, Value.ref a = .ref b → ∃ ob, s.heap.get? b = some ob ∧ ob.dict = none) ∧ (a == sysModules) = false := by
  rcases d with ⟨kvs, e⟩ | ⟨kvs, e⟩
  · obtain ⟨_, hd, vs, _, dd⟩ := dk_rd I.hok e
    refine ⟨dd.typeIs, fun b q => ?_, hd⟩
    cases q
    obtain ⟨ob, _, _, h1, h2, _⟩ := dd
    exact ⟨ob, h1, h2.2.1⟩
  · obtain ⟨_, hd, xs, _, dd⟩ := dt_rd I.hok e
    refine ⟨dd.typeIs, fun b q => ?_, hd⟩
    cases q
    obtain ⟨ob, _, _, h1, h2, _⟩ := dd
    exact ⟨ob, h1, h2.2.1⟩
section
variable {X : Cx} {pins : List (Addr × Obj)} {σ : St} {H : Hp} {s : Shared} {a : Addr} {y d : V} {u r : Value} {o : Option V} {A : Around} {E : Value → Shared → Prop}
theorem d_get2 {Q : Value → Shared → Prop} (hu : A.units + 1 < cLine) (I : Inv X pins σ H s) (g : DGet H a y o) (ry : RelV y u) (rd : RelV d r) (h : ∀ w' s', Inv X pins σ H s' → RelV (o.getD d) w' → Q w' s') :
    wpAny (model X.prog X.w) A (call (.builtin "dict.get") [.ref a, u, r]) Q E s := by
  rcases g with ⟨kvs, k, e, ey, l⟩ | ⟨kvs, k, b, e, ey, eb, l⟩
  · subst ey
    obtain ⟨z, hd, vs, rel, dd⟩ := dk_rd I.hok e
    refine call_meetsIn PySem.F.slot_dict_get dd.typeIs PySem.F.entry_dict_get (PySem.F.args_dict_get_3 _ _ _) (meets_dict_get_default (mixKind X.prog X.w) a (kV_is ry) hd r) ⟨_, dd.mapOf, h _ _ (I.tok _) ?_⟩
    rw [l]
    exact (rel.val k).getD rd
  · subst ey
    cases (show u = Value.ref b from ry)
    obtain ⟨z, hd, xs, rel, dd⟩ := dt_rd I.hok e
    refine call_meetsIn PySem.F.slot_dict_get dd.typeIs PySem.F.entry_dict_get (PySem.F.args_dict_get_3 _ _ _) (meetsH_dict_get_default (tupleKind (mixKind X.prog X.w)) a b hd r) ⟨tupleKind_room_in1 hu, k, xs, key_of I.hok eb, dd, h _ _ (I.tok _) ?_⟩
    rw [l]
    exact (rel.val k).getD rd
end
def tDGet2 (td ty tx : TE) : TE := fun σ H Q => td σ H fun x H1 => ∃ a, x = .ref a ∧ IsDi H1 a ∧ ty σ H1 fun y H2 => tx σ H2 fun z H3 => ∃ o, DGet H3 a y o ∧ Q (o.getD z) H3
section
variable {X : Cx} {o e f : Expr} {apos cpos : Pos} {td ty tx : TE}
theorem pe_dget2 (hu : X.A.units + 1 < cLine) (ho : PE X o td) (he : PE X e ty) (hf : PE X f tx) (m : M2 X o "get" apos e f cpos) : PE X (.Call (.Attribute o "get" apos) [e, f] [] cpos) (tDGet2 td ty tx) := by
  intro pins s σ H Q I h
  refine wpAny_Call_method m.base m.few m.line PySem.F.plainAttrs_dict PySem.F.slot_dict_get PySem.F.type_dict_get (thn (ho pins s σ H _ I h) fun u s1 ⟨x, H1, I1, rx, a, ex, d, q1⟩ => ?_)
  subst ex
  obtain rfl : u = Value.ref a := rx
  obtain ⟨t1, t2, _⟩ := isD_at I1 d
  refine ⟨t1, t2, ?_⟩
  rw [m.trees]
  refine Calls.callWith_builtin rfl (Calls.evalArgs_plain (Calls.spliced_cons (thn (he pins s1 σ H1 _ I1 q1) fun iv s2 ⟨y, H2, I2, ry, q2⟩ =>
    Calls.spliced_cons (thn (hf pins s2 σ H2 _ I2 q2) fun fv s3 ⟨z, H3, I3, rz, ov, g, q3⟩ => Calls.spliced_nil ?_))))
  exact d_get2 hu I3 g ry rz fun w' s4 I4 rw' => ⟨_, H3, I4, rw', q3⟩
end
end L2
namespace Att
open PySem PySem.W PySem.Calls PyProof.Rows
end Att
namespace L2
open PySem PySem.Spec PyProof.Rows
end L2
namespace L2
open PySem PySem.Spec PyProof.Rows
end L2
namespace L2
open PySem PySem.Spec PyProof.Rows
end L2
namespace L2
open PySem PySem.Spec PyProof.Rows
section
variable {X : Cx}
theorem call_sorted_dict (hc : X.calm = true) : CallR X (.builtin "sorted") (fun xs H Q => ∃ (p : Addr) (kvs : List (Key × V)) (ks : List Int), xs = [.ref p] ∧ H p = some (.dK kvs) ∧ kvs.map (·.1) = ks.map Sum.inl ∧ ∀ l, H l = none → Q (.ref l) (upd H l (.lst ((sortI ks).map V.int)))) := by
  intro pins s σ H xs us Q I r h
  obtain ⟨p, kvs, ks, rfl, hp, hk, q⟩ := h
  obtain ⟨u, rfl, e⟩ := vals1 r
  obtain rfl : u = Value.ref p := e
  obtain ⟨z, lo, vs, rel, hD⟩ := dk_of I.hok hp
  have hl : kvs.length = ks.length := by have := congrArg List.length hk; simpa using this
  have hl2 := rel.length
  have hkeys := rel.keys
  obtain ⟨ep, hA⟩ := hD.dictAt
  refine MwSet.sorted_dict (I.ok.hd hc) lo hA (by omega) (ks := ks) (fun i k x v e1 e2 => ?_) (by omega) (I.sorted (by omega) q)
  have e3 : (vs.map (·.1))[i]? = some k := by rw [List.getElem?_map, e1]; rfl
  rw [← hkeys, hk, List.getElem?_map] at e3
  cases e4 : ks[i]? with
  | none => rw [e4] at e3; cases e3
  | some n =>
    rw [e4] at e3
    have e5 : Sum.inl n = k := Option.some.inj e3
    subst e5
    rcases keyIs_shape (show keyIs (Sum.inl n) v = true from e2) with ⟨j, t, a1, a2⟩ | ⟨_, _, a1, _⟩
    · cases a1
      exact ⟨t, by rw [a2]; simp [e4]⟩
    · cases a1
end
end L2
namespace L2
open PySem PySem.Spec PyProof.Rows MwSet
def kindsOf (ns : List Int) : List Int := sortI (allK ns)
theorem kinds_mem {ns : List Int} {x : Int} : x ∈ kindsOf ns ↔ x ∈ ns := mem_sortI.trans mem_allK
theorem kinds_nodup (ns : List Int) : (kindsOf ns).Nodup := (sortI_perm _).nodup_iff.mpr (allK_nodup ns)
theorem kinds_lt (ns : List Int) : (kindsOf ns).Pairwise (· < ·) := by
  have h1 := sortI_rise (allK ns)
  have h2 := kinds_nodup ns
  unfold kindsOf at h2 ⊢
  refine (h1.and h2).imp fun {a b} ⟨p, q⟩ => ?_
  have : a ≠ b := q
  omega
theorem val_map (f : Int → V) (x : Int) : ∀ ks : List Int, valV (ks.map fun k => ((Sum.inl k : Key), f k)) (Sum.inl x) = if x ∈ ks then some (f x) else none
  | [] => rfl
  | k :: ks => by
    by_cases e : k = x
    · subst e
      rw [List.map_cons, valV_pos rfl, if_pos List.mem_cons_self]
    · rw [List.map_cons, valV_neg (fun z => e (Sum.inl.inj z)), val_map f x ks]
      have : x ∈ k :: ks ↔ x ∈ ks := by simp [show ¬ x = k from fun z => e z.symm]
      simp [this]
end L2
namespace L2
open PySem PySem.Spec PyProof.Rows MwSet
def SeqV (H : Hp) (p : Addr) (xs : List V) : Prop := H p = some (.tup xs) ∨ H p = some (.lst xs)
theorem SeqV.len {K : PySem.W.Frag} {H : Hp} {p : Addr} {xs : List V} (h : SeqV H p xs) : LenV K (.ref p) H xs.length := h.elim (fun e => .inr ⟨_, SqT.of e, rfl⟩) fun e => .inl ⟨_, SqL.of e, rfl⟩
theorem int_at {ns : List Int} {i : Nat} {x : V} (h : (ns.map V.int)[i]? = some x) : ∃ n, ns[i]? = some n ∧ x = .int n := by
  rw [List.getElem?_map] at h
  cases e : ns[i]? with
  | none => rw [e] at h; cases h
  | some n => rw [e] at h; exact ⟨n, rfl, (Option.some.inj h).symm⟩
end L2
namespace L2
open PySem PySem.Spec PyProof.Rows
end L2
namespace L2
open PySem PySem.Spec PyProof.Rows
def numsAt (F : List (List (Option Int))) (ru : Rule) (u d l r : Nat) (i j : Int) : List Int := (wc F ru u d l r i j).filterMap id
end L2
namespace L2
open PySem PySem.Spec PyProof.Rows
def LeC : Option Int → Option Int → Prop
  | none, none => True
  | some x, some y => x ≤ y
  | _, _ => False
theorem LeC.refl : ∀ c, LeC c c
  | none => trivial
  | some x => Int.le_refl x
inductive LeN : List Int → List Int → Prop
  | nil : LeN [] []
  | cons {x y : Int} {xs ys : List Int} : x ≤ y → LeN xs ys → LeN (x :: xs) (y :: ys)
inductive LeO : List (Option Int) → List (Option Int) → Prop
  | nil : LeO [] []
  | cons {x y : Option Int} {xs ys : List (Option Int)} : LeC x y → LeO xs ys → LeO (x :: xs) (y :: ys)
theorem LeN.len : ∀ {xs ys : List Int}, LeN xs ys → xs.length = ys.length
  | _, _, .nil => rfl
  | _, _, .cons _ t => by simp [t.len]
theorem LeO.append {a b : List (Option Int)} (h : LeO a b) : ∀ {c d : List (Option Int)}, LeO c d → LeO (a ++ c) (b ++ d) := by
  induction h with
  | nil => exact fun h => h
  | cons e t ih => exact fun h => .cons e (ih h)
theorem LeO.flat (f g : Nat → List (Option Int)) : ∀ l : List Nat, (∀ k ∈ l, LeO (f k) (g k)) → LeO (l.flatMap f) (l.flatMap g)
  | [], _ => .nil
  | k :: l, h => by
    rw [List.flatMap_cons, List.flatMap_cons]
    exact (h k List.mem_cons_self).append (LeO.flat f g l fun x hx => h x (List.mem_cons_of_mem _ hx))
theorem LeO.nums {a b : List (Option Int)} (h : LeO a b) : LeN (a.filterMap id) (b.filterMap id) := by
  induction h with
  | nil => exact .nil
  | @cons x y xs ys e t ih =>
    cases x with
    | none =>
      cases y with
      | none => exact ih
      | some y => exact e.elim
    | some x =>
      cases y with
      | none => exact e.elim
      | some y => exact .cons e ih
structure LeF (F G : List (List (Option Int))) : Prop where
  len : F.length = G.length
  wide : (F.headD []).length = (G.headD []).length
  cell : ∀ i j : Int, 0 ≤ i → i < F.length → 0 ≤ j → j < (F.headD []).length → LeC (cellAt F i j) (cellAt G i j)
theorem LeF.stands {F G : List (List (Option Int))} (R : Rect F) (h : LeF F G) (ru : Rule) (i j : Int) : LeO (stands F ru i j) (stands G ru i j) := by
  have hin : inF F i j = inF G i j := by unfold inF; rw [h.len, h.wide]
  have h1 := R.h1; have w1 := R.w1
  unfold L2.stands
  rw [← hin]
  cases e : inF F i j with
  | true =>
    rw [if_pos rfl, if_pos rfl]
    unfold inF at e
    simp only [Bool.and_eq_true, decide_eq_true_eq] at e
    exact .cons (h.cell i j e.1.1 e.1.2 e.2.1 e.2.2) .nil
  | false =>
    rw [if_neg Bool.false_ne_true, if_neg Bool.false_ne_true]
    have go : ∀ ru : Rule, LeO [cellAt F (led ru i F.length) (led ru j (F.headD []).length)] [cellAt G (led ru i G.length) (led ru j (G.headD []).length)] := fun ru => by
      rw [← h.len, ← h.wide]
      have li := led_in ru i (n := F.length) (by omega)
      have lj := led_in ru j (n := (F.headD []).length) (by omega)
      exact .cons (h.cell _ _ li.1 li.2 lj.1 lj.2) .nil
    cases ru with
    | there => exact .nil
    | told c => exact .cons (LeC.refl c) .nil
    | near => exact go .near
    | turned => exact go .turned
    | round => exact go .round
theorem LeF.nums {F G : List (List (Option Int))} (R : Rect F) (h : LeF F G) (ru : Rule) (u d l r : Nat) (i j : Int) : LeN (numsAt F ru u d l r i j) (numsAt G ru u d l r i j) := by
  unfold numsAt
  refine LeO.nums ?_
  unfold wc rowCells
  exact LeO.flat _ _ _ fun a _ => LeO.flat _ _ _ fun b _ => h.stands R ru _ _
end L2
namespace L2
open PySem PySem.Spec PyProof.Rows
end L2
namespace L2
open PySem PySem.Spec PyProof.Rows
section
variable {X : Cx} {pins : List (Addr × Obj)} {σ : St} {H : Hp} {s : Shared}
theorem comp_name {scope : Scope} {cells : List (Str × Addr)} {C : Addr} {N : List Str} {s2 : Shared} {H2 : Hp} {fp : List Addr} {y : Str} {p : Pos} {i : Nat} (hN : N.Nodup) (hi : N[i]? = some y) (hx : scope.names.lookup y = some .local ∨ scope.names.lookup y = some .cell) :
    PG (X.comp scope cells C N s2 H2 fp) (.Name y p) (gName i) := by
  refine pg_name hN hi ?_ ?_
  · show (relabel scope X.env).names.lookup y = some .local ∨ (relabel scope X.env).names.lookup y = some .cell
    rw [show (relabel scope X.env).names.lookup y = _ from kindOf_relabel scope.names y]
    rcases hx with z | z
    · rw [z]; exact .inl rfl
    · rw [z]; exact .inr rfl
  · rcases hx with z | z
    · refine .inr ?_
      show (relabel scope X.env).names.lookup y = some .local
      rw [show (relabel scope X.env).names.lookup y = _ from kindOf_relabel scope.names y, z]
      rfl
    · refine .inl ?_
      show (scope.names.lookup y == some .cell) = true
      rw [z]; rfl
def oneOf2 (K : PySem.W.Frag) (tc : TT) (te : TE) (σ : St) (x : V) (H : Hp) (k : Option V → Hp → Prop) : Prop :=
  ∃ a v1 v2, x = .ref a ∧ SqT K H a [v1, v2] ∧ tc (some v1 :: some v2 :: σ) H fun b H1 => if b = true then te (some v1 :: some v2 :: σ) H1 fun v H2 => k (some v) H2 else k none H1
def tCompIf2 (K : PySem.W.Frag) (wi : TI) (idx : List Nat) (tc : TT) (te : TE) : TE := fun σ H Q => wi σ H fun J H1 => CompW J H1 (oneOf2 K tc te (sel idx σ)) fun ys H' => ∀ p, H' p = none → Q (.ref p) (upd H' p (.lst ys))
theorem comp_start2 {scope : Scope} {M : List Str} {idx : List Nat} {fp : List Addr} {x x2 : Str} (ok : CompOk X scope M idx) (hc : X.calm = true) (I : Inv X pins σ H s) (hf : ∀ b ∈ fp, FpOk X pins H b)
    (ho : ∀ b ∈ fp, ∃ o, s.heap.get? b = some o) :
    Inv (X.comp scope (cellsFrom (s.heap.objs.size + 2) scope.names (clOf X.env.cells scope.names [])) (s.heap.objs.size + 1) (x :: x2 :: M) s H fp) [] (none :: none :: sel idx σ) H
      { s with heap := pushCells ((s.heap.push { cls := .type "list", dict := none, data := .seq ([] : List Value).toArray }).push { cls := .type "dict", data := .dict #[] }) scope.names } := by
  have sz2 : ((s.heap.push { cls := .type "list", dict := none, data := .seq ([] : List Value).toArray }).push { cls := .type "dict", data := .dict #[] }).objs.size = s.heap.objs.size + 2 := by rw [Heap.size_push, Heap.size_push]
  have keep : ∀ b o, s.heap.get? b = some o → (pushCells ((s.heap.push { cls := .type "list", dict := none, data := .seq ([] : List Value).toArray }).push { cls := .type "dict", data := .dict #[] }) scope.names).get? b = some o :=
    fun b o e => pushCells_keeps _ _ _ _ (Heap.get?_push_of_some _ (Heap.get?_push_of_some _ e))
  have clLook : ∀ n c, (clOf X.env.cells scope.names []).lookup n = some c → X.env.cells.lookup n = some c := lookup_clOf fun n c e => by simp at e
  have clLt : ∀ n c, (clOf X.env.cells scope.names []).lookup n = some c → c < s.heap.objs.size := fun n c e => by
    obtain ⟨v, z⟩ := I.cell n c (clLook n c e)
    exact z.lt
  have look : ∀ n c, (cellsFrom (s.heap.objs.size + 2) scope.names (clOf X.env.cells scope.names [])).lookup n = some c →
      (s.heap.objs.size + 2 ≤ c ∧ (pushCells ((s.heap.push { cls := .type "list", dict := none, data := .seq ([] : List Value).toArray }).push { cls := .type "dict", data := .dict #[] }) scope.names).IsCell c none) ∨ X.env.cells.lookup n = some c := fun n c e => by
    have e' : (cellsFrom ((s.heap.push { cls := .type "list", dict := none, data := .seq ([] : List Value).toArray }).push { cls := .type "dict", data := .dict #[] }).objs.size scope.names (clOf X.env.cells scope.names [])).lookup n = some c := by rw [sz2]; exact e
    rcases cellsFrom_new e' with ⟨q1, q2⟩ | q
    · rw [sz2] at q1; exact .inl ⟨q1, q2⟩
    · exact .inr (clLook n c q)
  have fresh : ∀ a, s.heap.objs.size ≤ a → H a = none := fun a h => I.hok.fresh h
  have fpLt : ∀ b ∈ fp, b < s.heap.objs.size := fun b hb => let ⟨_, e⟩ := ho b hb; Heap.lt_size e
  have fpStk : ∀ b ∈ fp, b ∉ frs X.stack := fun b hb z => by
    obtain ⟨_, f1, f2, _⟩ := hf b hb
    exact (List.mem_cons.mp (I.stkSub b z)).elim f1 f2
  have hasFree : ∀ y ∈ scope.names, y.2 = .free → ∃ c, X.env.cells.lookup y.1 = some c := fun y hy e => I.ok.has y.1 (ok.fre y hy e)
  have kindR : ∀ y, (compEnvC scope (cellsFrom (s.heap.objs.size + 2) scope.names (clOf X.env.cells scope.names [])) (s.heap.objs.size + 1) X.env).kindOf y =
      (scope.names.lookup y).map fun k => if (k == NameKind.free && X.env.scope.kind == .function && X.env.kindOf y == some .cell) then NameKind.cell else k := fun y => kindOf_relabel scope.names y
  refine ⟨⟨I.ok.mod, ok.kind, I.ok.glob, I.ok.blt, Nat.le_succ _, ?_, fun y hy => ?_, fun y c hfn e => ?_, I.ok.hd, I.ok.frames, .inl rfl, fun b hb => ⟨?_, fun y c e => ?_⟩, I.bs, Nat.le_trans I.ok.bsz I.sz, fun b o e hb => ?_, fun b hb => fpStk b hb, I.stack, I.stkFree⟩,
    rfl, I.bare, Un.kept keep, ⟨fun _ => none, ?_, fun i y v h1 h2 h3 => ?_⟩, fun y c e => ?_, fresh _ (Nat.le_succ _), fun y c e => ?_, fun p hp => absurd (show p ∈ ([] : List (Addr × Obj)) from hp) (by simp), I.hok.kept keep, ?_⟩
  · exact cellsFrom_inj (fun a b c h1 h2 => I.ok.inj a b c (clLook a c h1) (clLook b c h2)) fun a c h1 => Nat.lt_of_lt_of_le (clLt a c h1) (Nat.le_add_right _ _)
  · -- has
    rw [show (X.comp scope (cellsFrom (s.heap.objs.size + 2) scope.names (clOf X.env.cells scope.names [])) (s.heap.objs.size + 1) (x :: x2 :: M) s H fp).env.kindOf y = _ from kindR y] at hy
    show ∃ c, (cellsFrom (s.heap.objs.size + 2) scope.names (clOf X.env.cells scope.names [])).lookup y = some c
    cases hk : scope.names.lookup y with
    | none => rw [hk] at hy; rcases hy with z | z <;> cases z
    | some k =>
      have mem := PySem.mem_of_lookup hk
      by_cases k1 : k = .cell
      · subst k1; exact cellsFrom_has mem
      by_cases k2 : k = .free
      · subst k2
        obtain ⟨c, ec⟩ := hasFree _ mem rfl
        exact cellsFrom_acc (clOf_has ec mem)
      · rw [hk] at hy
        have hb : (k == NameKind.free) = false := by simpa using k2
        rw [Option.map_some, hb, Bool.false_and, Bool.false_and, if_neg Bool.false_ne_true] at hy
        rcases hy with z | z
        · exact absurd (Option.some.inj z) k1
        · exact absurd (Option.some.inj z) k2
  · -- cab
    have hl : scope.names.lookup y = some .cell := by simpa [Cx.comp] using hfn
    exact cellsFrom_ge (lo := s.heap.objs.size) (by omega) (.inl (PySem.mem_of_lookup hl)) e
  · -- exf
    exact Nat.ne_of_lt (Nat.lt_succ_of_lt (fpLt b hb))
  · rcases look y c e with ⟨q, _⟩ | q
    · exact fun z => absurd (fpLt b hb) (by rw [← z]; exact Nat.not_lt.mpr (Nat.le_trans (Nat.le_add_right _ 2) q))
    · exact (hf b hb).2.2.2.2.1 y c q
  · -- noex
    rcases (hf b hb).2.2.2.1 with z | z
    · exact I.ok.noex b o e z
    · exact absurd (Nat.lt_of_lt_of_le (Heap.lt_size e) (Nat.le_trans I.ok.bsz z)) (Nat.lt_irrefl _)
  · -- the new map
    have e0 : (s.heap.push { cls := .type "list", dict := none, data := .seq ([] : List Value).toArray }).objs.size = s.heap.objs.size + 1 := Heap.size_push ..
    have q := (Heap.Ns.new (s.heap.push { cls := .type "list", dict := none, data := .seq ([] : List Value).toArray }) (.type "dict")).keeps (pushCells_keeps scope.names _)
    rw [e0] at q
    exact q
  · -- names
    cases i with
    | zero => cases h2
    | succ i => cases i with
    | zero => cases h2
    | succ j =>
      have h2' : (sel idx σ)[j]? = some (some v) := h2
      have h1' : M[j]? = some y := h1
      obtain ⟨k, ek, ev⟩ := sel_get h2'
      obtain ⟨hl, k', ek', eN⟩ := ok.cap j y h1'
      rw [ek] at ek'; cases ek'
      have mem := PySem.mem_of_lookup hl
      have hk := ok.fre _ mem rfl
      obtain ⟨m, hn, hloc⟩ := I.loc
      have vis : Vis X.env.scope y := hk.elim (fun z => .inr (.inl z)) fun z => .inr (.inr z)
      obtain ⟨u, r, l⟩ := hloc k y v eN ev vis
      refine ⟨u, r, ?_⟩
      rcases l with ⟨z, _⟩ | ⟨_, c, ec, hcell⟩
      · rw [z] at hk; rcases hk with z | z <;> cases z
      · refine .inr ⟨?_, c, ?_, hcell.keeps keep⟩
        · rw [show (X.comp scope (cellsFrom (s.heap.objs.size + 2) scope.names (clOf X.env.cells scope.names [])) (s.heap.objs.size + 1) (x :: x2 :: M) s H fp).env.kindOf y = _ from kindR y, hl, Option.map_some]
          by_cases hcc : (NameKind.free == NameKind.free && X.env.scope.kind == .function && X.env.kindOf y == some .cell) = true
          · rw [if_pos hcc]; exact .inl rfl
          · rw [if_neg hcc]; exact .inr rfl
        · show (cellsFrom (s.heap.objs.size + 2) scope.names (clOf X.env.cells scope.names [])).lookup y = some c
          rw [cellsFrom_not]
          · obtain ⟨d, ed⟩ := clOf_has (acc := []) ec mem
            rw [ed, ← clLook y d ed, ec]
          · intro p hp hpc hpy
            have := ok.cel p hp hpc
            rw [hpy, hl] at this
            cases this
  · rcases look y c e with ⟨_, q⟩ | q
    · exact ⟨_, q⟩
    · obtain ⟨v, z⟩ := I.cell y c q
      exact ⟨v, z.keeps keep⟩
  · rcases look y c e with ⟨q, _⟩ | q
    · exact fresh _ (by omega)
    · exact I.freeC y c q
  · show (none :: none :: sel idx σ).length = (x :: x2 :: M).length
    unfold sel
    rw [List.length_cons, List.length_cons, List.length_cons, List.length_cons, List.length_map, ok.len]
theorem comp_block2 {elt iter : Expr} {ifs : List Expr} {scope : Scope} {pos : Pos} {x x2 : Str} {px px2 pt : Pos} {kk : Nat} {K : PySem.W.Frag} {M : List Str} {idx : List Nat} {tc : TT} {te : TE} {itv : Value} {Q : List V → Hp → Prop}
    {RR : Value → Addr → Result → Shared → Prop} 
    (hK : X.K = K) (hc : X.calm = true) (ok : CompOk X scope M idx) (hN : (x :: x2 :: M).Nodup) (hx : scope.names.lookup x = some .local ∨ scope.names.lookup x = some .cell) (hx2 : scope.names.lookup x2 = some .local ∨ scope.names.lookup x2 = some .cell)
    (ht : ∀ cells C s2 H2 fp, PTs (X.comp scope cells C (x :: x2 :: M) s2 H2 fp) ifs tc) (he : ∀ cells C s2 H2 fp, PE (X.comp scope cells C (x :: x2 :: M) s2 H2 fp) elt te)
    (h : PIE X pins σ (.Tuple [.Name x px, .Name x2 px2] kk pt) (fun J H1 => CompW J H1 (oneOf2 K tc te (sel idx σ)) Q) itv s)
    (hR : ∀ (D C : Addr) (ys : List V) (H' : Hp) (s' : Shared), s.heap.objs.size ≤ D → s.heap.objs.size ≤ C → D ≠ C → H' D = none → H' C = none → Q ys H' → (∃ m, s'.heap.Ns C m) →
      (∀ h' tk, Heap.SameBut C s'.heap h' → Inv X pins σ (upd H' D (.lst ys)) { s' with heap := h', toks := tk }) → RR (.ref D) C (.ok .next) s') :
    wpAny (model X.prog X.w) X.A (newList []) (fun acc s₃ => wpAny (model X.prog X.w) X.A (newFunctionEnv scope X.env.globals (clOf X.env.cells scope.names []) [] X.env.qual none .none (some X.env)) (fun cenv s₄ =>
      codeAny (model X.prog X.w) X.A (.compStart (.ListComp elt [⟨.Tuple [.Name x px, .Name x2 px2] kk pt, iter, ifs, 0⟩] scope pos) 0 itv acc { cenv with scope := relabel scope X.env }) (RR acc cenv.locals) s₄) X.xe s₃) X.xe s := by
  obtain ⟨it, fp, tn, J, H2, e, I2, T, st2, f2, n, W, w0, hn, turn⟩ := h
  subst e
  have ho : ∀ b ∈ fp, ∃ o, s.heap.get? b = some o := fun b hb => let ⟨o, e, _⟩ := T.obj 0 _ st2 b hb; ⟨o, e⟩
  have I3 := comp_start2 (x := x) (x2 := x2) ok hc I2 f2 ho
  have sz1 : (s.heap.push { cls := .type "list", dict := none, data := .seq ([] : List Value).toArray }).objs.size = s.heap.objs.size + 1 := Heap.size_push ..
  have keep0 : ∀ b o, s.heap.get? b = some o → (pushCells ((s.heap.push { cls := .type "list", dict := none, data := .seq ([] : List Value).toArray }).push { cls := .type "dict", data := .dict #[] }) scope.names).get? b = some o :=
    fun b o e => pushCells_keeps _ _ _ _ (Heap.get?_push_of_some _ (Heap.get?_push_of_some _ e))
  have acc0 : (pushCells ((s.heap.push { cls := .type "list", dict := none, data := .seq ([] : List Value).toArray }).push { cls := .type "dict", data := .dict #[] }) scope.names).PlainList s.heap.objs.size ([] : List Value).toArray :=
    ⟨_, pushCells_keeps _ _ _ _ (Heap.get?_push_of_some _ (Heap.get?_push_size _ rfl))⟩
  have fpLt : ∀ b ∈ fp, b < s.heap.objs.size := fun b hb => let ⟨_, e⟩ := ho b hb; Heap.lt_size e
  refine wpAny_newList ?_
  refine newCompEnv ?_
  dsimp only
  rw [sz1]
  generalize hcells : cellsFrom (s.heap.objs.size + 1 + 1) scope.names (clOf X.env.cells scope.names []) = cells
  have hcells' : cellsFrom (s.heap.objs.size + 2) scope.names (clOf X.env.cells scope.names []) = cells := hcells
  rw [hcells'] at I3
  generalize hh : pushCells ((s.heap.push { cls := .type "list", dict := none, data := .seq ([] : List Value).toArray }).push { cls := .type "dict", data := .dict #[] }) scope.names = h1 at I3 keep0 acc0 ⊢
  have ht := ht cells (s.heap.objs.size + 1) s H2 fp
  have he := he cells (s.heap.objs.size + 1) s H2 fp
  have st3 : tn 0 h1 := T.keep 0 _ _ st2 fun b hb o e => keep0 b o e
  have hg : PG (X.comp scope cells (s.heap.objs.size + 1) (x :: x2 :: M) s H2 fp) (.Tuple [.Name x px, .Name x2 px2] kk pt) (gTup K 2 (gCons (gName 0) (gCons (gName 1) gNil))) :=
    pg_tupK hK hc (pgs_cons (comp_name (i := 0) hN rfl hx) (pgs_cons (comp_name (i := 1) hN rfl hx2) pgs_nil))
  have stat : ∀ {pins' : List (Addr × Obj)} {H' : Hp}, (∀ p ∈ pins', p.1 = s.heap.objs.size) → (∀ b ∈ fp, H' b = none) → ∀ b ∈ fp, FpOk (X.comp scope cells (s.heap.objs.size + 1) (x :: x2 :: M) s H2 fp) pins' H' b := fun {pins' H'} hp hn b hb =>
    ⟨hn b hb, (I3.ok.exf b hb).1, I3.ok.exfs b hb, .inl hb, (I3.ok.exf b hb).2, fun p hp' => by
      have e := hp p (show p ∈ pins' from by simpa [Cx.comp] using hp')
      rw [e]; exact Nat.ne_of_gt (fpLt b hb)⟩
  have loop : ∀ (s₄ : Shared), s₄ = { s with heap := h1 } → codeAny (model X.prog X.w) X.A (.compLoop (.ListComp elt [⟨.Tuple [.Name x px, .Name x2 px2] kk pt, iter, ifs, 0⟩] scope pos) 0 (.ref it) (.ref s.heap.objs.size) (compEnvC scope cells (s.heap.objs.size + 1) X.env))
      (RR (.ref s.heap.objs.size) (s.heap.objs.size + 1)) s₄ := by
    rintro s₄ rfl
    refine compLoop_any (fun k s' => ∃ (i : Nat) (ys : List V) (its : List Value) (H' : Hp), Inv (X.comp scope cells (s.heap.objs.size + 1) (x :: x2 :: M) s H2 fp) [] (none :: none :: sel idx σ) H' s' ∧ tn i s'.heap ∧ (∀ b ∈ fp, H' b = none) ∧ H' s.heap.objs.size = none ∧
      s'.heap.PlainList s.heap.objs.size its.toArray ∧ Vals ys its ∧ ys.length ≤ i ∧ i ≤ n ∧ W i ys H' ∧ k = n - i) ?_ n ⟨0, [], [], H2, I3, st3, fun b hb => (f2 b hb).1, I2.hok.fresh (Nat.le_refl _), acc0, .nil, Nat.le_refl _, Nat.zero_le _, w0, rfl⟩
    rintro k s' ⟨i, ys, its, H', I', st', fr', hD', hpl', hv', hlen, hlin, w', rfl⟩
    obtain ⟨nn, hobj⟩ := id hpl'
    have pinD : ∀ {H5 : Hp} {s5 : Shared} {σ5 : St} {P5 : List (Addr × Obj)}, Inv (X.comp scope cells (s.heap.objs.size + 1) (x :: x2 :: M) s H2 fp) P5 σ5 H5 s5 → s5.heap.get? s.heap.objs.size = some { cls := .type "list", data := .seq its.toArray nn } → H5 s.heap.objs.size = none →
        ∀ p ∈ [(s.heap.objs.size, ({ cls := .type "list", data := .seq its.toArray nn } : Obj))], s5.heap.get? p.1 = some p.2 ∧ H5 p.1 = none ∧ p.1 ≠ (X.comp scope cells (s.heap.objs.size + 1) (x :: x2 :: M) s H2 fp).env.locals ∧ p.1 ∉ (X.comp scope cells (s.heap.objs.size + 1) (x :: x2 :: M) s H2 fp).fs ∧ ∀ v, p.2.data ≠ .cell v :=
      fun {H5 s5 σ5 P5} I5 e5 n5 p hp => by
        have ep : p = (s.heap.objs.size, ({ cls := .type "list", data := .seq its.toArray nn } : Obj)) := by simpa using hp
        subst ep
        refine ⟨e5, n5, Nat.ne_of_lt (Nat.lt_succ_self _), fun z => ?_, fun v z => by cases z⟩
        obtain ⟨_, o, ho, _⟩ := I5.ok.funs.mem z
        exact absurd (Heap.lt_size ho) (Nat.lt_irrefl _)
    have ID := I'.pins_of (pinD I' hobj hD')
    have ndp : ∀ p ∈ [(s.heap.objs.size, ({ cls := .type "list", data := .seq its.toArray nn } : Obj))], p.1 = s.heap.objs.size := fun p hp => by
      have ep : p = (s.heap.objs.size, ({ cls := .type "list", data := .seq its.toArray nn } : Obj)) := by simpa using hp
      rw [ep]
    rcases turn i ys H' w' with ⟨stop, qn⟩ | ⟨go, hin, N, hNW, step⟩
    · refine thn (T.done (X.comp scope cells (s.heap.objs.size + 1) (x :: x2 :: M) s H2 fp) rfl rfl rfl hc i _ s' _ H' (fun _ _ => False) ID (stat ndp fr') st' stop) fun r s4 ⟨hr, I4⟩ => ?_
      subst hr
      have pin4 := I4.pin (s.heap.objs.size, ({ cls := .type "list", data := .seq its.toArray nn } : Obj)) (by simp [Cx.comp])
      obtain ⟨m4, hm4, _⟩ := id I4.loc
      refine hR s.heap.objs.size (s.heap.objs.size + 1) ys H' s4 (Nat.le_refl _) (Nat.le_succ _) (Nat.ne_of_lt (Nat.lt_succ_self _)) pin4.2.1 I4.free qn ⟨m4, hm4⟩ fun h' tk hs' => ?_
      have neC : ∀ b, b < s.heap.objs.size → b ≠ s.heap.objs.size + 1 := fun b hb => Nat.ne_of_lt (Nat.lt_succ_of_lt hb)
      have neD : ∀ b, b < s.heap.objs.size → b ≠ s.heap.objs.size := fun b hb => Nat.ne_of_lt hb
      have u4 := I4.base
      refine I2.call' (s' := { s4 with heap := h', toks := tk }) (ch := fp) I4.os ?_ ?_ I4.bare fun b hb => ?_
      · refine ⟨fun b o e1 e2 e3 e4 => ?_, fun b o e1 e2 e3 e4 => ?_, fun b o e1 e2 e3 => ?_, fun b o e1 e2 => ?_, fun b xs e1 => ?_, fun b o u e1 => ?_, fun b ps e1 => ?_⟩
        · exact (hs'.2 b (neC b (Heap.lt_size e1))).trans (u4.keep b o e1 e2 e3 e4)
        · obtain ⟨sl, q⟩ := u4.slot b o e1 e2 e3 e4
          exact ⟨sl, (hs'.2 b (neC b (Heap.lt_size e1))).trans q⟩
        · rw [upd_ne (neD b (Heap.lt_size e1))]; exact u4.free b o e1 e2 e3
        · obtain ⟨o', q⟩ := u4.there b o e1 e2
          exact ⟨o', (hs'.2 b (neC b (Heap.lt_size e1))).trans q⟩
        · have q := u4.tups b xs e1
          rw [upd_ne (ne_of_none q pin4.2.1)]; exact q
        · have q := u4.frzs b o u e1
          rw [upd_ne (ne_of_none q pin4.2.1)]; exact q
        · obtain ⟨more, q⟩ := u4.tbls b ps e1
          exact ⟨more, by rw [upd_ne (ne_of_none q pin4.2.1)]; exact q⟩
      · intro b o e1
        by_cases hb : b = s.heap.objs.size
        · subst hb
          rw [upd_same] at e1; cases e1
          exact ⟨Nat.le_trans hlen (Nat.le_trans hlin hn), its, nn, hv', (hs'.2 _ (Nat.ne_of_lt (Nat.lt_succ_self _))).trans pin4.1⟩
        · rw [upd_ne hb] at e1
          refine (I4.hok b o e1).stay (fun c u hcu q => (hs'.2 c ?_).trans q) (fun c q => by rw [upd_ne (ne_of_none q pin4.2.1)]; exact q) fun c xs q => by rw [upd_ne (ne_of_none q pin4.2.1)]; exact q
          rintro rfl
          rcases hcu with z | z
          · rw [← z] at e1
            have z2 := I4.free
            rw [show (X.comp scope cells (s.heap.objs.size + 1) (x :: x2 :: M) s H2 fp).env.locals = s.heap.objs.size + 1 from rfl, e1] at z2
            cases z2
          · have z2 := I4.free
            rw [show (X.comp scope cells (s.heap.objs.size + 1) (x :: x2 :: M) s H2 fp).env.locals = s.heap.objs.size + 1 from rfl, z] at z2
            cases z2
      · obtain ⟨_, g1, g2, g3, g4, g5⟩ := f2 b hb
        exact ⟨g3, g1, g4, g5⟩
    · refine thn (T.item (X.comp scope cells (s.heap.objs.size + 1) (x :: x2 :: M) s H2 fp) rfl rfl rfl hc i _ s' _ H' (fun _ _ => False) ID (stat ndp fr') st' go) fun r s4 ⟨u, hr, h4⟩ => ?_
      subst hr
      refine thn h4 fun _ s5 ⟨y, H5, I5, r5, y5, st5, fr5⟩ => ?_
      have I5' := I5.pinned (stat ndp fr5) (T.obj _ _ st5)
      obtain ⟨pa, v1, v2, ey, hq, q5⟩ := step y _ y5
      refine thn (hg _ s5 _ H5 y u (fun σ' H6 => σ' = some v1 :: some v2 :: sel idx σ ∧ H6 = H5) I5' r5 ⟨pa, [v1, v2], ey, hq, rfl, v1, [v2], rfl, v2, [], rfl, rfl, rfl, rfl⟩) fun _ s6 ⟨σ6, H6, I6, e6, e6'⟩ => ?_
      subst e6 e6'
      have fin : ∀ {H8 : Hp} {s8 : Shared} {σ8 : St}, Inv (X.comp scope cells (s.heap.objs.size + 1) (x :: x2 :: M) s H2 fp) ([(s.heap.objs.size, ({ cls := .type "list", data := .seq its.toArray nn } : Obj))] ++ pinsAt fp s5.heap) σ8 H8 s8 →
          s8.heap.PlainList s.heap.objs.size its.toArray ∧ H8 s.heap.objs.size = none ∧ tn (i + 1) s8.heap ∧ ∀ b ∈ fp, H8 b = none := fun {H8 s8 σ8} I8 => by
        have p8 := I8.pin (s.heap.objs.size, ({ cls := .type "list", data := .seq its.toArray nn } : Obj)) (by simp [Cx.comp])
        refine ⟨⟨nn, p8.1⟩, p8.2.1, T.keep _ _ _ st5 fun b hb o e => (I8.pin (b, o) (List.mem_append_right _ (List.mem_append_right _ (mem_pinsAt hb e)))).1, fun b hb => ?_⟩
        obtain ⟨o, e, _⟩ := T.obj _ _ st5 b hb
        exact (I8.pin (b, o) (List.mem_append_right _ (List.mem_append_right _ (mem_pinsAt hb e)))).2.1
      have back : ∀ {H8 : Hp} {s8 : Shared} {P8 : List (Addr × Obj)}, Inv (X.comp scope cells (s.heap.objs.size + 1) (x :: x2 :: M) s H2 fp) P8 (some v1 :: some v2 :: sel idx σ) H8 s8 → Inv (X.comp scope cells (s.heap.objs.size + 1) (x :: x2 :: M) s H2 fp) [] (none :: none :: sel idx σ) H8 s8 := fun I8 =>
        (I8.pins_of fun p hp => absurd hp (by simp)).weak rfl fun j v e => by
          cases j with
          | zero => cases e
          | succ j => cases j with
          | zero => cases e
          | succ j => exact e
      refine thn (ht _ s6 _ _ _ I6 q5) fun b s7 ⟨H7, I7, q7⟩ => ?_
      cases b with
      | false =>
        have q7' : W (i + 1) (ys ++ []) H7 := hNW none H7 q7
        rw [List.append_nil] at q7'
        obtain ⟨g1, g2, g3, g4⟩ := fin I7
        refine show (if false = true then _ else _) from ?_
        rw [if_neg Bool.false_ne_true]
        exact ⟨n - (i + 1), by omega, i + 1, ys, its, H7, back I7, g3, g4, g2, g1, hv', Nat.le_succ_of_le hlen, hin, q7', rfl⟩
      | true =>
        refine show (if true = true then _ else _) from ?_
        rw [if_pos rfl]
        have q7' : te (some v1 :: some v2 :: sel idx σ) H7 fun v H3 => N (some v) H3 := q7
        refine thn (he _ s7 _ _ _ I7 q7') fun u8 s8 ⟨v8, H8, I8, r8, w8⟩ => ?_
        have w8 : W (i + 1) (ys ++ [v8]) H8 := hNW (some v8) H8 w8
        obtain ⟨g1, g2, g3, g4⟩ := fin I8
        refine wpAny_list_append_plain g1 (fun h' hpl hs' => ?_) (by
          rw [List.size_toArray, ← hv'.length]
          exact Nat.le_trans hlen (Nat.le_trans hlin hn))
        have I9 := back I8
        have hpl2 : h'.PlainList s.heap.objs.size (its ++ [u8]).toArray := by
          have e : (its ++ [u8]).toArray = its.toArray.push u8 := by simp
          rw [e]; exact hpl
        refine ⟨n - (i + 1), by omega, i + 1, ys ++ [v8], its ++ [u8], H8, I9.turned (it := s.heap.objs.size) (t' := s8.toks) (fun b o hb e => (hs'.2 b hb).trans e) g2 (Nat.ne_of_lt (Nat.lt_succ_self _)) (.inr (Nat.le_refl _)) (fun z c ec hcz => ?_) (fun p hp => absurd hp (by simp [Cx.comp])),
          T.keep _ _ _ g3 (fun b hb o e => (hs'.2 b (Nat.ne_of_lt (fpLt b hb))).trans e), g4, g2, hpl2, hv'.append (.cons r8 .nil), by rw [List.length_append]; exact Nat.succ_le_succ hlen, hin, w8, rfl⟩
        obtain ⟨v, o, ho, hd⟩ := I9.cell z c ec
        obtain ⟨n9, g9⟩ := g1
        rw [hcz, g9] at ho
        cases ho
        cases hd
  exact codeAny_compStart_list (loop _ rfl) (T.self _ 0 _ _ _ st3 (loop _ rfl))
theorem pe_compIf2 {elt iter : Expr} {ifs : List Expr} {scope : Scope} {pos : Pos} {x x2 : Str} {px px2 pt : Pos} {kk : Nat} {K : PySem.W.Frag} {M : List Str} {idx : List Nat} {wi : TI} {tc : TT} {te : TE}
    (hK : X.K = K) (hc : X.calm = true) (hi : PI X (.Tuple [.Name x px, .Name x2 px2] kk pt) iter wi) (ok : CompOk X scope M idx) (hN : (x :: x2 :: M).Nodup) (hx : scope.names.lookup x = some .local ∨ scope.names.lookup x = some .cell) (hx2 : scope.names.lookup x2 = some .local ∨ scope.names.lookup x2 = some .cell)
    (ht : ∀ cells C s2 H2 fp, PTs (X.comp scope cells C (x :: x2 :: M) s2 H2 fp) ifs tc) (he : ∀ cells C s2 H2 fp, PE (X.comp scope cells C (x :: x2 :: M) s2 H2 fp) elt te)
    (hs : ∀ x, foldedSetIterable iter X.env x = pure x := by intro _; rfl) : PE X (.ListComp elt [⟨.Tuple [.Name x px, .Name x2 px2] kk pt, iter, ifs, 0⟩] scope pos) (tCompIf2 K wi idx tc te) := by
  intro pins s σ H Q I h
  rw [eval_ListComp]
  refine wpAny_comprehension_free (use := none) rfl hs (closureFor_cl fun y hy e => I.ok.has y.1 (ok.fre y hy e)) ok.kind ok.loc (thn (hi pins s σ H _ I h) fun v s1 h1 => thn h1 fun itv s2 h2 => ?_)
  refine comp_block2 (RR := fun acc C => compPost (model X.prog X.w) X.A X.xe none (EP X pins σ Q) acc C) hK hc ok hN hx hx2 ht he h2 fun D C ys H' s' hD hC hDC nD nC q hm hI => ?_
  obtain ⟨m, hm⟩ := hm
  exact ⟨m, hm, fun h' hs' => ⟨.ref D, upd H' D (.lst ys), hI h' s'.toks hs', rfl, q D nD⟩⟩
end
end L2
namespace L2
open PySem PySem.Spec PyProof.Rows
def DWalk (P : Program) (w : World) (a : Addr) (kvs : List (Key × V)) (vs : List (Key × Value)) (ep : Nat) : HO := .ext fun h => KV kvs vs ∧ h.DictAt (mixKind P w) a vs ep ∧ kvs.length ≤ sizeLine ∧ (a == sysModules) = false
theorem dwalk_ok {P : Program} {w : World} {H : Hp} {h : Heap} {a : Addr} {kvs : List (Key × V)} {vs : List (Key × Value)} {ep : Nat} (r : KV kvs vs) (d : h.DictAt (mixKind P w) a vs ep) (z : kvs.length ≤ sizeLine) (hd : (a == sysModules) = false) : ObjOk P w H h a (DWalk P w a kvs vs ep) := by
  refine ⟨⟨r, d, z, hd⟩, ?_, fun h1 h2 ⟨r1, d1, z1, e1⟩ k => ⟨r1, d1.at' k, z1, e1⟩⟩
  obtain ⟨o, es, e, _⟩ := d
  exact ⟨o, e⟩
theorem KV.get {kvs : List (Key × V)} {vs : List (Key × Value)} (r : KV kvs vs) : ∀ {i : Nat} {k : Key} {x : V}, kvs[i]? = some (k, x) → ∃ u, vs[i]? = some (k, u) ∧ RelV x u := by
  unfold KV at r
  induction r with
  | nil => intro i k x h; simp at h
  | @cons p q l1 l2 h t ih =>
    intro i k x e
    cases i with
    | zero =>
      have e1 : p = (k, x) := by simpa using e
      subst e1
      obtain ⟨h1, h2⟩ := h
      refine ⟨q.2, ?_, h2⟩
      have : q = (k, q.2) := by rw [show k = q.1 from h1]
      rw [← this]; rfl
    | succ i => exact ih (by simpa using e)
section
variable {X : Cx} {pins : List (Addr × Obj)} {σ : St} {H : Hp} {s : Shared} {a : Addr} {kvs : List (Key × V)}
theorem Inv.walked (I : Inv X pins σ H s) (e : H a = some (.dK kvs)) : ∃ vs ep, KV kvs vs ∧ s.heap.DictAt (mixKind X.prog X.w) a vs ep ∧ (a == sysModules) = false ∧ Inv X pins σ (upd H a (DWalk X.prog X.w a kvs vs ep)) s := by
  obtain ⟨z, hd, vs, rel, dd⟩ := dk_of I.hok e
  obtain ⟨ep, da⟩ := dd.dictAt
  have ho : ∃ u, s.heap.get? a = some u := let ⟨o, _, e', _⟩ := da; ⟨o, e'⟩
  exact ⟨vs, ep, rel, da, hd, I.write (x := a) (e := a) (h' := s.heap) (t' := s.toks) (by rw [e]; exact True.intro) (.inl rfl) (fun b u _ z => z) ho (dwalk_ok rel da z hd)⟩
theorem Inv.thawed {vs : List (Key × Value)} {ep : Nat} (I : Inv X pins σ H s) (e : H a = some (DWalk X.prog X.w a kvs vs ep)) : Inv X pins σ (upd H a (.dK kvs)) s := by
  obtain ⟨⟨rel, da, z, hd⟩, ho, _⟩ := (show ObjOk X.prog X.w H s.heap a (DWalk X.prog X.w a kvs vs ep) from I.hok a _ e)
  exact I.write (x := a) (e := a) (h' := s.heap) (t' := s.toks) (by rw [e]; exact True.intro) (.inl rfl) (fun b u _ z => z) ho ⟨z, hd, vs, rel, da.dictOf⟩
end
def Itd (P : Program) (w : World) (a : Addr) (kvs : List (Key × V)) (vs : List (Key × Value)) (ep : Nat) : It :=
  ⟨fun i H => H a = some (DWalk P w a kvs vs ep) ∧ i < kvs.length,
   fun i H v H' => ∃ t k x, H t = none ∧ v = .ref t ∧ H' = upd H t (.tup [kV k, x]) ∧ kvs[i]? = some (k, x),
   fun i H => H a = some (DWalk P w a kvs vs ep) ∧ kvs.length ≤ i⟩
theorem kV_rel {k : Key} {v : Value} (h : keyIs k v = true) : RelV (kV k) v := by
  rcases keyIs_shape h with ⟨j, t, rfl, rfl⟩ | ⟨x, t, rfl, rfl⟩
  · exact ⟨t, rfl⟩
  · exact ⟨t, rfl⟩
theorem turn_items {P : Program} {w : World} {K : PySem.W.Frag} {elts : List Expr} {kk : Nat} {pos : Pos} (a it : Addr) (kvs : List (Key × V)) (vs : List (Key × Value)) (ep : Nat) (hne : a ≠ it) :
    Turn P w K (.Tuple elts kk pos) (Itd P w a kvs vs ep) [it] it (fun i h => ∃ ok ov, IsItemIter h it a i vs.length ep ok ov) where
  mem := by simp
  obj := fun i h st b hb => by
    obtain ⟨ok, ov, e⟩ := st
    have eb : b = it := by simpa using hb
    subst eb
    exact ⟨_, e, fun v z => by cases z⟩
  keep := fun i h h' st k => by
    obtain ⟨ok, ov, e⟩ := st
    exact ⟨ok, ov, k it (by simp) _ e⟩
  item := by
    intro X hP hw hK hc i pins s σ H E I hf st hg
    subst hP hw hK
    obtain ⟨ha, hi⟩ := hg
    obtain ⟨ok, ov, hit⟩ := st
    obtain ⟨⟨rel, da, z, hd⟩, _, _⟩ := (show ObjOk X.prog X.w H s.heap a (DWalk X.prog X.w a kvs vs ep) from I.hok a _ ha)
    have ek : kvs[i]? = some (kvs[i].1, kvs[i].2) := by rw [List.getElem?_eq_getElem hi]
    obtain ⟨u, eu, ru⟩ := KV.get rel ek
    generalize kvs[i].1 = k at ek eu
    generalize kvs[i].2 = x at ek ru
    have lti : it < s.heap.objs.size := Heap.lt_size hit
    refine wpAny_pyNext_items_item hit da eu fun key h1 hk out1 new1 sz1 k1 => ?_
    have rk : RelV (kV k) key := kV_rel hk
    refine ⟨_, rfl, wpAny_letOwnedTupleGo_items out1 fun h2 it2 k2 => ?_⟩
    have nit : it ≠ s.heap.objs.size := Nat.ne_of_lt lti
    have new2 : h2.get? s.heap.objs.size = some { cls := .type "tuple", data := .seq #[key, u] } := (k2.2 _ (Ne.symm nit)).trans new1
    have new : ObjOk X.prog X.w (upd H s.heap.objs.size (.tup [kV k, x])) (s.heap.push { cls := .type "tuple", data := .seq #[key, u] }) s.heap.objs.size (.tup [kV k, x]) :=
      ⟨(by show 2 ≤ sizeLine; decide), [key, u], .cons rk (.cons ru .nil), _, Heap.get?_push_size _ rfl, rfl, _, rfl⟩
    have I1 : Inv X pins σ (upd H s.heap.objs.size (.tup [kV k, x])) { s with heap := s.heap.push { cls := .type "tuple", data := .seq #[key, u] }, toks := s.toks } := I.laid (fun c o e => Heap.get?_push_of_some _ e) (Nat.le_refl _) new
    have hf1 : ∀ c ∈ [it], FpOk X pins (upd H s.heap.objs.size (.tup [kV k, x])) c := fun c hc => by
      obtain ⟨f0, f⟩ := hf c hc
      have ec : c = it := by simpa using hc
      exact ⟨by rw [upd_ne (by rw [ec]; exact nit)]; exact f0, f⟩
    have I2 : Inv X pins σ (upd H s.heap.objs.size (.tup [kV k, x])) { s with heap := h2, toks := s.toks } := by
      have I3 := I1.turnedL (t' := s.toks) (h' := h2) (fp := [it]) (fun c o hc e => ?_) hf1
      · exact I3
      have cz : c ≠ it := fun m => hc (by simp [m])
      rcases Heap.get?_push_cases e with ⟨rfl, rfl⟩ | e
      · exact new2
      · exact (k2.2 c cz).trans (k1 c o cz e)
    refine ⟨.ref s.heap.objs.size, _, I2, rfl, ⟨s.heap.objs.size, k, x, I.hok.fresh (Nat.le_refl _), rfl, rfl, ek⟩, ⟨_, _, it2⟩, fun b hb => (hf1 b hb).1⟩
  done := by
    intro X hP hw hK hc i pins s σ H E I hf st hg
    subst hP hw hK
    obtain ⟨ha, hi⟩ := hg
    obtain ⟨ok, ov, hit⟩ := st
    obtain ⟨⟨rel, da, z, hd⟩, _, _⟩ := (show ObjOk X.prog X.w H s.heap a (DWalk X.prog X.w a kvs vs ep) from I.hok a _ ha)
    have hl := rel.length
    refine wpAny_pyNext_items_end (I.ok.hd hc) hit da (by rw [List.getElem?_eq_none]; omega) fun h' k => ⟨rfl, I.turnedL (t' := s.toks) (fp := [it]) (fun c o hc' e => k c o (fun m => hc' (by simp [m])) e) hf⟩
  self := fun _ _ _ _ _ st h => let ⟨_, _, e⟩ := st; PySem.W.kcp_self e h
def iItems (P : Program) (w : World) (td : TE) : TI := fun σ H R => td σ H fun x H1 => ∃ a kvs, x = .ref a ∧ H1 a = some (.dK kvs) ∧ ∀ vs ep, R (Itd P w a kvs vs ep) (upd H1 a (DWalk P w a kvs vs ep))
section
variable {X : Cx} {P : Program} {w : World}
theorem pi_items {elts : List Expr} {k : Nat} {pt : Pos} {o : Expr} {td : TE} {apos cpos : Pos} (hP : X.prog = P) (hw : X.w = w) (ho : PE X o td) (hbase : attributeBase o "items" X.env (eval o X.env) = eval o X.env := by rfl) (hline : (apos.endLine == cpos.line) = true := by rfl) :
    PI X (.Tuple elts k pt) (.Call (.Attribute o "items" apos) [] [] cpos) (iItems P w td) := by
  subst hP hw
  intro pins s σ H R I h
  refine wpAny_Call_method0_late hbase hline (thn (ho pins s σ H _ I h) fun v s1 ⟨x, H1, I1, r1, a, kvs, ex, ea, q1⟩ => ?_)
  subst ex
  obtain rfl : v = Value.ref a := r1
  obtain ⟨t1, t2, _⟩ := isD_at I1 (.inl ⟨kvs, .inl ea⟩)
  obtain ⟨vs, ep, rel, da, hd, I2⟩ := I1.walked ea
  refine ⟨"dict", _, PySem.F.plainAttrs_dict, PySem.F.slot_dict_items, PySem.F.type_dict_items, t1, t2, Calls.callWith_builtin rfl (PySem.evalArgs_none ?_)⟩
  refine call_meetsIn PySem.F.slot_dict_items da.dictOf.typeIs PySem.F.entry_dict_items (PySem.F.args_dict_items_1 _) (meets_dict_items (mixKind X.prog X.w) a hd) ⟨⟨vs, da.dictOf⟩, ?_⟩
  refine wpAny_pyIter_items ⟨_, Heap.get?_push_size _ rfl, rfl, rfl⟩ (da.push _) ?_
  have lta : a < s1.heap.objs.size := da.lt_size
  rw [Heap.size_push]
  have ne : a ≠ s1.heap.objs.size + 1 := Nat.ne_of_lt (Nat.lt_succ_of_lt lta)
  refine ⟨s1.heap.objs.size + 1, [s1.heap.objs.size + 1], _, _, upd H1 a (DWalk X.prog X.w a kvs vs ep), rfl, I2.kept (t' := s1.toks) fun b o e => Heap.get?_push_of_some _ (Heap.get?_push_of_some _ e), turn_items a _ kvs vs ep ne, ⟨.none, .none, ?_⟩, fun c hc => ?_, q1 vs ep⟩
  · have := Heap.get?_push_size (s1.heap.push { cls := .type "dict_items", data := .fields #[.ref a] }) (o := { cls := .type "dict_itemiterator", data := .fields #[.none, .bool false, .ref a, .int 0 0, .int vs.length 0, .int ep 0, .none, .none] }) rfl
    rwa [Heap.size_push] at this
  · have ge : s1.heap.objs.size ≤ c := by
      have : c = s1.heap.objs.size + 1 := by simpa using hc
      rw [this]; exact Nat.le_succ _
    refine I2.fpOk ge ?_
    have nc : c ≠ a := Ne.symm (Nat.ne_of_lt (Nat.lt_of_lt_of_le lta ge))
    rw [upd_ne nc]
    exact I1.hok.fresh ge
end
def Thaw (P : Program) (w : World) (H : Hp) (k : Hp → Prop) : Prop := ∃ a kvs vs ep, H a = some (DWalk P w a kvs vs ep) ∧ k (upd H a (.dK kvs))
def tThaw (P : Program) (w : World) (t : TE) : TE := fun σ H Q => t σ H fun v H1 => Thaw P w H1 (Q v)
def sThaw (P : Program) (w : World) (t : TS) : TS := fun D σ H => t { nx := fun σ' H1 => Thaw P w H1 (D.nx σ'), rt := fun v H1 => Thaw P w H1 (D.rt v), bk := fun σ' H1 => Thaw P w H1 (D.bk σ'), ct := fun σ' H1 => Thaw P w H1 (D.ct σ') } σ H
section
variable {X : Cx} {P : Program} {w : World} {e : Expr} {st : Stmt} {t : TE} {ts : TS}
theorem pe_thaw (hP : X.prog = P) (hw : X.w = w) (h : PE X e t) : PE X e (tThaw P w t) := by
  subst hP hw
  intro pins s σ H Q I hh
  exact thn (h pins s σ H _ I hh) fun v s1 ⟨x, H1, I1, r, a, kvs, vs, ep, ea, q⟩ => ⟨x, _, I1.thawed ea, r, q⟩
theorem ps_thaw (hP : X.prog = P) (hw : X.w = w) (h : PS X st ts) : PS X st (sThaw P w ts) := by
  subst hP hw
  intro pins s σ H D I hh
  refine thn (h pins s σ H _ I hh) fun f s1 q => ?_
  cases f with
  | next => obtain ⟨σ', H1, I1, a, kvs, vs, ep, ea, q⟩ := q; exact ⟨σ', _, I1.thawed ea, q⟩
  | brk => obtain ⟨σ', H1, I1, a, kvs, vs, ep, ea, q⟩ := q; exact ⟨σ', _, I1.thawed ea, q⟩
  | cont => obtain ⟨σ', H1, I1, a, kvs, vs, ep, ea, q⟩ := q; exact ⟨σ', _, I1.thawed ea, q⟩
  | ret u => obtain ⟨v, σ', H1, I1, r, a, kvs, vs, ep, ea, q⟩ := q; exact ⟨v, σ', _, I1.thawed ea, r, q⟩
end
theorem for_items {P : Program} {w : World} {a : Addr} {kvs : List (Key × V)} {vs : List (Key × Value)} {ep : Nat} {g : TG} {tb : TS} {D : Ends} {σ : St} {H : Hp} (Pv : Nat → St → Hp → Prop) (h0 : Pv 0 σ H) (hl : ∀ i σ H, i ≤ kvs.length → Pv i σ H → H a = some (DWalk P w a kvs vs ep))
    (hs : ∀ i k x σ H t, kvs[i]? = some (k, x) → Pv i σ H → H t = none → g (.ref t) σ (upd H t (.tup [kV k, x])) fun σ2 H2 => tb { D with nx := Pv (i + 1), ct := Pv (i + 1), bk := D.nx } σ2 H2) (hd : ∀ σ H, Pv kvs.length σ H → D.nx σ H) :
    ∃ W : Nat → Nat → St → Hp → Prop, (∃ m, W 0 m σ H) ∧ ∀ i m σ H, W i m σ H →
      ((Itd P w a kvs vs ep).stop i H ∧ D.nx σ H) ∨ ((Itd P w a kvs vs ep).go i H ∧ ∃ N : St → Hp → Prop, (∀ σ' H', N σ' H' → ∃ m', m' < m ∧ W (i + 1) m' σ' H') ∧ ∀ x H', (Itd P w a kvs vs ep).yld i H x H' → g x σ H' fun σ2 H2 => tb { D with nx := N, ct := N, bk := D.nx } σ2 H2) := by
  refine ⟨fun i m σ H => m = kvs.length - i ∧ i ≤ kvs.length ∧ Pv i σ H, ⟨kvs.length, by simp, Nat.zero_le _, h0⟩, ?_⟩
  rintro i m σ H ⟨rfl, hi, p⟩
  have q1 := hl i σ H hi p
  by_cases hlt : i < kvs.length
  · refine .inr ⟨⟨q1, hlt⟩, Pv (i + 1), fun σ' H' p' => ⟨kvs.length - (i + 1), by omega, rfl, hlt, p'⟩, fun v H' y => ?_⟩
    obtain ⟨t, k, x, ht, rfl, rfl, e⟩ := y
    exact hs i k x σ _ t e p ht
  · have e : i = kvs.length := by omega
    subst e
    exact .inl ⟨⟨q1, Nat.le_refl _⟩, hd σ H p⟩
theorem compW_items {P : Program} {w : World} {a : Addr} {kvs : List (Key × V)} {vs : List (Key × Value)} {ep : Nat} {H : Hp} {one : V → Hp → (Option V → Hp → Prop) → Prop} {Q : List V → Hp → Prop} (Pv : Nat → List V → Hp → Prop) (h0 : Pv 0 [] H) (hn : kvs.length ≤ sizeLine)
    (hl : ∀ i zs H, i ≤ kvs.length → Pv i zs H → H a = some (DWalk P w a kvs vs ep)) (hs : ∀ i k x zs H t, kvs[i]? = some (k, x) → Pv i zs H → H t = none → one (.ref t) (upd H t (.tup [kV k, x])) fun o H2 => Pv (i + 1) (zs ++ o.toList) H2) (hd : ∀ zs H, Pv kvs.length zs H → Q zs H) : CompW (Itd P w a kvs vs ep) H one Q := by
  refine ⟨kvs.length, fun i zs H => i ≤ kvs.length ∧ Pv i zs H, ⟨Nat.zero_le _, h0⟩, hn, ?_⟩
  rintro i zs H ⟨hi, p⟩
  have q1 := hl i zs H hi p
  by_cases hlt : i < kvs.length
  · refine .inr ⟨⟨q1, hlt⟩, hlt, fun o H3 => Pv (i + 1) (zs ++ o.toList) H3, fun o H3 z => ⟨hlt, z⟩, fun v H2 y => ?_⟩
    obtain ⟨t, k, x, ht, rfl, rfl, e⟩ := y
    exact hs i k x zs _ t e p ht
  · have e : i = kvs.length := by omega
    subst e
    exact .inl ⟨⟨q1, Nat.le_refl _⟩, hd zs H p⟩
def tSumV (td : TE) : TE := fun σ H Q => td σ H fun x H1 => ∃ (a : Addr) (kvs : List (Key × V)) (ns : List Int), x = .ref a ∧ H1 a = some (.dK kvs) ∧ kvs.map (·.2) = ns.map V.int ∧ Q (.int ns.sum) H1
theorem preSum_take (ns : List Int) : ∀ j : Nat, preSum (fun i => ns.getD i 0) j = (ns.take j).sum
  | 0 => by simp [preSum]
  | j + 1 => by
    rw [preSum, preSum_take ns j, List.take_add_one, List.sum_append, List.getD_eq_getElem?_getD]
    cases e : ns[j]? with
    | none => simp
    | some x => simp
theorem preSum_list (ns : List Int) : preSum (fun i => ns.getD i 0) ns.length = ns.sum := by rw [preSum_take, List.take_length]
section
variable {X : Cx}
theorem pe_sumV {o : Expr} {td : TE} {p pos apos cpos : Pos} (hc : X.calm = true) (hg : Gl X "sum") (hm : X.mg "sum" = none) (ho : PE X o td) (hbase : attributeBase o "values" X.env (eval o X.env) = eval o X.env := by rfl) (hline : (apos.endLine == cpos.line) = true := by rfl)
    (hs : starEach [.Call (.Attribute o "values" apos) [] [] cpos] X.env = [(false, eval (.Call (.Attribute o "values" apos) [] [] cpos) X.env)] := by rfl) :
    PE X (.Call (.Name "sum" p) [.Call (.Attribute o "values" apos) [] [] cpos] [] pos) (tSumV td) := by
  intro pins s σ H Q I h
  refine wpAny_Call_Name_kw (ld_blt I hg hm bt_sum ?_)
  refine PyProof.Rows.callWith_builtin1 ?_ hs rfl
  rw [hs]
  show wpAny _ _ (spliced ((false, eval (.Call (.Attribute o "values" apos) [] [] cpos) X.env) :: [])) _ _ s
  refine Calls.spliced_cons (wpAny_Call_method0_late hbase hline (thn (ho pins s σ H _ I h) fun v s1 ⟨x, H1, I1, r1, a, kvs, ns, ex, ea, en, q1⟩ => ?_))
  subst ex
  obtain rfl : v = Value.ref a := r1
  obtain ⟨t1, t2, _⟩ := isD_at I1 (.inl ⟨kvs, .inl ea⟩)
  obtain ⟨z, hd, vs, rel, dd⟩ := dk_of I1.hok ea
  obtain ⟨ep, da⟩ := dd.dictAt
  refine ⟨"dict", _, PySem.F.plainAttrs_dict, PySem.F.slot_dict_values, PySem.F.type_dict_values, t1, t2, Calls.callWith_builtin rfl (PySem.evalArgs_none ?_)⟩
  refine call_meetsIn PySem.F.slot_dict_values dd.typeIs PySem.F.entry_dict_values (PySem.F.args_dict_values_1 _) (meets_dict_values (mixKind X.prog X.w) a hd) ⟨⟨vs, dd⟩, ?_⟩
  refine Calls.spliced_nil ?_
  generalize hs2 : ({ s1 with heap := s1.heap.push { cls := .type "dict_values", data := .fields #[.ref a] } } : Shared) = s2
  have hk2 : ∀ b o, s1.heap.get? b = some o → s2.heap.get? b = some o := fun b o e => by rw [← hs2]; exact Heap.get?_push_of_some _ e
  have I2 : Inv X pins σ H1 s2 := by rw [← hs2]; exact I1.kept (t' := s1.toks) fun b o e => Heap.get?_push_of_some _ e
  have hv : s2.heap.IsValuesView s1.heap.objs.size a := by rw [← hs2]; exact ⟨_, Heap.get?_push_size _ rfl, rfl, rfl⟩
  have da2 : s2.heap.DictAt (mixKind X.prog X.w) a vs ep := da.at' fun o e => hk2 _ _ e
  refine call_sum_walkAnyS ?_
  have Kd := PySem.W.kdl_values (prog := X.prog) (w := X.w) (knd := mixKind X.prog X.w) (kvs := vs) (ep := ep) (r := s1.heap.objs.size) (d := a)
  obtain ⟨oI, St, hit, W, st⟩ := Kd.iter X.A.in1 s2 (I.ok.hd hc) ⟨hv, da2⟩
  have hl := rel.length
  have ln : kvs.length = ns.length := by have := congrArg List.length en; simpa using this
  refine hit _ _ ⟨s2.heap.objs.size, _, _, _, vs.length, _, _, (fun i => ns.getD i 0), rfl, W.toS, st, fun b hb => ?_, fun i u hu => ?_, fun s' t' hm => ?_⟩
  · show b < (s2.heap.push oI).objs.size
    rw [Heap.size_push]
    rcases List.mem_cons.mp hb with e | hb
    · rw [e]; exact Nat.lt_succ_self _
    · rw [List.mem_singleton.mp hb]; exact Nat.lt_succ_of_lt (Kd.there _ ⟨hv, da2⟩).2
  · obtain ⟨k, hx⟩ := hu
    have hi : i < kvs.length := by rw [hl]; exact (List.getElem?_eq_some_iff.mp hx).1
    obtain ⟨u', e1, ru⟩ := KV.get rel (i := i) (k := kvs[i].1) (x := kvs[i].2) (by rw [List.getElem?_eq_getElem hi])
    rw [hx] at e1
    have e2 : u = u' := congrArg Prod.snd (Option.some.inj e1)
    subst e2
    have e3 : kvs[i].2 = V.int (ns.getD i 0) := by
      have : (kvs.map (·.2))[i]? = (ns.map V.int)[i]? := by rw [en]
      rw [List.getElem?_map, List.getElem?_map, List.getElem?_eq_getElem hi, List.getElem?_eq_getElem (show i < ns.length by omega)] at this
      rw [List.getD_eq_getElem?_getD, List.getElem?_eq_getElem (show i < ns.length by omega)]
      exact Option.some.inj this
    rw [e3] at ru
    exact ru
  · have hk : ∀ b o, s2.heap.get? b = some o → s'.heap.get? b = some o := fun b o e =>
      hm.heap b o (fun hI => absurd (Heap.lt_size e) (by rw [List.mem_singleton.mp hI]; exact Nat.lt_irrefl _)) (Heap.get?_push_of_some _ e)
    rw [Moved.eq_with hm]
    refine ⟨.int ns.sum, H1, I2.kept (t' := s'.toks) hk, ⟨t', ?_⟩, q1⟩
    rw [← preSum_list ns, ← ln, hl]
end
end L2
namespace L2
open PySem PySem.Spec PyProof.Rows
def Itk (P : Program) (w : World) (a : Addr) (kvs : List (Key × V)) (vs : List (Key × Value)) (ep : Nat) : It :=
  ⟨fun i H => H a = some (DWalk P w a kvs vs ep) ∧ i < kvs.length,
   fun i H v H' => H' = H ∧ ∃ k x, v = kV k ∧ kvs[i]? = some (k, x),
   fun i H => H a = some (DWalk P w a kvs vs ep) ∧ kvs.length ≤ i⟩
theorem turn_keys {P : Program} {w : World} {K : PySem.W.Frag} {tg : Expr} (a it : Addr) (kvs : List (Key × V)) (vs : List (Key × Value)) (ep : Nat) :
    Turn P w K tg (Itk P w a kvs vs ep) [it] it (fun i h => h.IsKeyIter it a i vs.length ep) where
  mem := by simp
  obj := fun i h st b hb => by
    obtain ⟨o, e, c, d⟩ := st
    have eb : b = it := by simpa using hb
    subst eb
    exact ⟨o, e, fun v z => by rw [d] at z; cases z⟩
  keep := fun i h h' st k => by
    obtain ⟨o, e, c, d⟩ := st
    exact ⟨o, k it (by simp) _ e, c, d⟩
  item := by
    intro X hP hw hK hc i pins s σ H E I hf st hg
    subst hP hw hK
    obtain ⟨ha, hi⟩ := hg
    obtain ⟨⟨rel, da, z, hd⟩, _, _⟩ := (show ObjOk X.prog X.w H s.heap a (DWalk X.prog X.w a kvs vs ep) from I.hok a _ ha)
    have ek : kvs[i]? = some (kvs[i].1, kvs[i].2) := by rw [List.getElem?_eq_getElem hi]
    obtain ⟨u, eu, ru⟩ := KV.get rel ek
    generalize kvs[i].1 = k at ek eu
    generalize kvs[i].2 = x at ek ru
    refine wpAny_pyNext_dict_item st da eu fun key h1 hk it1 k1 => ?_
    have rk : RelV (kV k) key := kV_rel hk
    have I2 : Inv X pins σ H { s with heap := h1, toks := s.toks } := I.turnedL (t' := s.toks) (fp := [it]) (fun c o hc e => (k1.2 c (fun m => hc (by simp [m]))).trans e) hf
    obtain ⟨o, e, c, d⟩ := id it1
    exact ⟨key, rfl, go_of (s := { s with heap := h1 }) e c d (by decide) ⟨kV k, H, I2, rk, ⟨rfl, k, x, rfl, ek⟩, it1, fun b hb => (hf b hb).1⟩⟩
  done := by
    intro X hP hw hK hc i pins s σ H E I hf st hg
    subst hP hw hK
    obtain ⟨ha, hi⟩ := hg
    obtain ⟨⟨rel, da, z, hd⟩, _, _⟩ := (show ObjOk X.prog X.w H s.heap a (DWalk X.prog X.w a kvs vs ep) from I.hok a _ ha)
    have hl := rel.length
    refine wpAny_pyNext_dict_end (I.ok.hd hc) st da (by rw [List.getElem?_eq_none]; omega) fun h' k => ⟨rfl, I.turnedL (t' := s.toks) (fp := [it]) (fun c o hc' e => k c o (fun m => hc' (by simp [m])) e) hf⟩
  self := fun _ _ _ _ _ st h => wpAny_pyIter_keyiter st h
def iKeys (P : Program) (w : World) (td : TE) : TI := fun σ H R => td σ H fun x H1 => ∃ a kvs, x = .ref a ∧ H1 a = some (.dK kvs) ∧ ∀ vs ep, R (Itk P w a kvs vs ep) (upd H1 a (DWalk P w a kvs vs ep))
section
variable {X : Cx} {P : Program} {w : World}
theorem pi_keys {tg o : Expr} {td : TE} (hP : X.prog = P) (hw : X.w = w) (ho : PE X o td) : PI X tg o (iKeys P w td) := by
  subst hP hw
  intro pins s σ H R I h
  refine thn (ho pins s σ H _ I h) fun v s1 ⟨x, H1, I1, r1, a, kvs, ex, ea, q1⟩ => ?_
  subst ex
  obtain rfl : v = Value.ref a := r1
  obtain ⟨vs, ep, rel, da, hd, I2⟩ := I1.walked ea
  refine wpAny_pyIter_dict hd da ?_
  have lta : a < s1.heap.objs.size := da.lt_size
  refine ⟨s1.heap.objs.size, [s1.heap.objs.size], _, _, upd H1 a (DWalk X.prog X.w a kvs vs ep), rfl, I2.kept (t' := s1.toks) fun b o e => Heap.get?_push_of_some _ e, turn_keys a _ kvs vs ep, ⟨_, Heap.get?_push_size _ rfl, rfl, rfl⟩, fun c hc => ?_, q1 vs ep⟩
  have ge : s1.heap.objs.size ≤ c := by
    have : c = s1.heap.objs.size := by simpa using hc
    rw [this]; exact Nat.le_refl _
  refine I2.fpOk ge ?_
  have nc : c ≠ a := Ne.symm (Nat.ne_of_lt (Nat.lt_of_lt_of_le lta ge))
  rw [upd_ne nc]
  exact I1.hok.fresh ge
end
theorem for_keys {P : Program} {w : World} {a : Addr} {kvs : List (Key × V)} {vs : List (Key × Value)} {ep : Nat} {g : TG} {tb : TS} {D : Ends} {σ : St} {H : Hp} (Pv : Nat → St → Hp → Prop) (h0 : Pv 0 σ H) (hl : ∀ i σ H, i ≤ kvs.length → Pv i σ H → H a = some (DWalk P w a kvs vs ep))
    (hs : ∀ i k x σ H, kvs[i]? = some (k, x) → Pv i σ H → g (kV k) σ H fun σ2 H2 => tb { D with nx := Pv (i + 1), ct := Pv (i + 1), bk := D.nx } σ2 H2) (hd : ∀ σ H, Pv kvs.length σ H → D.nx σ H) :
    ∃ W : Nat → Nat → St → Hp → Prop, (∃ m, W 0 m σ H) ∧ ∀ i m σ H, W i m σ H →
      ((Itk P w a kvs vs ep).stop i H ∧ D.nx σ H) ∨ ((Itk P w a kvs vs ep).go i H ∧ ∃ N : St → Hp → Prop, (∀ σ' H', N σ' H' → ∃ m', m' < m ∧ W (i + 1) m' σ' H') ∧ ∀ x H', (Itk P w a kvs vs ep).yld i H x H' → g x σ H' fun σ2 H2 => tb { D with nx := N, ct := N, bk := D.nx } σ2 H2) := by
  refine ⟨fun i m σ H => m = kvs.length - i ∧ i ≤ kvs.length ∧ Pv i σ H, ⟨kvs.length, by simp, Nat.zero_le _, h0⟩, ?_⟩
  rintro i m σ H ⟨rfl, hi, p⟩
  have q1 := hl i σ H hi p
  by_cases hlt : i < kvs.length
  · refine .inr ⟨⟨q1, hlt⟩, Pv (i + 1), fun σ' H' p' => ⟨kvs.length - (i + 1), by omega, rfl, hlt, p'⟩, fun v H' y => ?_⟩
    obtain ⟨rfl, k, x, rfl, e⟩ := y
    exact hs i k x σ _ e p
  · have e : i = kvs.length := by omega
    subst e
    exact .inl ⟨⟨q1, Nat.le_refl _⟩, hd σ H p⟩
theorem compW_keys {P : Program} {w : World} {a : Addr} {kvs : List (Key × V)} {vs : List (Key × Value)} {ep : Nat} {H : Hp} {one : V → Hp → (Option V → Hp → Prop) → Prop} {Q : List V → Hp → Prop} (Pv : Nat → List V → Hp → Prop) (h0 : Pv 0 [] H) (hn : kvs.length ≤ sizeLine)
    (hl : ∀ i zs H, i ≤ kvs.length → Pv i zs H → H a = some (DWalk P w a kvs vs ep)) (hs : ∀ i k x zs H, kvs[i]? = some (k, x) → Pv i zs H → one (kV k) H fun o H2 => Pv (i + 1) (zs ++ o.toList) H2) (hd : ∀ zs H, Pv kvs.length zs H → Q zs H) : CompW (Itk P w a kvs vs ep) H one Q := by
  refine ⟨kvs.length, fun i zs H => i ≤ kvs.length ∧ Pv i zs H, ⟨Nat.zero_le _, h0⟩, hn, ?_⟩
  rintro i zs H ⟨hi, p⟩
  have q1 := hl i zs H hi p
  by_cases hlt : i < kvs.length
  · refine .inr ⟨⟨q1, hlt⟩, hlt, fun o H3 => Pv (i + 1) (zs ++ o.toList) H3, fun o H3 z => ⟨hlt, z⟩, fun v H2 y => ?_⟩
    obtain ⟨rfl, k, x, rfl, e⟩ := y
    exact hs i k x zs _ e p
  · have e : i = kvs.length := by omega
    subst e
    exact .inl ⟨⟨q1, Nat.le_refl _⟩, hd zs H p⟩
def tDGetW (P : Program) (w : World) (td ty : TE) : TE := fun σ H Q => td σ H fun x H1 => ty σ H1 fun y H2 => ∃ a kvs vs ep k v, x = .ref a ∧ H2 a = some (DWalk P w a kvs vs ep) ∧ y = kV k ∧ valV kvs k = some v ∧ Q v H2
section
variable {X : Cx} {P : Program} {w : World} {o i : Expr} {pos : Pos} {td ty : TE}
theorem pe_dgetW (hP : X.prog = P) (hw : X.w = w) (ho : PE X o td) (hi : PE X i ty) (hs : NoSl i) : PE X (.Subscript o i pos) (tDGetW P w td ty) := by
  subst hP hw
  intro pins s σ H Q I h
  refine subD_of PySem.F.slot_dict_getitem.lookup hs (thn (ho pins s σ H _ I h) fun u s1 ⟨x, H1, I1, rx, q1⟩ => thn (hi pins s1 σ H1 _ I1 q1) fun iv s2 ⟨y, H2, I2, ry, a, kvs, vs, ep, k, v, ex, ea, ey, l, q2⟩ => ?_)
  subst ex ey
  obtain rfl : u = Value.ref a := rx
  obtain ⟨⟨rel, da, z, hd⟩, _, _⟩ := (show ObjOk X.prog X.w H2 s2.heap a (DWalk X.prog X.w a kvs vs ep) from I2.hok a _ ea)
  obtain ⟨w', hw', rw'⟩ := RelO.some_of (v := v) (o := valueAt vs k) (by rw [← l]; exact rel.val k)
  exact ⟨da.dictOf.typeIs, wpAny_getItem_of (kV_is ry) da.dictOf.mapOf hw' ⟨v, H2, I2.tok _, rw', q2⟩⟩
end
end L2
namespace L2
open PySem PySem.Spec PyProof.Rows
end L2
namespace L2
open PySem PySem.Spec PyProof.Rows
def spread (ks : List Int) (L : List Int) : List Int := ks.flatMap fun k => List.replicate (L.count k) k
theorem spread_cons (k : Int) (ks L : List Int) : spread (k :: ks) L = List.replicate (L.count k) k ++ spread ks L := by unfold spread; rw [List.flatMap_cons]
theorem spread_mem {ks L : List Int} {x : Int} : x ∈ spread ks L ↔ x ∈ ks ∧ x ∈ L := by
  unfold spread
  rw [List.mem_flatMap]
  constructor
  · rintro ⟨k, hk, hx⟩
    obtain ⟨h1, rfl⟩ := List.mem_replicate.mp hx
    exact ⟨hk, List.count_pos_iff.mp (by omega)⟩
  · rintro ⟨hk, hL⟩
    exact ⟨x, hk, List.mem_replicate.mpr ⟨by have := List.count_pos_iff.mpr hL; omega, rfl⟩⟩
theorem spread_count {ks : List Int} (hn : ks.Nodup) (L : List Int) (x : Int) : (spread ks L).count x = if x ∈ ks then L.count x else 0 := by
  induction ks with
  | nil => simp [spread]
  | cons k ks ih =>
    rw [spread_cons, List.count_append, List.count_replicate, ih (List.nodup_cons.mp hn).2]
    have hk := (List.nodup_cons.mp hn).1
    by_cases z : k = x
    · subst z
      rw [if_neg hk]; simp
    · have z' : ¬ x = k := fun e => z e.symm
      simp [z, z']
theorem spread_perm {ks L : List Int} (hn : ks.Nodup) (h : ∀ x ∈ L, x ∈ ks) : (spread ks L).Perm L := by
  rw [List.perm_iff_count]
  intro x
  rw [spread_count hn]
  by_cases z : x ∈ ks
  · rw [if_pos z]
  · rw [if_neg z, List.count_eq_zero.mpr fun hx => z (h x hx)]
theorem spread_rise {ks : List Int} (hr : ks.Pairwise (· < ·)) (L : List Int) : (spread ks L).Pairwise (· ≤ ·) := by
  induction ks with
  | nil => exact .nil
  | cons k ks ih =>
    obtain ⟨h1, h2⟩ := List.pairwise_cons.mp hr
    rw [spread_cons, List.pairwise_append]
    refine ⟨List.pairwise_replicate.mpr (.inr (Int.le_refl _)), ih h2, fun a ha b hb => ?_⟩
    have e := (List.mem_replicate.mp ha).2
    have := h1 b (spread_mem.mp hb).1
    omega
theorem spread_sort {ks L : List Int} (hr : ks.Pairwise (· < ·)) (h : ∀ x ∈ L, x ∈ ks) : spread ks L = sortI L :=
  sortI_eq (spread_perm (hr.imp fun h => Int.ne_of_lt h) h) (spread_rise hr L)
theorem spread_len (ks L : List Int) : ((spread ks L).length : Int) = (ks.map fun k => (L.count k : Int)).sum := by
  induction ks with
  | nil => rfl
  | cons k ks ih => rw [spread_cons, List.length_append, List.length_replicate, List.map_cons, List.sum_cons, ← ih]; omega
theorem tally_many {ks L : List Int} (hn : ks.Nodup) (h : ∀ x ∈ L, x ∈ ks) : (ks.map fun k => (L.count k : Int)).sum = L.length := by
  rw [← spread_len, (spread_perm hn h).length_eq]
theorem spread_at {ks L : List Int} {pl : Int} (p0 : 0 ≤ pl) : ∀ {i : Nat} {k : Int}, ks[i]? = some k → (((ks.take i).map fun k => (L.count k : Int)).sum ≤ pl) → pl < ((ks.take (i + 1)).map fun k => (L.count k : Int)).sum → (spread ks L)[pl.toNat]? = some k := by
  intro i k hk h1 h2
  have e : ks = ks.take i ++ k :: ks.drop (i + 1) := by
    obtain ⟨hi, ei⟩ := List.getElem?_eq_some_iff.mp hk
    rw [← ei, ← List.drop_eq_getElem_cons hi, List.take_append_drop]
  have e2 : ks.take (i + 1) = ks.take i ++ [k] := by rw [List.take_add_one, hk]; rfl
  rw [e2, ← spread_len] at h2
  rw [← spread_len] at h1
  have es : spread ks L = spread (ks.take i) L ++ (List.replicate (L.count k) k ++ spread (ks.drop (i + 1)) L) := by
    rw [← spread_cons]
    unfold spread
    rw [← List.flatMap_append, ← e]
  have e3 : spread (ks.take i ++ [k]) L = spread (ks.take i) L ++ List.replicate (L.count k) k := by
    unfold spread
    rw [List.flatMap_append]; simp
  rw [e3, List.length_append, List.length_replicate] at h2
  rw [es, List.getElem?_append_right (by omega), List.getElem?_append_left (by rw [List.length_replicate]; omega), List.getElem?_replicate, if_pos (by omega)]
theorem tally_nth {ks L : List Int} (hr : ks.Pairwise (· < ·)) (h : ∀ x ∈ L, x ∈ ks) {pl : Int} (p0 : 0 ≤ pl) {i : Nat} {k : Int} (hk : ks[i]? = some k) (h2 : pl < ((ks.take (i + 1)).map fun k => (L.count k : Int)).sum)
    (hb : ∀ j, j < i → ¬ pl < ((ks.take (j + 1)).map fun k => (L.count k : Int)).sum) : (sortI L)[pl.toNat]? = some k := by
  rw [← spread_sort hr h]
  refine spread_at p0 hk ?_ h2
  cases i with
  | zero => simpa using p0
  | succ i => exact Int.not_lt.mp (hb i (Nat.lt_succ_self i))
theorem spread_filter (ks L : List Int) (n : Int) : ((spread ks L).countP (fun x => decide (x < n)) : Int) = ((ks.filter fun k => decide (k < n)).map fun k => (L.count k : Int)).sum := by
  induction ks with
  | nil => rfl
  | cons k ks ih =>
    rw [spread_cons, List.countP_append, List.countP_replicate, List.filter_cons]
    by_cases z : k < n
    · simp only [z, decide_true, if_true, List.map_cons, List.sum_cons, ← ih]; omega
    · simp only [z, decide_false, if_false, Bool.false_eq_true, ← ih]; omega
theorem tally_below {ks L : List Int} (hn : ks.Nodup) (h : ∀ x ∈ L, x ∈ ks) (n : Int) : ((ks.filter fun k => decide (k < n)).map fun k => (L.count k : Int)).sum = (L.countP fun x => decide (x < n) : Nat) := by
  rw [← spread_filter, (spread_perm hn h).countP_eq]
end L2
namespace L2
open PySem PySem.Spec PyProof.Rows
def RawM (K : PySem.W.Frag) (C : Addr) (m qual : Str) (ps : List Str) (st : Stmt) : Prop := ∃ f fd, Meth K C m f ∧ Fun K m qual st f fd ∧ Binds K fd ps []
def RawI (K : PySem.W.Frag) (C : Addr) (qual : Str) (ps : List Str) (st : Stmt) : Prop := ∃ f fd, Mk K C f ∧ Fun K "__init__" qual st f fd ∧ Binds K fd ps []
def DfM (P : Program) (w : World) (K : PySem.W.Frag) (mg : Str → Option Value) (base : Heap) (k : Nat) (C : Addr) (m : Str) (ps : List Str) (sp : Sp) : Prop :=
  ∃ (f : Addr) (fd : FuncData), FnOk P w K mg base CX0 k f fd ps sp ∧ Meth K C m f ∧ Binds K fd ps [] ∧ ∃ qual st, Fun K m qual st f fd
def DfI (P : Program) (w : World) (K : PySem.W.Frag) (mg : Str → Option Value) (base : Heap) (k : Nat) (C : Addr) (ps : List Str) (sp : Sp) : Prop :=
  ∃ (f : Addr) (fd : FuncData), FnOk P w K mg base CX0 k f fd ps sp ∧ Mk K C f ∧ Binds K fd ps [] ∧ ∃ qual st, Fun K "__init__" qual st f fd
section
variable {P : Program} {w : World} {K : PySem.W.Frag} {mg : Str → Option Value} {base : Heap}
theorem RawM.ok {C : Addr} {m qual : Str} {ps N : List Str} {st : Stmt} {k : Nat} {sp : Sp} (R : RawM K C m qual ps st) (S : FnScope N ps (defScope st)) (len : ∀ vs H Q E, sp vs H Q E → vs.length = ps.length)
    (hbody : ∀ (f : Addr) (cdv : Value) (A : Around) (outer : List Env) (s : Shared) (H : Hp) (vs : List V) (Q : VK) (E : XK), Room k (A.deeper (envOfC qual (defScope st) s.heap.objs.size f cdv)) → sp vs H Q E →
      ∃ t, PSs (cxOf CX0 P w K mg base N qual (defScope st) f cdv A outer s H E).nox (defBody st) t ∧ t { nx := fun _ H' => Q .non H', rt := Q } (start N vs) H) : DfM P w K mg base (k + 1) C m ps sp := by
  obtain ⟨f, fd, M, F, b⟩ := R
  exact ⟨f, fd, F.ok S len (fun cdv A outer s H vs Q E hr h => hbody f cdv A outer s H vs Q E hr h), M, b, _, _, F⟩
theorem RawI.ok {C : Addr} {qual : Str} {ps N : List Str} {st : Stmt} {k : Nat} {sp : Sp} (R : RawI K C qual ps st) (S : FnScope N ps (defScope st)) (len : ∀ vs H Q E, sp vs H Q E → vs.length = ps.length)
    (hbody : ∀ (f : Addr) (cdv : Value) (A : Around) (outer : List Env) (s : Shared) (H : Hp) (vs : List V) (Q : VK) (E : XK), Room k (A.deeper (envOfC qual (defScope st) s.heap.objs.size f cdv)) → sp vs H Q E →
      ∃ t, PSs (cxOf CX0 P w K mg base N qual (defScope st) f cdv A outer s H E).nox (defBody st) t ∧ t { nx := fun _ H' => Q .non H', rt := Q } (start N vs) H) : DfI P w K mg base (k + 1) C ps sp := by
  obtain ⟨f, fd, M, F, b⟩ := R
  exact ⟨f, fd, F.ok S len (fun cdv A outer s H vs Q E hr h => hbody f cdv A outer s H vs Q E hr h), M, b, _, _, F⟩
end
section
variable {X : Cx} {k : Nat} {C : Addr} {m : Str} {ps : List Str} {sp : Sp} {o e : Expr} {es : List Expr} {ta : TE} {t : TA} {apos pos : Pos}
theorem pe_mt {pl : Sem Bool} (D : DfM X.prog X.w X.K X.mg X.base k C m ps sp) (c : Cls X.K C) (hr : Room k X.A) (he : PE X o ta) (ha : PA X (e :: es) t)
    (hst : starEach (e :: es) X.env = (false, eval e X.env) :: starEach es X.env := by rfl) (hpl : (backTo pos (starEach es X.env)).any (·.1) = false := by rfl)
    (ht : eval (.Call (.Attribute o m apos) (e :: es) [] pos) X.env = (do
      let ov ← eval o X.env
      standAt apos.atName
      let (f, first) ← holding [ov] (getMethod ov m pl)
      callWith pos f first (backTo pos (starEach (e :: es) X.env)) (backToKw pos (keywordEach [] X.env))) := by rfl) :
    PE X (.Call (.Attribute o m apos) (e :: es) [] pos) (tMeth C m sp [] E0 ta t) := by
  obtain ⟨f, fd, F, M, b, _⟩ := D
  exact pe_meth (pl := pl) he c M F hr b .nil pass0 ha hst hpl ht
theorem pe_mt0 {pl : Sem Bool} (D : DfM X.prog X.w X.K X.mg X.base k C m ps sp) (c : Cls X.K C) (hr : Room k X.A) (he : PE X o ta)
    (ht : eval (.Call (.Attribute o m apos) [] [] pos) X.env = (do
      let ov ← eval o X.env
      standAt apos.atName
      let (f, first) ← holding [ov] (getMethod ov m pl)
      callWith pos f first (backTo pos (starEach [] X.env)) (backToKw pos (keywordEach [] X.env))) := by rfl) :
    PE X (.Call (.Attribute o m apos) [] [] pos) (tMeth C m sp [] E0 ta tNil) := by
  obtain ⟨f, fd, F, M, b, _⟩ := D
  exact pe_meth0 (pl := pl) he c M F hr b .nil pass0 ht
theorem pe_new {x : Str} {p : Pos} (D : DfI X.prog X.w X.K X.mg X.base k C ps sp) (hr : Room (k + 1) X.A) (hm : X.mg x = some (.ref C)) (ha : PA X (e :: es) t) (hg : Gl X x := by rfl)
    (hdb : (x == ("__debug__" : Str)) = false := by decide) (he : starEach (e :: es) X.env = (false, eval e X.env) :: starEach es X.env := by rfl) (hpl : (backTo pos (starEach es X.env)).any (·.1) = false := by rfl) :
    PE X (.Call (.Name x p) (e :: es) [] pos) (tMake C sp [] E0 t) := by
  obtain ⟨f, fd, F, M, b, _⟩ := D
  exact pe_make M F hr hg hm b .nil pass0 ha hdb he hpl
theorem pe_fldK {K : PySem.W.Frag} {f : Str} (h : X.K = K) (he : PE X o ta) (hb : attributeBase o f X.env (eval o X.env) = eval o X.env) : PE X (.Attribute o f pos) (tFld K ta f) := by subst h; exact pe_fld he hb
end
end L2
namespace L2
open PySem
variable {rest es : List Expr} {env : Env} {p : Pos} {a b c : Expr}
theorem star_tup {x} : starEach (Expr.Tuple es x p :: rest) env = (false, eval (.Tuple es x p) env) :: starEach rest env := by rfl
theorem star_sub : starEach (Expr.Subscript a b p :: rest) env = (false, eval (.Subscript a b p) env) :: starEach rest env := by rfl
theorem star_call {ks} : starEach (Expr.Call a es ks p :: rest) env = (false, eval (.Call a es ks p) env) :: starEach rest env := by rfl
theorem star_bin {o} : starEach (Expr.BinOp a o b p :: rest) env = (false, eval (.BinOp a o b p) env) :: starEach rest env := by rfl
theorem star_un {o} : starEach (Expr.UnaryOp o a p :: rest) env = (false, eval (.UnaryOp o a p) env) :: starEach rest env := by rfl
theorem star_comp {g s} : starEach (Expr.ListComp a g s p :: rest) env = (false, eval (.ListComp a g s p) env) :: starEach rest env := by rfl
theorem star_cmp {o} : starEach (Expr.Compare a o es p :: rest) env = (false, eval (.Compare a o es p) env) :: starEach rest env := by rfl
end L2
namespace L2
open PySem PySem.Spec PyProof.Rows
end L2
namespace L2
open PySem PySem.Spec PyProof.Rows
end L2
namespace L2
open PySem PySem.Spec PyProof.Rows
structure FlyB (P : Program) (w : World) (outer : List Env) (H H' : Hp) (hA B : Heap) : Prop where
  hok : HOk P w H' B
  keep : ∀ b o, hA.get? b = some o → H b = none → b ∉ frs outer → B.get? b = some o
  free : ∀ b o, hA.get? b = some o → H b = none → H' b = none
  there : ∀ b o, hA.get? b = some o → b ∉ frs outer → ∃ u, B.get? b = some u
  tups : ∀ b xs, H b = some (.tup xs) → H' b = some (.tup xs)
  frzs : ∀ b o u, H b = some (.frz o u) → H' b = some (.frz o u)
  tbls : ∀ b ps, H b = some (.tbl ps) → ∃ more, H' b = some (.tbl (ps ++ more))
def Fly (P : Program) (w : World) (outer : List Env) (H H' : Hp) (hA h : Heap) (x : Addr) (C : Value) : Prop :=
  ∃ B arg, FlyB P w outer H H' hA B ∧ Heap.FlyingW B outer x C arg h ∧ ∀ b o, hA.get? b = some o → b ∈ frs outer → ∃ sl, h.get? b = some { o with slots := sl }
section
variable {P : Program} {w : World} {outer : List Env} {H H' : Hp} {hA h : Heap} {x : Addr} {C : Value}
theorem Fly.un (F : Fly P w outer H H' hA h x C) : Un (frs outer) [] H H' hA h ∧ HOk P w H' h := by
  obtain ⟨B, arg, b, f, fr⟩ := F
  exact ⟨⟨fun c o e n hc _ => f.1 _ _ (b.keep c o e n hc), fun c o e n hc _ => fr c o e hc, fun c o e n _ => b.free c o e n, fun c o e _ => by
    by_cases hc : c ∈ frs outer
    · obtain ⟨sl, e2⟩ := fr c o e hc
      exact ⟨_, e2⟩
    · obtain ⟨u, e2⟩ := b.there c o e hc
      exact ⟨u, f.1 _ _ e2⟩, b.tups, b.frzs, b.tbls⟩, b.hok.kept f.1⟩
end
abbrev bmV : List Value := [.type "ValueError", .type "Exception", .type "BaseException", .type "object"]
abbrev nidV : String := "ValueError.__new__"
theorem exc_at {K : PySem.W.Frag} {h : Heap} {C : Addr} (kin : K.In h) (q : PySem.W.excIn K C bmV nidV = true) :
    ∃ bm N nm qn bs hdc sn sub ab col dd k0 k1 k2 k3 k5 mN, h.get? C = some (excClassObj nm qn C N bs bm hdc sn sub ab col dd k0 k1 k2 k3 k5 nidV) ∧ h.Ns N mN ∧ mN "__init__" = none ∧ OwnTail h bmV bm := by
  unfold PySem.W.excIn at q
  split at q
  · rename_i dd data sl look
    split at q
    · rename_i C1 bm k0 k1 k2 k3 n k5 hmro hslots
      simp only [beq_iff_eq, Bool.and_eq_true, Bool.not_eq_true'] at q
      obtain ⟨⟨⟨⟨⟨e1, e2⟩, e3⟩, e4⟩, e5⟩, e6⟩ := q
      subst e1 e2
      obtain ⟨nm, bs, mro, ns, qn, hdc, sn, sub, ab, col, del⟩ := data
      dsimp only at hmro e3 e5 e6
      subst hmro e3
      obtain ⟨ls⟩ := sl
      have e7 : ls = [k0, k1, k2, k3, some (.builtin nidV), k5] := hslots
      subst e7
      exact ⟨bm, ns, nm, qn, bs, hdc, sn, sub, ab, col, dd, k0, k1, k2, k3, k5, _, kin _ _ look, .of_isNs (PySem.W.isNs_of_in kin e5), PySem.W.nsMap_none_of_in kin e5 e6, PySem.W.tail_of_in kin e4⟩
    · cases q
  · cases q
def tRaise (C : Addr) (E : XK) (t : TA) : TS := fun _ σ H => t σ H fun vs H1 => vs.length ≤ sizeLine ∧ E (.ref C) none H1
section
variable {X : Cx} {x : Str} {C : Addr} {E : XK} {e : Expr} {es : List Expr} {t : TA} {np cpos pos : Pos}
def Throws (X : Cx) (E : XK) : Prop := ∀ (pins : List (Addr × Obj)) (σ : St) (H1 : Hp) (s1 : Shared) (h2 : Heap) (y : Addr) (cls : Value) (args : List Value), Inv X pins σ H1 s1 → Heap.MadeExcOf s1.heap h2 y cls args → E cls none H1 → X.xe (.ref y) { s1 with heap := h2 }
theorem ps_raise (hc : X.calm = true) (hx : Throws X E) (hm : X.mg x = some (.ref C)) (q : PySem.W.excIn X.K C bmV nidV = true) (ha : PA X (e :: es) t) (hg : Gl X x := by rfl) (hdb : (x == ("__debug__" : Str)) = false := by decide)
    (he : starEach (e :: es) X.env = (false, eval e X.env) :: starEach es X.env := by rfl) (hpl : (backTo cpos (starEach (e :: es) X.env)).any (·.1) = false := by rfl) :
    PS X (.Raise (some (.Call (.Name x np) (e :: es) [] cpos)) none pos) (tRaise C E t) := by
  intro pins s σ H D I h
  obtain ⟨bm, N, nm, qn, bs, hdc, sn, sub, ab, col, dd, k0, k1, k2, k3, k5, mN, hC, hN, hni, tl⟩ := exc_at I.ok.mod.kin q
  refine wpAny_Raise_call_subT (C := C) (nm := nm) (q := qn) (N := N) (bs := bs) (bm := bm) (hdct := hdc) (sn := sn) (sub := sub) (ab := ab) (col := col) (dd := dd) (k0 := k0) (k1 := k1) (k2 := k2) (k3 := k3) (k5 := k5) PySem.F.excBase_ValueError (mN := mN) (tl.hasType (by decide +kernel)) (I.ok.hd hc) hpl hni ?_
  refine ld_glob I hg hm ⟨rfl, ?_⟩ hdb
  have hA := ha cpos pins s σ H _ I h
  rw [he] at hA ⊢
  refine Calls.evalArgs_plain (thn hA fun us s2 ⟨vs, H2, I2, r, q2, q3⟩ => ⟨rfl, ?_, I2.bk _ _ hC, hN.keeps I2.bk, tl.keeps I2.bk, fun h' y hm => hx pins σ H2 s2 h' y _ _ I2 hm q3⟩)
  · rw [Vals.length r] at q2; exact q2
end
end L2
namespace L2
open PySem PySem.Spec PyProof.Rows
def ExAt (x : Addr) (C : Value) (h : Heap) : Prop := ∃ o, h.get? x = some o ∧ o.cls = C
def excKit (K : PySem.W.Frag) (D : Addr) : Bool :=
  PySem.W.findIn K (.ref D) "__getattribute__" == some (some (.builtin "BaseException.__getattribute__")) && PySem.W.findIn K (.ref D) "__getattr__" == some none && PySem.W.mroIn K D (.type "BaseException") == some true && (PySem.W.clsIn K D).isSome && PySem.W.findIn K (.ref D) "__class__" == some (some (.builtin "object.__class__")) &&
    PySem.W.specialIn K (.builtin "object.__class__") "__get__" == some (some (.builtin "getset_descriptor.__get__")) && PySem.W.takesIn K (.builtin "object.__class__") == some true && PySem.W.mroIn K D (.type "object") == some true
section
open PySem.W PySem.Calls PySem.Builtin PySem.Builtin.ObjectAttr PySem.Builtin.Getset_descriptor
variable {K : PySem.W.Frag} {x D : Addr}
theorem exAt_ty {M : Model} {h : Heap} {C : Value} (p : ExAt x C h) : Looks M h (typeOf (.ref x)) C := by
  obtain ⟨o, h1, h2⟩ := p
  exact h2 ▸ (Looks.ld h1).andThen .now
theorem kitx_exc (q : excKit K D = true) : KitX K (.ref x) (.ref D) (ExAt x (.ref D)) := by
  unfold excKit at q
  simp only [Bool.and_eq_true, beq_iff_eq] at q
  obtain ⟨⟨⟨⟨⟨⟨⟨hga, hgn⟩, hmb⟩, hc⟩, ha⟩, hn⟩, htk⟩, hm⟩ := q
  have there : ∀ h : Heap, K.In h → ∃ c d cd sl, h.get? D = some ⟨c, d, .cls cd, sl⟩ := fun h X => by
    unfold clsIn at hc
    split at hc
    · rename_i c' d' cd' sl' ho
      exact ⟨c', d', cd', sl', X _ _ ho⟩
    · cases hc
  refine ⟨fun _ _ _ p => exAt_ty p, fun M h X _ => ?_, fun h tp dd its n sl X htp => ?_, fun {prog w A E Q s} X p k => ?_⟩
  · obtain ⟨c, d, cd, sl, ho⟩ := there h X
    intro A' Q' E' s' k q
    unfold isType loadHead
    exact wpAny_bind (wpAny_loadPart (k _ _ ho) (wpAny_pure q))
  · obtain ⟨c, d, cd, sl', ho⟩ := there h X
    refine Bool.eq_false_iff.mpr fun q => ?_
    have e : D = tp := Value.ref.inj (beq_iff_eq.mp q)
    subst e
    have z := ho.symm.trans htp
    cases z
  · obtain ⟨hh, g, dr, t, os⟩ := s
    have L0 := exAt_ty (M := model prog w) p
    have L1 := looks_findIn (M := model prog w) X hga
    have L3 := looks_mroIn (M := model prog w) X hm
    have LB := looks_mroIn (M := model prog w) X hmb
    have LF : Looks (model prog w) hh (find (.ref x) (.ref D) "__class__") (.bind (.builtin "getset_descriptor.__get__") (.builtin "object.__class__")) := by
      refine (looks_findIn X ha).andThen ((looks_specialIn X hn).andThen ?_)
      exact (show Looks _ hh (dataDescriptor? (some (.builtin "object.__class__")) (some (.builtin "getset_descriptor.__get__"))) _ from (looks_takesIn X htk).andThen .now).andThen (Looks.tag .now)
    unfold getAttr? getAttrBy? getAttrBy
    refine wpAny_bind (wpAny_mkText (wpAny_bind (wpAny_attempt (wpAny_holding (wpAny_bind (L0.at (wpAny_bind (L1.at ?_))))))))
    show wpAny _ _ (getAttrByItsOwn (.ref x) (.str "__class__" t) (.ref D) (.builtin "BaseException.__getattribute__") false false) _ _ _
    unfold getAttrByItsOwn callGetattribute boundAndCalled
    refine wpAny_bind ((looks_hook X (show (if onTheHeap (.ref D) then findIn K (.ref D) "__getattr__" else some none) = some none from hgn)).at ?_)
    refine wpAny_bind (wpAny_attempt (wpAny_holding ?_))
    show wpAny _ _ (bindSpecial (.builtin "BaseException.__getattribute__") (.ref x) >>= _) _ _ _
    refine wpAny_bind (wpAny_of_eq (F.excAttr_ValueError.ga.bind _) ?_)
    show wpAny _ _ (call (.builtin "BaseException.__getattribute__") [.ref x, .str "__class__" t]) _ _ _
    refine wpAny_call (codeAny_call_builtin F.excAttr_ValueError.ga.plain F.entry_bexc_ga (check_slot (i := "BaseException.__getattribute__") (owner := "BaseException") (n := "__getattribute__") (by decide +kernel) (by decide +kernel) (L0.andThen LB) (F.args_bexc_ga _ _) ?_))
    unfold Builtin.«object.__getattribute__»
    refine wpAny_bind (wpAny_pure (wpAny_bind (wpAny_pure (wpAny_bind (L0.at (wpAny_bind (LF.at ?_)))))))
    refine wpAny_bind (wpAny_holding (wpAny_call ?_))
    refine codeAny_call_builtin KF.slot_gs.plain KF.entry_gs (KF.slot_gs.check _ _ _ _ _ _ _ _ KF.type_class (KF.args_gs _ _ _) ?_)
    unfold Builtin.«getset_descriptor.__get__» descrGet
    rw [dga_obj]
    refine wpAny_bind (wpAny_pure ?_)
    unfold descrGetter descrCheckInstance descrNameAndClass isInstance
    simp only [KF.owner_class]
    repeat lk
    refine ⟨Code.quiet_builtin _ (by decide +kernel), codeAny_builtin KF.entry_class ?_⟩
    unfold Builtin.«object.__class__» shownTypeOf
    repeat lk
    exact k
end
section
variable {P : Program} {w : World} {H : Hp} {h : Heap} {a : Addr} {o : HO}
theorem ObjOk.there (x : ObjOk P w H h a o) : ∃ u, h.get? a = some u := by
  cases o with
  | lst xs => obtain ⟨_, _, _, _, e⟩ := x; exact ⟨_, e⟩
  | tup xs => obtain ⟨_, _, _, p⟩ := x; obtain ⟨u, e, _⟩ := p; exact ⟨u, e⟩
  | dK kvs => obtain ⟨_, _, _, _, o, _, _, e, _⟩ := x; exact ⟨_, e⟩
  | dT kvs => obtain ⟨_, _, _, _, o, _, _, e, _⟩ := x; exact ⟨_, e⟩
  | set S n => obtain ⟨o, _, _, _, e, _⟩ := x; exact ⟨_, e⟩
  | ins C dx fs => obtain ⟨_, _, _, e, _⟩ := x; exact ⟨_, e⟩
  | own y => exact x
  | xd fs => obtain ⟨_, ⟨_, _, _, e, _⟩, _⟩ := x; exact ⟨_, e⟩
  | rng lo hi => obtain ⟨_, _, _, e⟩ := x; exact ⟨_, e⟩
  | frz ob u => obtain ⟨e, _⟩ := x; exact ⟨_, e⟩
  | tbl ps => exact ⟨_, show h.get? a = some _ from x⟩
  | met f y => exact ⟨_, show h.get? a = some _ from x⟩
  | ext φ => exact x.2.1
end
def Cx.markX (X : Cx) (v : Value) : Cx := { X with A := X.A.mark (some v), calm := false, xe := fun _ _ => False }
def PassesS (CX : CXT) (X : Cx) (W : St → XK) : Prop := ∀ (pins : List (Addr × Obj)) (σ : St) (H : Hp) (s : Shared) (e : Value) (s' : Shared), Inv X pins σ H s → CX X.stack H s (W σ) e s' → X.xe e s'
section
variable {X : Cx} {pins : List (Addr × Obj)} {σ : St} {H : Hp} {s : Shared} {W : St → XK}
theorem Cx.Ok.mark {v : Value} (o : X.Ok) : (X.markX v).Ok := ⟨o.mod, o.kind, o.glob, o.blt, o.above, o.inj, o.has, o.cab, (fun z => by cases z), o.frames, o.stk, o.exf, o.bs, o.bsz, o.noex, o.exfs, o.funs, o.frf⟩
theorem Inv.markIn {v : Value} (I : Inv X pins σ H s) : Inv (X.markX v) pins σ H s := ⟨I.ok.mark, I.os, I.bare, I.base, I.loc, I.cell, I.free, I.freeC, I.pin, I.hok, I.len⟩
theorem Inv.markOut {v : Value} (I : Inv (X.markX v) pins σ H s) (o : X.Ok) : Inv X pins σ H s := ⟨o, I.os, I.bare, I.base, I.loc, I.cell, I.free, I.freeC, I.pin, I.hok, I.len⟩
theorem caught {H0 H' : Hp} {s0 s1 : Shared} {B h : Heap} {x : Addr} {C arg : Value} (I0 : Inv X pins σ H0 s0) (hex : X.ex = []) (os : s1.os = s0.os) (bare : AllBare s1.gens) (b : FlyB X.prog X.w X.stack H0 H' s0.heap B)
    (fl0 : Heap.FlyingW B X.stack x C arg s1.heap) (fr : ∀ b o, s0.heap.get? b = some o → b ∈ frs X.stack → ∃ sl, s1.heap.get? b = some { o with slots := sl }) (fl : Heap.FlyingW B X.stack x C arg h) (up : s1.heap.UpToSlots h) :
    Inv X pins σ (upd H' x (.ext (ExAt x C))) { s1 with heap := h } ∧ H' x = none := by
  have F : Fly X.prog X.w X.stack H0 H' s0.heap h x C := ⟨B, arg, b, fl, fun c o e hc => by
    obtain ⟨sl, e1⟩ := fr c o e hc
    have hd : ∀ vs, o.data ≠ .fields vs := fun vs z => by
      obtain ⟨_, o', ho', hnd⟩ := fl0.2.2.1.mem (b := c) hc
      rw [e1] at ho'
      cases ho'
      exact hnd vs z
    obtain ⟨sl2, e2⟩ := up c _ e1 hd
    exact ⟨sl2, e2⟩⟩
  obtain ⟨un, hok⟩ := F.un
  have I1 : Inv X pins σ H' { s1 with heap := h } := I0.call' os un hok bare (fun b z => by cases z)
  have hn : H' x = none := by
    cases e : H' x with
    | none => rfl
    | some o =>
      obtain ⟨u, hu⟩ := (b.hok x o e).there
      rw [fl.2.1] at hu
      cases hu
  have new0 : ∀ o, s0.heap.get? x ≠ some o := fun o e => by
    by_cases hc : x ∈ frs X.stack
    · obtain ⟨_, o', ho', hnd⟩ := fl.2.2.1.mem (b := x) hc
      obtain ⟨oe, vs, _, _, _, he, _, hd, _⟩ := fl.2.2.2
      rw [he] at ho'
      cases ho'
      exact hnd vs hd
    · obtain ⟨u, hu⟩ := b.there x o e hc
      rw [fl.2.1] at hu
      cases hu
  have noE : ∀ b : Addr, b ∉ X.ex := fun b z => by rw [hex] at z; cases z
  refine ⟨⟨I1.ok, I1.os, I1.bare, ⟨I1.base.keep, I1.base.slot, fun c o e n hx => ?_, I1.base.there, fun c xs q => ?_, fun c o u q => ?_, fun c ps q => ?_⟩, I1.loc, I1.cell, ?_, fun y c e => ?_, fun p hp => ?_, fun c o q => ?_, I1.len⟩, hn⟩
  · have q := I1.base.free c o e n hx
    rw [upd_ne ?_]
    · exact q
    · rintro rfl
      obtain ⟨o', e'⟩ := I0.base.there _ o e hx
      exact new0 o' e'
  · have q := I1.base.tups c xs q
    rw [upd_ne (ne_of_none q hn)]; exact q
  · have q := I1.base.frzs c o u q
    rw [upd_ne (ne_of_none q hn)]; exact q
  · obtain ⟨more, q⟩ := I1.base.tbls c ps q
    exact ⟨more, by rw [upd_ne (ne_of_none q hn)]; exact q⟩
  · obtain ⟨m, ⟨o, es, ep, ho, _⟩, _⟩ := I0.loc
    rw [upd_ne (fun z => new0 o (by rw [← z]; exact ho))]
    exact I1.free
  · obtain ⟨v, o, ho, _⟩ := I0.cell y c e
    rw [upd_ne (fun z => new0 o (by rw [← z]; exact ho))]
    exact I1.freeC y c e
  · obtain ⟨e, n, ne, nf, d⟩ := I1.pin p hp
    obtain ⟨e0, _⟩ := I0.pin p hp
    exact ⟨e, by rw [upd_ne (fun z => new0 p.2 (by rw [← z]; exact e0))]; exact n, ne, nf, d⟩
  · by_cases hc : c = x
    · subst hc
      rw [upd_same] at q
      cases q
      have ex : ExAt c C h := fl.there
      obtain ⟨o, ho, hcl⟩ := ex
      exact ⟨⟨o, ho, hcl⟩, ⟨o, ho⟩, fun h1 h2 ⟨o1, e1, c1⟩ k => ⟨o1, k o1 e1, c1⟩⟩
    · rw [upd_ne hc] at q
      exact (I1.hok c o q).stay (fun _ _ _ z => z) (fun d z => by rw [upd_ne (ne_of_none z hn)]; exact z) fun d xs z => by rw [upd_ne (ne_of_none z hn)]; exact z
theorem gone_ok {M : Model} {A : Around} {E : Value → Shared → Prop} {i : Nat} {n : Str} {pos : Pos} {Q : Unit → Shared → Prop} (I : Inv X pins σ H s) (hN : X.N.Nodup) (hi : X.N[i]? = some n) (hk : X.env.kindOf n = some .local)
    (h : ∀ s', Inv X pins (σ.set i none) H s' → Q () s') : wpAny M A (do bindName X.env n .none; unbindBehindTheSuite X.env n pos) Q E s := by
  obtain ⟨m, hn, hl⟩ := id I.loc
  have hcls : (X.env.scope.kind == .class || (X.env.scope.kind == .module && X.env.locals != X.env.globals)) = false := by rw [I.ok.kind]; rfl
  have hiσ : i < σ.length := by rw [I.len]; exact (List.getElem?_eq_some_iff.mp hi).1
  have cne := I.cne
  obtain ⟨oL, _, _, hoL, _⟩ := id hn
  refine wpAny_nameGoes_keeps hk hn hcls fun h' v hn' hs => h _ ⟨I.ok, I.os, I.bare, ⟨fun b o e n hb hx => ?_, fun b o e n hb hx => ?_, I.base.free, fun b o e hx => ?_, I.base.tups, I.base.frzs, I.base.tbls⟩, ⟨_, hn', fun j y v' e1 e2 e3 => ?_⟩, fun y c e => ?_, I.free, I.freeC, fun p hp => ?_, fun b ob e => ?_, by simpa using I.len⟩
  · exact (hs.2 b (Nat.ne_of_lt (Nat.lt_of_lt_of_le (Heap.lt_size e) I.ok.above))).trans (I.base.keep b o e n hb hx)
  · obtain ⟨sl, e1⟩ := I.base.slot b o e n hb hx
    exact ⟨sl, (hs.2 b (Nat.ne_of_lt (Nat.lt_of_lt_of_le (Heap.lt_size e) I.ok.above))).trans e1⟩
  · obtain ⟨o', e1⟩ := I.base.there b o e hx
    exact ⟨o', (hs.2 b (Nat.ne_of_lt (Nat.lt_of_lt_of_le (Heap.lt_size e) I.ok.above))).trans e1⟩
  · by_cases hj : j = i
    · subst hj
      rw [List.getElem?_set_self hiσ] at e2
      cases e2
    · rw [List.getElem?_set_ne (Ne.symm hj)] at e2
      obtain ⟨u', r', q⟩ := hl j y v' e1 e2 e3
      refine ⟨u', r', ?_⟩
      rcases q with ⟨k, e⟩ | ⟨k, c, e, z⟩
      · refine .inl ⟨k, ?_⟩
        have : y ≠ n := fun e => hj (nodup_ix hN e1 (e ▸ hi))
        simp [this, e]
      · exact .inr ⟨k, c, e, z.sameBut hs (cne y c e)⟩
  · obtain ⟨w', z⟩ := I.cell y c e
    exact ⟨w', z.sameBut hs (cne y c e)⟩
  · obtain ⟨e, n, ne, nf, d⟩ := I.pin p hp
    exact ⟨(hs.2 p.1 ne).trans e, n, ne, nf, d⟩
  · refine (I.hok b ob e).stay (fun c w' hc q => (hs.2 c ?_).trans q) (fun _ q => q) fun _ _ q => q
    have hfree := I.free
    rintro rfl
    rcases hc with rfl | hc
    · rw [hfree] at e; cases e
    · rw [hfree] at hc; cases hc
end
def tMethS (C : Addr) (m : Str) (sp : Sp) (dvs : List V) (W : St → XK) (ta : TE) (t : TA) : TE := fun σ => tMeth C m sp dvs (W σ) ta t σ
section
variable {X : Cx} {CX : CXT} {k : Nat} {f C : Addr} {fd : FuncData} {ps : List Str} {sp : Sp} {dvs : List V} {ds : List Value} {E : XK} {W : St → XK} {x m : Str} {p pos apos : Pos} {e o : Expr} {es : List Expr} {ta : TE} {t : TA}
theorem run_fnS {pins : List (Addr × Obj)} {σ : St} {H : Hp} {s : Shared} {Q : VK} {us : List Value} {vs : List V} (F : FnOk X.prog X.w X.K X.mg X.base CX k f fd ps sp) (hr : Room k X.A) (hb : Binds X.K fd ps ds) (hd : Vals dvs ds) (hx : ∀ e s', CX X.stack H s E e s' → X.xe e s')
    (I : Inv X pins σ H s) (r : Vals vs us) (h : sp (vs ++ dvs) H Q E) : wpAny (model X.prog X.w) X.A (call (.ref f) us) (EP X pins σ Q) X.xe s := by
  have r2 : Vals (vs ++ dvs) (us ++ ds) := r.append hd
  have hl : (us ++ ds).length = ps.length := by rw [← r2.length]; exact F.len _ _ _ _ h
  refine wpAny_call (codeAny_mono (F.run X.A X.stack s H ⟨us, []⟩ (us ++ ds) (vs ++ dvs) Q E hr I.env0 (hb s us I.kIn hl) r2 h) fun r s' hq => ?_)
  cases r with
  | error e => exact hx e s' hq
  | ok fl =>
    cases fl with
    | ret u => exact I.after hq
    | next => exact False.elim hq
    | brk => exact False.elim hq
    | cont => exact False.elim hq
end
def cV : V → Value
  | .ref a => .ref a
  | .ty n => .type n
  | _ => .none
def isCls : V → Bool
  | .ref _ => true
  | .ty _ => true
  | _ => false
theorem cV_of {c : V} {u : Value} (r : RelV c u) (h : isCls c = true) : u = cV c := by
  cases c <;> first | exact r | cases h
theorem cV_all : ∀ {cs : List V} {us : List Value}, Vals cs us → cs.all isCls = true → us = cs.map cV
  | _, _, .nil, _ => rfl
  | _, _, .cons r t, h => by
    rw [List.all_cons, Bool.and_eq_true] at h
    rw [List.map_cons, cV_of r h.1, cV_all t h.2]
theorem bt_ValueError : bootBuiltins "ValueError" = some (.type "ValueError") := by decide +kernel
def excAll (K : PySem.W.Frag) (aN aF aM aP aW : Addr) : Bool := [excKit K aN, PySem.W.exmOne K (.ref aN) (.ref aW) == some true, PySem.W.kitOne K (.ref aN) (.type "ValueError") == some true, excKit K aF, PySem.W.exmOne K (.ref aF) (.ref aW) == some true, PySem.W.kitOne K (.ref aF) (.type "ValueError") == some true, excKit K aM, PySem.W.exmOne K (.ref aM) (.ref aW) == some true, PySem.W.kitOne K (.ref aM) (.type "ValueError") == some true, excKit K aP, PySem.W.exmOne K (.ref aP) (.ref aW) == some true, PySem.W.kitOne K (.ref aP) (.type "ValueError") == some true, PySem.W.kitOne K (.ref aN) (.ref aN) == some true, PySem.W.kitOne K (.ref aN) (.ref aF) == some false, PySem.W.kitOne K (.ref aN) (.ref aM) == some false, PySem.W.kitOne K (.ref aN) (.ref aP) == some false, PySem.W.kitOne K (.ref aF) (.ref aN) == some false, PySem.W.kitOne K (.ref aF) (.ref aF) == some true, PySem.W.kitOne K (.ref aF) (.ref aM) == some false, PySem.W.kitOne K (.ref aF) (.ref aP) == some false, PySem.W.kitOne K (.ref aM) (.ref aN) == some false, PySem.W.kitOne K (.ref aM) (.ref aF) == some false, PySem.W.kitOne K (.ref aM) (.ref aM) == some true, PySem.W.kitOne K (.ref aM) (.ref aP) == some false, PySem.W.kitOne K (.ref aP) (.ref aN) == some false, PySem.W.kitOne K (.ref aP) (.ref aF) == some false, PySem.W.kitOne K (.ref aP) (.ref aM) == some false, PySem.W.kitOne K (.ref aP) (.ref aP) == some true, PySem.W.excIn K aN bmV nidV, PySem.W.excIn K aP bmV nidV].all id
structure ExcAll (K : PySem.W.Frag) (mg : Str → Option Value) (aN aF aM aP aW : Addr) : Prop where
  ask : mg "NoAsk" = some (.ref aN)
  field : mg "NoField" = some (.ref aF)
  number : mg "NoNumber" = some (.ref aM)
  place : mg "NoPlace" = some (.ref aP)
  win : mg "WindowError" = some (.ref aW)
  kitN : excKit K aN = true
  exmN : PySem.W.exmOne K (.ref aN) (.ref aW) = some true
  veN : PySem.W.kitOne K (.ref aN) (.type "ValueError") = some true
  kitF : excKit K aF = true
  exmF : PySem.W.exmOne K (.ref aF) (.ref aW) = some true
  veF : PySem.W.kitOne K (.ref aF) (.type "ValueError") = some true
  kitM : excKit K aM = true
  exmM : PySem.W.exmOne K (.ref aM) (.ref aW) = some true
  veM : PySem.W.kitOne K (.ref aM) (.type "ValueError") = some true
  kitP : excKit K aP = true
  exmP : PySem.W.exmOne K (.ref aP) (.ref aW) = some true
  veP : PySem.W.kitOne K (.ref aP) (.type "ValueError") = some true
  kNN : PySem.W.kitOne K (.ref aN) (.ref aN) = some true
  kNF : PySem.W.kitOne K (.ref aN) (.ref aF) = some false
  kNM : PySem.W.kitOne K (.ref aN) (.ref aM) = some false
  kNP : PySem.W.kitOne K (.ref aN) (.ref aP) = some false
  kFN : PySem.W.kitOne K (.ref aF) (.ref aN) = some false
  kFF : PySem.W.kitOne K (.ref aF) (.ref aF) = some true
  kFM : PySem.W.kitOne K (.ref aF) (.ref aM) = some false
  kFP : PySem.W.kitOne K (.ref aF) (.ref aP) = some false
  kMN : PySem.W.kitOne K (.ref aM) (.ref aN) = some false
  kMF : PySem.W.kitOne K (.ref aM) (.ref aF) = some false
  kMM : PySem.W.kitOne K (.ref aM) (.ref aM) = some true
  kMP : PySem.W.kitOne K (.ref aM) (.ref aP) = some false
  kPN : PySem.W.kitOne K (.ref aP) (.ref aN) = some false
  kPF : PySem.W.kitOne K (.ref aP) (.ref aF) = some false
  kPM : PySem.W.kitOne K (.ref aP) (.ref aM) = some false
  kPP : PySem.W.kitOne K (.ref aP) (.ref aP) = some true
  inN : PySem.W.excIn K aN bmV nidV = true
  inP : PySem.W.excIn K aP bmV nidV = true
theorem ExcAll.of {K : PySem.W.Frag} {mg : Str → Option Value} {aN aF aM aP aW : Addr} (h1 : mg "NoAsk" = some (.ref aN)) (h2 : mg "NoField" = some (.ref aF)) (h3 : mg "NoNumber" = some (.ref aM)) (h4 : mg "NoPlace" = some (.ref aP)) (h5 : mg "WindowError" = some (.ref aW))
    (h : excAll K aN aF aM aP aW = true) : ExcAll K mg aN aF aM aP aW := by
  unfold excAll at h
  simp only [List.all_cons, List.all_nil, id, Bool.and_eq_true, beq_iff_eq] at h
  obtain ⟨z0, z1, z2, z3, z4, z5, z6, z7, z8, z9, z10, z11, z12, z13, z14, z15, z16, z17, z18, z19, z20, z21, z22, z23, z24, z25, z26, z27, z28, z29, _⟩ := h
  exact ⟨h1, h2, h3, h4, h5, z0, z1, z2, z3, z4, z5, z6, z7, z8, z9, z10, z11, z12, z13, z14, z15, z16, z17, z18, z19, z20, z21, z22, z23, z24, z25, z26, z27, z28, z29⟩
theorem kitAny_no {K : PySem.W.Frag} {t c : Value} {r : List Value} {b : Bool} (h : PySem.W.kitOne K t c = some false) (hr : PySem.W.kitAny K t r = some b) : PySem.W.kitAny K t (c :: r) = some b := by
  unfold PySem.W.kitAny
  rw [h]
  exact hr
end L2
namespace L2
open PySem PySem.Spec PyProof.Rows
section
open PySem.W PySem.Calls PySem.Builtin PySem.Builtin.ObjectAttr PySem.Builtin.Getset_descriptor
variable {prog : Program} {w : World} {A : Around} {E : Value → Shared → Prop} {s : Shared} {K : PySem.W.Frag} {x D dx : Addr} {f : Str} {mA : Str → Option Value} {v : Value}
theorem getx {b : Bool} {ox od : Obj} {Q : Value → Shared → Prop} (X : K.In s.heap) (q : excKit K D = true) (hh : hasDictIn K D = true) (I : InstAt s.heap x ox D (some od)) (ha : findIn K (.ref D) f = some none)
    (hl : lookIn f od = some (some v)) (hv : handedIn v = true) (k : Q v { s with toks := s.toks + 1 }) : wpAny (model prog w) A (getAttr (.ref x) f b) Q E s := by
  unfold excKit at q
  simp only [Bool.and_eq_true, beq_iff_eq] at q
  obtain ⟨⟨⟨⟨⟨⟨⟨hga, hgn⟩, hmb⟩, hc⟩, _⟩, _⟩, _⟩, hm⟩ := q
  obtain ⟨hp, g, dr, t, os⟩ := s
  have L0 : Looks (model prog w) hp (typeOf (.ref x)) (.ref D) := I.type
  have L1 := looks_findIn (M := model prog w) X hga
  have LB := looks_mroIn (M := model prog w) X hmb
  have LF : Looks (model prog w) hp (find (.ref x) (.ref D) f) (.value v) := looks_find X I (findObj_own hh ha rfl hl)
  unfold getAttr getAttrBy
  refine wpAny_bind (wpAny_mkText (wpAny_holding (wpAny_bind (L0.at (wpAny_bind (L1.at ?_))))))
  show wpAny _ _ (getAttrByItsOwn (.ref x) (.str f t) (.ref D) (.builtin "BaseException.__getattribute__") true b) _ _ _
  unfold getAttrByItsOwn callGetattribute boundAndCalled
  refine wpAny_bind ((looks_hook X (show (if onTheHeap (.ref D) then findIn K (.ref D) "__getattr__" else some none) = some none from hgn)).at ?_)
  rw [if_neg (by cases b <;> decide)]
  refine wpAny_bind (wpAny_attempt (wpAny_holding ?_))
  show wpAny _ _ (bindSpecial (.builtin "BaseException.__getattribute__") (.ref x) >>= _) _ _ _
  refine wpAny_bind (wpAny_of_eq (F.excAttr_ValueError.ga.bind _) ?_)
  show wpAny _ _ (call (.builtin "BaseException.__getattribute__") [.ref x, .str f t]) _ _ _
  refine wpAny_call (codeAny_call_builtin F.excAttr_ValueError.ga.plain F.entry_bexc_ga (check_slot (i := "BaseException.__getattribute__") (owner := "BaseException") (n := "__getattribute__") (by decide +kernel) (by decide +kernel) (L0.andThen LB) (F.args_bexc_ga _ _) ?_))
  unfold Builtin.«object.__getattribute__»
  refine wpAny_bind (wpAny_pure (wpAny_bind (wpAny_pure (wpAny_bind (L0.at (wpAny_bind (LF.at ?_)))))))
  refine wpAny_pure ?_
  show wpAny _ _ (handedOut v) _ _ _
  rw [handedOut_of hv]
  exact wpAny_pure k
def ownVE : List Value → Bool
  | .ref _ :: r => ownVE r
  | l => l == [.type "ValueError", .type "Exception", .type "BaseException", .type "object"]
theorem refuse_ve (self : Value) : ∀ {l : List Value}, ownVE l = true → PySem.refuseLoop self "__setattr__" l = pure ()
  | .ref c :: r, e => by rw [PySem.refuseLoop_ref]; exact refuse_ve self (show ownVE r = true from e)
  | [], e => by cases e
  | .type n :: r, e => by
    have e : (.type n :: r) = [Value.type "ValueError", .type "Exception", .type "BaseException", .type "object"] := beq_iff_eq.mp e
    rw [e]
    exact F.store_ValueError.passes self
  | .none :: _, e => by cases e
  | .ellipsis :: _, e => by cases e
  | .notImplemented :: _, e => by cases e
  | .bool _ :: _, e => by cases e
  | .int _ _ :: _, e => by cases e
  | .float _ _ :: _, e => by cases e
  | .str _ _ :: _, e => by cases e
  | .builtin _ :: _, e => by cases e
theorem ve_has : ∀ {l : List Value}, ownVE l = true → l.contains (.type "object") = true
  | .ref c :: r, e => by rw [List.contains_cons, ve_has (l := r) (show ownVE r = true from e), Bool.or_true]
  | [], e => by cases e
  | .type n :: r, e => by
    have e : (.type n :: r) = [Value.type "ValueError", .type "Exception", .type "BaseException", .type "object"] := beq_iff_eq.mp e
    rw [e]
    decide +kernel
  | .none :: _, e => by cases e
  | .ellipsis :: _, e => by cases e
  | .notImplemented :: _, e => by cases e
  | .bool _ :: _, e => by cases e
  | .int _ _ :: _, e => by cases e
  | .float _ _ :: _, e => by cases e
  | .str _ _ :: _, e => by cases e
  | .builtin _ :: _, e => by cases e
theorem setx {ox : Obj} {cd : ClassData} {Q : Unit → Shared → Prop} (X : K.In s.heap) (I : InstAt s.heap x ox D none) (hs : findIn K (.ref D) "__setattr__" = some (some (.builtin "object.__setattr__"))) (hc : clsIn K D = some cd)
    (hm : ownVE cd.mro = true) (hd : cd.hasDict = true) (ha : findIn K (.ref D) f = some none)
    (h : ∀ h' tk, h'.Ns1 s.heap.objs.size (fun y => if y = f then some v else none) → h'.get? x = some { ox with dict := some s.heap.objs.size } → (∀ b o, s.heap.get? b = some o → b ≠ x → h'.get? b = some o) → Q () { s with heap := h', toks := tk }) :
    wpAny (model prog w) A (setAttr (.ref x) f v) Q E s := by
  obtain ⟨hp, g, dr, t, os⟩ := s
  have SF := PySem.F.store_object
  have ne : cd.mro.isEmpty = false := by cases e : cd.mro with | nil => rw [e] at hm; cases hm | cons _ _ => rfl
  have sub : Looks (model prog w) hp (isInstance (.ref x) (.type "object")) true := I.type.andThen (looks_mroIn X (by unfold mroIn; rw [hc, Option.bind_some, if_neg (by rw [ne]; decide), ve_has hm]))
  have LM : Looks (model prog w) hp (mroOf (.ref D)) cd.mro := (looks_clsIn X hc).andThen .now
  refine set_plain X I hs ?_
  refine codeAny_call_builtin SF.slot.plain SF.entry (@check_slot (model prog w) _ _ ⟨hp, g, dr, t + 1, os⟩ "object.__setattr__" "object" "__setattr__" (.ref x) [.str f t, v] [] _ SF.kind SF.split sub (SF.args (.ref x) (.str f t) v) ?_)
  rw [osa_eq, PySem.refuse_eq]
  refine wpAny_bind (wpAny_bind (I.type.at (wpAny_bind (LM.at ?_))))
  rw [refuse_ve _ hm]
  refine wpAny_pure (wpAny_bind (I.type.at (wpAny_bind ((looks_findIn X ha).at (wpAny_bind (wpAny_pure ?_))))))
  show wpAny _ _ (storeInOwnDict (.ref x) (.ref D) (.str f t) f v false) _ _ _
  unfold storeInOwnDict ownDictForStores instanceDict
  obtain ⟨hx, hcl, hno, hdx⟩ := I
  obtain ⟨oc, odi, oda, osl⟩ := ox
  dsimp only at hcl
  subst hcl
  have hdn : odi = none := by cases odi with | none => rfl | some _ => cases hdx
  subst hdn
  refine wpAny_bind (wpAny_pure ?_)
  have nm : ¬ (Value.ref D == Value.type "module") = true := by simp
  rw [if_neg nm]
  refine wpAny_bind (wpAny_bind (wpAny_loadPart (show Heap.get? hp x = some _ from hx) ?_))
  dsimp only
  refine wpAny_bind ((looks_clsIn X hc).at ?_)
  rw [hd, if_neg (by decide), if_neg (by simp [typeHasDict])]
  have nc : ∀ c, oda ≠ Data.cls c := fun c e => by subst e; cases hno
  have xs : x ≠ hp.objs.size := Nat.ne_of_lt (Heap.lt_size hx)
  have hx1 : (hp.push { cls := .type "dict", data := .dict #[] }).get? x = some ⟨.ref D, none, oda, osl⟩ := Heap.get?_push_of_some _ hx
  have go : wpAny (model prog w) A.in1 (do
      let d ← alloc { cls := Value.type "dict", data := Data.dict #[] }
      update x fun o => { cls := o.cls, dict := some d, data := o.data, slots := o.slots }
      dictMade (.ref D) x d) (fun r s' => wpAny (model prog w) A.in1 (match r with | some d => storeInDict d (Value.str f t) f v | none => noDictFor (Value.ref x) (Value.ref D) f false) (fun fin s' => match fin with | .done fl => (match Except.ok fl with | .ok (.ret _) => Q () s' | .ok _ => False | .error e => E e s') | .again c' => c'.quiet = true ∧ codeAny (model prog w) A c' (fun r s' => match r with | .ok (.ret _) => Q () s' | .ok _ => False | .error e => E e s') s') (fun e s' => E e s') s') (fun e s' => E e s') ⟨hp, g, dr, t + 1, os⟩ := by
    refine wpAny_bind (wpAny_alloc' ?_)
    refine wpAny_bind (wpAny_update' hx1 ?_)
    refine wpAny_pure ?_
    have gx : ((hp.push { cls := .type "dict", data := .dict #[] }).update x fun o => { cls := o.cls, dict := some hp.objs.size, data := o.data, slots := o.slots }).get? x = some ⟨.ref D, some hp.objs.size, oda, osl⟩ := by
      refine Heap.get?_update_self _ hx1 ?_
      have fr := (Heap.get?_some_iff.mp hx).2
      cases oda <;> first | rfl | exact fr
    have gd : ((hp.push { cls := .type "dict", data := .dict #[] }).update x fun o => { cls := o.cls, dict := some hp.objs.size, data := o.data, slots := o.slots }).get? hp.objs.size = some { cls := .type "dict", data := .dict #[] } := by
      rw [Heap.get?_update_ne _ _ _ _ xs.symm]
      exact Heap.get?_push_at rfl rfl
    have gb : ∀ b o, hp.get? b = some o → b ≠ x → ((hp.push { cls := .type "dict", data := .dict #[] }).update x fun o => { cls := o.cls, dict := some hp.objs.size, data := o.data, slots := o.slots }).get? b = some o := fun b o e n => by
      rw [Heap.get?_update_ne _ _ _ _ n]
      exact Heap.get?_push_of_some _ e
    generalize ((hp.push { cls := .type "dict", data := .dict #[] }).update x fun o => { cls := o.cls, dict := some hp.objs.size, data := o.data, slots := o.slots }) = h2 at gx gd gb
    have nd : h2.Ns hp.objs.size (fun _ => none) := ⟨_, #[], _, gd, rfl, fun e he => absurd he (by simp), fun _ => rfl⟩
    show wpAny _ _ (storeInDict hp.objs.size (.str f t) f v) _ _ _
    unfold storeInDict newKeyGuard
    refine wpAny_bind (wpAny_pure (wpAny_bind ?_))
    refine wpAny_nsSet1 (Heap.Ns1.of_empty nd) fun h3 n3 s3 => ?_
    obtain ⟨oD, eD, pD, q1, q2, q3⟩ := n3.count (PySem.Within.cons f v PySem.Within.nil)
    have small : oD.data.pastItsLine = none := by
      rw [q2]
      refine pastItsLine_dict (Nat.le_trans q3 ?_)
      rw [List.length_cons, List.length_nil, sizeLine_eq]
      omega
    refine wpAny_bind (wpAny_lookBehind q1 small ?_)
    refine wpAny_pure (h h3 _ n3 ?_ fun b o e n => ?_)
    · rw [s3.2 x xs]
      exact gx
    · rw [s3.2 b (Nat.ne_of_lt (Heap.lt_size e))]
      exact gb b o e n
  cases oda with
  | cls c => exact absurd rfl (nc c)
  | _ => exact go
end
end L2
namespace L2
open PySem PySem.Spec PyProof.Rows
section
open PySem.W
variable {prog : Program} {w : World} {A : Around} {E : Value → Shared → Prop} {h : Heap} {g : Array GenState} {d : Drawn} {t : Nat} {os : OsState}
variable {nm qn : Str} {C N fI : Addr} {bs bm : List Value} {hdc : Bool} {sn : List Str} {sub : List Value} {ab : Bool} {col : Option Bool} {dd : Option Addr} {k0 k1 k2 k3 k5 : Option Value}
abbrev blank (C : Addr) (tp : Addr) : Obj := { cls := .ref C, data := .fields #[.ref tp, .none, .none, .none, .bool false, .none] }
theorem xnew {R : Result → Shared → Prop} {rest : List Value} {kw : List (Str × Value)} (T : OwnTail h bmV bm) (hC : h.get? C = some (excClassObj nm qn C N bs bm hdc sn sub ab col dd k0 k1 k2 k3 k5 nidV)) (hz : rest.length ≤ sizeLine)
    (hR : R (.ok (.ret (.ref (h.objs.size + 1)))) ⟨(h.push { cls := .type "tuple", data := .seq rest.toArray }).push (blank C h.objs.size), g, d, t, os⟩) :
    codeAny (model prog w) A (.builtin nidV ⟨.ref C :: rest, kw⟩) R ⟨h, g, d, t, os⟩ := by
  have F := PySem.F.excBase_ValueError
  have c1 : (Value.ref C :: bm).contains (.type "ValueError") = true := by rw [List.contains_cons, T.hasType F.hasB, Bool.or_true]
  have c2 : (Value.ref C :: bm).contains (.type "AttributeError") = false := by rw [List.contains_cons, T.hasType F.noAttr]; rfl
  have c3 : (Value.ref C :: bm).contains (.type "NameError") = false := by rw [List.contains_cons, T.hasType F.noName]; rfl
  have en := F.ends
  refine codeAny_builtinAt F.entry ?_
  unfold Builtin.«BaseException.__new__»
  refine PySem.wpAt_bind ?_
  show PySem.wpAt _ _ _ (stack >>= _) _ _ _
  refine PySem.wpAt_bind (PySem.wpAt_stack fun _ _ => PySem.wpAt_of_wpAny ?_)
  wp_walk
  refine PySem.wpAt_of_wpAny ?_
  rw [F.owner]
  repeat (first
    | with_reducible refine wpAny_madeHere_exc F.canon hC ?_
    | with_reducible refine wpAny_loadPart_at hC ?_
    | (with_reducible refine wpAny_isSubtype_exc hC ?_; first | rw [c1] | rw [c2] | rw [c3])
    | wp_step)
  show R _ _
  rw [Heap.size_push]
  exact hR
theorem xcheck {M : Model} {rest : List Value} {kw : List (Str × Value)} {Q : Unit → Shared → Prop} (T : OwnTail h bmV bm) (hC : h.get? C = some (excClassObj nm qn C N bs bm hdc sn sub ab col dd k0 k1 k2 k3 k5 nidV)) (hq : Q () ⟨h, g, d, t, os⟩) :
    wpAny M A (checkBuiltinCall nidV ⟨.ref C :: rest, kw⟩) Q E ⟨h, g, d, t, os⟩ := by
  have F := PySem.F.excBase_ValueError
  have c1 : (Value.ref C :: bm).contains (.type "ValueError") = true := by rw [List.contains_cons, T.hasType F.hasB, Bool.or_true]
  have st := F.noStar
  simp only [checkBuiltinCall, F.newKind, F.newSplit, F.newRow]
  repeat (first
    | refine wpAny_loadPart_at hC ?_
    | (refine wpAny_isSubtype_exc hC ?_; rw [c1])
    | refine wpAny_staticBase_exc hC ?_
    | refine wpAny_madeBy_exc hC ?_
    | simp only [bne_self_eq_false, Bool.false_eq_true, if_false]
    | wp_step)
  exact hq
theorem xtype {mN : Str → Option Value} {rest : List Value} {kw : List (Str × Value)} {oI : Obj} {Q : PySem.Fin → Shared → Prop} (T : OwnTail h bmV bm) (hC : h.get? C = some (excClassObj nm qn C N bs bm hdc sn sub ab col dd k0 k1 k2 k3 k5 nidV)) (hn : h.Ns N mN)
    (hi : mN "__init__" = some (.ref fI)) (hf : h.get? fI = some oI) (hfc : oI.cls = .type "function") (hz : rest.length ≤ sizeLine)
    (hq : ∀ h' e, Heap.MadeExcOf h h' e (.ref C) rest → h.objs.size ≤ e → wpAny (model prog w) A (call (.ref fI) (.ref e :: rest) kw) (fun r s' => r = .none ∧ Q (.done (.ret (.ref e))) s') E ⟨h', g, d, t, os⟩) :
    wpAny (model prog w) A (Builtin.«type.__call__» ⟨.ref C :: rest, kw⟩) Q E ⟨h, g, d, t, os⟩ := by
  have F := PySem.F.excBase_ValueError
  repeat (first
    | with_reducible refine wpAny_loadPart_at hC ?_
    | with_reducible refine wpAny_madeBy_exc hC ?_
    | wp_step)
  refine codeAny_call_builtin_code (Code.quiet_builtin _ F.quiet) (xcheck T hC ?_)
  refine xnew T hC hz ?_
  show wpAny _ _ _ _ _ _
  have up : ∀ b o, h.get? b = some o → ((h.push { cls := .type "tuple", data := .seq rest.toArray }).push (blank C h.objs.size)).get? b = some o := fun b o e => Heap.get?_push_of_some _ (Heap.get?_push_of_some _ e)
  have ge : ((h.push { cls := .type "tuple", data := .seq rest.toArray }).push (blank C h.objs.size)).get? (h.objs.size + 1) = some (blank C h.objs.size) := by heap_get
  have gt : ((h.push { cls := .type "tuple", data := .seq rest.toArray }).push (blank C h.objs.size)).get? h.objs.size = some { cls := .type "tuple", data := .seq rest.toArray } := Heap.get?_push_of_some _ (Heap.get?_push_at rfl rfl)
  have hq1 := hq _ (h.objs.size + 1) ⟨up, Heap.get?_none_of_le (Nat.le_succ _), h.objs.size, ge, Heap.get?_none_of_le (Nat.le_refl _), gt⟩ (Nat.le_succ _)
  generalize (h.push { cls := .type "tuple", data := .seq rest.toArray }).push (blank C h.objs.size) = h2 at up ge gt hq1 ⊢
  have C2 := up _ _ hC
  have n2 := hn.keeps up
  have T2 := T.keeps up
  have f2 := up _ _ hf
  have cC : (Value.ref C :: bm).contains (.ref C) = true := by simp
  unfold isInstance
  repeat (first
    | with_reducible refine wpAny_loadPart_at ge ?_
    | (with_reducible refine wpAny_isSubtype_exc C2 ?_; rw [cC])
    | wp_step)
  show wpAny _ _ (typeLookup (.ref C) _) _ _ _
  refine wpAny_typeLookup_tail C2 n2 T2 F.mroIs F.init.lookup ?_
  rw [hi]
  refine wpAny_holding (wpAny_bind ?_)
  unfold bindSpecial
  refine wpAny_bind (wpAny_typeOf (T := "function") ⟨oI, f2, hfc⟩ ?_)
  rw [if_pos (by decide)]
  refine wpAny_pure (wpAny_bind (wpAny_mono hq1 (fun r s' hr => ?_) fun _ _ z => z))
  obtain ⟨rfl, hQ⟩ := hr
  wp_walk
  exact hQ
theorem xcall {mN : Str → Option Value} {rest : List Value} {kw : List (Str × Value)} {oI : Obj} {Q : Value → Shared → Prop} (T : OwnTail h bmV bm) (hC : h.get? C = some (excClassObj nm qn C N bs bm hdc sn sub ab col dd k0 k1 k2 k3 k5 nidV)) (hn : h.Ns N mN)
    (hi : mN "__init__" = some (.ref fI)) (hf : h.get? fI = some oI) (hfc : oI.cls = .type "function") (hz : rest.length ≤ sizeLine)
    (hq : ∀ h' e, Heap.MadeExcOf h h' e (.ref C) rest → h.objs.size ≤ e → wpAny (model prog w) (A.under (.builtin "type.__call__" ⟨.ref C :: rest, kw⟩)) (call (.ref fI) (.ref e :: rest) kw) (fun r s' => r = .none ∧ Q (.ref e) s') E ⟨h', g, d, t, os⟩) :
    wpAny (model prog w) A (call (.ref C) rest kw) Q E ⟨h, g, d, t, os⟩ := by
  have f1 := tc_lookup
  have f2 := tc_bind (.ref C)
  have hT : (⟨h, g, d, t, os⟩ : Shared).TypeIs (.ref C) "type" := ⟨_, hC, rfl⟩
  have L : Looks (model prog w) h (isInstance (.ref C) (.type "type")) true := (show Looks (model prog w) h (typeOf (.ref C)) (.type "type") from (Looks.ld hC).andThen .now).andThen (Looks.of_pure tc_sub)
  refine wpAny_call (codeAny_of_tree ?_)
  show wpAny _ _ (callAny (.ref C) _) _ _ _
  repeat (any_goals (first | assumption | with_reducible refine wpAny_loadPart_at hC ?_ | wp_step))
  refine ⟨rfl, ?_⟩
  refine codeAny_call_builtin_at (Code.quiet_builtin _ (by decide +kernel)) entry_typeCall (check_slot tc_kind tc_split L (tc_args _ _ _) ?_)
  exact xtype T hC hn hi hf hfc hz fun h' e hm he => hq h' e hm he
end
end L2
namespace L2
open PySem PySem.Spec PyProof.Rows
def ExA (x : Addr) (C : Value) (od : Option Addr) (h : Heap) : Prop := ∃ o vs, h.get? x = some o ∧ o.cls = C ∧ o.data = .fields vs ∧ o.dict = od
def ExN (x : Addr) (C : Value) (od : Option Addr) (h : Heap) : Prop := ∃ o vs tp, h.get? x = some o ∧ o.cls = C ∧ o.data = .fields vs ∧ vs[0]? = some (.ref tp) ∧ vs[1]? = some .none ∧ o.dict = od
theorem ExN.a {x : Addr} {C : Value} {od : Option Addr} {h : Heap} (e : ExN x C od h) : ExA x C od h := let ⟨o, vs, _, a, b, c, _, _, d⟩ := e; ⟨o, vs, a, b, c, d⟩
theorem exN_ok {P : Program} {w : World} {H : Hp} {x : Addr} {C : Value} {od : Option Addr} {h : Heap} (e : ExN x C od h) : ObjOk P w H h x (.ext (ExN x C od)) := by
  obtain ⟨o, vs, tp, a, r⟩ := e
  exact ⟨⟨o, vs, tp, a, r⟩, ⟨o, a⟩, fun h1 h2 ⟨o, vs, tp, a, r⟩ k => ⟨o, vs, tp, k o a, r⟩⟩
theorem exA_ok {P : Program} {w : World} {H : Hp} {x : Addr} {C : Value} {od : Option Addr} {h : Heap} (e : ExA x C od h) : ObjOk P w H h x (.ext (ExA x C od)) := by
  obtain ⟨o, vs, a, r⟩ := e
  exact ⟨⟨o, vs, a, r⟩, ⟨o, a⟩, fun h1 h2 ⟨o, vs, a, r⟩ k => ⟨o, vs, k o a, r⟩⟩
def excPut (K : PySem.W.Frag) (D : Addr) : Bool := excKit K D && PySem.W.findIn K (.ref D) "__setattr__" == some (some (.builtin "object.__setattr__")) && (PySem.W.clsIn K D).any fun cd => ownVE cd.mro && cd.hasDict
section
variable {X : Cx} {pins : List (Addr × Obj)} {σ : St} {H : Hp} {s : Shared} {x D dx : Addr} {f : Str} {fs : List (Str × V)} {v : V} {φ : Heap → Prop} {A : Around} {E : Value → Shared → Prop}
theorem excPut_of {K : PySem.W.Frag} (q : excPut K D = true) : excKit K D = true ∧ PySem.W.findIn K (.ref D) "__setattr__" = some (some (.builtin "object.__setattr__")) ∧ ∃ cd, PySem.W.clsIn K D = some cd ∧ ownVE cd.mro = true ∧ cd.hasDict = true := by
  unfold excPut at q
  simp only [Bool.and_eq_true, beq_iff_eq] at q
  obtain ⟨⟨a, b⟩, c⟩ := q
  obtain ⟨cd, e, c⟩ := PySem.W.any_some c
  rw [Bool.and_eq_true] at c
  exact ⟨a, b, cd, e, c.1, c.2⟩
theorem xget_ok {b : Bool} {Q : Value → Shared → Prop} (I : Inv X pins σ H s) (e : H x = some (.ext φ)) (hφ : ∀ h, φ h → ExA x (.ref D) (some dx) h) (ed : H dx = some (.xd fs)) (q : excPut X.K D = true) (n : NoAttr X.K D f) (l : fs.lookup f = some v)
    (h : ∀ u s', Inv X pins σ H s' → RelV v u → Q u s') : wpAny (model X.prog X.w) A (getAttr (.ref x) f b) Q E s := by
  obtain ⟨q1, q2, cd, q3, q4, q5⟩ := excPut_of q
  obtain ⟨hp, _, _⟩ := I.hok x _ e
  obtain ⟨o, vs, ho, hc, hd, hdi⟩ := hφ _ hp
  obtain ⟨mA, hn, hr⟩ := I.hok dx _ ed
  obtain ⟨od, hod, hlk⟩ := lookIn_ns hn
  obtain ⟨u, hu, ru⟩ := RelO.some_of (v := v) (o := mA f) (by rw [← l]; exact hr f)
  obtain ⟨oc, odi, oda, osl⟩ := o
  dsimp only at hc hd hdi
  subst hc hd hdi
  exact getx I.kIn q1 (by unfold PySem.W.hasDictIn; rw [q3]; exact q5) ⟨ho, rfl, rfl, hod⟩ n (by rw [hlk, hu]) (handed_of ru) (h u _ (I.tok _) ru)
theorem xset_ok {y : V} {u : Value} {Q : Unit → Shared → Prop} (I : Inv X pins σ H s) (e : H x = some (.ext (ExN x (.ref D) none))) (q : excPut X.K D = true) (n : NoAttr X.K D f) (ry : RelV y u)
    (h : ∀ dx s', H dx = none → dx ≠ x → Inv X pins σ (upd (upd H dx (.xd [(f, y)])) x (.ext (ExN x (.ref D) (some dx)))) s' → Q () s') : wpAny (model X.prog X.w) A (setAttr (.ref x) f u) Q E s := by
  obtain ⟨q1, q2, cd, q3, q4, q5⟩ := excPut_of q
  obtain ⟨⟨o, vs, tp, ho, hc, hd, h0, h1, hdi⟩, _, _⟩ := I.hok x _ e
  obtain ⟨oc, odi, oda, osl⟩ := o
  dsimp only at hc hd hdi
  subst hc hd hdi
  refine setx I.kIn ⟨ho, rfl, rfl, trivial⟩ q2 q3 q4 q5 n fun h' tk hn hx hk => ?_
  have ne : s.heap.objs.size ≠ x := Nat.ne_of_gt (Heap.lt_size ho)
  have hf := I.fresh
  refine h s.heap.objs.size _ hf ne ?_
  obtain ⟨oD, es, ep, eo, r⟩ := id hn
  have fr := (Heap.get?_some_iff.mp eo).2
  have I1 := I.laid (a := s.heap.objs.size) (o := .xd [(f, y)]) (h' := s.heap.push oD) (t' := s.toks) (fun b u z => Heap.get?_push_of_some _ z) (Nat.le_refl _) ⟨_, ⟨oD, es, ep, Heap.get?_push_size _ fr, r⟩, fun g => by
    show RelO (List.lookup g [(f, y)]) (if g = f then some u else none)
    by_cases z : g = f
    · subst z
      rw [if_pos rfl, List.lookup_cons, show (g == g) = true from beq_iff_eq.mpr rfl]
      exact ry
    · rw [if_neg z, List.lookup_cons, show (g == f) = false from beq_eq_false_iff_ne.mpr z]
      trivial⟩
  refine I1.write (x := x) (e := x) (o := .ext (ExN x (.ref D) (some s.heap.objs.size))) (by rw [upd_ne ne.symm, e]; trivial) (.inl rfl) (fun b u hb z => ?_) ⟨_, hx⟩ (exN_ok ⟨_, _, tp, hx, rfl, rfl, h0, h1, rfl⟩)
  rcases Heap.get?_push_cases z with ⟨rfl, rfl⟩ | z
  · exact eo
  · exact hk b u z hb
end
def tXget (K : PySem.W.Frag) (ta : TE) (f : Str) : TE := fun σ H Q => ta σ H fun x H1 => ∃ a D dx fs v φ, x = .ref a ∧ H1 a = some (.ext φ) ∧ (∀ h, φ h → ExA a (.ref D) (some dx) h) ∧ H1 dx = some (.xd fs) ∧ excPut K D = true ∧ NoAttr K D f ∧ fs.lookup f = some v ∧ Q v H1
def sXput (K : PySem.W.Frag) (ta tv : TE) (f : Str) : TS := fun D σ H => tv σ H fun y H1 => ta σ H1 fun x H2 => ∃ a C, x = .ref a ∧ H2 a = some (.ext (ExN a (.ref C) none)) ∧ excPut K C = true ∧ NoAttr K C f ∧
  ∀ dx, H2 dx = none → dx ≠ a → D.nx σ (upd (upd H2 dx (.xd [(f, y)])) a (.ext (ExN a (.ref C) (some dx))))
section
variable {X : Cx} {K : PySem.W.Frag} {o e value : Expr} {f : Str} {pos pos' : Pos} {ta tv : TE}
theorem pe_xget (hK : X.K = K) (he : PE X e ta) (hb : attributeBase e f X.env (eval e X.env) = eval e X.env) : PE X (.Attribute e f pos) (tXget K ta f) := by
  subst hK
  intro pins s σ H Q I h
  refine attr_of hb (thn (he pins s σ H _ I h) fun u s1 ⟨x, H1, I1, rx, a, D, dx, fs, v, φ, ex, ea, hφ, ed, q, n, l, k⟩ => ?_)
  subst ex
  obtain rfl : u = Value.ref a := rx
  exact xget_ok I1 ea hφ ed q n l fun u' s2 I2 ru => ⟨v, H1, I2, ru, k⟩
theorem ps_xput (hK : X.K = K) (ha : PE X o ta) (hv : PE X value tv) (hs : swapsWith value (some (.Attribute o f pos')) pos.line X.env = pure false) : PS X (.Assign [.Attribute o f pos'] value pos) (sXput K ta tv f) := by
  subst hK
  intro pins s σ H D I h
  refine plainObj_wpAny_Assign_Attribute (thn (hv pins s σ H _ I h) fun u s1 ⟨y, H1, I1, ry, q⟩ => thn (ha pins s1 σ H1 _ I1 q) fun ov s2 ⟨x, H2, I2, rx, a, C, ex, ea, c, n, q2⟩ => ?_) hs
  subst ex
  obtain rfl : ov = Value.ref a := rx
  exact xset_ok I2 ea c n ry fun dx s3 hd ne I3 => ⟨σ, _, I3, q2 dx hd ne⟩
end
end L2
namespace L2
open PySem PySem.Spec PyProof.Rows
def excMade (K : PySem.W.Frag) (C fI : Addr) : Bool := match K.lookup C with
  | some ⟨.type "type", _, .cls c, sl⟩ => (match c.mro, sl.toList with
    | .ref D :: tl, [_, _, _, _, some (.builtin m), _] => D == C && m == nidV && !c.hasDel && PySem.W.tailIn K bmV tl && PySem.W.nsOkIn K c.ns && PySem.W.nsIn K c.ns "__init__" == some (some (.ref fI))
    | _, _ => false)
  | _ => false
theorem ns_some {K : PySem.W.Frag} {h : Heap} {N : Addr} {m : Str → Option Value} {n : Str} {v : Value} (kin : K.In h) (G : h.Ns N m) (e : PySem.W.nsIn K N n = some (some v)) : m n = some v := by
  obtain ⟨ob, ents, k, look, dat, _, all⟩ := G
  unfold PySem.W.nsIn at e
  split at e
  · rename_i c d ents' k' sl found
    have same := kin _ _ found
    rw [look] at same
    cases same
    cases dat
    split at e
    · rename_i one is
      cases e
      rw [← all, nsFind, findBy, ← Array.find?_toList, is]
      rfl
    · split at e <;> cases e
  · cases e
theorem exc_at2 {K : PySem.W.Frag} {h : Heap} {C fI : Addr} (kin : K.In h) (q : excMade K C fI = true) :
    ∃ bm N nm qn bs hdc sn sub ab col dd k0 k1 k2 k3 k5 mN, h.get? C = some (excClassObj nm qn C N bs bm hdc sn sub ab col dd k0 k1 k2 k3 k5 nidV) ∧ h.Ns N mN ∧ mN "__init__" = some (.ref fI) ∧ OwnTail h bmV bm := by
  unfold excMade at q
  split at q
  · rename_i dd data sl look
    split at q
    · rename_i C1 bm k0 k1 k2 k3 n k5 hmro hslots
      simp only [beq_iff_eq, Bool.and_eq_true, Bool.not_eq_true'] at q
      obtain ⟨⟨⟨⟨⟨e1, e2⟩, e3⟩, e4⟩, e5⟩, e6⟩ := q
      subst e1 e2
      obtain ⟨nm, bs, mro, ns, qn, hdc, sn, sub, ab, col, del⟩ := data
      dsimp only at hmro e3 e5 e6
      subst hmro e3
      obtain ⟨ls⟩ := sl
      have e7 : ls = [k0, k1, k2, k3, some (.builtin nidV), k5] := hslots
      subst e7
      refine ⟨bm, ns, nm, qn, bs, hdc, sn, sub, ab, col, dd, k0, k1, k2, k3, k5, _, kin _ _ look, .of_isNs (PySem.W.isNs_of_in kin e5), ns_some kin (.of_isNs (PySem.W.isNs_of_in kin e5)) e6, PySem.W.tail_of_in kin e4⟩
    · cases q
  · cases q
section
variable {prog : Program} {w : World} {A : Around} {E : Value → Shared → Prop} {s : Shared} {K : PySem.W.Frag} {x C fI : Addr}
theorem initx {u : Value} {o : Obj} {vs : Array Value} {tp : Addr} {Q : Value → Shared → Prop} (kin : K.In s.heap) (q : excMade K C fI = true) (ho : s.heap.get? x = some o) (hc : o.cls = .ref C) (hd : o.data = .fields vs) (h0 : vs[0]? = some (.ref tp))
    (h : Q .none { s with heap := (s.heap.push { cls := .type "tuple", data := .seq #[u] }).update x (Obj.mapFields (·.setIfInBounds 0 (.ref s.heap.objs.size))) }) :
    wpAny (model prog w) A (call (.builtin "ValueError.__init__") [.ref x, u]) Q E s := by
  obtain ⟨bm, N, nm, qn, bs, hdc, sn, sub, ab, col, dd, k0, k1, k2, k3, k5, mN, hC, hN, hi, tl⟩ := exc_at2 kin q
  obtain ⟨hp, g, dr, t, os⟩ := s
  have F := PySem.F.excBase_ValueError
  refine wpAny_call (codeAny_call_builtin F.init.plain F.initEntry (wpAny_check_init_subT F tl hC ho hc ?_))
  unfold Builtin.«BaseException.__init__»
  dsimp only
  rw [if_neg (by simp)]
  unfold newTuple Builtin.BaseException.bexcPut
  have z : 0 < vs.size := (Array.getElem?_eq_some_iff.mp h0).1
  have o1 := Heap.get?_push_of_some (h := hp) { cls := .type "tuple", data := .seq #[u] } ho
  refine wpAny_bind (wpAny_newObj_type ?_ (by show 1 ≤ sizeLine; decide))
  refine wpAny_bind (wpAny_bind (wpAny_field o1 hd h0 (wpAny_bind ?_)))
  refine wpAny_setField o1 hd z ?_
  exact wpAny_letGo (wpAny_pure h)
end
theorem dict_mapFields (o : Obj) (f : Array Value → Array Value) : (o.mapFields f).dict = o.dict := by
  obtain ⟨c, d, da, sl⟩ := o
  cases da <;> rfl
def winIn (K : PySem.W.Frag) (W : Addr) : Bool := PySem.W.specialIn K (.ref W) "__getattribute__" == some (some (.builtin "type.__getattribute__")) && PySem.W.readsIn K W (.type "type") &&
  (match PySem.W.findCls K (.ref W) (.type "type") "__init__" with | some (.val v) => v == .builtin "ValueError.__init__" | _ => false)
def tWinit (K : PySem.W.Frag) (t : TA) : TE := fun σ H Q => t σ H fun vs H1 => ∃ a C fI od v, vs = [.ref a, v] ∧ H1 a = some (.ext (ExN a (.ref C) od)) ∧ excMade K C fI = true ∧ Q .non H1
section
variable {X : Cx} {K : PySem.W.Frag} {W : Addr} {x : Str} {e : Expr} {es : List Expr} {t : TA} {np apos pos : Pos}
theorem pe_winit {pl : Sem Bool} (hK : X.K = K) (hm : X.mg x = some (.ref W)) (q : winIn K W = true) (ha : PA X (e :: es) t) (hg : Gl X x := by rfl) (hdb : (x == ("__debug__" : Str)) = false := by decide)
    (hst : starEach (e :: es) X.env = (false, eval e X.env) :: starEach es X.env := by rfl) (hpl : (backTo pos (starEach es X.env)).any (·.1) = false := by rfl)
    (ht : eval (.Call (.Attribute (.Name x np) "__init__" apos) (e :: es) [] pos) X.env = (do
      let ov ← eval (.Name x np) X.env
      standAt apos.atName
      let (f, first) ← holding [ov] (getMethod ov "__init__" pl)
      callWith pos f first (backTo pos (starEach (e :: es) X.env)) (backToKw pos (keywordEach [] X.env))) := by rfl) :
    PE X (.Call (.Attribute (.Name x np) "__init__" apos) (e :: es) [] pos) (tWinit K t) := by
  subst hK
  intro pins s σ H Q I h
  unfold winIn at q
  simp only [Bool.and_eq_true, beq_iff_eq] at q
  obtain ⟨⟨q1, q2⟩, q3⟩ := q
  have q4 : PySem.W.findCls X.K (.ref W) (.type "type") "__init__" = some (.val (.builtin "ValueError.__init__")) := by
    split at q3
    · rename_i v hv
      rw [hv, beq_iff_eq.mp q3]
    · cases q3
  refine PySem.W.methodCall_KW (pl := pl) (ld_glob I hg hm ?_ hdb) ht
  refine PySem.W.method_cls I.kIn q1 (PySem.W.cls_value I.kIn q2 q4 rfl ?_)
  have I1 : Inv X pins σ H { s with toks := s.toks + 1 } := I.tok _
  have hA := ha pos pins _ σ H _ I1 h
  rw [hst] at hA ⊢
  refine Calls.callWith_builtin (by show (false || (backTo pos (starEach es X.env)).any (·.1)) = false; rw [hpl] <;> rfl) (Calls.evalArgs_plain ?_)
  refine thn hA fun us s2 ⟨vs, H2, I2, r2, a, C, fI, od, v, ev, ea, qe, q2⟩ => ?_
  subst ev
  obtain ⟨u1, u2, rfl, r1, _⟩ := r2.two
  obtain rfl : u1 = Value.ref a := r1
  obtain ⟨⟨o, ws, tp, ho, hc, hd, h0, h1, hdi⟩, _, _⟩ := I2.hok a _ ea
  refine initx I2.kIn qe ho hc hd h0 ⟨.non, H2, ?_, rfl, q2⟩
  have ux : upd H2 a (.ext (ExN a (.ref C) od)) = H2 := by
    funext b
    by_cases z : b = a
    · rw [z, upd_same, ea]
    · rw [upd_ne z]
  have o1 := Heap.get?_push_of_some (h := s2.heap) { cls := .type "tuple", data := .seq #[u2] } ho
  have hd2 := Obj.data_mapFields hd (·.setIfInBounds 0 (Value.ref s2.heap.objs.size))
  have o2 := Heap.get?_update_self (Obj.mapFields (·.setIfInBounds 0 (Value.ref s2.heap.objs.size))) o1 (Obj.isFreed_of_fields hd2)
  have z0 : 0 < ws.size := (Array.getElem?_eq_some_iff.mp h0).1
  have key := I2.write (x := a) (e := a) (t' := s2.toks) (o := .ext (ExN a (.ref C) od)) (by rw [ea]; trivial) (.inl rfl) (fun b u hb z => (Heap.get?_update_other _ _ (Ne.symm hb)).trans (Heap.get?_push_of_some _ z)) ⟨_, o2⟩
    (exN_ok ⟨_, _, s2.heap.objs.size, o2, by rw [Obj.cls_mapFields]; exact hc, hd2, by simp [z0], by rw [Array.getElem?_setIfInBounds_ne (by decide)]; exact h1, ?_⟩)
  · rw [ux] at key
    exact key
  · rw [dict_mapFields]
    exact hdi
end
end L2
namespace L2
open PySem PySem.Spec PyProof.Rows
def DfE (P : Program) (w : World) (K : PySem.W.Frag) (mg : Str → Option Value) (base : Heap) (k : Nat) (C : Addr) (ps : List Str) (sp : Sp) : Prop :=
  ∃ (f : Addr) (fd : FuncData), FnOk P w K mg base CX0 k f fd ps sp ∧ (excMade K C f = true ∧ PySem.W.isFn K (.ref f) = true ∧ PySem.W.keepIn K (.ref C) = true) ∧ Binds K fd ps [] ∧ ∃ qual st, Fun K "__init__" qual st f fd
def RawE (K : PySem.W.Frag) (C : Addr) (qual : Str) (ps : List Str) (st : Stmt) : Prop := ∃ f fd, (excMade K C f = true ∧ PySem.W.isFn K (.ref f) = true ∧ PySem.W.keepIn K (.ref C) = true) ∧ Fun K "__init__" qual st f fd ∧ Binds K fd ps []
theorem RawE.ok {P : Program} {w : World} {K : PySem.W.Frag} {mg : Str → Option Value} {base : Heap} {C : Addr} {qual : Str} {ps N : List Str} {st : Stmt} {k : Nat} {sp : Sp} (R : RawE K C qual ps st) (S : FnScope N ps (defScope st)) (len : ∀ vs H Q E, sp vs H Q E → vs.length = ps.length)
    (hbody : ∀ (f : Addr) (cdv : Value) (A : Around) (outer : List Env) (s : Shared) (H : Hp) (vs : List V) (Q : VK) (E : XK), Room k (A.deeper (envOfC qual (defScope st) s.heap.objs.size f cdv)) → sp vs H Q E →
      ∃ t, PSs (cxOf CX0 P w K mg base N qual (defScope st) f cdv A outer s H E).nox (defBody st) t ∧ t { nx := fun _ H' => Q .non H', rt := Q } (start N vs) H) : DfE P w K mg base (k + 1) C ps sp := by
  obtain ⟨f, fd, M, F, b⟩ := R
  exact ⟨f, fd, F.ok S len (fun cdv A outer s H vs Q E hr h => hbody f cdv A outer s H vs Q E hr h), M, b, _, _, F⟩
def xNew (C : Addr) (sp : Sp) (vs : List V) (H : Hp) (Q : VK) : Prop := vs.length ≤ sizeLine ∧ ∀ x, H x = none → sp (.ref x :: vs) (upd H x (.ext (ExN x (.ref C) none))) (fun v H2 => v = .non ∧ Q (.ref x) H2) E0
section
variable {X : Cx} {k : Nat} {C f : Addr} {fd : FuncData} {ps : List Str} {sp : Sp}
theorem run_newX {pins : List (Addr × Obj)} {σ : St} {H : Hp} {s : Shared} {Q : VK} {us zs : List Value} {kw : List (Str × Value)} {vs : List V} (F : FnOk X.prog X.w X.K X.mg X.base CX0 k f fd ps sp) (q : excMade X.K C f = true) (fn : PySem.W.isFn X.K (.ref f) = true)
    (hr : Room (k + 1) X.A) (hex : X.ex = []) (I : Inv X pins σ H s) (hz : us.length ≤ sizeLine) (r : Vals vs zs)
    (bt : ∀ (e : Addr) (s3 : Shared), X.K.In s3.heap → (Value.ref e :: zs).length = ps.length → BindsTo s3 fd ⟨.ref e :: us, kw⟩ (ps.zip (Value.ref e :: zs)))
    (h : ∀ x, H x = none → X.sZ.heap.get? x = none → sp (.ref x :: vs) (upd H x (.ext (ExN x (.ref C) none))) (fun v H2 => v = .non ∧ Q (.ref x) H2) E0) : wpAny (model X.prog X.w) X.A (call (.ref C) us kw) (EP X pins σ Q) X.xe s := by
  obtain ⟨bm, N, nm, qn, bs, hdc, sn, sub, ab, col, dd, k0, k1, k2, k3, k5, mN, hC, hN, hi, tl⟩ := exc_at2 I.kIn q
  have ft : PySem.W.typeIn X.K (.ref f) = some (.type "function") := beq_iff_eq.mp fn
  obtain ⟨oI, hoI, hcI⟩ := Option.map_eq_some_iff.mp ft
  have kin := I.kIn
  obtain ⟨hp, g, dr, t, os⟩ := s
  refine xcall tl hC hN hi (kin _ _ hoI) hcI hz fun h' e hm hle => ?_
  obtain ⟨tp, he, _, _⟩ := hm.there
  have hn : H e = none := I.hok.fresh hle
  have I2 : Inv X pins σ (upd H e (.ext (ExN e (.ref C) none))) ⟨h', g, dr, t, os⟩ := I.laid (a := e) (o := .ext (ExN e (.ref C) none)) (h' := h') (t' := t) hm.keeps hle (exN_ok ⟨_, _, tp, he, rfl, rfl, rfl, rfl, rfl⟩)
  have en : X.sZ.heap.get? e = none := by
    cases z : X.sZ.heap.get? e with
    | none => rfl
    | some o =>
      obtain ⟨u, eu⟩ := I.base.there e o z (by rw [hex]; exact fun w => by cases w)
      exact absurd (Heap.lt_size eu) (Nat.not_lt.mpr hle)
  have hq := h e hn en
  have r2 : Vals (V.ref e :: vs) (Value.ref e :: zs) := .cons rfl r
  have hl : (Value.ref e :: zs).length = ps.length := by rw [← r2.length]; exact F.len _ _ _ _ hq
  refine wpAny_call (codeAny_mono (F.run _ X.stack _ _ ⟨.ref e :: us, kw⟩ (.ref e :: zs) _ _ E0 (hr.make C us kw) (I2.env0.make C us kw) (bt e _ I2.kIn hl) r2 hq) fun r s' hq' => ?_)
  cases r with
  | error e' => exact pass0 pins σ _ _ e' s' I2 hq'
  | ok fl =>
    cases fl with
    | ret u =>
      obtain ⟨v, H', I3, rv, ev, q3⟩ := I2.after hq'
      subst ev
      exact ⟨rv, ⟨V.ref e, H', I3, rfl, q3⟩⟩
    | next => exact False.elim hq'
    | brk => exact False.elim hq'
    | cont => exact False.elim hq'
def tMakeX (C : Addr) (sp : Sp) (t : TA) : TE := fun σ H Q => t σ H fun vs H1 => xNew C sp vs H1 Q
variable {x qual : Str} {ks : List Str} {st : Stmt} {e : Expr} {es : List Expr} {t tk : TA} {p pos : Pos} {kws : List Keyword} {g : List Value → List Value} {gV : List V → List V}
theorem pe_newX (D : DfE X.prog X.w X.K X.mg X.base k C ps sp) (hr : Room (k + 1) X.A) (hm : X.mg x = some (.ref C)) (ha : PA X (e :: es) t) (hg : Gl X x := by rfl)
    (hdb : (x == ("__debug__" : Str)) = false := by decide) (he : starEach (e :: es) X.env = (false, eval e X.env) :: starEach es X.env := by rfl) (hpl : (backTo pos (starEach es X.env)).any (·.1) = false := by rfl) (hex : X.ex = [] := by rfl) :
    PE X (.Call (.Name x p) (e :: es) [] pos) (tMakeX C sp t) := by
  obtain ⟨f, fd, F, ⟨q1, q2, q3⟩, b, _⟩ := D
  intro pins s σ H Q I h
  refine wpAny_Call_Name_kw (ld_glob I hg hm ?_ hdb)
  refine PySem.W.callWith_K (h₀ := X.base) I.ok.mod.kin q3 (thn (ha pos pins s σ H _ I h) fun us s1 ⟨vs, H1, I1, r, q⟩ => ⟨I1.kIn, ?_⟩) he hpl
  refine run_newX (zs := us) F q1 q2 hr hex I1 (by show us.length ≤ sizeLine; rw [← r.length]; exact q.1) r (fun e s3 k3 hl => ?_) fun x hx _ => q.2 x hx
  have := b s3 (.ref e :: us) k3 (by rw [List.append_nil]; exact hl)
  rw [List.append_nil] at this
  exact this
end
end L2
namespace L2
open PySem PySem.Spec PyProof.Rows
def KD {α : Type} : Sem α → Prop
  | .pure _ => True
  | .raise _ => True
  | .unsupported _ => True
  | .finish _ => True
  | .rule _ k => KD (k ())
  | .at _ k => KD (k ())
  | .point _ k => KD (k ())
  | .load _ _ k => ∀ o, KD (k o)
  | .update _ _ f k => (∀ o : Obj, (f o).dict = o.dict) ∧ KD (k ())
  | .loadIfAlive _ k => ∀ o, KD (k o)
  | .alloc _ k => ∀ a, KD (k a)
  | .fresh k => ∀ t, KD (k t)
  | .ask k => ∀ c, KD (k c)
  | .handled _ k => ∀ v, KD (k v)
  | .stack k => ∀ l, KD (k l)
  | .thread k => ∀ n, KD (k n)
  | _ => False
def DKh (x : Addr) (h h' : Heap) : Prop := ∀ o, h.objs[x]? = some o → ∃ o', h'.objs[x]? = some o' ∧ o'.dict = o.dict
theorem DKh.refl (x : Addr) (h : Heap) : DKh x h h := fun o e => ⟨o, e, rfl⟩
theorem DKh.trans {x : Addr} {h h1 h2 : Heap} (a : DKh x h h1) (b : DKh x h1 h2) : DKh x h h2 := fun o e => by
  obtain ⟨o1, e1, d1⟩ := a o e
  obtain ⟨o2, e2, d2⟩ := b o1 e1
  exact ⟨o2, e2, d2.trans d1⟩
theorem dkh_update (x : Addr) (h : Heap) (a : Addr) {f : Obj → Obj} (hf : ∀ o : Obj, (f o).dict = o.dict) : DKh x h (h.update a f) := fun o e => by
  cases h with
  | mk objs l =>
    show ∃ o', (objs.modify a f)[x]? = some o' ∧ _
    rw [Array.getElem?_modify]
    by_cases z : a = x
    · rw [if_pos z]
      exact ⟨f o, by rw [show objs[x]? = some o from e]; rfl, hf o⟩
    · rw [if_neg z]
      exact ⟨o, e, rfl⟩
theorem dkh_push (x : Addr) (h : Heap) (u : Obj) : DKh x h (h.push u) := fun o e => by
  cases h with
  | mk objs l =>
    refine ⟨o, ?_, rfl⟩
    show (objs.push u)[x]? = some o
    have lt : x < objs.size := (Array.getElem?_eq_some_iff.mp e).1
    rw [Array.getElem?_push_lt lt]
    exact (Array.getElem?_eq_getElem lt).symm.trans e
theorem wp_KD {α : Type} {M : Model} {Γ : PySem.Ctx} {x : Addr} : ∀ (t : Sem α), KD t → ∀ {Q : α → Pos → Shared → Prop} {E : Value → Pos → Shared → Prop} {p : Pos} {s : Shared}, Sem.wp M Γ t Q E p s →
    Sem.wp M Γ t (fun a p' s' => Q a p' s' ∧ DKh x s.heap s'.heap) (fun e p' s' => E e p' s' ∧ DKh x s.heap s'.heap) p s := by
  intro t
  have step : ∀ {t : Sem α} {Q : α → Pos → Shared → Prop} {E : Value → Pos → Shared → Prop} {p : Pos} {s s1 : Shared}, DKh x s.heap s1.heap → Sem.wp M Γ t (fun a p' s' => Q a p' s' ∧ DKh x s1.heap s'.heap) (fun e p' s' => E e p' s' ∧ DKh x s1.heap s'.heap) p s1 →
      Sem.wp M Γ t (fun a p' s' => Q a p' s' ∧ DKh x s.heap s'.heap) (fun e p' s' => E e p' s' ∧ DKh x s.heap s'.heap) p s1 := fun d h =>
    Sem.wp_mono M Γ _ (fun a p' s' z => ⟨z.1, d.trans z.2⟩) (fun e p' s' z => ⟨z.1, d.trans z.2⟩) _ _ h
  induction t with
  | pure a => intro _ Q E p s h; exact ⟨h, DKh.refl _ _⟩
  | raise e => intro _ Q E p s h; exact ⟨h, DKh.refl _ _⟩
  | unsupported w => intro _ Q E p s h; exact h
  | finish e => intro _ Q E p s h; exact h
  | rule tag k ih => intro kd Q E p s h; exact ih () kd h
  | «at» p' k ih => intro kd Q E p s h; exact ih () kd h
  | point l k ih => intro kd Q E p s h; exact ih () kd h
  | load a part k ih =>
    intro kd Q E p s h
    obtain ⟨o, ho, hw⟩ := h
    exact ⟨o, ho, ih o (kd o) hw⟩
  | update a part f k ih =>
    intro kd Q E p s h
    obtain ⟨ho, hw⟩ := h
    exact ⟨ho, step (dkh_update x s.heap a kd.1) (ih () kd.2 hw)⟩
  | loadIfAlive a k ih => intro kd Q E p s h; exact ih _ (kd _) h
  | alloc o k ih => intro kd Q E p s h; exact step (s1 := { s with heap := s.heap.push o }) (dkh_push x s.heap o) (ih s.heap.objs.size (kd _) h)
  | fresh k ih => intro kd Q E p s h; exact ih _ (kd _) h
  | ask k ih => intro kd Q E p s h; exact ih _ (kd _) h
  | handled own k ih => intro kd Q E p s h; exact ih _ (kd _) h
  | stack k ih => intro kd Q E p s h; exact ih _ (kd _) h
  | thread k ih => intro kd Q E p s h; exact ih _ (kd _) h
  | _ => intro kd; exact False.elim kd
theorem KD.bind {α β : Type} {m : Sem α} {f : α → Sem β} (hm : KD m) (hf : ∀ a, KD (f a)) : KD (m >>= f) := by
  show KD (Sem.bind m f)
  induction m with
  | pure a => exact hf a
  | raise e => exact trivial
  | unsupported w => exact trivial
  | finish e => exact trivial
  | rule tag k ih => exact ih () hm
  | «at» p' k ih => exact ih () hm
  | point l k ih => exact ih () hm
  | load a part k ih => exact fun o => ih o (hm o)
  | update a part g k ih => exact ⟨hm.1, ih () hm.2⟩
  | loadIfAlive a k ih => exact fun o => ih o (hm o)
  | alloc o k ih => exact fun a => ih a (hm a)
  | fresh k ih => exact fun a => ih a (hm a)
  | ask k ih => exact fun a => ih a (hm a)
  | handled own k ih => exact fun a => ih a (hm a)
  | stack k ih => exact fun a => ih a (hm a)
  | thread k ih => exact fun a => ih a (hm a)
  | _ => exact False.elim hm
theorem kd_field (v : Value) (i : Nat) : KD (field v i) := by
  unfold field fieldsOf
  refine KD.bind ?_ fun a => ?_
  · cases v with
    | ref a =>
      refine KD.bind (m := load a) (fun _ => trivial) fun o => ?_
      split <;> trivial
    | _ => trivial
  · split <;> trivial
theorem kd_setField (v : Value) (i : Nat) (x : Value) : KD (setField v i x) := by
  unfold setField
  cases v with
  | ref a =>
    unfold updateField
    refine KD.bind (m := load a) (fun _ => trivial) fun o => ?_
    split
    · split
      · exact ⟨fun o => dict_mapFields o _, trivial⟩
      · trivial
    · trivial
  | _ => trivial
theorem kd_setFlight (e : Value) (fr : Option Addr) : KD (setFlight e fr) := by
  unfold setFlight
  refine KD.bind (kd_field _ _) fun tb => ?_
  split
  · exact kd_setField _ _ _
  · trivial
theorem kd_ready : ∀ l : List Env, KD (readyFrames l)
  | [] => trivial
  | env :: outer => by
    unfold readyFrames
    cases env.frame with
    | none => trivial
    | some f =>
      refine KD.bind (m := load f) (fun _ => trivial) fun o => ?_
      split
      · trivial
      · refine KD.bind ?_ fun im => KD.bind ?_ fun bk => KD.bind (m := update f _) ⟨fun _ => rfl, trivial⟩ fun _ => kd_ready outer
        · unfold behindIsImport
          split
          · trivial
          · split
            · trivial
            · exact KD.bind (kd_field _ _) fun _ => trivial
        · unfold keptBack
          split
          · split
            · trivial
            · exact KD.bind (KD.bind (m := stack) (fun _ => trivial) fun _ => trivial) fun _ => trivial
          · trivial
theorem kd_noteFrame (env : Env) (v : Value) : KD (noteFrame v env) := by
  unfold noteFrame
  cases env.frame with
  | none => trivial
  | some f =>
    have rest : ∀ hd : Value, KD (do setField v 1 (← EntryCells.newEntry hd (← PySem.frameOf env) .none (rawInt f) .none (← entryPlaceOf f (hd != .none)))) := fun hd => by
      refine KD.bind ?_ fun fr => KD.bind ?_ fun pl => KD.bind ?_ fun en => kd_setField _ _ _
      · unfold PySem.frameOf
        refine KD.bind ?_ fun l => KD.bind ?_ fun r => ?_
        · exact KD.bind (m := stack) (fun _ => trivial) fun _ => trivial
        · unfold frameObject
          split
          · trivial
          · exact KD.bind (kd_ready _) fun _ => trivial
        · split <;> trivial
      · unfold entryPlaceOf
        refine KD.bind (m := stack) (fun _ => trivial) fun l => ?_
        split <;> trivial
      · unfold EntryCells.newEntry newFields newObj newObjAsIs
        dsimp only
        split <;> split <;> first
          | exact KD.bind (m := unsupported _) trivial fun _ => KD.bind (m := alloc _) (fun _ => trivial) fun _ => trivial
          | exact KD.bind (m := alloc _) (fun _ => trivial) fun _ => trivial
    refine KD.bind (kd_field _ _) fun hd => ?_
    split
    · refine KD.bind (kd_field _ _) fun x => ?_
      split
      · trivial
      · exact KD.bind (kd_setField _ _ _) fun _ => rest hd
    · exact rest hd
theorem kd_leaving (env : Env) (v : Value) : KD (leaving env v) := by
  unfold leaving
  exact KD.bind (kd_noteFrame _ _) fun _ => kd_setFlight _ _
theorem wpAny_KD {α : Type} {M : Model} {A : Around} {t : Sem α} {Q : α → Shared → Prop} {E : Value → Shared → Prop} {s : Shared} (x : Addr) (kd : KD t) (h : wpAny M A t Q E s) : wpAny M A t (fun a s' => Q a s' ∧ DKh x s.heap s'.heap) (fun e s' => E e s' ∧ DKh x s.heap s'.heap) s :=
  fun Γ p hΓ => wp_KD t kd (h Γ p hΓ)
def DictIs (x : Addr) (od : Option Addr) (h : Heap) : Prop := ∃ o, h.get? x = some o ∧ o.dict = od
theorem DictIs.dk {x : Addr} {od : Option Addr} {h h' : Heap} (d : DictIs x od h) (k : DKh x h h') {o' : Obj} (e : h'.get? x = some o') : DictIs x od h' := by
  obtain ⟨o, ho, hd⟩ := d
  obtain ⟨o1, e1, d1⟩ := k o (Heap.get?_some_iff.mp ho).1
  rw [(Heap.get?_some_iff.mp e).1] at e1
  cases e1
  exact ⟨o', e, d1.trans hd⟩
end L2
namespace L2
open PySem PySem.Spec PyProof.Rows
def wipe (H : Hp) (x : Addr) : Hp := fun b => if b = x then none else H b
theorem wipe_same {H : Hp} {x : Addr} : wipe H x x = none := by unfold wipe; rw [if_pos rfl]
theorem wipe_ne {H : Hp} {x b : Addr} (n : b ≠ x) : wipe H x b = H b := by unfold wipe; rw [if_neg n]
theorem wipe_some {H : Hp} {x b : Addr} {o : HO} (e : wipe H x b = some o) : b ≠ x ∧ H b = some o := by
  by_cases z : b = x
  · rw [z, wipe_same] at e; cases e
  · exact ⟨z, by rw [wipe_ne z] at e; exact e⟩
def CXD (P : Program) (w : World) : CXT := fun outer H s E e s' => ∃ (x : Addr) (C : Value) (od : Option Addr) (H' : Hp), e = .ref x ∧ s'.os = s.os ∧ AllBare s'.gens ∧ Fly P w outer H H' s.heap s'.heap x C ∧ DictIs x od s'.heap ∧ E C od H'
section
variable {P : Program} {w : World} {K : PySem.W.Frag} {mg : Str → Option Value} {base : Heap} {N : List Str} {qual : Str} {scope : Scope} {f : Addr} {cd : Value} {A : Around} {outer : List Env} {s : Shared} {H : Hp} {E : XK}
theorem raise_outD {pins : List (Addr × Obj)} {σ : St} {H1 : Hp} {s1 : Shared} {x : Addr} {C : Value} {od : Option Addr} (I : Inv (cxOf (CXD P w) P w K mg base N qual scope f cd A outer s H E) pins σ H1 s1)
    (hx : H1 x = some (.ext (ExN x C od))) (newx : s.heap.get? x = none) (hE : E C od (wipe H1 x)) : (cxOf (CXD P w) P w K mg base N qual scope f cd A outer s H E).xe (.ref x) s1 := by
  let st := envOfC qual scope s.heap.objs.size f cd :: outer
  have hst : frs st = s.heap.objs.size :: frs outer := rfl
  have hfr : (A.deeper (envOfC qual scope s.heap.objs.size f cd)).frames = some st := I.ok.frames
  have hfun : s1.heap.FunFrames base st := I.stack
  have free : ∀ b ∈ frs st, H1 b = none := I.stkFree
  have ub : Un (frs outer) [] H H1 s.heap s1.heap := I.base
  have noE : ∀ b : Addr, b ∉ ([] : List Addr) := fun b z => by cases z
  have hin : ∀ env ∈ st, ∀ b, env.frame = some b → b ∈ x :: frs st := fun env he b hb => List.mem_cons_of_mem _ (List.mem_filterMap.mpr ⟨env, he, hb⟩)
  obtain ⟨⟨ox, vs, tp, e1, e2, e3, e4, e5, e6⟩, _, _⟩ := I.hok x _ hx
  show wpAny (model P w) (A.deeper (envOfC qual scope s.heap.objs.size f cd)) (leaving (envOfC qual scope s.heap.objs.size f cd) (.ref x)) (fun _ s'' => CXD P w outer H s E (.ref x) s'') (fun e' s'' => CXD P w outer H s E e' s'') s1
  generalize hB : PySem.W.hideAll s1.heap (x :: frs st) = B
  have outB : B.get? x = none := by
    rw [← hB]
    exact PySem.W.hideAll_none _ List.mem_cons_self
  have hkb : B.StaysIn s1.heap := fun b o q => by rw [← hB] at q; exact PySem.W.of_hideAll _ q
  have inB : ∀ b o, s1.heap.get? b = some o → b ≠ x → b ∉ frs st → B.get? b = some o := fun b o q m n => by
    rw [← hB]
    exact PySem.W.hideAll_get _ q fun z => (List.mem_cons.mp z).elim m n
  have hl : s1.heap.FunFrames B st := by rw [← hB]; exact PySem.W.funFrames_hide hfun hin
  have nL : ∀ b o, s.heap.get? b = some o → b ∉ frs outer → b ∉ frs st := fun b o e n z => by
    rw [hst] at z
    rcases List.mem_cons.mp z with q | q
    · exact absurd (Heap.lt_size e) (by rw [q]; exact Nat.lt_irrefl _)
    · exact n q
  have nx : ∀ b o, s.heap.get? b = some o → b ≠ x := fun b o e z => by rw [z, newx] at e; cases e
  have go := wpAny_leaving_firstW (M := model P w) (A := A.deeper (envOfC qual scope s.heap.objs.size f cd)) (E := fun _ _ => False) (s := s1) (Q := fun _ s' => ∃ h', s' = { s1 with heap := h' } ∧ Heap.LeftW B st x ox.cls (.ref tp) s1.heap h') hfr hl rfl e1 hkb outB e3 e5 e4 fun h' L => ⟨h', rfl, L⟩
  refine wpAny_mono (wpAny_KD x (kd_leaving _ _) go) (fun _ s' z => ?_) fun _ _ z => z.1.elim
  obtain ⟨⟨h', rfl, k1, ⟨_, _, k2⟩, k3, k4⟩, dk⟩ := z
  have thx : ∃ ob, h'.get? x = some ob := by
    obtain ⟨oe, _, _, _, _, he, _⟩ := k3
    exact ⟨oe, he⟩
  obtain ⟨ob, hob⟩ := thx
  subst e2
  refine ⟨x, _, od, wipe H1 x, rfl, I.os, I.bare, ⟨B, _, ⟨fun a o ea => ?_, fun b o q n hb => inB b o (ub.keep b o q n hb (noE b)) (nx b o q) (nL b o q hb), fun b o q n => ?_, fun b o q hb => ?_, fun b xs q => ?_, fun b o u q => ?_, fun b ps q => ?_⟩, ⟨k1, outB, k2, k3⟩, fun b o q hb => ?_⟩, DictIs.dk ⟨ox, e1, e6⟩ dk hob, hE⟩
  · obtain ⟨na, ea'⟩ := wipe_some ea
    refine (I.hok a o ea').stay (fun b u hb q => inB b u q (fun z => ?_) fun z => ?_) (fun b q => ?_) fun b xs q => ?_
    · rcases hb with rfl | hb
      · exact na z
      · rw [z, hx] at hb; cases hb
    · rcases hb with rfl | hb
      · rw [free _ z] at ea'; cases ea'
      · rw [free _ z] at hb; cases hb
    · rw [wipe_ne (fun z => by rw [z, hx] at q; cases q)]; exact q
    · rw [wipe_ne (fun z => by rw [z, hx] at q; cases q)]; exact q
  · rw [wipe_ne (nx b o q)]
    exact ub.free b o q n (noE b)
  · obtain ⟨u, eu⟩ := ub.there b o q (noE b)
    exact ⟨u, inB b u eu (nx b o q) (nL b o q hb)⟩
  · have q1 := ub.tups b xs q
    rw [wipe_ne (fun z => by rw [z, hx] at q1; cases q1)]; exact q1
  · have q1 := ub.frzs b o u q
    rw [wipe_ne (fun z => by rw [z, hx] at q1; cases q1)]; exact q1
  · obtain ⟨more, q1⟩ := ub.tbls b ps q
    exact ⟨more, by rw [wipe_ne (fun z => by rw [z, hx] at q1; cases q1)]; exact q1⟩
  · have hz : H b = none := I.ok.frf b hb
    obtain ⟨sl, f1⟩ := ub.slot b o q hz hb (noE b)
    have hd : ∀ vs, o.data ≠ .fields vs := fun vs z => by
      obtain ⟨_, o', ho', hnd⟩ := hfun.mem (b := b) (List.mem_cons_of_mem _ hb)
      rw [f1] at ho'
      cases ho'
      exact hnd vs z
    obtain ⟨sl2, f3⟩ := k4 b _ f1 hd
    exact ⟨sl2, f3⟩
theorem raise_outN {pins : List (Addr × Obj)} {σ : St} {H1 : Hp} {s1 : Shared} {h2 : Heap} {e : Addr} {cls : Value} {args : List Value} (I : Inv (cxOf (CXD P w) P w K mg base N qual scope f cd A outer s H E) pins σ H1 s1)
    (hm : Heap.MadeExcOf s1.heap h2 e cls args) (hE : E cls none H1) : (cxOf (CXD P w) P w K mg base N qual scope f cd A outer s H E).xe (.ref e) { s1 with heap := h2 } := by
  have hst : frs (envOfC qual scope s.heap.objs.size f cd :: outer) = s.heap.objs.size :: frs outer := rfl
  have hfr : (A.deeper (envOfC qual scope s.heap.objs.size f cd)).frames = some (envOfC qual scope s.heap.objs.size f cd :: outer) := I.ok.frames
  have hfun : s1.heap.FunFrames base (envOfC qual scope s.heap.objs.size f cd :: outer) := I.stack
  have hin : ∀ env ∈ (envOfC qual scope s.heap.objs.size f cd :: outer), ∀ b, env.frame = some b → b ∈ frs (envOfC qual scope s.heap.objs.size f cd :: outer) := fun env he b hb => List.mem_filterMap.mpr ⟨env, he, hb⟩
  have free : ∀ b ∈ frs (envOfC qual scope s.heap.objs.size f cd :: outer), H1 b = none := I.stkFree
  show wpAny (model P w) (A.deeper (envOfC qual scope s.heap.objs.size f cd)) (leaving (envOfC qual scope s.heap.objs.size f cd) (.ref e)) (fun _ s'' => CXD P w outer H s E (.ref e) s'') (fun e' s'' => CXD P w outer H s E e' s'') { s1 with heap := h2 }
  generalize hB : PySem.W.hideAll s1.heap (frs (envOfC qual scope s.heap.objs.size f cd :: outer)) = B
  have hkb : B.StaysIn s1.heap := fun b o q => by rw [← hB] at q; exact PySem.W.of_hideAll _ q
  have inB : ∀ b o, s1.heap.get? b = some o → b ∉ frs (envOfC qual scope s.heap.objs.size f cd :: outer) → B.get? b = some o := fun b o q n => by rw [← hB]; exact PySem.W.hideAll_get _ q n
  have hl : s1.heap.FunFrames B (envOfC qual scope s.heap.objs.size f cd :: outer) := by rw [← hB]; exact PySem.W.funFrames_hide hfun hin
  obtain ⟨tp, he, _, _⟩ := id hm.there
  have go := wpAny_leaves_madeW (M := model P w) (A := A.deeper (envOfC qual scope s.heap.objs.size f cd)) (E := fun _ _ => False) (base := B) (s := { s1 with heap := h2 }) (Q := fun _ s' => ∃ h' t, s' = { s1 with heap := h' } ∧ Heap.FlyingW B outer e cls (.ref t) h' ∧ h2.UpToSlots h') hfr rfl hkb hl hm fun h' t u _ _ v => ⟨h', t, rfl, u, v⟩
  refine wpAny_mono (wpAny_KD e (kd_leaving _ _) go) (fun _ s' z => ?_) fun _ _ z => z.1.elim
  obtain ⟨⟨h', tt, rfl, hfl, hup⟩, dk⟩ := z
  obtain ⟨ob, hob, _⟩ := hfl.there
  have nL : ∀ b o, s.heap.get? b = some o → b ∉ frs outer → b ∉ frs (envOfC qual scope s.heap.objs.size f cd :: outer) := fun b o e n z => by
    rw [hst] at z
    rcases List.mem_cons.mp z with q | q
    · exact absurd (Heap.lt_size e) (by rw [q]; exact Nat.lt_irrefl _)
    · exact n q
  have ub : Un (frs outer) [] H H1 s.heap s1.heap := I.base
  have noE : ∀ b : Addr, b ∉ ([] : List Addr) := fun b z => by cases z
  refine ⟨e, cls, none, H1, rfl, I.os, I.bare, ⟨B, _, ⟨fun a o ea => ?_, fun b o q n hb => inB b o (ub.keep b o q n hb (noE b)) (nL b o q hb), fun b o q n => ub.free b o q n (noE b), fun b o q hb => ?_, ub.tups, ub.frzs, ub.tbls⟩, hfl, fun b o q hb => ?_⟩, DictIs.dk ⟨_, he, rfl⟩ dk hob, hE⟩
  · refine (I.hok a o ea).stay (fun b u hb q => inB b u q fun z => ?_) (fun _ q => q) fun _ _ q => q
    rcases hb with rfl | hb
    · rw [free _ z] at ea; cases ea
    · rw [free _ z] at hb; cases hb
  · obtain ⟨u, eu⟩ := ub.there b o q (noE b)
    exact ⟨u, inB b u eu (nL b o q hb)⟩
  · have hz : H b = none := I.ok.frf b hb
    obtain ⟨sl, e1⟩ := ub.slot b o q hz hb (noE b)
    have e2 := hm.keeps b _ e1
    have hd : ∀ vs, o.data ≠ .fields vs := fun vs z => by
      obtain ⟨_, o', ho', hnd⟩ := hfun.mem (b := b) (List.mem_cons_of_mem _ hb)
      rw [e1] at ho'
      cases ho'
      exact hnd vs z
    obtain ⟨sl2, e3⟩ := hup b _ e2 hd
    exact ⟨sl2, e3⟩
end
theorem throwsN_out {P : Program} {w : World} {K : PySem.W.Frag} {mg : Str → Option Value} {base : Heap} {N : List Str} {qual : Str} {scope : Scope} {f : Addr} {cd : Value} {A : Around} {outer : List Env} {s : Shared} {H : Hp} {E : XK} :
    Throws (cxOf (CXD P w) P w K mg base N qual scope f cd A outer s H E) E := fun _ _ _ _ _ _ _ _ I hm hE => raise_outN I hm hE
def DfMXD (P : Program) (w : World) (K : PySem.W.Frag) (mg : Str → Option Value) (base : Heap) (k : Nat) (C : Addr) (m : Str) (ps : List Str) (sp : Sp) : Prop :=
  ∃ (f : Addr) (fd : FuncData), FnOk P w K mg base (CXD P w) k f fd ps sp ∧ Meth K C m f ∧ Binds K fd ps []
section
variable {P : Program} {w : World} {K : PySem.W.Frag} {mg : Str → Option Value} {base : Heap}
theorem RawM.okXD {C : Addr} {m qual : Str} {ps N : List Str} {st : Stmt} {k : Nat} {sp : Sp} (R : RawM K C m qual ps st) (S : FnScope N ps (defScope st)) (len : ∀ vs H Q E, sp vs H Q E → vs.length = ps.length)
    (hbody : ∀ (f : Addr) (cdv : Value) (A : Around) (outer : List Env) (s : Shared) (H : Hp) (vs : List V) (Q : VK) (E : XK), Room k (A.deeper (envOfC qual (defScope st) s.heap.objs.size f cdv)) → sp vs H Q E →
      ∃ t, PSs (cxOf (CXD P w) P w K mg base N qual (defScope st) f cdv A outer s H E) (defBody st) t ∧ t { nx := fun _ H' => Q .non H', rt := Q } (start N vs) H) : DfMXD P w K mg base (k + 1) C m ps sp := by
  obtain ⟨f, fd, M, F, b⟩ := R
  obtain ⟨oc, od, kV, doc, pm, an, cdv, ct, osl, rfl, lk, hcd⟩ := F.ex
  exact ⟨f, _, fn_of lk hcd S len fun A outer s H vs Q E hr hsp => hbody f cdv A outer s H vs Q E hr hsp, M, b⟩
end
end L2
namespace L2
open PySem PySem.Spec PyProof.Rows
def ClsX (C : Addr) (h : Heap) : Prop := ∃ bm N nm qn bs hdc sn sub ab col dd k0 k1 k2 k3 k5, h.get? C = some (excClassObj nm qn C N bs bm hdc sn sub ab col dd k0 k1 k2 k3 k5 nidV) ∧ bm.contains (.type "BaseException") = true
theorem xraise {M : Model} {A : Around} {E : Value → Shared → Prop} {env : Env} {s : Shared} {x : Sem Value} {Q : Flow → Shared → Prop} (hh : A.handled = none)
    (h : wpAny M A x (fun v s1 => ∃ e o vs C, v = .ref e ∧ ClsX C s1.heap ∧ s1.heap.get? e = some o ∧ o.cls = .ref C ∧ o.data = .fields vs ∧ vs[1]? = some .none ∧ E (.ref e) s1) E s) :
    wpAny M A (raiseStmt env (some x) none) Q E s := by
  unfold raiseStmt
  refine wpAny_bind (wpAny_mono h (fun v s1 z => ?_) fun _ _ z => z)
  obtain ⟨e, o, vs, C, rfl, ⟨bm, N, nm, qn, bs, hdc, sn, sub, ab, col, dd, k0, k1, k2, k3, k5, hC, hb⟩, he, hc, hd, h1, hE⟩ := z
  have cB : (Value.ref C :: bm).contains (.type "BaseException") = true := by rw [List.contains_cons, hb, Bool.or_true]
  obtain ⟨oc, od, oda, osl⟩ := o
  dsimp only at hc hd
  subst hc hd
  obtain ⟨hp, g, dr, tk, os⟩ := s1
  repeat (first
    | with_reducible refine wpAny_loadPart_at he ?_
    | with_reducible refine wpAny_loadPart_at hC ?_
    | (with_reducible refine wpAny_isSubtype_exc hC ?_; rw [cB])
    | wp_step)
  rw [h1]
  refine wpAny_pure ?_
  rw [if_neg (by decide)]
  exact wpAny_pure (wpAny_raiseNew_none hh hE)
def tRaiseD (X : Cx) (te : TE) (E : XK) : TS := fun _ σ H => te σ H fun v H1 => ∃ x C fI od, v = .ref x ∧ H1 x = some (.ext (ExN x (.ref C) od)) ∧ excMade X.K C fI = true ∧ X.sZ.heap.get? x = none ∧ E (.ref C) od (wipe H1 x)
section
variable {X : Cx} {E : XK} {ex : Expr} {te : TE} {pos : Pos}
def ThrowsD (X : Cx) (E : XK) : Prop := ∀ (pins : List (Addr × Obj)) (σ : St) (H1 : Hp) (s1 : Shared) (x : Addr) (C : Value) (od : Option Addr), Inv X pins σ H1 s1 → H1 x = some (.ext (ExN x C od)) → X.sZ.heap.get? x = none → E C od (wipe H1 x) → X.xe (.ref x) s1
theorem throwsD_out {P : Program} {w : World} {K : PySem.W.Frag} {mg : Str → Option Value} {base : Heap} {N : List Str} {qual : Str} {scope : Scope} {f : Addr} {cd : Value} {A : Around} {outer : List Env} {s : Shared} {H : Hp} {E : XK} :
    ThrowsD (cxOf (CXD P w) P w K mg base N qual scope f cd A outer s H E) E := fun _ _ _ _ _ _ _ I hx hn hE => raise_outD I hx hn hE
theorem ps_raiseD (hc : X.calm = true) (hx : ThrowsD X E) (he : PE X ex te) : PS X (.Raise (some ex) none pos) (tRaiseD X te E) := by
  intro pins s σ H D I h
  rw [arm_exec_Raise]
  refine wpAny_bind (wpAny_standAt (xraise (I.ok.hd hc) ?_))
  refine wpAny_bind (wpAny_mono (he pins s σ H _ I h) (fun u s1 z => wpAny_bind (wpAny_standAt (wpAny_pure ?_))) fun _ _ z => z)
  obtain ⟨v, H1, I1, rv, x, C, fI, od, rfl, e1, e2, e3, e4⟩ := z
  obtain rfl : u = Value.ref x := rv
  obtain ⟨bm, N, nm, qn, bs, hdc, sn, sub, ab, col, dd, k0, k1, k2, k3, k5, mN, hC, hN, hi, tl⟩ := exc_at2 I1.kIn e2
  obtain ⟨⟨o, vs, tp, ho, hcl, hd, h0, h1, hdi⟩, _, _⟩ := I1.hok x _ e1
  exact ⟨x, o, vs, C, rfl, ⟨bm, N, nm, qn, bs, hdc, sn, sub, ab, col, dd, k0, k1, k2, k3, k5, hC, tl.hasType (by decide +kernel)⟩, ho, hcl, hd, h1, hx pins σ H1 s1 x _ od I1 e1 e3 e4⟩
end
def tMakeXD (X : Cx) (C : Addr) (sp : Sp) (t : TA) : TE := fun σ H Q => t σ H fun vs H1 => vs.length ≤ sizeLine ∧ ∀ x, H1 x = none → X.sZ.heap.get? x = none → sp (.ref x :: vs) (upd H1 x (.ext (ExN x (.ref C) none))) (fun v H2 => v = .non ∧ Q (.ref x) H2) E0
section
variable {X : Cx} {k : Nat} {C : Addr} {ps : List Str} {sp : Sp} {x : Str} {e : Expr} {es : List Expr} {t : TA} {p pos : Pos}
theorem pe_newXD (D : DfE X.prog X.w X.K X.mg X.base k C ps sp) (hr : Room (k + 1) X.A) (hm : X.mg x = some (.ref C)) (ha : PA X (e :: es) t) (hg : Gl X x := by rfl)
    (hdb : (x == ("__debug__" : Str)) = false := by decide) (he : starEach (e :: es) X.env = (false, eval e X.env) :: starEach es X.env := by rfl) (hpl : (backTo pos (starEach es X.env)).any (·.1) = false := by rfl) (hex : X.ex = [] := by rfl) :
    PE X (.Call (.Name x p) (e :: es) [] pos) (tMakeXD X C sp t) := by
  obtain ⟨f, fd, F, ⟨q1, q2, q3⟩, b, _⟩ := D
  intro pins s σ H Q I h
  refine wpAny_Call_Name_kw (ld_glob I hg hm ?_ hdb)
  refine PySem.W.callWith_K (h₀ := X.base) I.ok.mod.kin q3 (thn (ha pos pins s σ H _ I h) fun us s1 ⟨vs, H1, I1, r, q⟩ => ⟨I1.kIn, ?_⟩) he hpl
  refine run_newX (zs := us) F q1 q2 hr hex I1 (by show us.length ≤ sizeLine; rw [← r.length]; exact q.1) r (fun e s3 k3 hl => ?_) q.2
  have z := b s3 (.ref e :: us) k3 (by rw [List.append_nil]; exact hl)
  rw [List.append_nil] at z
  exact z
end
end L2
namespace L2
open PySem PySem.Spec PyProof.Rows
def Cx.tryD (X : Cx) (pins : List (Addr × Obj)) (W : St → XK) : Cx :=
  { X with pn := X.pn ++ pins, xe := fun e s' => ∃ (σ : St) (H0 H' : Hp) (s0 : Shared) (x : Addr) (C : Value) (od : Option Addr), e = .ref x ∧ Inv X pins σ H0 s0 ∧ s'.os = s0.os ∧ AllBare s'.gens ∧ Fly X.prog X.w X.stack H0 H' s0.heap s'.heap x C ∧ DictIs x od s'.heap ∧ W σ C od H' }
section
variable {X : Cx} {pins : List (Addr × Obj)} {σ : St} {H : Hp} {s : Shared} {W : St → XK}
theorem Cx.Ok.tryInD (o : X.Ok) : (X.tryD pins W).Ok := ⟨o.mod, o.kind, o.glob, o.blt, o.above, o.inj, o.has, o.cab, o.hd, o.frames, o.stk, o.exf, o.bs, o.bsz, o.noex, o.exfs, o.funs, o.frf⟩
theorem Cx.Ok.tryOutD (o : (X.tryD pins W).Ok) : X.Ok := ⟨o.mod, o.kind, o.glob, o.blt, o.above, o.inj, o.has, o.cab, o.hd, o.frames, o.stk, o.exf, o.bs, o.bsz, o.noex, o.exfs, o.funs, o.frf⟩
theorem Inv.tryInD (I : Inv X pins σ H s) : Inv (X.tryD pins W) [] σ H s := ⟨I.ok.tryInD, I.os, I.bare, I.base, I.loc, I.cell, I.free, I.freeC, fun p hp => I.pin p (by rw [List.append_nil] at hp; exact hp), I.hok, I.len⟩
theorem Inv.tryOutD {pins' : List (Addr × Obj)} (I : Inv (X.tryD pins W) pins' σ H s) : Inv X pins σ H s := ⟨I.ok.tryOutD, I.os, I.bare, I.base, I.loc, I.cell, I.free, I.freeC, fun p hp => I.pin p (List.mem_append_left _ hp), I.hok, I.len⟩
theorem passSD : PassesS (CXD X.prog X.w) (X.tryD pins W) W := fun _ σ H s _ _ I ⟨x, C, od, H', q, os, bare, F, di, hE⟩ => ⟨σ, H, H', s, x, C, od, q, I.tryOutD, os, bare, F, di, hE⟩
end
theorem kn_exA {X : Cx} {pins : List (Addr × Obj)} {σ : St} {H : Hp} {s : Shared} {x : Addr} {C : Value} {od : Option Addr} (I : Inv X pins σ (upd H x (.ext (ExAt x C))) s) (e : ExA x C od s.heap) : Inv X pins σ (upd H x (.ext (ExA x C od))) s := by
  obtain ⟨o, vs, ho, r⟩ := id e
  have z := I.write (x := x) (e := x) (o := .ext (ExA x C od)) (h' := s.heap) (t' := s.toks) (by rw [upd_same]; trivial) (.inl rfl) (fun b u _ q => q) ⟨o, ho⟩ (exA_ok e)
  rw [upd_upd] at z
  exact z
section
variable {X : Cx} {CX : CXT} {k : Nat} {f C : Addr} {fd : FuncData} {ps : List Str} {sp : Sp} {dvs : List V} {ds : List Value} {E : XK} {W : St → XK} {x m : Str} {p pos apos : Pos} {e o : Expr} {es : List Expr} {ta : TE} {t : TA}
theorem pe_mtSD {pl : Sem Bool} (D : DfMXD X.prog X.w X.K X.mg X.base k C m ps sp) (c : Cls X.K C) (hr : Room k X.A) (hx : PassesS (CXD X.prog X.w) X W) (he : PE X o ta) (ha : PA X (e :: es) t)
    (hst : starEach (e :: es) X.env = (false, eval e X.env) :: starEach es X.env := by rfl) (hpl : (backTo pos (starEach es X.env)).any (·.1) = false := by rfl)
    (ht : eval (.Call (.Attribute o m apos) (e :: es) [] pos) X.env = (do
      let ov ← eval o X.env
      standAt apos.atName
      let (f, first) ← holding [ov] (getMethod ov m pl)
      callWith pos f first (backTo pos (starEach (e :: es) X.env)) (backToKw pos (keywordEach [] X.env))) := by rfl) :
    PE X (.Call (.Attribute o m apos) (e :: es) [] pos) (tMethS C m sp [] W ta t) := by
  obtain ⟨f, fd, F, M, b⟩ := D
  intro pins s σ H Q I h
  refine PySem.W.methodCall_KW (pl := pl) (thn (he pins s σ H _ I h) fun u s1 ⟨x, H1, I1, rx, a, dx, fs, ex, ea, l, q⟩ => ?_) ht
  subst ex
  obtain rfl : u = Value.ref a := rx
  refine getmeth_ok I1 ea c M l ?_
  refine PySem.W.callWith_K (first := [.ref a]) (h₀ := X.base) I.ok.mod.kin M.kp (thn (ha pos pins s1 σ H1 _ I1 q) fun us s2 ⟨vs, H2, I2, r, q2⟩ => ⟨I2.kIn, ?_⟩) hst hpl
  exact run_fnS (us := .ref a :: us) (vs := .ref a :: vs) F hr b .nil (fun e s' z => hx pins σ H2 s2 e s' I2 z) I2 (.cons rfl r) q2
end
def wTryD (K : PySem.W.Frag) (Wc : Addr) (ie : Nat) (th : TS) (D : Ends) : St → XK := fun σ C od H => PySem.W.exmOne K C (.ref Wc) = some true ∧
  ∀ x, H x = none → th { nx := fun σ2 H2 => D.nx (σ2.set ie none) H2, rt := D.rt, bk := fun σ2 H2 => D.bk (σ2.set ie none) H2, ct := fun σ2 H2 => D.ct (σ2.set ie none) H2 } (σ.set ie (some (.ref x))) (upd H x (.ext (ExA x C od)))
def tTryAsD (K : PySem.W.Frag) (Wc : Addr) (ie : Nat) (t : (St → XK) → TS) (th : TS) : TS := fun D σ H => t (wTryD K Wc ie th D) D σ H
section
variable {X : Cx} {K : PySem.W.Frag} {Wc : Addr} {wn n : Str} {ie : Nat} {body suite : List Stmt} {b0 : Stmt} {t : (St → XK) → TS} {th : TS} {np hp pos : Pos}
theorem ps_tryAsD (hK : X.K = K) (hex : X.ex = []) (hst : X.stack = X.env :: X.outer) (hfr : X.env.frame = some X.env.locals) (hN : X.N.Nodup) (hi : X.N[ie]? = some n) (hk : X.env.kindOf n = some .local) (hm : X.mg wn = some (.ref Wc))
    (hb : ∀ pins W, PSs (X.tryD pins W) body (t W)) (hh : ∀ v, PSs (X.markX v) (b0 :: suite) th) (hg : Gl X wn := by rfl) (hd : (wn == ("__debug__" : Str)) = false := by decide) :
    PS X (.Try body [.ExceptHandler (some (.Name wn np)) (some n) (b0 :: suite) hp] [] [] pos) (tTryAsD K Wc ie t th) := by
  subst hK
  intro pins s σ H D I h
  refine wpAny_Try_except (wpAny_mono (hb pins _ [] s σ H D I.tryInD h) (fun f s1 q => ?_) fun e s1 q => ?_)
  · cases f with
    | next =>
      obtain ⟨σ', H', I', q⟩ := q
      exact wpAny_execs_nil ⟨σ', H', I'.tryOutD, q⟩
    | brk => obtain ⟨σ', H', I', q⟩ := q; exact ⟨σ', H', I'.tryOutD, q⟩
    | cont => obtain ⟨σ', H', I', q⟩ := q; exact ⟨σ', H', I'.tryOutD, q⟩
    | ret u => obtain ⟨v, σ', H', I', q⟩ := q; exact ⟨v, σ', H', I'.tryOutD, q⟩
  · obtain ⟨σ', H0, H', s0, x, C, od, rfl, I0, os, bare, ⟨B, arg, b, fl, fr⟩, di, hm1, hW⟩ := q
    have frames : X.A.frames = some (X.env :: X.outer) := by rw [← hst]; exact I0.ok.frames
    have go1 := wpAny_looks_onW (M := model X.prog X.w) (A := X.A) (E := fun _ _ => False) (s := s1) (base := B) (Q := fun _ s' => ∃ h', s' = { s1 with heap := h' } ∧ Heap.HeldW B (X.env :: X.outer) x C arg X.env.locals h' ∧ s1.heap.UpToSlots h') frames hfr (by rw [← hst]; exact fl) fun h' u v => ⟨h', rfl, u, v⟩
    refine wpAny_mono (wpAny_KD x (kd_noteFrame _ _) go1) (fun _ s' z => ?_) fun _ _ z => z.1.elim
    obtain ⟨⟨h1, rfl, held, up1⟩, dk1⟩ := z
    have go2 := wpAny_landsW (M := model X.prog X.w) (A := X.A) (E := fun _ _ => False) (s := { s1 with heap := h1 }) (Q := fun _ s' => ∃ h', s' = { s1 with heap := h' } ∧ Heap.FlyingW B (X.env :: X.outer) x C arg h' ∧ h1.UpToSlots h') held fun h' u v => ⟨h', rfl, u, v⟩
    refine wpAny_mono (wpAny_KD x (kd_setFlight _ _) go2) (fun _ s' z => ?_) fun _ _ z => z.1.elim
    obtain ⟨⟨h2, rfl, fl2, up2⟩, dk2⟩ := z
    rw [← hst] at fl2
    obtain ⟨I2, hn⟩ := caught (s1 := s1) (h := h2) I0 hex os bare b fl fr fl2 (up1.trans up2)
    refine wpAny_handleBy_cons (s := { s1 with heap := h2 }) (codeAny_handlers_test ?_) (by intro z; cases z)
    refine Calls.Name_function_global I2.ok.kind hg (Calls.loadGlobal_global (by rw [I2.ok.glob]; exact I2.mod.glob.keeps I2.bk) hm ?_) hd
    have L : PySem.W.Looks (model X.prog X.w) h2 (excMatches (.ref x) (.ref Wc)) true := PySem.W.exm_one I2.kIn (exAt_ty fl2.there) hm1
    refine L.at ?_
    refine codeAny_handlers_suite_as (s := { s1 with heap := h2 }) ?_
    have go3 := lands_againW (M := model X.prog X.w) (A := X.A.mark (some (.ref x))) (E := fun _ _ => False) (s := { s1 with heap := h2 }) (Q := fun _ s' => ∃ h', s' = { s1 with heap := h' } ∧ Heap.FlyingW B X.stack x C arg h' ∧ h2.UpToSlots h') fl2 fun h' u v => ⟨h', rfl, u, v⟩
    refine wpAny_mono (wpAny_KD x (kd_setFlight _ _) go3) (fun _ s' z => ?_) fun _ _ z => z.1.elim
    obtain ⟨⟨h3, rfl, fl3, up3⟩, dk3⟩ := z
    obtain ⟨I3', _⟩ := caught (s1 := s1) (h := h3) I0 hex os bare b fl fr fl3 ((up1.trans up2).trans up3)
    obtain ⟨oe, ws, T, oT, ts, he, ⟨hcls, _⟩, hd3, _⟩ := fl3.2.2.2
    obtain ⟨oe', he', hde⟩ := di.dk ((dk1.trans dk2).trans dk3) he
    rw [he] at he'
    cases he'
    have I3 := kn_exA I3' ⟨oe, ws, he, hcls, hd3, hde⟩
    refine store_ok (s := { s1 with heap := h3 }) I3 hN hi (.inl hk) (v := .ref x) rfl (fun s4 I4 => ?_) (.inr hk)
    refine wpAny_mono (hh (.ref x) pins s4 _ _ _ I4.markIn (hW x hn)) (fun f s5 q => ?_) fun e' s5 q => q.elim
    cases f with
    | next => obtain ⟨σ5, H5, I5, q⟩ := q; exact gone_ok (I5.markOut I0.ok) hN hi hk fun s6 I6 => ⟨_, H5, I6, q⟩
    | brk => obtain ⟨σ5, H5, I5, q⟩ := q; exact gone_ok (I5.markOut I0.ok) hN hi hk fun s6 I6 => ⟨_, H5, I6, q⟩
    | cont => obtain ⟨σ5, H5, I5, q⟩ := q; exact gone_ok (I5.markOut I0.ok) hN hi hk fun s6 I6 => ⟨_, H5, I6, q⟩
    | ret u => obtain ⟨v, σ5, H5, I5, r, q⟩ := q; exact gone_ok (I5.markOut I0.ok) hN hi hk fun s6 I6 => ⟨v, _, H5, I6, r, q⟩
end
section
variable {X : Cx} {K : PySem.W.Frag}
theorem call_isinstD (h : X.K = K) : CallR X (.builtin "isinstance") (fun xs H Q => ∃ (x D : Addr) (c : V) (b : Bool) (φ : Heap → Prop), xs = [.ref x, c] ∧ H x = some (.ext φ) ∧ (∀ h, φ h → ExAt x (.ref D) h) ∧ excKit K D = true ∧
    ((isCls c = true ∧ PySem.W.kitOne K (.ref D) (cV c) = some b) ∨ ∃ p cs, c = .ref p ∧ H p = some (.tup cs) ∧ cs.all isCls = true ∧ PySem.W.kitAny K (.ref D) (cs.map cV) = some b) ∧ Q (.bl b) H) := by
  subst h
  intro pins s σ H xs us Q I r ⟨x, D, c, b, φ, e, hx, hφ, kit, how, q⟩
  subst e
  obtain ⟨u, v, rfl, r1, r2⟩ := r.two
  obtain rfl : u = Value.ref x := r1
  have p : ExAt x (.ref D) s.heap := hφ _ (I.hok x _ hx).1
  rcases how with ⟨hc, hb⟩ | ⟨p', cs, rfl, hp, hall, hb⟩
  · rw [cV_of r2 hc]
    exact PySem.W.kia_one (kitx_exc kit) I.kIn p hb (by intro z; cases z) fun tk => ⟨.bl b, H, I.tok _, rfl, q⟩
  · obtain rfl : v = Value.ref p' := r2
    obtain ⟨_, its, rv, o, ho, hcl, n, hd⟩ := I.hok p' _ hp
    obtain ⟨oc, od, odt, osl⟩ := o
    have e1 : oc = .type "tuple" := hcl
    have e2 : odt = .seq its.toArray n := hd
    subst e1 e2
    have e3 := cV_all rv hall
    subst e3
    exact PySem.W.kia_tup (kitx_exc kit) I.kIn p ho hb (by intro z; cases z) fun tk => ⟨.bl b, H, I.tok _, rfl, q⟩
end
theorem PS.nox {X : Cx} {st : Stmt} {t : TS} (h : PS X.nox st t) : PS X st t := fun pins s σ H D I q =>
  wpAny_mono (h pins s σ H D (I.wish _) q) (fun _ _ z => z.unwish) fun _ _ z => z.elim
end L2
namespace L2
open PySem PySem.Spec PyProof.Rows
theorem keep_of_exc {K : PySem.W.Frag} {C : Addr} (q : PySem.W.excIn K C bmV nidV = true) : PySem.W.keepIn K (.ref C) = true := by
  unfold PySem.W.excIn at q
  split at q
  · rename_i dd cd sl ho
    have sp : PySem.W.specialIn K (.ref C) "__call__" = some (some (.builtin "type.__call__")) := by
      unfold PySem.W.specialIn PySem.W.typeIn
      dsimp only
      rw [ho]
      show PySem.W.findIn K (.type "type") "__call__" = _
      unfold PySem.W.findIn
      dsimp only
      decide +kernel
    unfold PySem.W.keepIn
    dsimp only
    rw [ho]
    show (PySem.W.specialIn K (.ref C) "__call__" == _) = true
    rw [sp]
    decide +kernel
  · cases q
theorem kit_of_exm {K : PySem.W.Frag} {t c : Value} (h : PySem.W.exmOne K t c = some true) : PySem.W.kitOne K t c = some true := by
  unfold PySem.W.exmOne at h
  unfold PySem.W.kitOne
  split at h
  · split
    · rfl
    · exact h
  · cases h
section
open PySem.W
variable {prog : Program} {w : World} {A : Around} {E : Value → Shared → Prop} {h : Heap} {g : Array GenState} {d : Drawn} {t : Nat} {os : OsState}
variable {nm qn : Str} {C N : Addr} {bs bm : List Value} {hdc : Bool} {sn : List Str} {sub : List Value} {ab : Bool} {col : Option Bool} {dd : Option Addr} {k0 k1 k2 k3 k5 : Option Value}
theorem xtypeP {mN : Str → Option Value} {rest : List Value} {Q : PySem.Fin → Shared → Prop} (T : OwnTail h bmV bm) (hC : h.get? C = some (excClassObj nm qn C N bs bm hdc sn sub ab col dd k0 k1 k2 k3 k5 nidV)) (hn : h.Ns N mN)
    (hi : mN "__init__" = none) (hz : rest.length ≤ sizeLine)
    (hq : ∀ h' e, Heap.MadeExcOf h h' e (.ref C) rest → h.objs.size ≤ e → Q (.done (.ret (.ref e))) ⟨h', g, d, t, os⟩) :
    wpAny (model prog w) A (Builtin.«type.__call__» ⟨.ref C :: rest, []⟩) Q E ⟨h, g, d, t, os⟩ := by
  have F := PySem.F.excBase_ValueError
  repeat (first
    | with_reducible refine wpAny_loadPart_at hC ?_
    | with_reducible refine wpAny_madeBy_exc hC ?_
    | wp_step)
  refine codeAny_call_builtin_code (Code.quiet_builtin _ F.quiet) (xcheck T hC ?_)
  refine xnew T hC hz ?_
  show wpAny _ _ _ _ _ _
  have up : ∀ b o, h.get? b = some o → ((h.push { cls := .type "tuple", data := .seq rest.toArray }).push (blank C h.objs.size)).get? b = some o := fun b o e => Heap.get?_push_of_some _ (Heap.get?_push_of_some _ e)
  have ge : ((h.push { cls := .type "tuple", data := .seq rest.toArray }).push (blank C h.objs.size)).get? (h.objs.size + 1) = some (blank C h.objs.size) := by heap_get
  have sz : ((h.push { cls := .type "tuple", data := .seq rest.toArray }).push (blank C h.objs.size)).objs.size = h.objs.size + 2 := by simp only [Heap.size_push]
  generalize (h.push { cls := .type "tuple", data := .seq rest.toArray }).push (blank C h.objs.size) = h2 at up ge sz ⊢
  have C2 := up _ _ hC
  have n2 := hn.keeps up
  have T2 := T.keeps up
  have cC : (Value.ref C :: bm).contains (.ref C) = true := by simp
  unfold isInstance
  repeat (first
    | with_reducible refine wpAny_loadPart_at ge ?_
    | (with_reducible refine wpAny_isSubtype_exc C2 ?_; rw [cC])
    | wp_step)
  show wpAny _ _ (typeLookup (.ref C) _) _ _ _
  refine wpAny_typeLookup_tail C2 n2 T2 F.mroIs F.init.lookup ?_
  rw [hi]
  refine wpAny_holding (wpAny_bind (wpAny_of_eq (F.init.bind _) ?_))
  refine wpAny_bind (wpAny_call (codeAny_call_builtin F.init.plain F.initEntry (wpAny_check_init_subT F T2 C2 ge rfl ?_)))
  wp_walk
  refine hq _ (h.objs.size + 1) ⟨fun b o hb => ?_, Heap.get?_none_of_le (Nat.le_succ _), h.objs.size + 2, ?_, Heap.get?_none_of_le (by omega), ?_⟩ (Nat.le_succ _)
  · rw [Heap.get?_update_other _ _ (Nat.ne_of_gt (Nat.lt_succ_of_lt (Heap.lt_size hb)))]
    exact Heap.get?_push_of_some _ (up _ _ hb)
  · rw [Heap.get?_update_self _ (Heap.get?_push_of_some _ ge) rfl]
    rw [← sz]
    rfl
  · rw [Heap.get?_update_other _ _ (show h.objs.size + 1 ≠ h.objs.size + 2 by omega)]
    exact Heap.get?_push_at sz.symm rfl
theorem xcallP {mN : Str → Option Value} {rest : List Value} {Q : Value → Shared → Prop} (T : OwnTail h bmV bm) (hC : h.get? C = some (excClassObj nm qn C N bs bm hdc sn sub ab col dd k0 k1 k2 k3 k5 nidV)) (hn : h.Ns N mN)
    (hi : mN "__init__" = none) (hz : rest.length ≤ sizeLine)
    (hq : ∀ h' e, Heap.MadeExcOf h h' e (.ref C) rest → h.objs.size ≤ e → Q (.ref e) ⟨h', g, d, t, os⟩) :
    wpAny (model prog w) A (call (.ref C) rest) Q E ⟨h, g, d, t, os⟩ := by
  have f1 := tc_lookup
  have f2 := tc_bind (.ref C)
  have hT : (⟨h, g, d, t, os⟩ : Shared).TypeIs (.ref C) "type" := ⟨_, hC, rfl⟩
  have L : Looks (model prog w) h (isInstance (.ref C) (.type "type")) true := (show Looks (model prog w) h (typeOf (.ref C)) (.type "type") from (Looks.ld hC).andThen .now).andThen (Looks.of_pure tc_sub)
  refine wpAny_call (codeAny_of_tree ?_)
  show wpAny _ _ (callAny (.ref C) _) _ _ _
  repeat (any_goals (first | assumption | with_reducible refine wpAny_loadPart_at hC ?_ | wp_step))
  refine ⟨rfl, ?_⟩
  refine codeAny_call_builtin_at (Code.quiet_builtin _ (by decide +kernel)) entry_typeCall (check_slot tc_kind tc_split L (tc_args _ _ _) ?_)
  exact xtypeP T hC hn hi hz fun h' e hm he => hq h' e hm he
end
def tMakeP (C : Addr) (t : TA) : TE := fun σ H Q => t σ H fun vs H1 => vs.length ≤ sizeLine ∧ ∀ x, H1 x = none → Q (.ref x) (upd H1 x (.ext (ExN x (.ref C) none)))
section
variable {X : Cx} {C : Addr} {x : Str} {e : Expr} {es : List Expr} {t : TA} {p pos : Pos}
theorem pe_newP (hm : X.mg x = some (.ref C)) (q : PySem.W.excIn X.K C bmV nidV = true) (ha : PA X (e :: es) t) (hg : Gl X x := by rfl)
    (hdb : (x == ("__debug__" : Str)) = false := by decide) (he : starEach (e :: es) X.env = (false, eval e X.env) :: starEach es X.env := by rfl) (hpl : (backTo pos (starEach es X.env)).any (·.1) = false := by rfl) :
    PE X (.Call (.Name x p) (e :: es) [] pos) (tMakeP C t) := by
  intro pins s σ H Q I h
  refine wpAny_Call_Name_kw (ld_glob I hg hm ?_ hdb)
  refine PySem.W.callWith_K (h₀ := X.base) I.ok.mod.kin (keep_of_exc q) (thn (ha pos pins s σ H _ I h) fun us s1 ⟨vs, H1, I1, r, q2, q3⟩ => ⟨I1.kIn, ?_⟩) he hpl
  obtain ⟨bm, N, nm, qn, bs, hdc, sn, sub, ab, col, dd, k0, k1, k2, k3, k5, mN, hC, hN, hni, tl⟩ := exc_at I1.kIn q
  obtain ⟨hp, g, dr, t, os⟩ := s1
  refine xcallP tl hC hN hni (by show us.length ≤ sizeLine; rw [← r.length]; exact q2) (fun h' e hm hle => ?_)
  obtain ⟨tp, he, _, _⟩ := hm.there
  have hn : H1 e = none := I1.hok.fresh hle
  exact ⟨V.ref e, _, I1.laid (a := e) (o := .ext (ExN e (.ref C) none)) (h' := h') (t' := t) hm.keeps hle (exN_ok ⟨_, _, tp, he, rfl, rfl, rfl, rfl, rfl⟩), rfl, q3 e hn⟩
end
end L2
set_option maxHeartbeats 4000000
namespace Mw
open PySem L2
def top (i : Nat) : Stmt := PySem.Challenge.pw_midwindow_k14_tally_refused.main.body.getD i (.Pass ⟨0, 0, 0, 0⟩)
abbrev s_law_folded : Stmt := top 9
theorem sc_law_folded : FnScope ["script", "found", "cell"] ["script"] (defScope s_law_folded) := ⟨rfl, rfl, rfl, by decide +kernel, rfl, by decide +kernel, by decide +kernel⟩
abbrev s_law_seed : Stmt := top 10
theorem sc_law_seed : FnScope ["cell", "number"] ["cell"] (defScope s_law_seed) := ⟨rfl, rfl, rfl, by decide +kernel, rfl, by decide +kernel, by decide +kernel⟩
abbrev s_law_draw : Stmt := top 11
theorem sc_law_draw : FnScope ["seed", "most", "found", "number"] ["seed", "most"] (defScope s_law_draw) := ⟨rfl, rfl, rfl, by decide +kernel, rfl, by decide +kernel, by decide +kernel⟩
abbrev s_law_number : Stmt := top 12
theorem sc_law_number : FnScope ["seed", "scale"] ["seed", "scale"] (defScope s_law_number) := ⟨rfl, rfl, rfl, by decide +kernel, rfl, by decide +kernel, by decide +kernel⟩
abbrev s_law_kinds : Stmt := top 13
theorem sc_law_kinds : FnScope ["seed", "scale", "many", "found"] ["seed", "scale"] (defScope s_law_kinds) := ⟨rfl, rfl, rfl, by decide +kernel, rfl, by decide +kernel, by decide +kernel⟩
abbrev s_law_is_whole : Stmt := top 14
theorem sc_law_is_whole : FnScope ["found", "due"] ["found", "due"] (defScope s_law_is_whole) := ⟨rfl, rfl, rfl, by decide +kernel, rfl, by decide +kernel, by decide +kernel⟩
abbrev s_law_counted : Stmt := top 15
theorem sc_law_counted : FnScope ["counts"] ["counts"] (defScope s_law_counted) := ⟨rfl, rfl, rfl, by decide +kernel, rfl, by decide +kernel, by decide +kernel⟩
abbrev s_law_nth : Stmt := top 16
theorem sc_law_nth : FnScope ["counts", "place", "passed", "number"] ["counts", "place"] (defScope s_law_nth) := ⟨rfl, rfl, rfl, by decide +kernel, rfl, by decide +kernel, by decide +kernel⟩
abbrev s_law_below : Stmt := top 17
theorem sc_law_below : FnScope ["counts", "number"] ["counts", "number"] (defScope s_law_below) := ⟨rfl, rfl, rfl, by decide +kernel, rfl, by decide +kernel, by decide +kernel⟩
abbrev s_law_asked_right : Stmt := top 18
theorem sc_law_asked_right : FnScope ["seed", "tally", "counts", "scale", "many", "place", "some", "others", "number"] ["seed", "tally", "counts", "scale"] (defScope s_law_asked_right) := ⟨rfl, rfl, rfl, by decide +kernel, rfl, by decide +kernel, by decide +kernel⟩
abbrev s_law_turn : Stmt := top 19
theorem sc_law_turn : FnScope ["seed", "tally", "counts", "kinds", "inside", "number"] ["seed", "tally", "counts", "kinds"] (defScope s_law_turn) := ⟨rfl, rfl, rfl, by decide +kernel, rfl, by decide +kernel, by decide +kernel⟩
abbrev s_law_wrong_number : Stmt := top 20
theorem sc_law_wrong_number : FnScope ["seed", "counts", "kinds", "scale", "number"] ["seed", "counts", "kinds", "scale"] (defScope s_law_wrong_number) := ⟨rfl, rfl, rfl, by decide +kernel, rfl, by decide +kernel, by decide +kernel⟩
abbrev s_law_tried : Stmt := top 21
theorem sc_law_tried : FnScope ["tally", "way", "number", "caught", "e"] ["tally", "way", "number"] (defScope s_law_tried) := ⟨rfl, rfl, rfl, by decide +kernel, rfl, by decide +kernel, by decide +kernel⟩
abbrev s_law_refused : Stmt := top 22
theorem sc_law_refused : FnScope ["tally", "way", "number", "caught"] ["tally", "way", "number"] (defScope s_law_refused) := ⟨rfl, rfl, rfl, by decide +kernel, rfl, by decide +kernel, by decide +kernel⟩
abbrev s_law_wrong_right : Stmt := top 23
theorem sc_law_wrong_right : FnScope ["seed", "tally", "counts", "kinds", "scale", "many", "other", "out", "place"] ["seed", "tally", "counts", "kinds", "scale"] (defScope s_law_wrong_right) := ⟨rfl, rfl, rfl, by decide +kernel, rfl, by decide +kernel, by decide +kernel⟩
abbrev s_law : Stmt := top 24
theorem sc_law : FnScope ["script", "seed", "scale", "kinds", "tally", "counts", "cell", "own", "turn"] ["script"] (defScope s_law) := ⟨rfl, rfl, rfl, by decide +kernel, rfl, by decide +kernel, by decide +kernel⟩
abbrev s_Tally_init : Stmt := inClass (top 7) 0
theorem sc_Tally_init : FnScope ["self", "kinds", "kind"] ["self", "kinds"] (defScope s_Tally_init) := ⟨rfl, rfl, rfl, by decide +kernel, rfl, by decide +kernel, by decide +kernel⟩
abbrev s_Tally_put_in : Stmt := inClass (top 7) 1
theorem sc_Tally_put_in : FnScope ["self", "number"] ["self", "number"] (defScope s_Tally_put_in) := ⟨rfl, rfl, rfl, by decide +kernel, rfl, by decide +kernel, by decide +kernel⟩
abbrev s_Tally_take_out : Stmt := inClass (top 7) 2
theorem sc_Tally_take_out : FnScope ["self", "number"] ["self", "number"] (defScope s_Tally_take_out) := ⟨rfl, rfl, rfl, by decide +kernel, rfl, by decide +kernel, by decide +kernel⟩
abbrev s_Tally_how_many_in : Stmt := inClass (top 7) 3
theorem sc_Tally_how_many_in : FnScope ["self"] ["self"] (defScope s_Tally_how_many_in) := ⟨rfl, rfl, rfl, by decide +kernel, rfl, by decide +kernel, by decide +kernel⟩
abbrev s_Tally_nth_in : Stmt := inClass (top 7) 4
theorem sc_Tally_nth_in : FnScope ["self", "place", "so_far", "kind", "often"] ["self", "place"] (defScope s_Tally_nth_in) := ⟨rfl, rfl, rfl, by decide +kernel, rfl, by decide +kernel, by decide +kernel⟩
abbrev s_Tally_how_many_below : Stmt := inClass (top 7) 5
theorem sc_Tally_how_many_below : FnScope ["self", "number"] ["self", "number"] (defScope s_Tally_how_many_below) := ⟨rfl, rfl, rfl, by decide +kernel, rfl, by decide +kernel, by decide +kernel⟩
abbrev s_NoNumber_init : Stmt := inClass (top 5) 0
theorem sc_NoNumber_init : FnScope ["self", "number"] ["self", "number"] (defScope s_NoNumber_init) := ⟨rfl, rfl, rfl, by decide +kernel, rfl, by decide +kernel, by decide +kernel⟩
structure Txt (K : PySem.W.Frag) (mg : Str → Option Value) (C : Addr) : Prop where
  g_Tally : mg "Tally" = some (.ref C)
  cl_Tally : Cls K C
  a_often : NoAttr K C "often"
  m_Tally_init : RawI K C "Tally.__init__" ["self", "kinds"] s_Tally_init
  m_Tally_put_in : RawM K C "put_in" "Tally.put_in" ["self", "number"] s_Tally_put_in
  m_Tally_take_out : RawM K C "take_out" "Tally.take_out" ["self", "number"] s_Tally_take_out
  m_Tally_how_many_in : RawM K C "how_many_in" "Tally.how_many_in" ["self"] s_Tally_how_many_in
  m_Tally_nth_in : RawM K C "nth_in" "Tally.nth_in" ["self", "place"] s_Tally_nth_in
  m_Tally_how_many_below : RawM K C "how_many_below" "Tally.how_many_below" ["self", "number"] s_Tally_how_many_below
  d_law_folded : Raw K mg "_law_folded" ["script"] s_law_folded
  d_law_seed : Raw K mg "_law_seed" ["cell"] s_law_seed
  d_law_draw : Raw K mg "_law_draw" ["seed", "most"] s_law_draw
  d_law_number : Raw K mg "_law_number" ["seed", "scale"] s_law_number
  d_law_kinds : Raw K mg "_law_kinds" ["seed", "scale"] s_law_kinds
  d_law_is_whole : Raw K mg "_law_is_whole" ["found", "due"] s_law_is_whole
  d_law_counted : Raw K mg "_law_counted" ["counts"] s_law_counted
  d_law_nth : Raw K mg "_law_nth" ["counts", "place"] s_law_nth
  d_law_below : Raw K mg "_law_below" ["counts", "number"] s_law_below
  d_law_asked_right : Raw K mg "_law_asked_right" ["seed", "tally", "counts", "scale"] s_law_asked_right
  d_law_turn : Raw K mg "_law_turn" ["seed", "tally", "counts", "kinds"] s_law_turn
  d_law_wrong_number : Raw K mg "_law_wrong_number" ["seed", "counts", "kinds", "scale"] s_law_wrong_number
  d_law_tried : Raw K mg "_law_tried" ["tally", "way", "number"] s_law_tried
  d_law_refused : Raw K mg "_law_refused" ["tally", "way", "number"] s_law_refused
  d_law_wrong_right : Raw K mg "_law_wrong_right" ["seed", "tally", "counts", "kinds", "scale"] s_law_wrong_right
  d_law : Raw K mg "law" ["script"] s_law
  x_exc : ∃ aN aF aM aP aW, ExcAll K mg aN aF aM aP aW
  e_NoNumber : ∃ D, mg "NoNumber" = some (.ref D) ∧ excPut K D = true ∧ NoAttr K D "number" ∧ RawE K D "NoNumber.__init__" ["self", "number"] s_NoNumber_init
  e_win : ∃ W, mg "WindowError" = some (.ref W) ∧ winIn K W = true
  n_len : mg "len" = none
  n_sum : mg "sum" = none
  n_max : mg "max" = none
  n_abs : mg "abs" = none
  n_tuple : mg "tuple" = none
  n_int : mg "int" = none
  n_bool : mg "bool" = none
  n_isinstance : mg "isinstance" = none
  n_range : mg "range" = none
  n_sorted : mg "sorted" = none
  n_set : mg "set" = none
  n_ValueError : mg "ValueError" = none
section
variable {P : Program} {w : World} {K : PySem.W.Frag} {mg : Str → Option Value} {base : Heap} {C : Addr}
def spFolded (K : PySem.W.Frag) : Sp := fun vs H Q _ => ∃ (a : Addr) (ns : List Int), vs = [.ref a] ∧ SqL K H a (ns.map V.int) ∧ ∀ x : Int, Q (.int x) H
theorem df_law_folded (T : Txt K mg C) : Df P w K mg base 1 "_law_folded" ["script"] (spFolded K) := by
  refine T.d_law_folded.ok sc_law_folded (fun vs H Q E h => ?_) (fun f cdv A outer s H vs Q E hr h => ?_)
  · obtain ⟨a, ns, rfl, _⟩ := h
    rfl
  · obtain ⟨a, ns, rfl, hS, q⟩ := h
    refine ⟨_, (@pss_cons _ _ _ _ _ (@ps_set _ _ 1 _ _ _ _ sc_law_folded.nd rfl (by first | exact Or.inl rfl | exact Or.inr rfl) (@pe_callB _ _ _ _ _ _ _ _ _ (call_lenK (K := K) rfl) (by rfl) T.n_len bt_len (@pa_cons _ _ _ _ _ (pv 0) pa_nil (by rfl)) (by decide) (by decide) (by rfl) (by rfl)) (by rfl) (by first | exact .inl rfl | exact .inr rfl))
      (@pss_cons _ _ _ _ _ (@ps_for _ _ _ _ _ _ _ _ PassesOwn.never rfl (pi_seqK (K := K) rfl (pv 0)) (pg_name (i := 2) sc_law_folded.nd rfl (by first | exact Or.inl rfl | exact Or.inr rfl)) (@pss_one _ _ _ (@ps_set _ _ 1 _ _ _ _ sc_law_folded.nd rfl (by first | exact Or.inl rfl | exact Or.inr rfl) (@pe_op _ _ _ _ _ _ _ _ op_mod (@pe_op _ _ _ _ _ _ _ _ op_add (@pe_op _ _ _ _ _ _ _ _ op_mul (pv 1) pe_int) (@pe_op _ _ _ _ _ _ _ _ op_mod (pv 2) pe_int)) pe_int) (by rfl) (by first | exact .inl rfl | exact .inr rfl))) (by intro _; rfl))
      (@pss_one _ _ _ (@ps_ret _ _ _ _ (pv 1))))), ?_⟩
    refine ⟨_, rfl, _, _, rfl, Or.inl ⟨_, hS, rfl⟩, ?_⟩
    refine Or.inl ?_
    refine ⟨_, rfl, _, rfl, ⟨_, hS⟩, ?_⟩
    refine for_list (xs := ns.map V.int) (fun i σ H' => ∃ (x : Int) (c : Option V), σ = [some (.ref a), some (.int x), c] ∧ H' = H) ⟨_, none, rfl, rfl⟩ (fun i σ H' _ ⟨_, _, _, e⟩ => e ▸ hS) ?_ ?_
    · rintro i y _ _ hy ⟨x, c, rfl, rfl⟩
      obtain ⟨z, _, rfl⟩ : ∃ z, ns[i]? = some z ∧ V.int z = y := by
        rw [List.getElem?_map] at hy
        cases e : ns[i]? with
        | none => rw [e] at hy; cases hy
        | some z => rw [e] at hy; exact ⟨z, rfl, Option.some.inj hy⟩
      refine ⟨_, rfl, _, _, rfl, rfl, Or.inr ⟨by decide, by decide⟩, _, rfl, _, _, rfl, rfl, (by show (0 : Int) < 2147483629; decide), _, _, rfl, rfl, _, _, rfl, rfl, (by show (0 : Int) < 2147483647; decide), ?_⟩
      exact ⟨_, _, rfl, rfl⟩
    · rintro _ _ ⟨x, c, rfl, rfl⟩
      exact ⟨_, rfl, q x⟩
def spSeed : Sp := fun vs H Q _ => ∃ (c : Int), vs = [.int c] ∧ ∀ (d : Addr) (H' : Hp), H d = none → Seed H' d → Same H H' → Q (.ref d) H'
theorem df_law_seed (T : Txt K mg C) : Df P w K mg base 1 "_law_seed" ["cell"] spSeed := by
  refine T.d_law_seed.ok sc_law_seed (fun vs H Q E h => ?_) (fun f cdv A outer s H vs Q E hr h => ?_)
  · obtain ⟨c, rfl, _⟩ := h
    rfl
  · obtain ⟨c, rfl, q⟩ := h
    refine ⟨_, (@pss_cons _ _ _ _ _ (@ps_set _ _ 1 _ _ _ _ sc_law_seed.nd rfl (by first | exact Or.inl rfl | exact Or.inr rfl) (@pe_callB _ _ _ _ _ _ _ _ _ (call_max2 rfl) (by rfl) T.n_max bt_max (@pa_cons _ _ _ _ _ (pv 0) (@pa_cons _ _ _ _ _ (@pe_op _ _ _ _ _ _ _ _ op_sub pe_int (pv 0)) pa_nil star_bin) (by rfl)) (by decide) (by decide) (by rfl) (by rfl)) (by rfl) (by first | exact .inl rfl | exact .inr rfl))
      (@pss_one _ _ _ (@ps_ret _ _ _ _ (@pe_lst _ _ _ _ (@pa_cons _ _ _ _ _ (pv 1) (@pa_cons _ _ _ _ _ (@pe_callTy _ _ _ _ _ _ _ _ _ call_int1 (by rfl) T.n_int bt_int (@pa_cons _ _ _ _ _ (@pe_cmpR _ _ _ _ _ _ _ _ op_ge (pv 1) (@pe_op _ _ _ _ _ _ _ _ op_pow pe_int pe_int) (nomark _)) pa_nil star_cmp) (by decide) (by decide) (by rfl) (by rfl)) (@pa_cons _ _ _ _ _ pe_int (@pa_cons _ _ _ _ _ (@pe_op _ _ _ _ _ _ _ _ op_mod (pv 0) pe_int) pa_nil star_bin) (by rfl)) star_call) (by rfl)))))), ?_⟩
    refine ⟨_, rfl, _, rfl, _, _, rfl, rfl, _, _, rfl, ?_⟩
    refine ⟨_, rfl, _, rfl, _, _, rfl, rfl, ⟨by decide, by decide, by decide⟩, _, _, rfl, rfl, Or.inr ⟨_, rfl, _, rfl, _, _, rfl, rfl, (by show (0 : Int) < 1999999913; decide), (by show 4 ≤ sizeLine; decide), fun d hd => ?_⟩⟩
    exact q d _ hd ⟨_, _, _, _, upd_same⟩ (same_upd hd)
def spDraw : Sp := fun vs H Q _ => ∃ (d : Addr) (most : Int), vs = [.ref d, .int most] ∧ Seed H d ∧ 0 < most ∧ most < 2 ^ 40 ∧
  ∀ (x : Int) (H' : Hp), 0 ≤ x → x < most → Seed H' d → KeepBut d H H' → Q (.int x) H'
theorem df_law_draw (T : Txt K mg C) : Df P w K mg base 1 "_law_draw" ["seed", "most"] spDraw := by
  refine T.d_law_draw.ok sc_law_draw (fun vs H Q E h => ?_) (fun f cdv A outer s H vs Q E hr h => ?_)
  · obtain ⟨d, most, rfl, _⟩ := h
    rfl
  · obtain ⟨d, most, rfl, ⟨a, b, n, c, hd⟩, m0, m1, q⟩ := h
    refine ⟨_, (@pss_cons _ _ _ _ _ (@ps_asg _ _ _ _ _ _ (@pe_op _ _ _ _ _ _ _ _ op_add (@pe_ix _ _ _ _ _ _ _ (ix_seqK (K := K) rfl) (pv 0) pe_int (fun _ _ => rfl)) pe_int) (pg_sub (pv 0) pe_int set_list) (by rfl) (by rfl) (by rfl))
      (@pss_cons _ _ _ _ _ (@ps_if _ _ _ _ _ _ _ _ (pw_and (@pt_cmpR _ _ _ _ _ _ _ _ (op_eqA hr.units) (@pe_ix _ _ _ _ _ _ _ (ix_seqK (K := K) rfl) (pv 0) pe_int (fun _ _ => rfl)) pe_int (nomark _)) (pw_and1 (@pt_cmpR _ _ _ _ _ _ _ _ op_gt (@pe_ix _ _ _ _ _ _ _ (ix_seqK (K := K) rfl) (pv 0) pe_int (fun _ _ => rfl)) pe_int (nomark _)))).pt (@pss_cons _ _ _ _ _ (@ps_set _ _ 2 _ _ _ _ sc_law_draw.nd rfl (by first | exact Or.inl rfl | exact Or.inr rfl) (@pe_op _ _ _ _ _ _ _ _ op_mod (@pe_ix _ _ _ _ _ _ _ (ix_seqK (K := K) rfl) (pv 0) pe_int (fun _ _ => rfl)) (pv 1)) (by rfl) (by first | exact .inl rfl | exact .inr rfl))
      (@pss_cons _ _ _ _ _ (@ps_asg _ _ _ _ _ _ (@pe_op _ _ _ _ _ _ _ _ op_fdivB (@pe_ix _ _ _ _ _ _ _ (ix_seqK (K := K) rfl) (pv 0) pe_int (fun _ _ => rfl)) (pv 1)) (pg_sub (pv 0) pe_int set_list) (by rfl) (by rfl) (by rfl))
      (@pss_one _ _ _ (@ps_ret _ _ _ _ (pv 2))))) pss_nil)
      (@pss_cons _ _ _ _ _ (@ps_set _ _ 3 _ _ _ _ sc_law_draw.nd rfl (by first | exact Or.inl rfl | exact Or.inr rfl) (@pe_op _ _ _ _ _ _ _ _ op_mod (@pe_op _ _ _ _ _ _ _ _ op_mul (@pe_op _ _ _ _ _ _ _ _ op_add (@pe_op _ _ _ _ _ _ _ _ op_add (@pe_ix _ _ _ _ _ _ _ (ix_seqK (K := K) rfl) (pv 0) pe_int (fun _ _ => rfl)) (@pe_op _ _ _ _ _ _ _ _ op_mul pe_int (@pe_ix _ _ _ _ _ _ _ (ix_seqK (K := K) rfl) (pv 0) pe_int (fun _ _ => rfl)))) pe_int) pe_int) pe_int) (by rfl) (by first | exact .inl rfl | exact .inr rfl))
      (@pss_cons _ _ _ _ _ (@ps_set _ _ 3 _ _ _ _ sc_law_draw.nd rfl (by first | exact Or.inl rfl | exact Or.inr rfl) (@pe_op _ _ _ _ _ _ _ _ op_mod (@pe_op _ _ _ _ _ _ _ _ op_mul (@pe_op _ _ _ _ _ _ _ _ op_mod (@pe_op _ _ _ _ _ _ _ _ op_mul (pv 3) (pv 3)) pe_int) pe_int) pe_int) (by rfl) (by first | exact .inl rfl | exact .inr rfl))
      (@pss_one _ _ _ (@ps_ret _ _ _ _ (@pe_op _ _ _ _ _ _ _ _ op_mod (@pe_op _ _ _ _ _ _ _ _ op_fdivB (pv 3) pe_int) (pv 1)))))))), ?_⟩
    refine ⟨_, rfl, Or.inl ⟨_, _, _, _, rfl, rfl, SqL.of hd, rfl, _, _, rfl, rfl, ?_⟩⟩
    refine ⟨_, rfl, _, _, _, 2, rfl, rfl, hd, rfl, ?_⟩
    have h1 : upd H d (.lst [.int a, .int b, .int (n + 1), .int c]) d = some (.lst [.int a, .int b, .int (n + 1), .int c]) := upd_same
    have k1 : KeepBut d H (upd H d (.lst [.int a, .int b, .int (n + 1), .int c])) := fun b' o e hb => by rw [upd_ne hb]; exact e
    dsimp only [List.set]
    generalize upd H d (.lst [.int a, .int b, .int (n + 1), .int c]) = H1 at h1 k1 ⊢
    refine tSeq_cut (fun σ' H' => ∃ fo : Option V, σ' = [some (.ref d), some (.int most), fo, none] ∧ H' = H1) ?_ (fun rest => ?_)
    · rintro _ _ ⟨fo, rfl, rfl⟩
      refine ⟨_, rfl, Or.inl ⟨_, _, _, _, rfl, rfl, SqL.of h1, rfl, _, rfl, Or.inl ⟨_, _, _, _, rfl, rfl, SqL.of h1, rfl, _, _, rfl, rfl, Or.inl ⟨by decide, by decide⟩, _, _, rfl, rfl, _, _, rfl, rfl, _, _, rfl, rfl, Or.inr ⟨by decide, by decide⟩, _, _, rfl, rfl, (by show (0 : Int) < 2147483647; decide), ?_⟩⟩⟩
      have a1 : (0 : Int) ≤ ((c + 6997 * (n + 1) + 11) * 48271) % 2147483647 := Int.emod_nonneg _ (by decide)
      have a2 : ((c + 6997 * (n + 1) + 11) * 48271) % 2147483647 < (2147483647 : Int) := Int.emod_lt_of_pos _ (by decide)
      generalize ((c + 6997 * (n + 1) + 11) * 48271) % 2147483647 = n1 at a1 a2
      refine ⟨_, rfl, _, rfl, _, _, rfl, rfl, Or.inl ⟨by omega, by omega⟩, _, _, rfl, rfl, (by show (0 : Int) < 2147483629; decide), _, _, rfl, rfl, Or.inr ⟨by decide, by decide⟩, _, _, rfl, rfl, (by show (0 : Int) < 2147483399; decide), ?_⟩
      refine ⟨_, rfl, _, _, rfl, rfl, ⟨(by show (0 : Int) < 7; decide), by show (7 : Int) < 2 ^ 62; decide⟩, _, rfl, _, _, rfl, rfl, m0, ?_⟩
      exact q _ _ (Int.emod_nonneg _ (by omega)) (Int.emod_lt_of_pos _ m0) ⟨_, _, _, _, h1⟩ k1
    · refine ⟨_, rfl, Or.inl ⟨_, _, _, _, rfl, rfl, SqL.of h1, rfl, Or.inl ⟨rfl, _, rfl, ?_⟩⟩⟩
      refine ite2 (fun hz => ?_) (fun hz => iteF (rest _ _ ⟨none, rfl, rfl⟩))
      refine ⟨_, rfl, Or.inl ⟨_, _, _, _, rfl, rfl, SqL.of h1, rfl, _, _, rfl, rfl, _, rfl, ?_⟩⟩
      refine ite2 (fun hz => ?_) (fun hz => rest _ _ ⟨none, rfl, rfl⟩)
      refine ⟨_, rfl, Or.inl ⟨_, _, _, _, rfl, rfl, SqL.of h1, rfl, _, rfl, _, _, rfl, rfl, m0, ?_⟩⟩
      refine ⟨_, rfl, Or.inl ⟨_, _, _, _, rfl, rfl, SqL.of h1, rfl, _, rfl, _, _, rfl, rfl, ⟨m0, by omega⟩, ?_⟩⟩
      refine ⟨_, rfl, _, _, _, 0, rfl, rfl, h1, rfl, _, rfl, ?_⟩
      refine q _ _ (Int.emod_nonneg _ (by omega)) (Int.emod_lt_of_pos _ m0) ⟨_, _, _, _, upd_same⟩ fun b' o e hb => ?_
      rw [upd_ne hb]
      exact k1 b' o e hb
def spSNumber : Sp := fun vs H Q _ => ∃ (d : Addr) (sc : Int), vs = [.ref d, .int sc] ∧ Seed H d ∧ ∀ (x : Int) (H' : Hp), -1000000000 ≤ x → x ≤ 1000000000 → Seed H' d → KeepBut d H H' → Q (.int x) H'
theorem df_law_number (T : Txt K mg C) : Df P w K mg base 2 "_law_number" ["seed", "scale"] spSNumber := by
  refine T.d_law_number.ok sc_law_number (fun vs H Q E h => ?_) (fun f cdv A outer s H vs Q E hr h => ?_)
  · obtain ⟨d, sc, rfl, _⟩ := h
    rfl
  · obtain ⟨d, sc, rfl, D, q⟩ := h
    refine ⟨_, (@pss_cons _ _ _ _ _ (@ps_if _ _ _ _ _ _ _ _ (@pt_cmpR _ _ _ _ _ _ _ _ (op_eqA hr.units) (pv 1) pe_int (nomark _)) (@pss_one _ _ _ (@ps_ret _ _ _ _ (@pe_df _ _ _ _ _ _ _ _ _ _ (df_law_draw T) (hr.mono (by decide)) (@pa_cons _ _ _ _ _ (pv 0) (@pa_cons _ _ _ _ _ pe_int pa_nil (by rfl)) (by rfl)) (by rfl) (by decide) (by rfl) (by rfl)))) pss_nil)
      (@pss_cons _ _ _ _ _ (@ps_if _ _ _ _ _ _ _ _ (@pt_cmpR _ _ _ _ _ _ _ _ (op_eqA hr.units) (pv 1) pe_int (nomark _)) (@pss_one _ _ _ (@ps_ret _ _ _ _ (@pe_op _ _ _ _ _ _ _ _ op_sub (@pe_df _ _ _ _ _ _ _ _ _ _ (df_law_draw T) (hr.mono (by decide)) (@pa_cons _ _ _ _ _ (pv 0) (@pa_cons _ _ _ _ _ pe_int pa_nil (by rfl)) (by rfl)) (by rfl) (by decide) (by rfl) (by rfl)) pe_int))) pss_nil)
      (@pss_one _ _ _ (@ps_ret _ _ _ _ (@pe_op _ _ _ _ _ _ _ _ op_sub (@pe_df _ _ _ _ _ _ _ _ _ _ (df_law_draw T) (hr.mono (by decide)) (@pa_cons _ _ _ _ _ (pv 0) (@pa_cons _ _ _ _ _ (@pe_op _ _ _ _ _ _ _ _ op_add (@pe_op _ _ _ _ _ _ _ _ op_mul pe_int (@pe_op _ _ _ _ _ _ _ _ op_pow pe_int pe_int)) pe_int) pa_nil star_bin) (by rfl)) (by rfl) (by decide) (by rfl) (by rfl)) (@pe_op _ _ _ _ _ _ _ _ op_pow pe_int pe_int)))))), ?_⟩
    refine ⟨_, rfl, Or.inl ⟨rfl, _, rfl, ?_⟩⟩
    refine ite2 (fun _ => ?_) (fun _ => ?_)
    · exact ⟨_, rfl, _, _, rfl, D, (by decide), (by decide), fun x H1 x0 x1 D1 k1 => q x H1 (by omega) (by omega) D1 k1⟩
    refine ⟨_, rfl, Or.inl ⟨rfl, _, rfl, ?_⟩⟩
    refine ite2 (fun _ => ?_) (fun _ => ?_)
    · exact ⟨_, rfl, _, _, rfl, D, (by decide), (by decide), fun x H1 x0 x1 D1 k1 => ⟨_, _, rfl, rfl, q (x - 20) H1 (by omega) (by omega) D1 k1⟩⟩
    refine ⟨_, rfl, _, _, rfl, rfl, ⟨by decide, by decide, by decide⟩, _, _, rfl, rfl, Or.inl ⟨by decide, by decide⟩, _, _, rfl, rfl, ?_⟩
    refine ⟨_, _, rfl, D, (by decide), (by decide), fun x H1 x0 x1 D1 k1 => ?_⟩
    refine ⟨_, _, rfl, rfl, ⟨by decide, by decide, by decide⟩, _, _, rfl, rfl, ?_⟩
    have ten : (10 : Int) ^ (9 : Int).toNat = 1000000000 := by decide
    rw [ten] at x1 ⊢
    exact q (x - 1000000000) H1 (by omega) (by omega) D1 k1
theorem cut_mem {xs : List V} {lo hi : Option Int} {x : V} (h : x ∈ cutV xs lo hi) : x ∈ xs := by
  unfold cutV at h
  exact List.mem_of_mem_drop (List.mem_of_mem_take h)
theorem cut_len (xs : List V) (lo hi : Option Int) : (cutV xs lo hi).length ≤ xs.length := by
  unfold cutV
  rw [List.length_take, List.length_drop]
  omega
theorem pickI {x : Int} {ms : List Int} (x0 : 0 ≤ x) (x1 : x < ms.length) : ∃ m : Int, atI (ms.map V.int) x = some (.int m) ∧ m ∈ ms := by
  obtain ⟨v, e3, e4⟩ := atI_mem (xs := ms.map V.int) x0 (by rw [List.length_map]; exact x1)
  obtain ⟨m, hm, rfl⟩ := List.mem_map.mp e4
  exact ⟨m, e3, hm⟩
def kinds (ks : List Int) (cnt : Int → Int) : List (Key × V) := ks.map fun k => (Sum.inl k, V.int (cnt k))
def TalAt (C : Addr) (H : Hp) (x d : Addr) (ks : List Int) (cnt : Int → Int) : Prop := (∃ dy, H x = some (.ins C dy [("often", .ref d)])) ∧ H d = some (.dK (kinds ks cnt))
def spPut (C : Addr) : Sp := fun vs H Q _ => ∃ (x d : Addr) (ks : List Int) (cnt : Int → Int) (n : Int), vs = [.ref x, .int n] ∧ TalAt C H x d ks cnt ∧ n ∈ ks ∧ ks.length ≤ 1000 ∧ Q .non (upd H d (.dK (kinds ks fun k => if k = n then cnt k + 1 else cnt k)))
theorem kinds_val (ks : List Int) (cnt : Int → Int) (n : Int) : valV (kinds ks cnt) (Sum.inl n) = if n ∈ ks then some (.int (cnt n)) else none := val_map (fun k => V.int (cnt k)) n ks
theorem kinds_put (ks : List Int) (cnt : Int → Int) {n : Int} (h : n ∈ ks) (y : Int) : putK (kinds ks cnt) (Sum.inl n) (.int y) = kinds ks fun k => if k = n then y else cnt k := by
  unfold putK
  rw [if_pos (by rw [valV_any, kinds_val, if_pos h]; rfl)]
  unfold kinds
  rw [List.map_map]
  refine List.map_congr_left fun k _ => ?_
  by_cases z : k = n
  · subst z; simp
  · have : ¬ ((Sum.inl k : Key) = Sum.inl n) := fun e => z (Sum.inl.inj e)
    simp [this, z]
theorem df_Tally_put_in (T : Txt K mg C) : DfM P w K mg base 1 C "put_in" ["self", "number"] (spPut C) := by
  refine T.m_Tally_put_in.ok sc_Tally_put_in (fun vs H Q E h => ?_) (fun f cdv A outer s H vs Q E hr h => ?_)
  · obtain ⟨x, d, ks, cnt, n, rfl, _⟩ := h
    rfl
  · obtain ⟨x, d, ks, cnt, n, rfl, ⟨⟨dy, hx⟩, hd⟩, hn, hl, q⟩ := h
    refine ⟨_, (@pss_cons _ _ _ _ _ (@ps_if _ _ _ _ _ _ _ _ (pt_cmp (pc_dnotin (hu_of hr) (pv 1) (pe_fldK (K := K) rfl (pv 0) (by rfl)))) (@pss_one _ _ _ ps_never) pss_nil)
      (@pss_one _ _ _ (ps_daug (hu_of hr) (pe_fldK (K := K) rfl (pv 0) (by rfl)) (pv 1) pe_int ip_add (fun _ _ _ => rfl)))), ?_⟩
    have g : DGet H d (.int n) (some (.int (cnt n))) := by
      have := DGet.k (k := Sum.inl n) hd
      rw [kinds_val, if_pos hn] at this
      exact this
    refine ⟨_, rfl, _, rfl, x, C, dy, _, _, rfl, hx, T.cl_Tally, T.a_often, rfl, d, _, rfl, g, _, rfl, ?_⟩
    refine iteF ?_
    refine ⟨_, rfl, x, C, dy, _, _, rfl, hx, T.cl_Tally, T.a_often, rfl, _, rfl, d, _, rfl, g, _, _, rfl, rfl, ?_⟩
    refine ⟨_, DPut.k (k := Sum.inl n) hd (by unfold kinds; rw [List.length_map]; exact small1000 hl), ?_⟩
    rw [kinds_put ks cnt hn]
    have e : (kinds ks fun k => if k = n then cnt n + 1 else cnt k) = kinds ks fun k => if k = n then cnt k + 1 else cnt k := by
      unfold kinds
      refine List.map_congr_left fun k _ => ?_
      by_cases z : k = n
      · subst z; rfl
      · simp [z]
    rw [e]
    exact q
def spTake (C : Addr) : Sp := fun vs H Q _ => ∃ (x d : Addr) (ks : List Int) (cnt : Int → Int) (n : Int), vs = [.ref x, .int n] ∧ TalAt C H x d ks cnt ∧ n ∈ ks ∧ 0 < cnt n ∧ ks.length ≤ 1000 ∧ Q .non (upd H d (.dK (kinds ks fun k => if k = n then cnt k - 1 else cnt k)))
theorem df_Tally_take_out (T : Txt K mg C) : DfM P w K mg base 1 C "take_out" ["self", "number"] (spTake C) := by
  refine T.m_Tally_take_out.ok sc_Tally_take_out (fun vs H Q E h => ?_) (fun f cdv A outer s H vs Q E hr h => ?_)
  · obtain ⟨x, d, ks, cnt, n, rfl, _⟩ := h
    rfl
  · obtain ⟨x, d, ks, cnt, n, rfl, ⟨⟨dy, hx⟩, hd⟩, hn, hc, hl, q⟩ := h
    refine ⟨_, (@pss_cons _ _ _ _ _ (@ps_if _ _ _ _ _ _ _ _ (@pt_cmpR _ _ _ _ _ _ _ _ (op_eqA hr.units) (pe_dget2 (hu_of hr) (pe_fldK (K := K) rfl (pv 0) (by rfl)) (pv 1) pe_int ⟨by rfl, by rfl, by rfl, by rfl⟩) pe_int (nomark _)) (@pss_one _ _ _ ps_never) pss_nil)
      (@pss_one _ _ _ (ps_daug (hu_of hr) (pe_fldK (K := K) rfl (pv 0) (by rfl)) (pv 1) pe_int ip_sub (fun _ _ _ => rfl)))), ?_⟩
    have g : DGet H d (.int n) (some (.int (cnt n))) := by
      have := DGet.k (k := Sum.inl n) hd
      rw [kinds_val, if_pos hn] at this
      exact this
    refine ⟨_, rfl, x, C, dy, _, _, rfl, hx, T.cl_Tally, T.a_often, rfl, d, rfl, .inl ⟨_, .inl hd⟩, _, rfl, _, g, Or.inl ⟨rfl, _, rfl, ?_⟩⟩
    rw [decide_eq_false (fun z => by
      have z' : V.int (cnt n) = V.int 0 := z
      have := V.int.inj z'
      omega)]
    refine iteF ?_
    refine ⟨_, rfl, x, C, dy, _, _, rfl, hx, T.cl_Tally, T.a_often, rfl, _, rfl, d, _, rfl, g, _, _, rfl, rfl, ?_⟩
    refine ⟨_, DPut.k (k := Sum.inl n) hd (by unfold kinds; rw [List.length_map]; exact small1000 hl), ?_⟩
    rw [kinds_put ks cnt hn]
    have e : (kinds ks fun k => if k = n then cnt n - 1 else cnt k) = kinds ks fun k => if k = n then cnt k - 1 else cnt k := by
      unfold kinds
      refine List.map_congr_left fun k _ => ?_
      by_cases z : k = n
      · subst z; rfl
      · simp [z]
    rw [e]
    exact q
def spMany (C : Addr) : Sp := fun vs H Q _ => ∃ (x d : Addr) (ks : List Int) (cnt : Int → Int), vs = [.ref x] ∧ TalAt C H x d ks cnt ∧ Q (.int (ks.map cnt).sum) H
theorem kinds_snd (ks : List Int) (cnt : Int → Int) : (kinds ks cnt).map (·.2) = (ks.map cnt).map V.int := by
  unfold kinds
  rw [List.map_map, List.map_map]; rfl
theorem df_Tally_how_many_in (T : Txt K mg C) : DfM P w K mg base 1 C "how_many_in" ["self"] (spMany C) := by
  refine T.m_Tally_how_many_in.ok sc_Tally_how_many_in (fun vs H Q E h => ?_) (fun f cdv A outer s H vs Q E hr h => ?_)
  · obtain ⟨x, d, ks, cnt, rfl, _⟩ := h
    rfl
  · obtain ⟨x, d, ks, cnt, rfl, ⟨⟨dy, hx⟩, hd⟩, q⟩ := h
    refine ⟨_, (@pss_one _ _ _ (@ps_ret _ _ _ _ (pe_sumV rfl (by rfl) T.n_sum (pe_fldK (K := K) rfl (pv 0) (by rfl))))), ?_⟩
    exact ⟨_, rfl, x, C, dy, _, _, rfl, hx, T.cl_Tally, T.a_often, rfl, d, _, _, rfl, hd, kinds_snd ks cnt, q⟩
def ahead (ks : List Int) (cnt : Int → Int) (i : Nat) : Int := ((ks.take i).map cnt).sum
theorem ahead_succ {ks : List Int} {cnt : Int → Int} {i : Nat} {k : Int} (h : ks[i]? = some k) : ahead ks cnt (i + 1) = ahead ks cnt i + cnt k := by
  unfold ahead
  rw [List.take_add_one, h, List.map_append, List.sum_append]
  simp
theorem kinds_at {ks : List Int} {cnt : Int → Int} {i : Nat} {k : Key} {v : V} (h : (kinds ks cnt)[i]? = some (k, v)) : ∃ n, ks[i]? = some n ∧ k = Sum.inl n ∧ v = .int (cnt n) := by
  unfold kinds at h
  rw [List.getElem?_map] at h
  cases e : ks[i]? with
  | none => rw [e] at h; cases h
  | some n =>
    rw [e] at h
    have := Option.some.inj h
    cases this
    exact ⟨n, rfl, rfl, rfl⟩
def spNth (C : Addr) : Sp := fun vs H Q _ => ∃ (x d : Addr) (ks : List Int) (cnt : Int → Int) (pl : Int), vs = [.ref x, .int pl] ∧ TalAt C H x d ks cnt ∧ 0 ≤ pl ∧ pl < (ks.map cnt).sum ∧ ks.length ≤ 1000 ∧
  ∀ (i : Nat) (k : Int) (H' : Hp), Same H H' → ks[i]? = some k → pl < ahead ks cnt (i + 1) → (∀ j, j < i → ¬ pl < ahead ks cnt (j + 1)) → Q (.int k) H'
theorem thaw_at {P : Program} {w : World} {H : Hp} {a : Addr} {kvs : List (Key × V)} {vs : List (Key × Value)} {ep : Nat} {k : Hp → Prop} (h : H a = some (DWalk P w a kvs vs ep)) (q : k (upd H a (.dK kvs))) : Thaw P w H k := ⟨a, kvs, vs, ep, h, q⟩
theorem same_thaw {P : Program} {w : World} {H H1 : Hp} {a : Addr} {kvs : List (Key × V)} {vs : List (Key × Value)} {ep : Nat} (e : H a = some (.dK kvs)) (s : Same (upd H a (DWalk P w a kvs vs ep)) H1) : Same H (upd H1 a (.dK kvs)) := fun b o h => by
  by_cases z : b = a
  · subst z
    rw [e] at h; cases h
    exact upd_same
  · rw [upd_ne z]
    exact s b o (by rw [upd_ne z]; exact h)
theorem df_Tally_nth_in (T : Txt K mg C) : DfM P w K mg base 1 C "nth_in" ["self", "place"] (spNth C) := by
  refine T.m_Tally_nth_in.ok sc_Tally_nth_in (fun vs H Q E h => ?_) (fun f cdv A outer s H vs Q E hr h => ?_)
  · obtain ⟨x, d, ks, cnt, pl, rfl, _⟩ := h
    rfl
  · obtain ⟨x, d, ks, cnt, pl, rfl, ⟨⟨dy, hx⟩, hd⟩, p0, p1, hl, q⟩ := h
    refine ⟨_, (@pss_cons _ _ _ _ _ (@ps_set _ _ 2 _ _ _ _ sc_Tally_nth_in.nd rfl (by first | exact Or.inl rfl | exact Or.inr rfl) pe_int (by rfl) (by first | exact .inl rfl | exact .inr rfl))
      (@pss_cons _ _ _ _ _ (ps_thaw (P := P) (w := w) rfl rfl (@ps_for _ _ _ _ _ _ _ _ PassesOwn.never rfl (pi_items (P := P) (w := w) rfl rfl (pe_fldK (K := K) rfl (pv 0) (by rfl))) (pg_tupK (K := K) rfl rfl (pgs_cons (pg_name (i := 3) sc_Tally_nth_in.nd rfl (by first | exact Or.inl rfl | exact Or.inr rfl)) (pgs_cons (pg_name (i := 4) sc_Tally_nth_in.nd rfl (by first | exact Or.inl rfl | exact Or.inr rfl)) pgs_nil))) (@pss_cons _ _ _ _ _ (ps_aug (i := 2) sc_Tally_nth_in.nd rfl (by first | exact Or.inl rfl | exact Or.inr rfl) (pv 4) ip_add)
      (@pss_one _ _ _ (@ps_if _ _ _ _ _ _ _ _ (pt_chain op_le op_lt pe_int (pv 1) (pv 2)) (@pss_one _ _ _ (@ps_ret _ _ _ _ (pv 3))) pss_nil))) (by intro _; rfl)))
      (@pss_one _ _ _ ps_never))), ?_⟩
    refine ⟨_, rfl, x, C, dy, _, _, rfl, hx, T.cl_Tally, T.a_often, rfl, d, _, rfl, hd, fun vs ep => ?_⟩
    have lk : (kinds ks cnt).length = ks.length := by unfold kinds; rw [List.length_map]
    have hw : upd H d (DWalk P w d (kinds ks cnt) vs ep) d = some (DWalk P w d (kinds ks cnt) vs ep) := upd_same
    refine for_items (fun i σ H' => (∃ v3 v4 : Option V, σ = [some (.ref x), some (.int pl), some (.int (ahead ks cnt i)), v3, v4]) ∧ Same (upd H d (DWalk P w d (kinds ks cnt) vs ep)) H' ∧ ∀ j, j < i → ¬ pl < ahead ks cnt (j + 1)) ⟨⟨none, none, rfl⟩, Same.refl _, fun j hj => by omega⟩ (fun i σ H' _ ⟨_, s1, _⟩ => s1 _ _ hw) ?_ ?_
    · rintro i k v _ H1 t hk ⟨⟨v3, v4, rfl⟩, s1, hb⟩ ht
      obtain ⟨n, en, rfl, rfl⟩ := kinds_at hk
      have st := same_upd (o := .tup [kV (Sum.inl n), .int (cnt n)]) ht
      refine ⟨_, _, rfl, SqT.of upd_same, rfl, _, _, rfl, _, _, rfl, rfl, ?_⟩
      refine ⟨_, rfl, _, rfl, _, _, rfl, rfl, ?_⟩
      dsimp only [gName, List.set]
      rw [← ahead_succ (cnt := cnt) en]
      refine ⟨_, rfl, _, _, rfl, rfl, _, rfl, ?_⟩
      rw [decide_eq_true p0]
      refine iteT ⟨_, rfl, _, _, rfl, rfl, _, rfl, ?_⟩
      by_cases z : pl < ahead ks cnt (i + 1)
      · rw [decide_eq_true z]
        refine iteT ?_
        refine ⟨_, rfl, thaw_at (st _ _ (s1 _ _ hw)) ?_⟩
        exact q i n _ (same_thaw hd (s1.trans st)) en z hb
      · rw [decide_eq_false z]
        refine iteF ?_
        refine ⟨⟨_, _, rfl⟩, s1.trans st, fun j hj => ?_⟩
        rcases Nat.lt_or_ge j i with z2 | z2
        · exact hb j z2
        · have : j = i := by omega
          subst this; exact z
    · rintro _ H1 ⟨⟨v3, v4, rfl⟩, s1, hb⟩
      exfalso
      rw [lk] at hb
      have hn : ks ≠ [] := fun e => by subst e; simp at p1; omega
      have l1 : 1 ≤ ks.length := by
        cases ks with
        | nil => exact absurd rfl hn
        | cons x l => simp
      have := hb (ks.length - 1) (by omega)
      rw [show ks.length - 1 + 1 = ks.length by omega] at this
      unfold ahead at this
      rw [List.take_length] at this
      exact this p1
def belowOf (ks : List Int) (cnt : Int → Int) (n : Int) : Int := ((ks.filter fun k => decide (k < n)).map cnt).sum
def spBelow (C : Addr) : Sp := fun vs H Q _ => ∃ (x d : Addr) (ks : List Int) (cnt : Int → Int) (n : Int), vs = [.ref x, .int n] ∧ TalAt C H x d ks cnt ∧ ks.length ≤ 1000 ∧ ∀ H', Same H H' → Q (.int (belowOf ks cnt n)) H'
theorem df_Tally_how_many_below (T : Txt K mg C) : DfM P w K mg base 1 C "how_many_below" ["self", "number"] (spBelow C) := by
  refine T.m_Tally_how_many_below.ok sc_Tally_how_many_below (fun vs H Q E h => ?_) (fun f cdv A outer s H vs Q E hr h => ?_)
  · obtain ⟨x, d, ks, cnt, n, rfl, _⟩ := h
    rfl
  · obtain ⟨x, d, ks, cnt, n, rfl, ⟨⟨dy, hx⟩, hd⟩, hl, q⟩ := h
    refine ⟨_, (@pss_one _ _ _ (@ps_ret _ _ _ _ (@pe_callB _ _ _ _ _ _ _ _ _ (call_sumK (K := K) rfl rfl) (by rfl) T.n_sum bt_sum (@pa_cons _ _ _ _ _ (pe_thaw (P := P) (w := w) rfl rfl (pe_compIf2 (K := K) (M := ["number"]) (idx := [1]) rfl rfl (pi_items (P := P) (w := w) rfl rfl (pe_fldK (K := K) rfl (pv 0) (by rfl))) (compOk (by kernel_rfl)) (by decide +kernel) (by first | exact Or.inl rfl | exact Or.inr rfl) (by first | exact Or.inl rfl | exact Or.inr rfl) (fun _ _ _ _ _ => pts_one (@pt_cmpR _ _ _ _ _ _ _ _ op_lt (pv 0) (pv 2) (nomark _))) (fun _ _ _ _ _ => (pv 1)))) pa_nil star_comp) (by decide) (by decide) (by rfl) (by rfl)))), ?_⟩
    refine ⟨_, rfl, x, C, dy, _, _, rfl, hx, T.cl_Tally, T.a_often, rfl, d, _, rfl, hd, fun vs ep => ?_⟩
    have lk : (kinds ks cnt).length = ks.length := by unfold kinds; rw [List.length_map]
    have hw : upd H d (DWalk P w d (kinds ks cnt) vs ep) d = some (DWalk P w d (kinds ks cnt) vs ep) := upd_same
    refine compW_items (fun i zs H' => Same (upd H d (DWalk P w d (kinds ks cnt) vs ep)) H' ∧ zs = (((ks.take i).filter fun k => decide (k < n)).map cnt).map V.int) ⟨Same.refl _, rfl⟩ (by rw [lk]; exact Nat.le_of_lt (small1000 hl)) (fun i zs H' _ ⟨s1, _⟩ => s1 _ _ hw) ?_ ?_
    · rintro i k v zs H1 t hk ⟨s1, rfl⟩ ht
      obtain ⟨m, em, rfl, rfl⟩ := kinds_at hk
      have st := same_upd (o := .tup [kV (Sum.inl m), .int (cnt m)]) ht
      refine ⟨_, _, _, rfl, SqT.of upd_same, ?_⟩
      refine ⟨_, rfl, _, rfl, _, _, rfl, rfl, _, rfl, ?_⟩
      have e2 : ks.take (i + 1) = ks.take i ++ [m] := by rw [List.take_add_one, em]; rfl
      by_cases z : m < n
      · rw [decide_eq_true z]
        refine iteT ?_
        refine ⟨_, rfl, s1.trans st, ?_⟩
        rw [e2, List.filter_append, List.map_append, List.map_append]
        simp [z]
      · rw [decide_eq_false z]
        refine iteF ?_
        refine ⟨s1.trans st, ?_⟩
        rw [e2, List.filter_append, List.map_append, List.map_append]
        simp [z]
    · rintro zs H1 ⟨s1, rfl⟩ l hl2
      rw [lk, List.take_length]
      have sl := same_upd (o := .lst (((ks.filter fun k => decide (k < n)).map cnt).map V.int)) hl2
      have nl : l ≠ d := (ne_of_none (s1 _ _ hw) hl2).symm
      refine thaw_at (sl _ _ (s1 _ _ hw)) ?_
      refine ⟨l, _, rfl, SqL.of (by rw [upd_ne nl]; exact upd_same), ?_⟩
      exact q _ (same_thaw hd (s1.trans sl))
def spInit (C : Addr) : Sp := fun vs H Q _ => ∃ (x dy p : Addr) (ns : List Int), vs = [.ref x, .ref p] ∧ H x = some (.ins C dy []) ∧ H p = some (.tup (ns.map V.int)) ∧ ns.length ≤ 1000 ∧
  ∀ (d : Addr) (H' : Hp), H d = none → KeepBut x H H' → TalAt C H' x d (kindsOf ns) (fun _ => 0) → Q .non H'
theorem df_Tally_init (T : Txt K mg C) : DfI P w K mg base 1 C ["self", "kinds"] (spInit C) := by
  refine T.m_Tally_init.ok sc_Tally_init (fun vs H Q E h => ?_) (fun f cdv A outer s H vs Q E hr h => ?_)
  · obtain ⟨x, dy, p, ns, rfl, _⟩ := h
    rfl
  · obtain ⟨x, dy, p, ns, rfl, hx, hp, hn, q⟩ := h
    refine ⟨_, (@pss_cons _ _ _ _ _ (ps_fld (pv 0) pe_dnewK rfl)
      (@pss_one _ _ _ (@ps_for _ _ _ _ _ _ _ _ PassesOwn.never rfl (pi_seqK (K := K) rfl (@pe_callB _ _ _ _ _ _ _ _ _ (call_sorted_set (w := w) rfl rfl) (by rfl) T.n_sorted bt_sorted (@pa_cons _ _ _ _ _ (@pe_callTy _ _ _ _ _ _ _ _ _ (call_set rfl) (by rfl) T.n_set bt_set (@pa_cons _ _ _ _ _ (pv 1) pa_nil (by rfl)) (by decide) (by decide) (by rfl) (by rfl)) pa_nil star_call) (by decide) (by decide) (by rfl) (by rfl))) (pg_name (i := 2) sc_Tally_init.nd rfl (by first | exact Or.inl rfl | exact Or.inr rfl)) (@pss_one _ _ _ (ps_dput (hu_of hr) (pe_fldK (K := K) rfl (pv 0) (by rfl)) (pv 2) pe_int rfl)) (by intro _; rfl)))), ?_⟩
    refine fun d hd => ?_
    have sd := same_upd (o := .dK []) hd
    have nxd : x ≠ d := ne_of_none hx hd
    refine ⟨_, rfl, x, C, dy, _, rfl, sd _ _ hx, T.cl_Tally, T.a_often, (by show 0 < 1000; decide), ?_⟩
    have hx1 : upd (upd H d (.dK [])) x (.ins C dy [("often", .ref d)]) x = some (.ins C dy [("often", .ref d)]) := upd_same
    have hd1 : upd (upd H d (.dK [])) x (.ins C dy [("often", .ref d)]) d = some (.dK []) := by rw [upd_ne nxd.symm]; exact upd_same
    have k1 : KeepBut x H (upd (upd H d (.dK [])) x (.ins C dy [("often", .ref d)])) := fun b o e n => by rw [upd_ne n]; exact sd _ _ e
    have hp1 : upd (upd H d (.dK [])) x (.ins C dy [("often", .ref d)]) p = some (.tup (ns.map V.int)) := k1 _ _ hp (ne_of hp hx fun z => by cases z)
    dsimp only
    rw [show putF "often" (V.ref d) [] = [(("often" : Str), V.ref d)] from rfl]
    generalize upd (upd H d (.dK [])) x (.ins C dy [("often", .ref d)]) = H1 at hx1 hd1 k1 hp1 ⊢
    refine Or.inl ?_
    refine ⟨_, rfl, p, ns, rfl, hp1, by omega, fun l hl => ?_⟩
    have sl := same_upd (o := SetO w l (MwSet.allK ns)) hl
    have la := MwSet.allK_len ns
    refine ⟨l, _, rfl, upd_same, by omega, fun l2 hl2 => ?_⟩
    have sl2 := same_upd (o := .lst ((sortI (MwSet.allK ns)).map V.int)) hl2
    have S2 := sl.trans sl2
    have e2 : upd (upd H1 l (SetO w l (MwSet.allK ns))) l2 (.lst ((kindsOf ns).map V.int)) l2 = some (.lst ((kindsOf ns).map V.int)) := upd_same
    change Same H1 (upd (upd H1 l (SetO w l (MwSet.allK ns))) l2 (.lst ((kindsOf ns).map V.int))) at S2
    refine ⟨_, rfl, ⟨_, SqL.of upd_same⟩, ?_⟩
    have lks : (kindsOf ns).length ≤ 1000 := by
      unfold kindsOf
      rw [sortI_len]; omega
    have nl2 : l2 ≠ d := (ne_of_none (sl _ _ hd1) hl2).symm
    have hxs := S2 _ _ hx1
    have hds := S2 _ _ hd1
    have K2 : KeepBut x H (upd (upd H1 l (SetO w l (MwSet.allK ns))) l2 (.lst ((kindsOf ns).map V.int))) := k1.trans (S2.but x)
    show ∃ W : Nat → Nat → St → Hp → Prop, (∃ m, W 0 m _ (upd (upd H1 l (SetO w l (MwSet.allK ns))) l2 (.lst ((kindsOf ns).map V.int)))) ∧ _
    generalize upd (upd H1 l (SetO w l (MwSet.allK ns))) l2 (.lst ((kindsOf ns).map V.int)) = H2 at e2 hxs hds K2 ⊢
    refine for_list (xs := (kindsOf ns).map V.int) (fun i σ H' => (∃ v2 : Option V, σ = [some (.ref x), some (.ref p), v2]) ∧ H' = upd H2 d (.dK (kinds ((kindsOf ns).take i) fun _ => 0))) ⟨⟨none, rfl⟩, ?_⟩ (fun i σ H' _ ⟨_, e⟩ => by rw [e]; exact SqL.of (by rw [upd_ne nl2]; exact e2)) ?_ ?_
    · funext b
      by_cases z : b = d
      · rw [z, upd_same, hds]; rfl
      · rw [upd_ne z]
    · rintro i y _ _ hy ⟨⟨v2, rfl⟩, rfl⟩
      obtain ⟨n, en, rfl⟩ := int_at hy
      have hxi : upd H2 d (.dK (kinds ((kindsOf ns).take i) fun _ => 0)) x = some (.ins C dy [("often", .ref d)]) := by rw [upd_ne nxd]; exact hxs
      refine ⟨_, rfl, x, C, dy, _, _, rfl, hxi, T.cl_Tally, T.a_often, rfl, _, rfl, d, _, rfl, DPut.k (k := Sum.inl n) upd_same ?_, ?_⟩
      · unfold kinds
        rw [List.length_map, List.length_take]
        exact small1000 (by omega)
      · refine ⟨⟨_, rfl⟩, ?_⟩
        have nn : n ∉ (kindsOf ns).take i := fun hm => by
          obtain ⟨j, hj, ej⟩ := List.mem_iff_getElem.mp hm
          rw [List.length_take] at hj
          obtain ⟨hi, ei⟩ := List.getElem?_eq_some_iff.mp en
          rw [List.getElem_take] at ej
          have := List.pairwise_iff_getElem.mp (kinds_lt ns) j i (by omega) hi (by omega)
          omega
        rw [upd_upd, putK_new _ (by rw [kinds_val, if_neg nn]), List.take_add_one, en]
        unfold kinds
        rw [List.map_append]
        rfl
    · rintro _ _ ⟨⟨v2, rfl⟩, rfl⟩
      rw [List.length_map, List.take_length]
      refine q d _ hd (fun b o e n => ?_) ⟨⟨dy, by rw [upd_ne nxd]; exact hxs⟩, upd_same⟩
      rw [upd_ne (ne_of_none e hd)]
      exact K2 b o e n
def TalL (C : Addr) (H : Hp) (x d : Addr) (ks L : List Int) : Prop := TalAt C H x d ks (fun k => (L.count k : Int)) ∧ ks.Pairwise (· < ·) ∧ (∀ y ∈ L, y ∈ ks) ∧ ks.length ≤ 1000
theorem TalL.keep {C : Addr} {H H' : Hp} {x d : Addr} {ks L : List Int} (t : TalL C H x d ks L) (h1 : ∀ o, H x = some o → H' x = some o) (h2 : ∀ o, H d = some o → H' d = some o) : TalL C H' x d ks L :=
  ⟨⟨let ⟨dy, e⟩ := t.1.1; ⟨dy, h1 _ e⟩, h2 _ t.1.2⟩, t.2⟩
theorem TalL.same {C : Addr} {H H' : Hp} {x d : Addr} {ks L : List Int} (t : TalL C H x d ks L) (s : Same H H') : TalL C H' x d ks L := t.keep (fun o e => s _ _ e) fun o e => s _ _ e
theorem TalL.ne {C : Addr} {H : Hp} {x d : Addr} {ks L : List Int} (t : TalL C H x d ks L) : x ≠ d := by
  obtain ⟨dy, e⟩ := t.1.1
  exact ne_of e t.1.2 fun z => by cases z
theorem TalL.nodup {C : Addr} {H : Hp} {x d : Addr} {ks L : List Int} (t : TalL C H x d ks L) : ks.Nodup := t.2.1.imp fun h => Int.ne_of_lt h
theorem put_L {C : Addr} {H : Hp} {x d : Addr} {ks L : List Int} {n : Int} {Q : VK} {E : XK} (t : TalL C H x d ks L) (hn : n ∈ ks) (q : ∀ H', TalL C H' x d ks (L ++ [n]) → KeepBut d H H' → Q .non H') : spPut C [.ref x, .int n] H Q E := by
  refine ⟨x, d, ks, _, n, rfl, t.1, hn, t.2.2.2, ?_⟩
  have e : (fun k => if k = n then (L.count k : Int) + 1 else (L.count k : Int)) = fun k => ((L ++ [n]).count k : Int) := by
    funext k
    rw [List.count_append]
    by_cases z : k = n
    · subst z; rw [if_pos rfl]; simp
    · rw [if_neg z, List.count_singleton]
      have : ¬ (n = k) := fun e => z e.symm
      simp [this]
  rw [e]
  obtain ⟨dy, hx⟩ := t.1.1
  refine q _ ⟨⟨⟨dy, by rw [upd_ne t.ne]; exact hx⟩, upd_same⟩, t.2.1, fun y hy => ?_, t.2.2.2⟩ fun b o e n => by rw [upd_ne n]; exact e
  rcases List.mem_append.mp hy with z | z
  · exact t.2.2.1 y z
  · have : y = n := by simpa using z
    rw [this]; exact hn
theorem take_L {C : Addr} {H : Hp} {x d : Addr} {ks L : List Int} {n : Int} {Q : VK} {E : XK} (t : TalL C H x d ks L) (hn : n ∈ L) (q : ∀ H', TalL C H' x d ks (L.erase n) → KeepBut d H H' → Q .non H') : spTake C [.ref x, .int n] H Q E := by
  have hc : 0 < L.count n := List.count_pos_iff.mpr hn
  refine ⟨x, d, ks, _, n, rfl, t.1, t.2.2.1 n hn, (by show (0 : Int) < (L.count n : Int); omega), t.2.2.2, ?_⟩
  have e : (fun k => if k = n then (L.count k : Int) - 1 else (L.count k : Int)) = fun k => ((L.erase n).count k : Int) := by
    funext k
    by_cases z : k = n
    · subst z
      rw [if_pos rfl, List.count_erase_self]; omega
    · rw [if_neg z, List.count_erase_of_ne z]
  rw [e]
  obtain ⟨dy, hx⟩ := t.1.1
  exact q _ ⟨⟨⟨dy, by rw [upd_ne t.ne]; exact hx⟩, upd_same⟩, t.2.1, fun y hy => t.2.2.1 y (List.mem_of_mem_erase hy), t.2.2.2⟩ fun b o e n => by rw [upd_ne n]; exact e
theorem many_L {C : Addr} {H : Hp} {x d : Addr} {ks L : List Int} {Q : VK} {E : XK} (t : TalL C H x d ks L) (q : Q (.int L.length) H) : spMany C [.ref x] H Q E :=
  ⟨x, d, ks, _, rfl, t.1, by rw [tally_many t.nodup t.2.2.1]; exact q⟩
theorem nth_L {C : Addr} {H : Hp} {x d : Addr} {ks L : List Int} {pl : Int} {Q : VK} {E : XK} (t : TalL C H x d ks L) (p0 : 0 ≤ pl) (p1 : pl < L.length) (q : ∀ (k : Int) (H' : Hp), Same H H' → (sortI L)[pl.toNat]? = some k → Q (.int k) H') : spNth C [.ref x, .int pl] H Q E :=
  ⟨x, d, ks, _, pl, rfl, t.1, p0, by rw [tally_many t.nodup t.2.2.1]; exact p1, t.2.2.2, fun i k H' s hk h2 hb => q k H' s (tally_nth t.2.1 t.2.2.1 p0 hk h2 hb)⟩
theorem below_L {C : Addr} {H : Hp} {x d : Addr} {ks L : List Int} {n : Int} {Q : VK} {E : XK} (t : TalL C H x d ks L) (q : ∀ H', Same H H' → Q (.int ((L.countP fun x => decide (x < n) : Nat) : Int)) H') : spBelow C [.ref x, .int n] H Q E :=
  ⟨x, d, ks, _, n, rfl, t.1, t.2.2.2, fun H' s => by unfold belowOf; rw [tally_below t.nodup t.2.2.1]; exact q H' s⟩
theorem make_L {C : Addr} {H : Hp} {p : Addr} {ns : List Int} {Q : VK} (hp : H p = some (.tup (ns.map V.int))) (hn : ns.length ≤ 1000) (q : ∀ (x d : Addr) (H' : Hp), H x = none → H d = none → Same H H' → TalL C H' x d (kindsOf ns) [] → Q (.ref x) H') :
    ∀ x dx, H x = none → H dx = none → dx ≠ x → spInit C [.ref x, .ref p] (upd (upd H dx (.own x)) x (.ins C dx [])) (fun v H2 => v = .non ∧ Q (.ref x) H2) E0 := by
  intro x dx hx hdx ne
  have s1 : Same H (upd (upd H dx (.own x)) x (.ins C dx [])) := fun b o e => by rw [upd_ne (ne_of_none e hx), upd_ne (ne_of_none e hdx)]; exact e
  refine ⟨x, dx, p, ns, rfl, upd_same, s1 _ _ hp, hn, fun d H' hd k t => ⟨rfl, ?_⟩⟩
  have nd : H d = none := by
    cases e : H d with
    | none => rfl
    | some o => rw [s1 _ _ e] at hd; cases hd
  refine q x d H' hx nd (fun b o e => k b o (s1 b o e) (ne_of_none e hx)) ⟨?_, kinds_lt ns, (fun y hy => by cases hy), ?_⟩
  · have : (fun _ : Int => (0 : Int)) = fun k => (([] : List Int).count k : Int) := by funext k; simp
    rw [← this]; exact t
  · unfold kindsOf
    have := MwSet.allK_len ns
    rw [sortI_len]; omega
theorem make_A {C : Addr} {H : Hp} {p : Addr} {ns : List Int} {Q : Addr → Hp → Prop} (hp : H p = some (.tup (ns.map V.int))) (hn : ns.length ≤ 1000) (q : ∀ (x d : Addr) (H' : Hp), H x = none → H d = none → Same H H' → TalL C H' x d (kindsOf ns) [] → Q x H') :
    ∀ x dx, H x = none → H dx = none → dx ≠ x → spInit C [.ref x, .ref p] (upd (upd H dx (.own x)) x (.ins C dx [])) (fun v H2 => v = .non ∧ Q x H2) E0 := by
  intro x dx a b c
  have := make_L (Q := fun v H' => ∃ x, v = .ref x ∧ Q x H') hp hn (fun x d H' a b c e => ⟨x, rfl, q x d H' a b c e⟩) x dx a b c
  obtain ⟨x', dx', p', ns', e1, e2, e3, e4, e5⟩ := this
  exact ⟨x', dx', p', ns', e1, e2, e3, e4, fun d H' u k t => ⟨(e5 d H' u k t).1, by
    obtain ⟨_, y, ey, hq⟩ := e5 d H' u k t
    cases ey
    exact hq⟩⟩
theorem no_m {d : Addr} {m : Str} (h : (m == ("often" : Str)) = false) : List.lookup m [(("often" : Str), V.ref d)] = none := by
  rw [List.lookup, h]; rfl
theorem _root_.L2.Same.past {H H1 H2 : Hp} {d : Addr} (a : Same H H1) (f : H d = none) (k : KeepBut d H1 H2) : Same H H2 := fun b o e => k b o (a b o e) (ne_of_none e f)
theorem cells_of (ns : List Int) : ns.map V.int = (ns.map some).map cellV := by rw [List.map_map]; rfl
theorem ne_cellsNil {H : Hp} {p q : Addr} {cs : List (Option Int)} {Q : VK} (hp : H p = some (.lst (cs.map cellV))) (hq : H q = some (.lst [])) (h : Q (.bl (!decide (cs = []))) H) : rNeL (.ref p) (.ref q) H Q := by
  refine ⟨p, q, _, _, cs.map cellD, [], rfl, rfl, hp, hq, isCells cs, .nil, ⟨canLay_cells cs, rfl, ?_⟩, ?_⟩
  · show PyData.depthAll (cs.map cellD) + 1 ≤ 20
    rw [depth_cells]; decide
  · have := eqv_cells cs []
    rw [List.map_nil] at this
    rw [this]; exact h
def CntL (H : Hp) (cd : Addr) (cs L : List Int) : Prop := H cd = some (.dK (kinds cs fun k => (L.count k : Int))) ∧ cs.Nodup ∧ (∀ y ∈ L, y ∈ cs) ∧ cs.length ≤ 1000
theorem CntL.keep {H H' : Hp} {cd : Addr} {cs L : List Int} (t : CntL H cd cs L) (h : ∀ o, H cd = some o → H' cd = some o) : CntL H' cd cs L := ⟨h _ t.1, t.2⟩
theorem CntL.same {H H' : Hp} {cd : Addr} {cs L : List Int} (t : CntL H cd cs L) (s : Same H H') : CntL H' cd cs L := t.keep fun o e => s _ _ e
theorem kinds_len (ks : List Int) (cnt : Int → Int) : (kinds ks cnt).length = ks.length := by unfold kinds; rw [List.length_map]
theorem CntL.get {H : Hp} {cd : Addr} {cs L : List Int} {n : Int} (t : CntL H cd cs L) (h : n ∈ cs) : DGet H cd (.int n) (some (.int (L.count n : Int))) := by
  have := DGet.k (k := Sum.inl n) t.1
  rw [kinds_val, if_pos h] at this
  exact this
def spWhole : Sp := fun vs H Q _ => ∃ (i : Int), vs = [.int i, .int i] ∧ Q (.bl true) H
theorem df_law_is_whole (T : Txt K mg C) : Df P w K mg base 1 "_law_is_whole" ["found", "due"] spWhole := by
  refine T.d_law_is_whole.ok sc_law_is_whole (fun vs H Q E h => ?_) (fun f cdv A outer s H vs Q E hr h => ?_)
  · obtain ⟨i, rfl, _⟩ := h
    rfl
  · obtain ⟨i, rfl, q⟩ := h
    refine ⟨_, (@pss_one _ _ _ (@ps_ret _ _ _ _ (pe_and (@pe_callB _ _ _ _ _ _ _ _ _ (call_isinstK (K := K) rfl) (by rfl) T.n_isinstance bt_isinstance (@pa_cons _ _ _ _ _ (pv 0) (@pa_cons _ _ _ _ _ (pe_bltn (v := .ty "int") (by rfl) T.n_int bt_int rfl) pa_nil (by rfl)) (by rfl)) (by decide) (by decide) (by rfl) (by rfl)) (pe_and (pe_not (@pe_callB _ _ _ _ _ _ _ _ _ (call_isinstK (K := K) rfl) (by rfl) T.n_isinstance bt_isinstance (@pa_cons _ _ _ _ _ (pv 0) (@pa_cons _ _ _ _ _ (pe_bltn (v := .ty "bool") (by rfl) T.n_bool bt_bool rfl) pa_nil (by rfl)) (by rfl)) (by decide) (by decide) (by rfl) (by rfl))) (pe_one (@pe_cmpR _ _ _ _ _ _ _ _ (op_eqA hr.units) (pv 0) (pv 1) (nomark _))))))), ?_⟩
    refine ⟨_, rfl, _, _, _, _, rfl, rfl, rfl, _, rfl, ?_⟩
    refine iteT ?_
    refine ⟨_, rfl, _, _, _, _, rfl, rfl, rfl, _, rfl, _, rfl, ?_⟩
    refine iteT ?_
    refine ⟨_, rfl, _, rfl, Or.inl ⟨rfl, ?_⟩⟩
    have e : decide (V.int i = V.int i) = true := decide_eq_true rfl
    rw [e]
    exact q
def spCounted : Sp := fun vs H Q _ => ∃ (cd : Addr) (cs L : List Int), vs = [.ref cd] ∧ CntL H cd cs L ∧ ∀ H', Same H H' → Q (.int L.length) H'
theorem df_law_counted (T : Txt K mg C) : Df P w K mg base 1 "_law_counted" ["counts"] spCounted := by
  refine T.d_law_counted.ok sc_law_counted (fun vs H Q E h => ?_) (fun f cdv A outer s H vs Q E hr h => ?_)
  · obtain ⟨cd, cs, L, rfl, _⟩ := h
    rfl
  · obtain ⟨cd, cs, L, rfl, t, q⟩ := h
    refine ⟨_, (@pss_one _ _ _ (@ps_ret _ _ _ _ (@pe_callB _ _ _ _ _ _ _ _ _ (call_sumK (K := K) rfl rfl) (by rfl) T.n_sum bt_sum (@pa_cons _ _ _ _ _ (pe_thaw (P := P) (w := w) rfl rfl (pe_compIf (M := ["counts"]) (idx := [0]) rfl (pi_keys (P := P) (w := w) rfl rfl (pv 0)) (compOk (by kernel_rfl)) (by decide +kernel) (by first | exact Or.inl rfl | exact Or.inr rfl) (fun _ _ _ _ _ => pts_nil) (fun _ _ _ _ _ => (pe_dgetW (P := P) (w := w) rfl rfl (pv 1) (pv 0) (fun _ _ => rfl))))) pa_nil star_comp) (by decide) (by decide) (by rfl) (by rfl)))), ?_⟩
    refine ⟨_, rfl, cd, _, rfl, t.1, fun vs ep => ?_⟩
    have hd := t.1
    rw [← tally_many t.2.1 t.2.2.1] at q
    generalize hc : (fun k => (L.count k : Int)) = cnt at hd q ⊢
    have lk := kinds_len cs cnt
    have hw : upd H cd (DWalk P w cd (kinds cs cnt) vs ep) cd = some (DWalk P w cd (kinds cs cnt) vs ep) := upd_same
    refine compW_keys (fun i zs H' => Same (upd H cd (DWalk P w cd (kinds cs cnt) vs ep)) H' ∧ zs = ((cs.take i).map cnt).map V.int) ⟨Same.refl _, rfl⟩ (by rw [lk]; exact Nat.le_of_lt (small1000 t.2.2.2)) (fun i zs H' _ ⟨s1, _⟩ => s1 _ _ hw) ?_ ?_
    · rintro i k v zs H1 hk ⟨s1, rfl⟩
      obtain ⟨m, em, rfl, rfl⟩ := kinds_at hk
      refine oneT ?_
      refine ⟨_, rfl, _, rfl, cd, _, vs, ep, Sum.inl m, .int (cnt m), rfl, s1 _ _ hw, rfl, ?_, s1, ?_⟩
      · rw [kinds_val, if_pos (List.mem_of_getElem? em)]
      · rw [List.take_add_one, em, List.map_append, List.map_append]; rfl
    · rintro zs H1 ⟨s1, rfl⟩ l hl2
      rw [lk, List.take_length]
      have sl := same_upd (o := .lst ((cs.map cnt).map V.int)) hl2
      have nl : l ≠ cd := (ne_of_none (s1 _ _ hw) hl2).symm
      refine thaw_at (sl _ _ (s1 _ _ hw)) ?_
      refine ⟨l, _, rfl, SqL.of (by rw [upd_ne nl]; exact upd_same), ?_⟩
      exact q _ (same_thaw hd (s1.trans sl))
def spCBelow : Sp := fun vs H Q _ => ∃ (cd : Addr) (cs L : List Int) (n : Int), vs = [.ref cd, .int n] ∧ CntL H cd cs L ∧ ∀ H', Same H H' → Q (.int ((L.countP fun x => decide (x < n) : Nat) : Int)) H'
theorem df_law_below (T : Txt K mg C) : Df P w K mg base 1 "_law_below" ["counts", "number"] spCBelow := by
  refine T.d_law_below.ok sc_law_below (fun vs H Q E h => ?_) (fun f cdv A outer s H vs Q E hr h => ?_)
  · obtain ⟨cd, cs, L, n, rfl, _⟩ := h
    rfl
  · obtain ⟨cd, cs, L, n, rfl, t, q⟩ := h
    refine ⟨_, (@pss_one _ _ _ (@ps_ret _ _ _ _ (@pe_callB _ _ _ _ _ _ _ _ _ (call_sumK (K := K) rfl rfl) (by rfl) T.n_sum bt_sum (@pa_cons _ _ _ _ _ (pe_thaw (P := P) (w := w) rfl rfl (pe_compIf (M := ["number", "counts"]) (idx := [1, 0]) rfl (pi_keys (P := P) (w := w) rfl rfl (pv 0)) (compOk (by kernel_rfl)) (by decide +kernel) (by first | exact Or.inl rfl | exact Or.inr rfl) (fun _ _ _ _ _ => pts_one (@pt_cmpR _ _ _ _ _ _ _ _ op_lt (pv 0) (pv 1) (nomark _))) (fun _ _ _ _ _ => (pe_dgetW (P := P) (w := w) rfl rfl (pv 2) (pv 0) (fun _ _ => rfl))))) pa_nil star_comp) (by decide) (by decide) (by rfl) (by rfl)))), ?_⟩
    refine ⟨_, rfl, cd, _, rfl, t.1, fun vs ep => ?_⟩
    have hd := t.1
    rw [← tally_below t.2.1 t.2.2.1] at q
    generalize hc : (fun k => (L.count k : Int)) = cnt at hd q ⊢
    have lk := kinds_len cs cnt
    have hw : upd H cd (DWalk P w cd (kinds cs cnt) vs ep) cd = some (DWalk P w cd (kinds cs cnt) vs ep) := upd_same
    refine compW_keys (fun i zs H' => Same (upd H cd (DWalk P w cd (kinds cs cnt) vs ep)) H' ∧ zs = (((cs.take i).filter fun k => decide (k < n)).map cnt).map V.int) ⟨Same.refl _, rfl⟩ (by rw [lk]; exact Nat.le_of_lt (small1000 t.2.2.2)) (fun i zs H' _ ⟨s1, _⟩ => s1 _ _ hw) ?_ ?_
    · rintro i k v zs H1 hk ⟨s1, rfl⟩
      obtain ⟨m, em, rfl, rfl⟩ := kinds_at hk
      have e2 : cs.take (i + 1) = cs.take i ++ [m] := by rw [List.take_add_one, em]; rfl
      refine ⟨_, rfl, _, rfl, _, _, rfl, rfl, _, rfl, ?_⟩
      by_cases z : m < n
      · rw [decide_eq_true z]
        refine iteT ?_
        refine ⟨_, rfl, _, rfl, cd, _, vs, ep, Sum.inl m, .int (cnt m), rfl, s1 _ _ hw, rfl, ?_, s1, ?_⟩
        · rw [kinds_val, if_pos (List.mem_of_getElem? em)]
        · rw [e2, List.filter_append, List.map_append, List.map_append]
          simp [z]
      · rw [decide_eq_false z]
        refine iteF ?_
        refine ⟨s1, ?_⟩
        rw [e2, List.filter_append, List.map_append, List.map_append]
        simp [z]
    · rintro zs H1 ⟨s1, rfl⟩ l hl2
      rw [lk, List.take_length]
      have sl := same_upd (o := .lst (((cs.filter fun k => decide (k < n)).map cnt).map V.int)) hl2
      have nl : l ≠ cd := (ne_of_none (s1 _ _ hw) hl2).symm
      refine thaw_at (sl _ _ (s1 _ _ hw)) ?_
      refine ⟨l, _, rfl, SqL.of (by rw [upd_ne nl]; exact upd_same), ?_⟩
      exact q _ (same_thaw hd (s1.trans sl))
theorem sort_lt {cs : List Int} (h : cs.Nodup) : (sortI cs).Pairwise (· < ·) := by
  have h2 : (sortI cs).Nodup := (sortI_perm cs).nodup_iff.mpr h
  refine ((sortI_rise cs).and h2).imp fun {a b} ⟨p, q⟩ => ?_
  have : a ≠ b := q
  omega
def spCNth : Sp := fun vs H Q _ => ∃ (cd : Addr) (cs L : List Int) (pl : Int), vs = [.ref cd, .int pl] ∧ CntL H cd cs L ∧ 0 ≤ pl ∧ pl < L.length ∧ ∀ (k : Int) (H' : Hp), Same H H' → (sortI L)[pl.toNat]? = some k → Q (.int k) H'
theorem kinds_keys (cs : List Int) (cnt : Int → Int) : (kinds cs cnt).map (·.1) = cs.map Sum.inl := by unfold kinds; rw [List.map_map]; rfl
theorem df_law_nth (T : Txt K mg C) : Df P w K mg base 1 "_law_nth" ["counts", "place"] spCNth := by
  refine T.d_law_nth.ok sc_law_nth (fun vs H Q E h => ?_) (fun f cdv A outer s H vs Q E hr h => ?_)
  · obtain ⟨cd, cs, L, pl, rfl, _⟩ := h
    rfl
  · obtain ⟨cd, cs, L, pl, rfl, t, p0, p1, q⟩ := h
    refine ⟨_, (@pss_cons _ _ _ _ _ (@ps_set _ _ 2 _ _ _ _ sc_law_nth.nd rfl (by first | exact Or.inl rfl | exact Or.inr rfl) pe_int (by rfl) (by first | exact .inl rfl | exact .inr rfl))
      (@pss_cons _ _ _ _ _ (@ps_for _ _ _ _ _ _ _ _ PassesOwn.never rfl (pi_seqK (K := K) rfl (@pe_callB _ _ _ _ _ _ _ _ _ (call_sorted_dict rfl) (by rfl) T.n_sorted bt_sorted (@pa_cons _ _ _ _ _ (pv 0) pa_nil (by rfl)) (by decide) (by decide) (by rfl) (by rfl))) (pg_name (i := 3) sc_law_nth.nd rfl (by first | exact Or.inl rfl | exact Or.inr rfl)) (@pss_cons _ _ _ _ _ (@ps_set _ _ 2 _ _ _ _ sc_law_nth.nd rfl (by first | exact Or.inl rfl | exact Or.inr rfl) (@pe_op _ _ _ _ _ _ _ _ op_add (pv 2) (pe_dget (hu_of hr) (pv 0) (pv 3) (fun _ _ => rfl))) (by rfl) (by first | exact .inl rfl | exact .inr rfl))
      (@pss_one _ _ _ (@ps_if _ _ _ _ _ _ _ _ (@pt_cmpR _ _ _ _ _ _ _ _ op_gt (pv 2) (pv 1) (nomark _)) (@pss_one _ _ _ (@ps_ret _ _ _ _ (pv 3))) pss_nil))) (by intro _; rfl))
      (@pss_one _ _ _ (@ps_ret _ _ _ _ pe_non)))), ?_⟩
    refine Or.inl ⟨_, rfl, cd, _, cs, rfl, t.1, kinds_keys _ _, fun l hl => ?_⟩
    have sl := same_upd (o := .lst ((sortI cs).map V.int)) hl
    have t1 := t.same sl
    have el : upd H l (.lst ((sortI cs).map V.int)) l = some (.lst ((sortI cs).map V.int)) := upd_same
    refine ⟨_, rfl, ⟨_, SqL.of upd_same⟩, ?_⟩
    show ∃ W : Nat → Nat → St → Hp → Prop, (∃ m, W 0 m _ (upd H l (.lst ((sortI cs).map V.int)))) ∧ _
    generalize upd H l (.lst ((sortI cs).map V.int)) = H1 at sl t1 el ⊢
    have hks : ∀ y ∈ L, y ∈ sortI cs := fun y hy => mem_sortI.mpr (t.2.2.1 y hy)
    refine for_list (xs := (sortI cs).map V.int) (fun i σ H' => (∃ v3 : Option V, σ = [some (.ref cd), some (.int pl), some (.int (ahead (sortI cs) (fun k => (L.count k : Int)) i)), v3] ∧ H' = H1) ∧ ∀ j, j < i → ¬ pl < ahead (sortI cs) (fun k => (L.count k : Int)) (j + 1)) ⟨⟨none, rfl, rfl⟩, fun j hj => by omega⟩ (fun i σ H' _ ⟨⟨_, _, e⟩, _⟩ => e ▸ SqL.of el) ?_ ?_
    · rintro i x _ H1 hx ⟨⟨v3, rfl, rfl⟩, hb⟩
      obtain ⟨n, en, rfl⟩ := int_at hx
      have hn : n ∈ cs := mem_sortI.mp (List.mem_of_getElem? en)
      refine ⟨_, rfl, _, rfl, _, rfl, cd, _, rfl, t1.get hn, _, _, rfl, rfl, ?_⟩
      dsimp only [gName, List.set]
      rw [← ahead_succ (cnt := fun k => (L.count k : Int)) en]
      refine ⟨_, rfl, _, rfl, _, _, rfl, rfl, _, rfl, ?_⟩
      refine ite2 (fun z => ?_) (fun z => ?_)
      · exact ⟨_, rfl, q n _ sl (tally_nth (sort_lt t.2.1) hks p0 en (of_decide_eq_true z) hb)⟩
      · refine ⟨⟨_, rfl, rfl⟩, fun j hj => ?_⟩
        rcases Nat.lt_or_ge j i with z2 | z2
        · exact hb j z2
        · have : j = i := by omega
          subst this
          exact fun z3 => z (decide_eq_true z3)
    · rintro _ H1 ⟨⟨v3, rfl, rfl⟩, hb⟩
      exfalso
      rw [List.length_map] at hb
      have tm := tally_many (sort_lt t.2.1 |>.imp fun h => Int.ne_of_lt h) hks
      have l1 : 1 ≤ (sortI cs).length := by
        rcases Nat.eq_zero_or_pos (sortI cs).length with z | z
        · rw [List.length_eq_zero_iff.mp z] at tm
          simp at tm
          omega
        · exact z
      have := hb ((sortI cs).length - 1) (by omega)
      rw [show (sortI cs).length - 1 + 1 = (sortI cs).length by omega] at this
      unfold ahead at this
      rw [List.take_length, tm] at this
      exact this p1
theorem ints_of {l : List V} (h : ∀ x ∈ l, ∃ n : Int, x = V.int n) : ∃ C : List Int, l = C.map V.int := by
  induction l with
  | nil => exact ⟨[], rfl⟩
  | cons x l ih =>
    obtain ⟨n, rfl⟩ := h x (by simp)
    obtain ⟨r, rfl⟩ := ih fun y hy => h y (by simp [hy])
    exact ⟨n :: r, rfl⟩
theorem cut_ints (ns : List Int) (lo hi : Option Int) : ∃ C : List Int, cutV (ns.map V.int) lo hi = C.map V.int ∧ C.length ≤ ns.length ∧ ∀ c ∈ C, c ∈ ns := by
  obtain ⟨C, e⟩ := ints_of (l := cutV (ns.map V.int) lo hi) fun x hx => by
    obtain ⟨n, _, e⟩ := List.mem_map.mp (cut_mem hx)
    exact ⟨n, e.symm⟩
  refine ⟨C, e, ?_, fun c hc => ?_⟩
  · have := cut_len (ns.map V.int) lo hi
    rw [e, List.length_map, List.length_map] at this
    exact this
  · have m : V.int c ∈ cutV (ns.map V.int) lo hi := by rw [e]; exact List.mem_map.mpr ⟨c, hc, rfl⟩
    obtain ⟨n, hn, e2⟩ := List.mem_map.mp (cut_mem m)
    cases e2
    exact hn
def spKinds : Sp := fun vs H Q _ => ∃ (sd : Addr) (sc : Int), vs = [.ref sd, .int sc] ∧ Seed H sd ∧ ∀ (t : Addr) (ks : List Int) (H' : Hp), H' t = some (.tup (ks.map V.int)) → ks.length ≤ 1000 → (∀ k ∈ ks, -1000000000 ≤ k ∧ k ≤ 1000000000) → Seed H' sd → KeepBut sd H H' → Q (.ref t) H'
theorem df_law_kinds (T : Txt K mg C) : Df P w K mg base 3 "_law_kinds" ["seed", "scale"] spKinds := by
  refine T.d_law_kinds.ok sc_law_kinds (fun vs H Q E h => ?_) (fun f cdv A outer s H vs Q E hr h => ?_)
  · obtain ⟨sd, sc, rfl, _⟩ := h
    rfl
  · obtain ⟨sd, sc, rfl, D, q⟩ := h
    refine ⟨_, (@pss_cons _ _ _ _ _ (@ps_set _ _ 2 _ _ _ _ sc_law_kinds.nd rfl (by first | exact Or.inl rfl | exact Or.inr rfl) (@pe_ix _ _ _ _ _ _ _ (ix_seqK (K := K) rfl) (@pe_lst _ _ _ _ (@pa_cons _ _ _ _ _ (@pe_df _ _ _ _ _ _ _ _ _ _ (df_law_draw T) (hr.mono (by decide)) (@pa_cons _ _ _ _ _ (pv 0) (@pa_cons _ _ _ _ _ pe_int pa_nil (by rfl)) (by rfl)) (by rfl) (by decide) (by rfl) (by rfl)) (@pa_cons _ _ _ _ _ (@pe_df _ _ _ _ _ _ _ _ _ _ (df_law_draw T) (hr.mono (by decide)) (@pa_cons _ _ _ _ _ (pv 0) (@pa_cons _ _ _ _ _ pe_int pa_nil (by rfl)) (by rfl)) (by rfl) (by decide) (by rfl) (by rfl)) pa_nil star_call) star_call)) (@pe_callTy _ _ _ _ _ _ _ _ _ call_int1 (by rfl) T.n_int bt_int (@pa_cons _ _ _ _ _ (@pe_cmpR _ _ _ _ _ _ _ _ (op_eqA hr.units) (@pe_df _ _ _ _ _ _ _ _ _ _ (df_law_draw T) (hr.mono (by decide)) (@pa_cons _ _ _ _ _ (pv 0) (@pa_cons _ _ _ _ _ pe_int pa_nil (by rfl)) (by rfl)) (by rfl) (by decide) (by rfl) (by rfl)) pe_int (nomark _)) pa_nil star_cmp) (by decide) (by decide) (by rfl) (by rfl)) (fun _ _ => rfl)) (by rfl) (by first | exact .inl rfl | exact .inr rfl))
      (@pss_cons _ _ _ _ _ (ps_setComp (i := 3) sc_law_kinds.nd rfl (by first | exact Or.inl rfl | exact Or.inr rfl) (M := ["seed", "scale"]) (idx := [0, 1]) rfl (pi_range1 (by rfl) T.n_range (@pa_cons _ _ _ _ _ (pv 2) pa_nil (by rfl))) (compOk (by kernel_rfl)) (by decide +kernel) (by first | exact Or.inl rfl | exact Or.inr rfl) (fun _ _ _ _ _ => pts_nil) (fun _ _ _ _ _ => (@pe_df _ _ _ _ _ _ _ _ _ _ (df_law_number T) (hr.mono (by decide)) (@pa_cons _ _ _ _ _ (pv 1) (@pa_cons _ _ _ _ _ (pv 2) pa_nil (by rfl)) (by rfl)) (by rfl) (by decide) (by rfl) (by rfl))))
      (@pss_one _ _ _ (@ps_ret _ _ _ _ (pe_slice (sl_X (K := K) rfl) (@pe_callTy _ _ _ _ _ _ _ _ _ (call_tupleK (K := K) rfl) (by rfl) T.n_tuple bt_tuple (@pa_cons _ _ _ _ _ (@pe_op _ _ _ _ _ _ _ _ op_cat (pv 3) (pe_slice (sl_X (K := K) rfl) (pv 3) po_none (po_some (@pe_df _ _ _ _ _ _ _ _ _ _ (df_law_draw T) (hr.mono (by decide)) (@pa_cons _ _ _ _ _ (pv 0) (@pa_cons _ _ _ _ _ pe_int pa_nil (by rfl)) (by rfl)) (by rfl) (by decide) (by rfl) (by rfl))))) pa_nil star_bin) (by decide) (by decide) (by rfl) (by rfl)) po_none (po_some pe_int)))))), ?_⟩
    refine ⟨_, rfl, _, _, rfl, D, (by decide), (by decide), fun x1 H6 a1 b1 D6 k6 => ?_⟩
    refine ⟨_, rfl, _, _, rfl, D6, (by decide), (by decide), fun x2 H7 a2 b2 D7 k7 => ?_⟩
    refine ⟨(by show 2 ≤ sizeLine; decide), fun p4 hp4 => ?_⟩
    refine ⟨_, rfl, _, _, rfl, D7.upd hp4, (by decide), (by decide), fun x3 H8 a3 b3 D8 k8 => ?_⟩
    refine Or.inl ⟨rfl, Or.inr ⟨_, rfl, ?_⟩⟩
    obtain ⟨m, em, hm⟩ := pickI (x := if decide (V.int x3 = V.int 0) = true then 1 else 0) (ms := [x1, x2]) (by split <;> omega) (by show _ < ((2 : Nat) : Int); split <;> decide)
    refine Or.inl ⟨_, _, _, _, rfl, rfl, SqL.of (k8 p4 _ upd_same (D7.ne hp4)), em, ?_⟩
    have hm' : 0 ≤ m ∧ m ≤ 500 := by
      simp only [List.mem_cons, List.not_mem_nil, or_false] at hm
      rcases hm with e | e <;> omega
    have K8 : KeepBut sd H H8 := (((k6.trans k7).upd hp4).trans k8)
    refine ⟨_, rfl, _, rfl, by omega, by omega, ?_⟩
    refine compW_range (fun i ys H' => ∃ ks : List Int, ks.length = i ∧ (∀ k ∈ ks, -1000000000 ≤ k ∧ k ≤ 1000000000) ∧ ys = ks.map V.int ∧ Seed H' sd ∧ KeepBut sd H H')
      ⟨[], rfl, (fun k hk => by cases hk), rfl, D8, K8⟩ (by show m.toNat ≤ sizeLine; exact Nat.le_trans (show m.toNat ≤ 500 by omega) (by decide)) ?_ ?_
    · rintro i ys H10 hi ⟨ks, lk, bk, ek, D10, K10⟩
      refine oneT ?_
      refine ⟨_, rfl, _, rfl, _, _, rfl, D10, fun y H11 y0 y1 D11 k11 => ?_⟩
      exact ⟨ks ++ [y], by rw [List.length_append, lk]; rfl, (fun k hk => by
        rcases List.mem_append.mp hk with h | h
        · exact bk k h
        · have : k = y := by simpa using h
          rw [this]; exact ⟨y0, y1⟩), by rw [ek, List.map_append]; rfl, D11, K10.trans k11⟩
    rintro ys H10 ⟨ks, lk, bk, rfl, D10, K10⟩ ls hls
    have s11 := same_upd (o := .lst (ks.map V.int)) hls
    have e11 : upd H10 ls (.lst (ks.map V.int)) ls = some (.lst (ks.map V.int)) := upd_same
    have nls : ls ≠ sd := D10.ne hls
    have D11 := D10.keep s11
    have K11 := K10.trans (s11.but sd)
    generalize upd H10 ls (.lst (ks.map V.int)) = H11 at e11 D11 K11 ⊢
    have hks : ks.length ≤ 500 := by
      have : ks.length = m.toNat := lk
      omega
    refine ⟨_, rfl, ?_⟩
    refine ⟨_, rfl, _, rfl, _, _, rfl, D11, (by decide), (by decide), fun x4 H12 a4 b4 D12 k12 => ?_⟩
    have e12 := k12 _ _ e11 nls
    refine ⟨_, rfl, Or.inl ⟨_, _, rfl, SqL.of e12, fun p13 hp13 => ?_⟩⟩
    obtain ⟨c1, ec1, lc1, mc1⟩ := cut_ints ks none (some x4)
    have s13 := same_upd (o := .lst (cutV (ks.map V.int) none (some x4))) hp13
    have e13 : upd H12 p13 (.lst (cutV (ks.map V.int) none (some x4))) p13 = some (.lst (c1.map V.int)) := by rw [upd_same, ec1]
    generalize upd H12 p13 (.lst (cutV (ks.map V.int) none (some x4))) = H13 at s13 e13 ⊢
    refine ⟨_, _, _, _, rfl, rfl, s13 _ _ e12, e13, (by rw [List.length_map, List.length_map]; exact Nat.le_trans (show _ ≤ 1000 by omega) (by decide)), fun p14 hp14 => ?_⟩
    have s14 := same_upd (o := .lst (ks.map V.int ++ c1.map V.int)) hp14
    refine ⟨_, _, rfl, Or.inl ⟨SqL.of upd_same, fun p15 hp15 => ?_⟩⟩
    have s15 := same_upd (o := .tup (ks.map V.int ++ c1.map V.int)) hp15
    refine ⟨_, rfl, Or.inr ⟨_, _, rfl, upd_same, fun p16 H16 s16 hp16 => ?_⟩⟩
    rw [← List.map_append] at hp16
    obtain ⟨c2, ec2, lc2, mc2⟩ := cut_ints (ks ++ c1) none (some 500)
    rw [ec2] at hp16
    rw [List.length_append] at lc2
    have S := ((s13.trans s14).trans s15).trans s16
    exact q p16 c2 H16 hp16 (by omega) (fun k hk => (List.mem_append.mp (mc2 k hk)).elim (bk k) fun z => bk k (mc1 k z)) (D12.keep S) ((K11.trans k12).trans (S.but sd))
theorem te_cut {t : TE} {σ : St} {H : Hp} {Q : VK} (R : V → Hp → Prop) (hu : ∀ v H, R v H → Q v H) (ht : (∀ v H, R v H → Q v H) → t σ H Q) : t σ H Q := ht hu
def spAsked (C : Addr) : Sp := fun vs H Q _ => ∃ (sd x d cd : Addr) (sc : Int) (ks cs L : List Int), vs = [.ref sd, .ref x, .ref cd, .int sc] ∧ Seed H sd ∧ TalL C H x d ks L ∧ CntL H cd cs L ∧ L.length ≤ 100000 ∧ ∀ H', Seed H' sd → KeepBut sd H H' → Q (.bl true) H'
theorem df_law_asked_right (T : Txt K mg C) : Df P w K mg base 3 "_law_asked_right" ["seed", "tally", "counts", "scale"] (spAsked C) := by
  refine T.d_law_asked_right.ok sc_law_asked_right (fun vs H Q E h => ?_) (fun f cdv A outer s H vs Q E hr h => ?_)
  · obtain ⟨sd, x, d, cd, sc, ks, cs, L, rfl, _⟩ := h
    rfl
  · obtain ⟨sd, x, d, cd, sc, ks, cs, L, rfl, D, t, c, hL, q⟩ := h
    refine ⟨_, (@pss_cons _ _ _ _ _ (@ps_set _ _ 4 _ _ _ _ sc_law_asked_right.nd rfl (by first | exact Or.inl rfl | exact Or.inr rfl) (@pe_df _ _ _ _ _ _ _ _ _ _ (df_law_counted T) (hr.mono (by decide)) (@pa_cons _ _ _ _ _ (pv 2) pa_nil (by rfl)) (by rfl) (by decide) (by rfl) (by rfl)) (by rfl) (by first | exact .inl rfl | exact .inr rfl))
      (@pss_cons _ _ _ _ _ (@ps_if _ _ _ _ _ _ _ _ (@pt_not _ _ _ _ (@pt_val _ _ _ (@pe_df _ _ _ _ _ _ _ _ _ _ (df_law_is_whole T) (hr.mono (by decide)) (@pa_cons _ _ _ _ _ (@pe_mt0 _ _ _ _ _ _ _ _ _ _ _ (df_Tally_how_many_in T) T.cl_Tally (hr.mono (by decide)) (pv 1) (by rfl)) (@pa_cons _ _ _ _ _ (pv 4) pa_nil (by rfl)) star_call) (by rfl) (by decide) (by rfl) (by rfl)) (by intro _; rfl))) (@pss_one _ _ _ (@ps_ret _ _ _ _ pe_bl)) pss_nil)
      (@pss_cons _ _ _ _ _ (@ps_for _ _ _ _ _ _ _ _ PassesOwn.never rfl (pi_seqK (K := K) rfl (@pe_lst _ _ _ _ (@pa_cons _ _ _ _ _ pe_int (@pa_cons _ _ _ _ _ (@pe_op _ _ _ _ _ _ _ _ op_sub (pv 4) pe_int) (@pa_cons _ _ _ _ _ (@pe_op _ _ _ _ _ _ _ _ op_sub (@pe_df _ _ _ _ _ _ _ _ _ _ (df_law_draw T) (hr.mono (by decide)) (@pa_cons _ _ _ _ _ (pv 0) (@pa_cons _ _ _ _ _ (@pe_op _ _ _ _ _ _ _ _ op_add (pv 4) pe_int) pa_nil star_bin) (by rfl)) (by rfl) (by decide) (by rfl) (by rfl)) (@pe_callTy _ _ _ _ _ _ _ _ _ call_int1 (by rfl) T.n_int bt_int (@pa_cons _ _ _ _ _ (pe_and (@pe_cmpR _ _ _ _ _ _ _ _ op_gt (pv 4) pe_int (nomark _)) (pe_one (@pe_cmpR _ _ _ _ _ _ _ _ (op_eqA hr.units) (@pe_df _ _ _ _ _ _ _ _ _ _ (df_law_draw T) (hr.mono (by decide)) (@pa_cons _ _ _ _ _ (pv 0) (@pa_cons _ _ _ _ _ pe_int pa_nil (by rfl)) (by rfl)) (by rfl) (by decide) (by rfl) (by rfl)) pe_int (nomark _)))) pa_nil (by rfl)) (by decide) (by decide) (by rfl) (by rfl))) pa_nil star_bin) star_bin) (by rfl)))) (pg_name (i := 5) sc_law_asked_right.nd rfl (by first | exact Or.inl rfl | exact Or.inr rfl)) (@pss_one _ _ _ (@ps_if _ _ _ _ _ _ _ _ (pw_and (pt_chain op_le op_lt pe_int (pv 5) (pv 4)) (pw_and1 (@pt_not _ _ _ _ (@pt_val _ _ _ (@pe_df _ _ _ _ _ _ _ _ _ _ (df_law_is_whole T) (hr.mono (by decide)) (@pa_cons _ _ _ _ _ (@pe_mt _ _ _ _ _ _ _ _ _ _ _ _ _ _ (df_Tally_nth_in T) T.cl_Tally (hr.mono (by decide)) (pv 1) (@pa_cons _ _ _ _ _ (pv 5) pa_nil (by rfl)) (by rfl) (by rfl) (by rfl)) (@pa_cons _ _ _ _ _ (@pe_df _ _ _ _ _ _ _ _ _ _ (df_law_nth T) (hr.mono (by decide)) (@pa_cons _ _ _ _ _ (pv 2) (@pa_cons _ _ _ _ _ (pv 5) pa_nil (by rfl)) (by rfl)) (by rfl) (by decide) (by rfl) (by rfl)) pa_nil star_call) star_call) (by rfl) (by decide) (by rfl) (by rfl)) (by intro _; rfl))))).pt (@pss_one _ _ _ (@ps_ret _ _ _ _ pe_bl)) pss_nil)) (by intro _; rfl))
      (@pss_cons _ _ _ _ _ (@ps_set _ _ 6 _ _ _ _ sc_law_asked_right.nd rfl (by first | exact Or.inl rfl | exact Or.inr rfl) (@pe_callB _ _ _ _ _ _ _ _ _ (call_sorted_dict rfl) (by rfl) T.n_sorted bt_sorted (@pa_cons _ _ _ _ _ (pv 2) pa_nil (by rfl)) (by decide) (by decide) (by rfl) (by rfl)) (by rfl) (by first | exact .inl rfl | exact .inr rfl))
      (@pss_cons _ _ _ _ _ (@ps_set _ _ 7 _ _ _ _ sc_law_asked_right.nd rfl (by first | exact Or.inl rfl | exact Or.inr rfl) (@pe_lst _ _ _ _ (@pa_cons _ _ _ _ _ (@pe_df _ _ _ _ _ _ _ _ _ _ (df_law_number T) (hr.mono (by decide)) (@pa_cons _ _ _ _ _ (pv 0) (@pa_cons _ _ _ _ _ (pv 3) pa_nil (by rfl)) (by rfl)) (by rfl) (by decide) (by rfl) (by rfl)) (@pa_cons _ _ _ _ _ (@pe_op _ _ _ _ _ _ _ _ op_pow pe_int pe_int) (@pa_cons _ _ _ _ _ (@pe_op _ _ _ _ _ _ _ _ op_sub pe_int (@pe_op _ _ _ _ _ _ _ _ op_pow pe_int pe_int)) pa_nil star_bin) star_bin) star_call)) (by rfl) (by first | exact .inl rfl | exact .inr rfl))
      (@pss_cons _ _ _ _ _ (@ps_if _ _ _ _ _ _ _ _ (@pt_cmpR _ _ _ _ _ _ _ _ (op_neX hr.units) (pv 6) (@pe_lst _ _ _ _ pa_nil) (nomark _)) (@pss_one _ _ _ (@ps_expr _ _ _ _ (@pe_bm _ _ _ _ _ _ _ _ _ _ _ _ PySem.F.plainAttrs_list PySem.F.slot_list_append PySem.F.type_list_append mt_append (pv 7) (@pa_cons _ _ _ _ _ (@pe_op _ _ _ _ _ _ _ _ op_sub (@pe_op _ _ _ _ _ _ _ _ op_add (@pe_ix _ _ _ _ _ _ _ (ix_seqK (K := K) rfl) (pv 6) (@pe_df _ _ _ _ _ _ _ _ _ _ (df_law_draw T) (hr.mono (by decide)) (@pa_cons _ _ _ _ _ (pv 0) (@pa_cons _ _ _ _ _ (@pe_callB _ _ _ _ _ _ _ _ _ (call_lenK (K := K) rfl) (by rfl) T.n_len bt_len (@pa_cons _ _ _ _ _ (pv 6) pa_nil (by rfl)) (by decide) (by decide) (by rfl) (by rfl)) pa_nil star_call) (by rfl)) (by rfl) (by decide) (by rfl) (by rfl)) (fun _ _ => rfl)) (@pe_df _ _ _ _ _ _ _ _ _ _ (df_law_draw T) (hr.mono (by decide)) (@pa_cons _ _ _ _ _ (pv 0) (@pa_cons _ _ _ _ _ pe_int pa_nil (by rfl)) (by rfl)) (by rfl) (by decide) (by rfl) (by rfl))) pe_int) pa_nil star_bin) (by rfl) (by rfl) (by rfl) (by rfl) (by rfl)) (by rfl))) pss_nil)
      (@pss_cons _ _ _ _ _ (@ps_for _ _ _ _ _ _ _ _ PassesOwn.never rfl (pi_seqK (K := K) rfl (pe_compIf (M := []) (idx := []) rfl (pi_seqK (K := K) rfl (pv 7)) (compOk (by kernel_rfl)) (by decide +kernel) (by first | exact Or.inl rfl | exact Or.inr rfl) (fun _ _ _ _ _ => pts_one (@pt_cmpR _ _ _ _ _ _ _ _ op_le (@pe_callB _ _ _ _ _ _ _ _ _ call_abs (by rfl) T.n_abs bt_abs (@pa_cons _ _ _ _ _ (pv 0) pa_nil (by rfl)) (by decide) (by decide) (by rfl) (by rfl)) (@pe_op _ _ _ _ _ _ _ _ op_pow pe_int pe_int) (nomark _))) (fun _ _ _ _ _ => (pv 0)))) (pg_name (i := 8) sc_law_asked_right.nd rfl (by first | exact Or.inl rfl | exact Or.inr rfl)) (@pss_one _ _ _ (@ps_if _ _ _ _ _ _ _ _ (@pt_not _ _ _ _ (@pt_val _ _ _ (@pe_df _ _ _ _ _ _ _ _ _ _ (df_law_is_whole T) (hr.mono (by decide)) (@pa_cons _ _ _ _ _ (@pe_mt _ _ _ _ _ _ _ _ _ _ _ _ _ _ (df_Tally_how_many_below T) T.cl_Tally (hr.mono (by decide)) (pv 1) (@pa_cons _ _ _ _ _ (pv 8) pa_nil (by rfl)) (by rfl) (by rfl) (by rfl)) (@pa_cons _ _ _ _ _ (@pe_df _ _ _ _ _ _ _ _ _ _ (df_law_below T) (hr.mono (by decide)) (@pa_cons _ _ _ _ _ (pv 2) (@pa_cons _ _ _ _ _ (pv 8) pa_nil (by rfl)) (by rfl)) (by rfl) (by decide) (by rfl) (by rfl)) pa_nil star_call) star_call) (by rfl) (by decide) (by rfl) (by rfl)) (by intro _; rfl))) (@pss_one _ _ _ (@ps_ret _ _ _ _ pe_bl)) pss_nil)) (by intro _; rfl))
      (@pss_one _ _ _ (@ps_ret _ _ _ _ pe_bl))))))))), ?_⟩
    obtain ⟨dy, hx⟩ := t.1.1
    have nxs : x ≠ sd := ne_of hx D.choose_spec.choose_spec.choose_spec.choose_spec fun z => by cases z
    have nds : d ≠ sd := ne_of t.1.2 D.choose_spec.choose_spec.choose_spec.choose_spec fun z => by cases z
    have ncs : cd ≠ sd := ne_of c.1 D.choose_spec.choose_spec.choose_spec.choose_spec fun z => by cases z
    have tk : ∀ {H' : Hp}, KeepBut sd H H' → TalL C H' x d ks L := fun k => t.keep (fun o e => k _ _ e nxs) fun o e => k _ _ e nds
    have ck : ∀ {H' : Hp}, KeepBut sd H H' → CntL H' cd cs L := fun k => c.keep fun o e => k _ _ e ncs
    have xk : ∀ {H' : Hp}, KeepBut sd H H' → H' x = some (.ins C dy [("often", .ref d)]) := fun k => k _ _ hx nxs
    refine ⟨_, rfl, cd, cs, L, rfl, c, fun H1 s1 => ?_⟩
    have K1 : KeepBut sd H H1 := s1.but sd
    have D1 := D.keep s1
    refine ⟨_, rfl, x, dy, _, rfl, xk K1, no_m (by decide +kernel), ?_⟩
    dsimp only [tNil, List.nil_append, List.cons_append]
    refine many_L (tk K1) ?_
    refine ⟨_, rfl, _, rfl, _, rfl, ?_⟩
    refine iteF ?_
    refine Or.inl ?_
    refine ⟨_, rfl, _, _, rfl, rfl, ?_⟩
    refine ⟨_, rfl, _, rfl, _, _, rfl, rfl, _, _, rfl, D1, by omega, by omega, fun y H2 y0 y1 D2 k2 => ?_⟩
    have K2 := K1.trans k2
    refine te_cut (t := tCB _ _) (fun v H' => ∃ b : Int, v = .int b ∧ Seed H' sd ∧ KeepBut sd H H') ?_ fun rest => ?_
    case refine_2 =>
      refine ⟨_, rfl, _, _, rfl, rfl, _, rfl, ?_⟩
      refine ite2 (fun z => ?_) (fun z => ?_)
      · refine ⟨_, rfl, _, _, rfl, D2, (by decide), (by decide), fun y3 H3 _ _ D3 k3 => ?_⟩
        refine Or.inl ⟨rfl, Or.inr ⟨_, rfl, ?_⟩⟩
        exact rest _ _ ⟨_, rfl, D3, K2.trans k3⟩
      · refine Or.inr ⟨_, rfl, ?_⟩
        exact rest _ _ ⟨_, rfl, D2, K2⟩
    rintro _ H3 ⟨b, rfl, D3, K3⟩
    refine ⟨_, _, rfl, rfl, ?_⟩
    refine ⟨(by show 3 ≤ sizeLine; decide), fun pl hpl => ?_⟩
    have s4 := same_upd (o := .lst [.int 0, .int ((L.length : Int) - 1), .int (y - b)]) hpl
    have e4 : upd H3 pl (.lst [.int 0, .int ((L.length : Int) - 1), .int (y - b)]) pl = some (.lst ([0, (L.length : Int) - 1, y - b].map V.int)) := upd_same
    have D4 := D3.keep s4
    have K4 := K3.trans (s4.but sd)
    generalize upd H3 pl (.lst [.int 0, .int ((L.length : Int) - 1), .int (y - b)]) = H4 at e4 D4 K4 ⊢
    generalize [0, (L.length : Int) - 1, y - b] = pls at e4
    refine ⟨_, rfl, ⟨_, SqL.of e4⟩, ?_⟩
    refine for_list (xs := pls.map V.int) (fun i σ H' => ∃ v5 : Option V, σ = [some (.ref sd), some (.ref x), some (.ref cd), some (.int sc), some (.int L.length), v5, none, none, none] ∧ Same H4 H') ⟨none, rfl, Same.refl _⟩ (fun i σ H' _ ⟨_, _, s⟩ => SqL.of (s _ _ e4)) ?_ ?_
    · rintro i v _ H5 hv ⟨v5, rfl, s5⟩
      obtain ⟨n, en, rfl⟩ := int_at hv
      have K5 := K4.trans (s5.but sd)
      refine ⟨_, rfl, _, _, rfl, rfl, _, rfl, ?_⟩
      by_cases z1 : 0 ≤ n
      · rw [decide_eq_true z1]
        refine iteT ⟨_, rfl, _, _, rfl, rfl, _, rfl, ?_⟩
        by_cases z2 : n < (L.length : Int)
        · rw [decide_eq_true z2]
          refine iteT ?_
          refine ⟨_, rfl, x, dy, _, rfl, xk K5, no_m (by decide +kernel), _, rfl, ?_⟩
          dsimp only [tNil, List.nil_append, List.cons_append]
          refine nth_L (tk K5) z1 z2 fun k H6 s6 hk => ?_
          refine ⟨_, rfl, _, rfl, cd, cs, L, n, rfl, (ck K5).same s6, z1, z2, fun k' H7 s7 hk' => ?_⟩
          obtain rfl : k = k' := Option.some.inj (hk.symm.trans hk')
          refine ⟨_, rfl, _, rfl, ?_⟩
          refine iteF ?_
          exact ⟨_, rfl, (s5.trans s6).trans s7⟩
        · rw [decide_eq_false z2]
          refine iteF ?_
          refine iteF ?_
          exact ⟨_, rfl, s5⟩
      · rw [decide_eq_false z1]
        refine iteF ⟨_, rfl, ?_⟩
        refine iteF ?_
        refine iteF ?_
        exact ⟨_, rfl, s5⟩
    rintro _ H5 ⟨v5, rfl, s5⟩
    dsimp only
    have K5 := K4.trans (s5.but sd)
    have D5 := D4.keep s5
    clear K4 D4 K3 D3 K2 D2 K1 D1 s4 e4
    refine ⟨_, rfl, cd, _, cs, rfl, (ck K5).1, kinds_keys _ _, fun so hso => ?_⟩
    have s6 := same_upd (o := .lst ((sortI cs).map V.int)) hso
    have e6 : upd H5 so (.lst ((sortI cs).map V.int)) so = some (.lst ((sortI cs).map V.int)) := upd_same
    have nso : so ≠ sd := D5.ne hso
    have D6 := D5.keep s6
    have K6 := K5.trans (s6.but sd)
    generalize upd H5 so (.lst ((sortI cs).map V.int)) = H6 at e6 D6 K6 ⊢
    refine ⟨_, rfl, _, rfl, _, _, rfl, D6, fun y7 H7 y70 y71 D7 k7 => ?_⟩
    refine ⟨_, _, rfl, rfl, ⟨by decide, by decide, by decide⟩, ?_⟩
    refine ⟨_, _, rfl, rfl, ⟨by decide, by decide, by decide⟩, _, _, rfl, rfl, ?_⟩
    refine ⟨(by show 3 ≤ sizeLine; decide), fun ol hol => ?_⟩
    have K7 := K6.trans k7
    have e7 := k7 _ _ e6 nso
    have fol : H ol = none ∨ ol = sd := by
      by_cases z : ol = sd
      · exact .inr z
      · refine .inl ?_
        cases e : H ol with
        | none => rfl
        | some o => rw [K7 _ _ e z] at hol; cases hol
    have nol : ol ≠ sd := D7.ne hol
    have fol' : H ol = none := fol.resolve_right nol
    generalize hA : [y7, (10 : Int) ^ (9 : Int).toNat, 0 - (10 : Int) ^ (9 : Int).toNat] = ots
    have e8 : upd H7 ol (.lst [.int y7, .int ((10 : Int) ^ (9 : Int).toNat), .int (0 - (10 : Int) ^ (9 : Int).toNat)]) ol = some (.lst (ots.map V.int)) := by rw [upd_same, ← hA]; rfl
    have s8 := same_upd (o := .lst [.int y7, .int ((10 : Int) ^ (9 : Int).toNat), .int (0 - (10 : Int) ^ (9 : Int).toNat)]) hol
    have lot : ots.length = 3 := by rw [← hA]; rfl
    have D8 := D7.keep s8
    have K8 := K7.trans (s8.but sd)
    have e6' := s8 _ _ e7
    have nsl : so ≠ ol := ne_of_none e7 hol
    generalize upd H7 ol (.lst [.int y7, .int ((10 : Int) ^ (9 : Int).toNat), .int (0 - (10 : Int) ^ (9 : Int).toNat)]) = H8 at e8 D8 K8 e6' ⊢
    clear hA
    dsimp only [gName, List.set]
    refine tSeq_cut (fun σ' H' => ∃ (os : List Int), σ' = [some (.ref sd), some (.ref x), some (.ref cd), some (.int sc), some (.int L.length), v5, some (.ref so), some (.ref ol), none] ∧ Seed H' sd ∧ KeepBut sd H H' ∧ H' ol = some (.lst (os.map V.int)) ∧ os.length ≤ 10) ?_ (fun rest => ?_)
    case refine_2 =>
      refine ⟨_, rfl, (by show 0 ≤ sizeLine; decide), fun e he => ?_⟩
      have se := same_upd (o := .lst []) he
      refine Or.inr (ne_cellsNil (cs := (sortI cs).map some) (by rw [← cells_of]; exact se _ _ e6') upd_same ⟨_, rfl, ?_⟩)
      have D9 := D8.keep se
      have K9 := K8.trans (se.but sd)
      have e9 := se _ _ e8
      have e6'' := se _ _ e6'
      generalize upd H8 e (.lst []) = H9 at D9 K9 e9 e6'' ⊢
      by_cases z : (sortI cs).map some = []
      · rw [decide_eq_true z]
        refine iteF ?_
        exact rest _ _ ⟨ots, rfl, D9, K9, e9, by omega⟩
      · rw [decide_eq_false z]
        refine iteT ?_
        have lpos : 0 < (sortI cs).length := by
          rw [← List.length_map (f := some)]
          exact List.length_pos_iff.mpr z
        have lS : (sortI cs).length ≤ 1000 := by rw [sortI_len]; exact c.2.2.2
        refine ⟨_, rfl, Or.inl ⟨rfl, _, SqL.of e9⟩, ?_⟩
        refine ⟨_, rfl, _, rfl, _, rfl, _, _, rfl, Or.inl ⟨_, SqL.of e6'', rfl⟩, _, _, rfl, D9, by rw [List.length_map]; omega, by rw [List.length_map]; omega, fun y H10 y0 y1 D10 k10 => ?_⟩
        rw [List.length_map] at y1
        obtain ⟨nu, enu, hnu⟩ := pickI y0 y1
        refine Or.inl ⟨_, _, _, _, rfl, rfl, SqL.of (k10 _ _ e6'' nso), enu, ?_⟩
        refine ⟨_, rfl, _, _, rfl, D10, (by decide), (by decide), fun y2 H11 _ _ D11 k11 => ?_⟩
        refine ⟨_, _, rfl, rfl, _, _, rfl, rfl, ?_⟩
        have e11 := k11 _ _ (k10 _ _ e9 nol) nol
        refine ⟨_, _, _, rfl, rfl, e11, (by rw [List.length_map]; exact Nat.lt_of_lt_of_le (show _ < 64 by omega) (by decide)), ?_⟩
        refine rest _ _ ⟨ots ++ [nu + y2 - 1], rfl, ?_, ?_, ?_, ?_⟩
        · obtain ⟨p, q, r, u, e⟩ := D11
          exact ⟨p, q, r, u, by rw [upd_ne nol.symm]; exact e⟩
        · intro b o e n
          rw [upd_ne (ne_of_none e fol')]
          exact k11 _ _ (k10 _ _ (K9 _ _ e n) n) n
        · rw [upd_same, List.map_append]; rfl
        · rw [List.length_append]; show _ + 1 ≤ 10; omega
    rintro _ H9 ⟨os, rfl, D9, K9, e9, los⟩
    refine Or.inl ?_
    refine Or.inl ?_
    refine ⟨_, rfl, _, rfl, ⟨_, SqL.of e9⟩, ?_⟩
    refine compW_list (xs := os.map V.int) (fun j zs H' => H' = H9 ∧ ∃ ns : List Int, zs = ns.map V.int ∧ ns.length ≤ j) ⟨rfl, [], rfl, Nat.le_refl _⟩ (by rw [List.length_map]; exact Nat.le_trans los (by decide)) (fun j zs H' _ ⟨e, _⟩ => by rw [e]; exact SqL.of e9) ?_ ?_
    · rintro j v zs _ hv ⟨rfl, ns, rfl, ln⟩
      obtain ⟨n, en, rfl⟩ := int_at hv
      refine ⟨_, rfl, _, rfl, _, _, rfl, rfl, ⟨by decide, by decide, by decide⟩, _, _, rfl, rfl, _, rfl, ?_⟩
      refine ite2 (fun z => ?_) (fun z => ?_)
      · refine ⟨_, rfl, rfl, ns ++ [n], ?_, ?_⟩
        · rw [List.map_append]; rfl
        · rw [List.length_append]; exact Nat.succ_le_succ ln
      · exact ⟨rfl, ns, by simp, by omega⟩
    rintro zs H9 ⟨rfl, ns, rfl, ln⟩ nl hnl
    have s10 := same_upd (o := .lst (ns.map V.int)) hnl
    have e10 : upd H9 nl (.lst (ns.map V.int)) nl = some (.lst (ns.map V.int)) := upd_same
    have D10 := D9.keep s10
    have K10 := K9.trans (s10.but sd)
    generalize upd H9 nl (.lst (ns.map V.int)) = H10 at e10 D10 K10 ⊢
    refine ⟨_, rfl, ⟨_, SqL.of e10⟩, ?_⟩
    refine for_list (xs := ns.map V.int) (fun i σ H' => ∃ v8 : Option V, σ = [some (.ref sd), some (.ref x), some (.ref cd), some (.int sc), some (.int L.length), v5, some (.ref so), some (.ref ol), v8] ∧ Same H10 H') ⟨none, rfl, Same.refl _⟩ (fun i σ H' _ ⟨_, _, s⟩ => SqL.of (s _ _ e10)) ?_ ?_
    · rintro i v _ H11 hv ⟨v8, rfl, s11⟩
      obtain ⟨n, en, rfl⟩ := int_at hv
      have K11 := K10.trans (s11.but sd)
      refine ⟨_, rfl, x, dy, _, rfl, xk K11, no_m (by decide +kernel), _, rfl, ?_⟩
      dsimp only [tNil, List.nil_append, List.cons_append]
      refine below_L (tk K11) fun H12 s12 => ?_
      refine ⟨_, rfl, _, rfl, cd, cs, L, n, rfl, (ck K11).same s12, fun H13 s13 => ?_⟩
      refine ⟨_, rfl, _, rfl, ?_⟩
      refine iteF ?_
      exact ⟨_, rfl, (s11.trans s12).trans s13⟩
    · rintro _ H11 ⟨v8, rfl, s11⟩
      exact q _ (D10.keep s11) (K10.trans (s11.but sd))
def Wide (i : Int) : Prop := -10000000000 < i ∧ i < 10000000000
def CellW (c : Option Int) : Prop := ∀ i, c = some i → Wide i
theorem word_len {c : Option Int} (h : CellW c) : (wordOf c).length ≤ 11 := by
  show (wordL c).toArray.size ≤ 11
  rw [List.size_toArray]
  exact wordL_len c fun i e => h i e
theorem log_small {i : Int} (h : Wide i) : i.natAbs.log2 < 1920 := by
  by_cases z : i.natAbs = 0
  · rw [z]; decide
  · have : i.natAbs < 2 ^ 34 := by unfold Wide at h; omega
    have := (Nat.log2_lt z).mpr this
    omega
theorem app_len (a b : Str) : (a ++ b).length = a.length + b.length := by
  show (a.cps ++ b.cps).size = a.cps.size + b.cps.size
  exact Array.size_append
theorem excn_len (n : Int) (h : Wide n) : (Str.empty ++ Str.ofString (toString n) ++ (" can't be put in or taken out" : Str)).length ≤ 100 := by
  have e0 : (Str.empty).length = 0 := rfl
  have e1 : (" can't be put in or taken out" : Str).length = 29 := by decide +kernel
  have e2 : (Str.ofString (toString n)).length ≤ 11 := by rw [str_word]; exact word_len fun i e => by cases e; exact h
  simp only [app_len, e0, e1]
  omega
def spNNInit (D : Addr) : Sp := fun vs H Q _ => ∃ (x : Addr) (n : Int), vs = [.ref x, .int n] ∧ H x = some (.ext (ExN x (.ref D) none)) ∧ Wide n ∧
  ∀ dx, H dx = none → dx ≠ x → Q .non (upd (upd H dx (.xd [(("number" : Str), .int n)])) x (.ext (ExN x (.ref D) (some dx))))
theorem df_NoNumber_init (T : Txt K mg C) {D : Addr} (pD : excPut K D = true) (nD : NoAttr K D "number") (RD : RawE K D "NoNumber.__init__" ["self", "number"] s_NoNumber_init) : DfE P w K mg base 1 D ["self", "number"] (spNNInit D) := by
  obtain ⟨W, gW, qW⟩ := T.e_win
  obtain ⟨fI, fd0, ⟨m1, m2, m3⟩, F0, b0⟩ := id RD
  refine RD.ok sc_NoNumber_init (fun vs H Q E h => ?_) (fun f cdv A outer s H vs Q E hr h => ?_)
  · obtain ⟨x, n, rfl, _⟩ := h
    rfl
  · obtain ⟨x, n, rfl, hx, hn, q⟩ := h
    refine ⟨_, (@pss_cons _ _ _ _ _ (@ps_expr _ _ _ _ (pe_winit (K := K) rfl gW qW (@pa_cons _ _ _ _ _ (pv 0) (@pa_cons _ _ _ _ _ (pe_fstr (pj_cons (pe_fv (pv 1)) (pj_cons pe_str pj_nil))) pa_nil (by rfl)) (by rfl))) (by rfl))
      (@pss_one _ _ _ (ps_xput (K := K) rfl (pv 0) (pv 1) rfl))), ?_⟩
    have l := excn_len n hn
    have fits : ∀ {n : Nat}, n ≤ 100 → n ≤ sizeLine := fun h => Nat.le_trans h (by decide)
    refine ⟨_, rfl, _, rfl, n, rfl, log_small hn, _, rfl, fits (by have e0 : (Str.empty).length = 0 := rfl; simp only [app_len, e0] at l ⊢; omega), _, rfl, fits l, fits l, x, D, fI, none, _, rfl, hx, m1, ?_⟩
    exact ⟨_, rfl, _, rfl, x, D, rfl, hx, pD, nD, fun dx hd ne => q dx hd ne⟩
theorem told_wipe {H : Hp} {y dx : Addr} {o1 o2 o3 : HO} (hy : H y = none) (hd : upd H y o1 dx = none) (ne : dx ≠ y) :
    Same H (wipe (upd (upd (upd H y o1) dx o2) y o3) y) ∧ H dx = none ∧ wipe (upd (upd (upd H y o1) dx o2) y o3) y dx = some o2 := by
  have h0 : H dx = none := by rw [upd_ne ne] at hd; exact hd
  refine ⟨fun b o e => ?_, h0, ?_⟩
  · have n1 := ne_of_none e hy
    have n2 := ne_of_none e h0
    rw [wipe_ne n1, upd_ne n1, upd_ne n2, upd_ne n1]
    exact e
  · rw [wipe_ne ne, upd_ne ne]
    exact upd_same
def ToldN (D : Addr) (n : Int) (H : Hp) (E : XK) : Prop := ∀ (dx : Addr) (H' : Hp), Same H H' → H dx = none → H' dx = some (.xd [(("number" : Str), .int n)]) → E (.ref D) (some dx) H'
def spPutX (C : Addr) (mg : Str → Option Value) : Sp := fun vs H _ E => ∃ (x d : Addr) (ks : List Int) (cnt : Int → Int) (n : Int), vs = [.ref x, .int n] ∧ TalAt C H x d ks cnt ∧ n ∉ ks ∧ Wide n ∧ ∀ D, mg "NoNumber" = some (.ref D) → ToldN D n H E
theorem df_X_Tally_put_in (T : Txt K mg C) : DfMXD P w K mg base 3 C "put_in" ["self", "number"] (spPutX C mg) := by
  obtain ⟨D, gD, pD, nD, RD⟩ := T.e_NoNumber
  obtain ⟨fI, fd0, ⟨m1, m2, m3⟩, F0, b0⟩ := id RD
  refine T.m_Tally_put_in.okXD sc_Tally_put_in (fun vs H Q E h => ?_) (fun f cdv A outer s H vs Q E hr h => ?_)
  · obtain ⟨x, d, ks, cnt, n, rfl, _⟩ := h
    rfl
  · obtain ⟨x, d, ks, cnt, n, rfl, ⟨⟨dy, hx⟩, hd⟩, hn, hw, q⟩ := h
    refine ⟨_, (@pss_cons _ _ _ _ _ (@ps_if _ _ _ _ _ _ _ _ (pt_cmp (pc_dnotin (hu_of hr) (pv 1) (pe_fldK (K := K) rfl (pv 0) (by rfl)))) (@pss_one _ _ _ (ps_raiseD rfl throwsD_out (pe_newXD (df_NoNumber_init T pD nD RD) (hr.mono (by decide)) gD (@pa_cons _ _ _ _ _ (pv 1) pa_nil (by rfl))))) pss_nil)
      (@pss_one _ _ _ (PS.nox (ps_daug (hu_of hr) (pe_fldK (K := K) rfl (pv 0) (by rfl)) (pv 1) pe_int ip_add (fun _ _ _ => rfl))))), ?_⟩
    have g : DGet H d (.int n) none := by
      have := DGet.k (k := Sum.inl n) hd
      rw [kinds_val, if_neg hn] at this
      exact this
    refine ⟨_, rfl, _, rfl, x, C, dy, _, _, rfl, hx, T.cl_Tally, T.a_often, rfl, d, _, rfl, g, _, rfl, ?_⟩
    refine iteT ?_
    refine ⟨_, rfl, (by show 1 ≤ sizeLine; decide), fun y hy ny => ⟨y, n, rfl, upd_same, hw, fun dx hdx ne => ⟨rfl, y, D, fI, some dx, rfl, upd_same, m1, ny, ?_⟩⟩⟩
    obtain ⟨a1, a2, a3⟩ := told_wipe (o1 := .ext (ExN y (.ref D) none)) (o2 := .xd [(("number" : Str), .int n)]) (o3 := .ext (ExN y (.ref D) (some dx))) hy hdx ne
    exact q D gD dx _ a1 a2 a3
def spTakeX (C : Addr) (mg : Str → Option Value) : Sp := fun vs H _ E => ∃ (x d : Addr) (ks : List Int) (cnt : Int → Int) (n : Int), vs = [.ref x, .int n] ∧ TalAt C H x d ks cnt ∧ (n ∈ ks → cnt n = 0) ∧ Wide n ∧ ∀ D, mg "NoNumber" = some (.ref D) → ToldN D n H E
theorem df_X_Tally_take_out (T : Txt K mg C) : DfMXD P w K mg base 3 C "take_out" ["self", "number"] (spTakeX C mg) := by
  obtain ⟨D, gD, pD, nD, RD⟩ := T.e_NoNumber
  obtain ⟨fI, fd0, ⟨m1, m2, m3⟩, F0, b0⟩ := id RD
  refine T.m_Tally_take_out.okXD sc_Tally_take_out (fun vs H Q E h => ?_) (fun f cdv A outer s H vs Q E hr h => ?_)
  · obtain ⟨x, d, ks, cnt, n, rfl, _⟩ := h
    rfl
  · obtain ⟨x, d, ks, cnt, n, rfl, ⟨⟨dy, hx⟩, hd⟩, hn, hw, q⟩ := h
    refine ⟨_, (@pss_cons _ _ _ _ _ (@ps_if _ _ _ _ _ _ _ _ (@pt_cmpR _ _ _ _ _ _ _ _ (op_eqA hr.units) (pe_dget2 (hu_of hr) (pe_fldK (K := K) rfl (pv 0) (by rfl)) (pv 1) pe_int ⟨by rfl, by rfl, by rfl, by rfl⟩) pe_int (nomark _)) (@pss_one _ _ _ (ps_raiseD rfl throwsD_out (pe_newXD (df_NoNumber_init T pD nD RD) (hr.mono (by decide)) gD (@pa_cons _ _ _ _ _ (pv 1) pa_nil (by rfl))))) pss_nil)
      (@pss_one _ _ _ (PS.nox (ps_daug (hu_of hr) (pe_fldK (K := K) rfl (pv 0) (by rfl)) (pv 1) pe_int ip_sub (fun _ _ _ => rfl))))), ?_⟩
    obtain ⟨go, g, hgo⟩ : ∃ go, DGet H d (.int n) go ∧ (go = none ∨ go = some (.int 0)) := by
      have z := DGet.k (k := Sum.inl n) hd
      rw [kinds_val] at z
      by_cases m : n ∈ ks
      · rw [if_pos m, hn m] at z
        exact ⟨_, z, Or.inr rfl⟩
      · rw [if_neg m] at z
        exact ⟨_, z, Or.inl rfl⟩
    have fin : ∀ (y dx : Addr) (hy : H y = none) (hdx : upd H y (.ext (ExN y (.ref D) none)) dx = none) (ne : dx ≠ y), E (.ref D) (some dx) (wipe (upd (upd (upd H y (.ext (ExN y (.ref D) none))) dx (.xd [(("number" : Str), .int n)])) y (.ext (ExN y (.ref D) (some dx)))) y) := fun y dx hy hdx ne => by
      obtain ⟨a1, a2, a3⟩ := told_wipe (o1 := .ext (ExN y (.ref D) none)) (o2 := .xd [(("number" : Str), .int n)]) (o3 := .ext (ExN y (.ref D) (some dx))) hy hdx ne
      exact q D gD dx _ a1 a2 a3
    rcases hgo with rfl | rfl
    · refine ⟨_, rfl, x, C, dy, _, _, rfl, hx, T.cl_Tally, T.a_often, rfl, d, rfl, .inl ⟨_, .inl hd⟩, _, rfl, _, g, Or.inl ⟨rfl, _, rfl, ?_⟩⟩
      rw [show decide (Option.getD none (V.int 0) = V.int 0) = true from decide_eq_true rfl]
      refine iteT ?_
      exact ⟨_, rfl, (by show 1 ≤ sizeLine; decide), fun y hy ny => ⟨y, n, rfl, upd_same, hw, fun dx hdx ne => ⟨rfl, y, D, fI, some dx, rfl, upd_same, m1, ny, fin y dx hy hdx ne⟩⟩⟩
    · refine ⟨_, rfl, x, C, dy, _, _, rfl, hx, T.cl_Tally, T.a_often, rfl, d, rfl, .inl ⟨_, .inl hd⟩, _, rfl, _, g, Or.inl ⟨rfl, _, rfl, ?_⟩⟩
      rw [show decide (Option.getD (some (V.int 0)) (V.int 0) = V.int 0) = true from decide_eq_true rfl]
      refine iteT ?_
      exact ⟨_, rfl, (by show 1 ≤ sizeLine; decide), fun y hy ny => ⟨y, n, rfl, upd_same, hw, fun dx hdx ne => ⟨rfl, y, D, fI, some dx, rfl, upd_same, m1, ny, fin y dx hy hdx ne⟩⟩⟩
def spNthX (C : Addr) (mg : Str → Option Value) : Sp := fun vs H _ E => ∃ (x d : Addr) (ks : List Int) (cnt : Int → Int) (pl : Int), vs = [.ref x, .int pl] ∧ TalAt C H x d ks cnt ∧ (∀ k ∈ ks, 0 ≤ cnt k) ∧ (pl < 0 ∨ (ks.map cnt).sum ≤ pl) ∧ ks.length ≤ 1000 ∧ ∀ D, mg "NoPlace" = some (.ref D) → ∀ H', Same H H' → E (.ref D) none H'
theorem ahead_le {ks : List Int} {cnt : Int → Int} (h : ∀ k ∈ ks, 0 ≤ cnt k) (i : Nat) : ahead ks cnt i ≤ (ks.map cnt).sum := by
  unfold ahead
  have e : ks.map cnt = (ks.take i).map cnt ++ (ks.drop i).map cnt := by rw [← List.map_append, List.take_append_drop]
  rw [e, List.sum_append]
  have z : 0 ≤ ((ks.drop i).map cnt).sum := by
    have : ∀ l : List Int, (∀ k ∈ l, 0 ≤ cnt k) → 0 ≤ (l.map cnt).sum := fun l => by
      induction l with
      | nil => intro _; simp
      | cons a r ih =>
        intro hl
        have h1 := hl a (by simp)
        have h2 := ih fun k hk => hl k (List.mem_cons_of_mem _ hk)
        rw [List.map_cons, List.sum_cons]
        omega
    exact this _ fun k hk => h k (List.mem_of_mem_drop hk)
  omega
theorem df_X_Tally_nth_in (T : Txt K mg C) : DfMXD P w K mg base 1 C "nth_in" ["self", "place"] (spNthX C mg) := by
  obtain ⟨aN, aF, aM, aP, aW, XX⟩ := T.x_exc
  refine T.m_Tally_nth_in.okXD sc_Tally_nth_in (fun vs H Q E h => ?_) (fun f cdv A outer s H vs Q E hr h => ?_)
  · obtain ⟨x, d, ks, cnt, pl, rfl, _⟩ := h
    rfl
  · obtain ⟨x, d, ks, cnt, pl, rfl, ⟨⟨dy, hx⟩, hd⟩, hc, hp, hl, q⟩ := h
    refine ⟨_, (@pss_cons _ _ _ _ _ (PS.nox (@ps_set _ _ 2 _ _ _ _ sc_Tally_nth_in.nd rfl (by first | exact Or.inl rfl | exact Or.inr rfl) pe_int (by rfl) (by first | exact .inl rfl | exact .inr rfl)))
      (@pss_cons _ _ _ _ _ (PS.nox (ps_thaw (P := P) (w := w) rfl rfl (@ps_for _ _ _ _ _ _ _ _ PassesOwn.never rfl (pi_items (P := P) (w := w) rfl rfl (pe_fldK (K := K) rfl (pv 0) (by rfl))) (pg_tupK (K := K) rfl rfl (pgs_cons (pg_name (i := 3) sc_Tally_nth_in.nd rfl (by first | exact Or.inl rfl | exact Or.inr rfl)) (pgs_cons (pg_name (i := 4) sc_Tally_nth_in.nd rfl (by first | exact Or.inl rfl | exact Or.inr rfl)) pgs_nil))) (@pss_cons _ _ _ _ _ (ps_aug (i := 2) sc_Tally_nth_in.nd rfl (by first | exact Or.inl rfl | exact Or.inr rfl) (pv 4) ip_add)
      (@pss_one _ _ _ (@ps_if _ _ _ _ _ _ _ _ (pt_chain op_le op_lt pe_int (pv 1) (pv 2)) (@pss_one _ _ _ (@ps_ret _ _ _ _ (pv 3))) pss_nil))) (by intro _; rfl))))
      (@pss_one _ _ _ (ps_raise rfl throwsN_out XX.place XX.inP (@pa_cons _ _ _ _ _ pe_str pa_nil (by rfl)))))), ?_⟩
    refine ⟨_, rfl, x, C, dy, _, _, rfl, hx, T.cl_Tally, T.a_often, rfl, d, _, rfl, hd, fun vs ep => ?_⟩
    have hw : upd H d (DWalk P w d (kinds ks cnt) vs ep) d = some (DWalk P w d (kinds ks cnt) vs ep) := upd_same
    refine for_items (fun i σ H' => (∃ v3 v4 : Option V, σ = [some (.ref x), some (.int pl), some (.int (ahead ks cnt i)), v3, v4]) ∧ Same (upd H d (DWalk P w d (kinds ks cnt) vs ep)) H') ⟨⟨none, none, rfl⟩, Same.refl _⟩ (fun i σ H' _ ⟨_, s'⟩ => s' _ _ hw) ?_ ?_
    · rintro i k v _ H1 t hk ⟨⟨v3, v4, rfl⟩, s1⟩ ht
      obtain ⟨n, en, rfl, rfl⟩ := kinds_at hk
      have st := same_upd (o := .tup [kV (Sum.inl n), .int (cnt n)]) ht
      refine ⟨_, _, rfl, SqT.of upd_same, rfl, _, _, rfl, _, _, rfl, rfl, ?_⟩
      refine ⟨_, rfl, _, rfl, _, _, rfl, rfl, ?_⟩
      dsimp only [gName, List.set]
      rw [← ahead_succ (cnt := cnt) en]
      refine ⟨_, rfl, _, _, rfl, rfl, _, rfl, ?_⟩
      have le := ahead_le hc (i + 1)
      refine ite2 (fun z0 => ?_) (fun _ => ⟨_, rfl, iteF ⟨⟨_, _, rfl⟩, s1.trans st⟩⟩)
      have z0 : 0 ≤ pl := of_decide_eq_true z0
      refine ⟨_, rfl, _, _, rfl, rfl, _, rfl, ?_⟩
      rw [decide_eq_false (show ¬ pl < ahead ks cnt (i + 1) by omega)]
      exact iteF ⟨⟨_, _, rfl⟩, s1.trans st⟩
    · rintro _ H1 ⟨⟨v3, v4, rfl⟩, s1⟩
      refine thaw_at (s1 _ _ hw) ?_
      exact ⟨(by show 1 ≤ sizeLine; decide), q _ XX.place _ (same_thaw hd s1)⟩
theorem iteN {c : Bool} {A B : Prop} (h : c = false) (b : B) : if c = true then A else B := by rw [h]; exact b
def Caught (mg : Str → Option Value) (way n : Int) (y : Addr) (H : Hp) : Prop :=
  (way ≠ 2 ∧ ∃ D dx, mg "NoNumber" = some (.ref D) ∧ H y = some (.ext (ExA y (.ref D) (some dx))) ∧ H dx = some (.xd [(("number" : Str), .int n)])) ∨ (way = 2 ∧ ∃ D, mg "NoPlace" = some (.ref D) ∧ H y = some (.ext (ExA y (.ref D) none)))
def spTried (C : Addr) (mg : Str → Option Value) : Sp := fun vs H Q _ => ∃ (x d : Addr) (ks : List Int) (cnt : Int → Int) (way n : Int), vs = [.ref x, .int way, .int n] ∧ TalAt C H x d ks cnt ∧ ks.length ≤ 1000 ∧ (∀ k ∈ ks, 0 ≤ cnt k) ∧ Wide n ∧
  ((way = 0 ∧ n ∉ ks) ∨ (way = 1 ∧ (n ∈ ks → cnt n = 0)) ∨ (way = 2 ∧ (n < 0 ∨ (ks.map cnt).sum ≤ n))) ∧ ∀ (y : Addr) (H' : Hp), Same H H' → Caught mg way n y H' → Q (.ref y) H'
theorem df_law_tried (T : Txt K mg C) : Df P w K mg base 4 "_law_tried" ["tally", "way", "number"] (spTried C mg) := by
  refine T.d_law_tried.ok sc_law_tried (fun vs H Q E h => ?_) (fun f cdv A outer s H vs Q E hr h => ?_)
  · obtain ⟨x, d, ks, cnt, way, n, rfl, _⟩ := h
    rfl
  · obtain ⟨x, d, ks, cnt, way, n, rfl, ta, hl, hc, hw, hway, q⟩ := h
    obtain ⟨aN, aF, aM, aP, aW, XX⟩ := T.x_exc
    obtain ⟨⟨dy, hx⟩, hd⟩ := id ta
    refine ⟨_, (@pss_cons _ _ _ _ _ (@ps_set _ _ 3 _ _ _ _ sc_law_tried.nd rfl (by first | exact Or.inl rfl | exact Or.inr rfl) pe_non (by rfl) (by first | exact .inl rfl | exact .inr rfl))
      (@pss_cons _ _ _ _ _ (ps_tryAsD (K := K) rfl rfl rfl rfl sc_law_tried.nd (ie := 4) rfl rfl XX.win (fun pins W => (@pss_one _ _ _ (@ps_if _ _ _ _ _ _ _ _ (@pt_cmpR _ _ _ _ _ _ _ _ (op_eqA hr.units) (pv 1) pe_int (nomark _)) (@pss_one _ _ _ (@ps_expr _ _ _ _ (pe_mtSD (df_X_Tally_put_in T) T.cl_Tally (hr.mono (by decide)) passSD (pv 0) (@pa_cons _ _ _ _ _ (pv 2) pa_nil (by rfl))) (by rfl))) (@pss_one _ _ _ (@ps_if _ _ _ _ _ _ _ _ (@pt_cmpR _ _ _ _ _ _ _ _ (op_eqA hr.units) (pv 1) pe_int (nomark _)) (@pss_one _ _ _ (@ps_expr _ _ _ _ (pe_mtSD (df_X_Tally_take_out T) T.cl_Tally (hr.mono (by decide)) passSD (pv 0) (@pa_cons _ _ _ _ _ (pv 2) pa_nil (by rfl))) (by rfl))) (@pss_one _ _ _ (@ps_expr _ _ _ _ (pe_mtSD (df_X_Tally_nth_in T) T.cl_Tally (hr.mono (by decide)) passSD (pv 0) (@pa_cons _ _ _ _ _ (pv 2) pa_nil (by rfl))) (by rfl)))))))) (fun v => (@pss_one _ _ _ (@ps_set _ _ 3 _ _ _ _ sc_law_tried.nd rfl (by first | exact Or.inl rfl | exact Or.inr rfl) (pv 4) (by rfl) (by first | exact .inl rfl | exact .inr rfl)))))
      (@pss_one _ _ _ (@ps_ret _ _ _ _ (pv 3))))), ?_⟩
    have numb : ∀ (D dx : Addr) (H' : Hp), mg "NoNumber" = some (.ref D) → way ≠ 2 → Same H H' → H' dx = some (.xd [(("number" : Str), .int n)]) → D = aM ∧ ∀ y, H' y = none → Q (.ref y) (upd H' y (.ext (ExA y (.ref D) (some dx)))) := fun D dx H' gD w2 s1 e1 => by
      refine ⟨by have z := gD.symm.trans XX.number; cases z; rfl, fun y hy => ?_⟩
      have s2 := same_upd (o := .ext (ExA y (.ref D) (some dx))) hy
      exact q y _ (s1.trans s2) (Or.inl ⟨w2, D, dx, gD, upd_same, s2 _ _ e1⟩)
    rcases hway with ⟨rfl, hn⟩ | ⟨rfl, hn⟩ | ⟨rfl, hn⟩
    · refine ⟨_, rfl, Or.inl ⟨rfl, _, rfl, iteT ?_⟩⟩
      refine ⟨_, rfl, x, dy, _, rfl, hx, rfl, _, rfl, ?_⟩
      refine ⟨x, d, ks, cnt, n, rfl, ta, hn, hw, fun D gD dx H' s1 h1 e1 => ?_⟩
      obtain ⟨rfl, fin⟩ := numb D dx H' gD (by decide) s1 e1
      refine ⟨XX.exmM, fun y hy => ?_⟩
      exact ⟨_, rfl, _, rfl, fin y hy⟩
    · refine ⟨_, rfl, Or.inl ⟨rfl, _, rfl, iteF ?_⟩⟩
      refine ⟨_, rfl, Or.inl ⟨rfl, _, rfl, iteT ?_⟩⟩
      refine ⟨_, rfl, x, dy, _, rfl, hx, rfl, _, rfl, ?_⟩
      refine ⟨x, d, ks, cnt, n, rfl, ta, hn, hw, fun D gD dx H' s1 h1 e1 => ?_⟩
      obtain ⟨rfl, fin⟩ := numb D dx H' gD (by decide) s1 e1
      refine ⟨XX.exmM, fun y hy => ?_⟩
      exact ⟨_, rfl, _, rfl, fin y hy⟩
    · refine ⟨_, rfl, Or.inl ⟨rfl, _, rfl, iteF ?_⟩⟩
      refine ⟨_, rfl, Or.inl ⟨rfl, _, rfl, iteF ?_⟩⟩
      refine ⟨_, rfl, x, dy, _, rfl, hx, rfl, _, rfl, ?_⟩
      refine ⟨x, d, ks, cnt, n, rfl, ta, hc, hn, hl, fun D gD H' s1 => ?_⟩
      obtain rfl : D = aP := by have z := gD.symm.trans XX.place; cases z; rfl
      refine ⟨XX.exmP, fun y hy => ?_⟩
      have s2 := same_upd (o := .ext (ExA y (.ref D) none)) hy
      exact ⟨_, rfl, _, rfl, q y _ (s1.trans s2) (Or.inr ⟨rfl, D, gD, upd_same⟩)⟩
def spRefused14 (C : Addr) : Sp := fun vs H Q _ => ∃ (x d : Addr) (ks : List Int) (cnt : Int → Int) (way n : Int), vs = [.ref x, .int way, .int n] ∧ TalAt C H x d ks cnt ∧ ks.length ≤ 1000 ∧ (∀ k ∈ ks, 0 ≤ cnt k) ∧ Wide n ∧
  ((way = 0 ∧ n ∉ ks) ∨ (way = 1 ∧ (n ∈ ks → cnt n = 0)) ∨ (way = 2 ∧ (n < 0 ∨ (ks.map cnt).sum ≤ n))) ∧ ∀ (H' : Hp), Same H H' → Q (.bl true) H'
theorem df_law_refused (T : Txt K mg C) : Df P w K mg base 5 "_law_refused" ["tally", "way", "number"] (spRefused14 C) := by
  refine T.d_law_refused.ok sc_law_refused (fun vs H Q E h => ?_) (fun f cdv A outer s H vs Q E hr h => ?_)
  · obtain ⟨x, d, ks, cnt, way, n, rfl, _⟩ := h
    rfl
  · obtain ⟨x, d, ks, cnt, way, n, rfl, ta, hl, hc, hw, hway, q⟩ := h
    obtain ⟨aN, aF, aM, aP, aW, XX⟩ := T.x_exc
    obtain ⟨D, gD, pD, nD, RD⟩ := T.e_NoNumber
    refine ⟨_, (@pss_cons _ _ _ _ _ (@ps_set _ _ 3 _ _ _ _ sc_law_refused.nd rfl (by first | exact Or.inl rfl | exact Or.inr rfl) (@pe_df _ _ _ _ _ _ _ _ _ _ (df_law_tried T) (hr.mono (by decide)) (@pa_cons _ _ _ _ _ (pv 0) (@pa_cons _ _ _ _ _ (pv 1) (@pa_cons _ _ _ _ _ (pv 2) pa_nil (by rfl)) (by rfl)) (by rfl)) (by rfl) (by decide) (by rfl) (by rfl)) (by rfl) (by first | exact .inl rfl | exact .inr rfl))
      (@pss_cons _ _ _ _ _ (@ps_if _ _ _ _ _ _ _ _ (pw_or (@pt_not _ _ _ _ (@pt_val _ _ _ (@pe_callB _ _ _ _ _ _ _ _ _ (CallR.or (call_isinstK (K := K) rfl) (call_isinstD (K := K) rfl)) (by rfl) T.n_isinstance bt_isinstance (@pa_cons _ _ _ _ _ (pv 3) (@pa_cons _ _ _ _ _ (pe_bltn (v := .ty "ValueError") (by rfl) T.n_ValueError bt_ValueError rfl) pa_nil (by rfl)) (by rfl)) (by decide) (by decide) (by rfl) (by rfl)) (by intro _; rfl))) (pw_or1 (@pt_val _ _ _ (@pe_callB _ _ _ _ _ _ _ _ _ (CallR.or (call_isinstK (K := K) rfl) (call_isinstD (K := K) rfl)) (by rfl) T.n_isinstance bt_isinstance (@pa_cons _ _ _ _ _ (pv 3) (@pa_cons _ _ _ _ _ (@pe_tup _ _ _ _ _ (@pa_cons _ _ _ _ _ (pe_glob (v := .ref _) (by rfl) XX.ask rfl) (@pa_cons _ _ _ _ _ (pe_glob (v := .ref _) (by rfl) XX.field rfl) pa_nil (by rfl)) (by rfl))) pa_nil star_tup) (by rfl)) (by decide) (by decide) (by rfl) (by rfl)) (by intro _; rfl)))).pt (@pss_one _ _ _ (@ps_ret _ _ _ _ pe_bl)) pss_nil)
      (@pss_cons _ _ _ _ _ (@ps_if _ _ _ _ _ _ _ _ (@pt_cmpR _ _ _ _ _ _ _ _ (op_eqA hr.units) (pv 1) pe_int (nomark _)) (@pss_one _ _ _ (@ps_ret _ _ _ _ (pe_and (@pe_callB _ _ _ _ _ _ _ _ _ (CallR.or (call_isinstK (K := K) rfl) (call_isinstD (K := K) rfl)) (by rfl) T.n_isinstance bt_isinstance (@pa_cons _ _ _ _ _ (pv 3) (@pa_cons _ _ _ _ _ (pe_glob (v := .ref _) (by rfl) XX.place rfl) pa_nil (by rfl)) (by rfl)) (by decide) (by decide) (by rfl) (by rfl)) (pe_one (pe_not (@pe_callB _ _ _ _ _ _ _ _ _ (CallR.or (call_isinstK (K := K) rfl) (call_isinstD (K := K) rfl)) (by rfl) T.n_isinstance bt_isinstance (@pa_cons _ _ _ _ _ (pv 3) (@pa_cons _ _ _ _ _ (pe_glob (v := .ref _) (by rfl) XX.number rfl) pa_nil (by rfl)) (by rfl)) (by decide) (by decide) (by rfl) (by rfl))))))) pss_nil)
      (@pss_cons _ _ _ _ _ (@ps_if _ _ _ _ _ _ _ _ (pw_or (@pt_not _ _ _ _ (@pt_val _ _ _ (@pe_callB _ _ _ _ _ _ _ _ _ (CallR.or (call_isinstK (K := K) rfl) (call_isinstD (K := K) rfl)) (by rfl) T.n_isinstance bt_isinstance (@pa_cons _ _ _ _ _ (pv 3) (@pa_cons _ _ _ _ _ (pe_glob (v := .ref _) (by rfl) XX.number rfl) pa_nil (by rfl)) (by rfl)) (by decide) (by decide) (by rfl) (by rfl)) (by intro _; rfl))) (pw_or1 (@pt_val _ _ _ (@pe_callB _ _ _ _ _ _ _ _ _ (CallR.or (call_isinstK (K := K) rfl) (call_isinstD (K := K) rfl)) (by rfl) T.n_isinstance bt_isinstance (@pa_cons _ _ _ _ _ (pv 3) (@pa_cons _ _ _ _ _ (pe_glob (v := .ref _) (by rfl) XX.place rfl) pa_nil (by rfl)) (by rfl)) (by decide) (by decide) (by rfl) (by rfl)) (by intro _; rfl)))).pt (@pss_one _ _ _ (@ps_ret _ _ _ _ pe_bl)) pss_nil)
      (@pss_one _ _ _ (@ps_ret _ _ _ _ (@pe_df _ _ _ _ _ _ _ _ _ _ (df_law_is_whole T) (hr.mono (by decide)) (@pa_cons _ _ _ _ _ (pe_xget (K := K) rfl (pv 3) (by rfl)) (@pa_cons _ _ _ _ _ (pv 2) pa_nil (by rfl)) (by rfl)) (by rfl) (by decide) (by rfl) (by rfl)))))))), ?_⟩
    refine ⟨_, rfl, _, rfl, _, rfl, x, d, ks, cnt, way, n, rfl, ta, hl, hc, hw, hway, fun y H1 s1 cg => ?_⟩
    dsimp only [gName, List.set]
    have cg : Caught mg way n y H1 := cg
    have tt : ∀ {D : Addr} {o : Option Addr} (h : Heap), ExA y (.ref D) o h → ExAt y (.ref D) h := fun h ⟨o, _, ho, hc, _⟩ => ⟨o, ho, hc⟩
    rcases cg with ⟨w2, D', dx, gD', ey, ex⟩ | ⟨w2, D', gD', ey⟩
    · obtain rfl : D' = aM := by have z := gD'.symm.trans XX.number; cases z; rfl
      obtain rfl : D = D' := by have z := gD.symm.trans gD'; cases z; rfl
      refine ⟨_, rfl, Or.inr ⟨y, D, _, true, _, rfl, ey, tt, XX.kitM, Or.inl ⟨rfl, XX.veM⟩, _, rfl, iteF ?_⟩⟩
      refine ⟨_, rfl, (by show 2 ≤ sizeLine; decide), fun p2 hp2 => Or.inr ⟨y, D, .ref p2, false, _, rfl, same_upd hp2 _ _ ey, tt, XX.kitM, Or.inr ⟨p2, _, rfl, upd_same, rfl, kitAny_no XX.kMN (kitAny_no XX.kMF rfl)⟩, _, rfl, iteF ?_⟩⟩
      have s2 := same_upd (o := .tup [.ref aN, .ref aF]) hp2
      have ey2 := s2 _ _ ey
      have ex2 := s2 _ _ ex
      have s12 := s1.trans s2
      generalize upd H1 p2 (.tup [.ref aN, .ref aF]) = H2 at ey2 ex2 s12 ⊢
      refine ⟨_, rfl, Or.inl ⟨rfl, _, rfl, iteN (decide_eq_false fun z => w2 (by cases z; rfl)) ?_⟩⟩
      refine ⟨_, rfl, Or.inr ⟨y, D, _, true, _, rfl, ey2, tt, XX.kitM, Or.inl ⟨rfl, XX.kMM⟩, _, rfl, iteF ?_⟩⟩
      refine ⟨_, rfl, Or.inr ⟨y, D, _, false, _, rfl, ey2, tt, XX.kitM, Or.inl ⟨rfl, XX.kMP⟩, _, rfl, iteF ?_⟩⟩
      exact ⟨_, rfl, y, D, dx, _, _, _, rfl, ey2, fun h z => z, ex2, pD, nD, rfl, _, rfl, n, rfl, q _ s12⟩
    · obtain rfl : D' = aP := by have z := gD'.symm.trans XX.place; cases z; rfl
      subst w2
      refine ⟨_, rfl, Or.inr ⟨y, D', _, true, _, rfl, ey, tt, XX.kitP, Or.inl ⟨rfl, XX.veP⟩, _, rfl, iteF ?_⟩⟩
      refine ⟨_, rfl, (by show 2 ≤ sizeLine; decide), fun p2 hp2 => Or.inr ⟨y, D', .ref p2, false, _, rfl, same_upd hp2 _ _ ey, tt, XX.kitP, Or.inr ⟨p2, _, rfl, upd_same, rfl, kitAny_no XX.kPN (kitAny_no XX.kPF rfl)⟩, _, rfl, iteF ?_⟩⟩
      have s2 := same_upd (o := .tup [.ref aN, .ref aF]) hp2
      have ey2 := s2 _ _ ey
      have s12 := s1.trans s2
      generalize upd H1 p2 (.tup [.ref aN, .ref aF]) = H2 at ey2 s12 ⊢
      refine ⟨_, rfl, Or.inl ⟨rfl, _, rfl, iteT ?_⟩⟩
      refine ⟨_, rfl, Or.inr ⟨y, D', _, true, _, rfl, ey2, tt, XX.kitP, Or.inl ⟨rfl, XX.kPP⟩, _, rfl, iteT ?_⟩⟩
      refine ⟨_, rfl, Or.inr ⟨y, D', _, false, _, rfl, ey2, tt, XX.kitP, Or.inl ⟨rfl, XX.kPM⟩, _, rfl, ?_⟩⟩
      exact q _ s12
theorem count_erase {L : List Int} {n : Int} (h : n ∈ L) (k : Int) : ((L.erase n).count k : Int) = if k = n then (L.count k : Int) - 1 else (L.count k : Int) := by
  by_cases z : k = n
  · subst z
    rw [if_pos rfl, List.count_erase_self]
    have : 0 < L.count k := List.count_pos_iff.mpr h
    omega
  · rw [if_neg z, List.count_erase_of_ne z]
theorem count_put (L : List Int) (n k : Int) : ((L ++ [n]).count k : Int) = if k = n then (L.count k : Int) + 1 else (L.count k : Int) := by
  rw [List.count_append]
  by_cases z : k = n
  · subst z; rw [if_pos rfl]; simp
  · rw [if_neg z, List.count_singleton]
    have : ¬ (n = k) := fun e => z e.symm
    simp [this]
theorem kinds_eq {cs : List Int} {f g : Int → Int} (h : ∀ k, f k = g k) : kinds cs f = kinds cs g := by
  have : f = g := funext h
  rw [this]
theorem sub_len : ∀ {l ks : List Int}, l.Nodup → (∀ c ∈ l, c ∈ ks) → l.length ≤ ks.length
  | [], _, _, _ => Nat.zero_le _
  | a :: l, ks, nd, h => by
    have ha : a ∈ ks := h a (by simp)
    obtain ⟨na, nd'⟩ := List.nodup_cons.mp nd
    have := sub_len (ks := ks.erase a) nd' fun c hc => (List.mem_erase_of_ne (show c ≠ a from fun e => na (by rw [← e]; exact hc))).mpr (h c (by simp [hc]))
    have l2 := List.length_erase_of_mem ha
    have l3 : 0 < ks.length := List.length_pos_of_mem ha
    rw [List.length_cons]
    omega
theorem CntL.less {H H' : Hp} {cd : Addr} {cs L : List Int} {n : Int} (t : CntL H cd cs L) (h : n ∈ L) (e : H' cd = some (.dK (putK (kinds cs fun k => (L.count k : Int)) (Sum.inl n) (.int ((L.count n : Int) - 1))))) : CntL H' cd cs (L.erase n) := by
  refine ⟨?_, t.2.1, fun y hy => t.2.2.1 y (List.mem_of_mem_erase hy), t.2.2.2⟩
  rw [e, kinds_put _ _ (t.2.2.1 n h)]
  congr 2
  refine kinds_eq fun k => ?_
  rw [count_erase h]
  by_cases z : k = n
  · subst z; rfl
  · simp [z]
theorem CntL.more {H H' : Hp} {cd : Addr} {cs L ks : List Int} {n : Int} (t : CntL H cd cs L) (sub : ∀ c ∈ cs, c ∈ ks) (hn : n ∈ ks) (hk : ks.length ≤ 1000) (v : Option V) (hv : v = valV (kinds cs fun k => (L.count k : Int)) (Sum.inl n))
    (w : Int) (hw : v.getD (.int 0) = .int w) (e : H' cd = some (.dK (putK (kinds cs fun k => (L.count k : Int)) (Sum.inl n) (.int (w + 1))))) : ∃ cs', CntL H' cd cs' (L ++ [n]) ∧ ∀ c ∈ cs', c ∈ ks := by
  rw [kinds_val] at hv
  by_cases z : n ∈ cs
  · rw [if_pos z] at hv
    subst hv
    have ew : w = (L.count n : Int) := (V.int.inj hw).symm
    refine ⟨cs, ⟨?_, t.2.1, fun y hy => ?_, t.2.2.2⟩, sub⟩
    · rw [e, kinds_put _ _ z]
      congr 2
      refine kinds_eq fun k => ?_
      rw [count_put]
      by_cases z2 : k = n
      · subst z2; rw [if_pos rfl, if_pos rfl, ew]
      · rw [if_neg z2, if_neg z2]
    · rcases List.mem_append.mp hy with m | m
      · exact t.2.2.1 y m
      · have : y = n := by simpa using m
        rw [this]; exact z
  · rw [if_neg z] at hv
    subst hv
    have ew : w = 0 := (V.int.inj hw).symm
    have nL : n ∉ L := fun h => z (t.2.2.1 n h)
    have sub' : ∀ c ∈ cs ++ [n], c ∈ ks := fun c hc => by
      rcases List.mem_append.mp hc with m | m
      · exact sub c m
      · have : c = n := by simpa using m
        rw [this]; exact hn
    have nd : (cs ++ [n]).Nodup := List.nodup_append.mpr ⟨t.2.1, by simp, fun a ha b hb => by
      have : b = n := by simpa using hb
      subst this
      exact fun e => z (e ▸ ha)⟩
    refine ⟨cs ++ [n], ⟨?_, nd, fun y hy => ?_, ?_⟩, sub'⟩
    · rw [e, putK_new _ (by rw [kinds_val, if_neg z])]
      congr 2
      unfold kinds
      rw [List.map_append]
      have e1 : (cs.map fun k => ((Sum.inl k : Key), V.int ((L ++ [n]).count k : Int))) = cs.map fun k => ((Sum.inl k : Key), V.int (L.count k : Int)) := by
        refine List.map_congr_left fun k hk => ?_
        have : k ≠ n := fun e => z (e ▸ hk)
        rw [count_put, if_neg this]
      rw [e1]
      have e2 : ((L ++ [n]).count n : Int) = w + 1 := by
        rw [count_put, if_pos rfl, List.count_eq_zero.mpr nL, ew]; rfl
      show _ ++ [(Sum.inl n, V.int (w + 1))] = _ ++ [(Sum.inl n, V.int ((L ++ [n]).count n : Int))]
      rw [e2]
    · rcases List.mem_append.mp hy with m | m
      · exact List.mem_append.mpr (.inl (t.2.2.1 y m))
      · exact List.mem_append.mpr (.inr m)
    · exact Nat.le_trans (sub_len nd sub') hk
def Keep3 (sd d cd : Addr) (H H' : Hp) : Prop := ∀ b o, H b = some o → b ≠ sd → b ≠ d → b ≠ cd → H' b = some o
def spTurn (C : Addr) : Sp := fun vs H Q _ => ∃ (sd x d cd kt : Addr) (ks cs L kk : List Int), vs = [.ref sd, .ref x, .ref cd, .ref kt] ∧ Seed H sd ∧ TalL C H x d ks L ∧ CntL H cd cs L ∧ d ≠ cd ∧ (∀ c ∈ cs, c ∈ ks) ∧ H kt = some (.tup (kk.map V.int)) ∧ kk ≠ [] ∧ kk.length ≤ 1000 ∧ (∀ k ∈ kk, k ∈ ks) ∧
  ∀ (L' cs' : List Int) (H' : Hp), TalL C H' x d ks L' → CntL H' cd cs' L' → (∀ c ∈ cs', c ∈ ks) → L'.length ≤ L.length + 1 → Seed H' sd → Keep3 sd d cd H H' → Q (.bl true) H'
theorem df_law_turn (T : Txt K mg C) : Df P w K mg base 3 "_law_turn" ["seed", "tally", "counts", "kinds"] (spTurn C) := by
  refine T.d_law_turn.ok sc_law_turn (fun vs H Q E h => ?_) (fun f cdv A outer s H vs Q E hr h => ?_)
  · obtain ⟨sd, x, d, cd, kt, ks, cs, L, kk, rfl, _⟩ := h
    rfl
  · obtain ⟨sd, x, d, cd, kt, ks, cs, L, kk, rfl, D, t, c, ndc, sub, hkt, k1, k2, hkk, q⟩ := h
    refine ⟨_, (@pss_cons _ _ _ _ _ (@ps_set _ _ 4 _ _ _ _ sc_law_turn.nd rfl (by first | exact Or.inl rfl | exact Or.inr rfl) (@pe_callB _ _ _ _ _ _ _ _ _ call_sorted (by rfl) T.n_sorted bt_sorted (@pa_cons _ _ _ _ _ (pe_thaw (P := P) (w := w) rfl rfl (pe_compIf (M := ["counts"]) (idx := [2]) rfl (pi_keys (P := P) (w := w) rfl rfl (pv 2)) (compOk (by kernel_rfl)) (by decide +kernel) (by first | exact Or.inl rfl | exact Or.inr rfl) (fun _ _ _ _ _ => pts_one (@pt_cmpR _ _ _ _ _ _ _ _ op_gt (pe_dgetW (P := P) (w := w) rfl rfl (pv 1) (pv 0) (fun _ _ => rfl)) pe_int (nomark _))) (fun _ _ _ _ _ => (pv 0)))) pa_nil star_comp) (by decide) (by decide) (by rfl) (by rfl)) (by rfl) (by first | exact .inl rfl | exact .inr rfl))
      (@pss_cons _ _ _ _ _ (@ps_if _ _ _ _ _ _ _ _ (pw_and (@pt_cmpR _ _ _ _ _ _ _ _ (op_neX hr.units) (pv 4) (@pe_lst _ _ _ _ pa_nil) (nomark _)) (pw_and1 (@pt_cmpR _ _ _ _ _ _ _ _ op_lt (@pe_df _ _ _ _ _ _ _ _ _ _ (df_law_draw T) (hr.mono (by decide)) (@pa_cons _ _ _ _ _ (pv 0) (@pa_cons _ _ _ _ _ pe_int pa_nil (by rfl)) (by rfl)) (by rfl) (by decide) (by rfl) (by rfl)) pe_int (nomark _)))).pt (@pss_cons _ _ _ _ _ (@ps_set _ _ 5 _ _ _ _ sc_law_turn.nd rfl (by first | exact Or.inl rfl | exact Or.inr rfl) (@pe_ix _ _ _ _ _ _ _ (ix_seqK (K := K) rfl) (pv 4) (@pe_df _ _ _ _ _ _ _ _ _ _ (df_law_draw T) (hr.mono (by decide)) (@pa_cons _ _ _ _ _ (pv 0) (@pa_cons _ _ _ _ _ (@pe_callB _ _ _ _ _ _ _ _ _ (call_lenK (K := K) rfl) (by rfl) T.n_len bt_len (@pa_cons _ _ _ _ _ (pv 4) pa_nil (by rfl)) (by decide) (by decide) (by rfl) (by rfl)) pa_nil star_call) (by rfl)) (by rfl) (by decide) (by rfl) (by rfl)) (fun _ _ => rfl)) (by rfl) (by first | exact .inl rfl | exact .inr rfl))
      (@pss_cons _ _ _ _ _ (ps_dput (hu_of hr) (pv 2) (pv 5) (@pe_op _ _ _ _ _ _ _ _ op_sub (pe_dget (hu_of hr) (pv 2) (pv 5) (fun _ _ => rfl)) pe_int) rfl)
      (@pss_one _ _ _ (@ps_ret _ _ _ _ (@pe_cmpR _ _ _ _ _ _ _ _ op_isN (@pe_mt _ _ _ _ _ _ _ _ _ _ _ _ _ _ (df_Tally_take_out T) T.cl_Tally (hr.mono (by decide)) (pv 1) (@pa_cons _ _ _ _ _ (pv 5) pa_nil (by rfl)) (by rfl) (by rfl) (by rfl)) pe_non (nomark _)))))) pss_nil)
      (@pss_cons _ _ _ _ _ (@ps_set _ _ 5 _ _ _ _ sc_law_turn.nd rfl (by first | exact Or.inl rfl | exact Or.inr rfl) (@pe_ix _ _ _ _ _ _ _ (ix_seqK (K := K) rfl) (pv 3) (@pe_df _ _ _ _ _ _ _ _ _ _ (df_law_draw T) (hr.mono (by decide)) (@pa_cons _ _ _ _ _ (pv 0) (@pa_cons _ _ _ _ _ (@pe_callB _ _ _ _ _ _ _ _ _ (call_lenK (K := K) rfl) (by rfl) T.n_len bt_len (@pa_cons _ _ _ _ _ (pv 3) pa_nil (by rfl)) (by decide) (by decide) (by rfl) (by rfl)) pa_nil star_call) (by rfl)) (by rfl) (by decide) (by rfl) (by rfl)) (fun _ _ => rfl)) (by rfl) (by first | exact .inl rfl | exact .inr rfl))
      (@pss_cons _ _ _ _ _ (ps_dput (hu_of hr) (pv 2) (pv 5) (@pe_op _ _ _ _ _ _ _ _ op_add (pe_dget2 (hu_of hr) (pv 2) (pv 5) pe_int ⟨by rfl, by rfl, by rfl, by rfl⟩) pe_int) rfl)
      (@pss_one _ _ _ (@ps_ret _ _ _ _ (@pe_cmpR _ _ _ _ _ _ _ _ op_isN (@pe_mt _ _ _ _ _ _ _ _ _ _ _ _ _ _ (df_Tally_put_in T) T.cl_Tally (hr.mono (by decide)) (pv 1) (@pa_cons _ _ _ _ _ (pv 5) pa_nil (by rfl)) (by rfl) (by rfl) (by rfl)) pe_non (nomark _)))))))), ?_⟩
    obtain ⟨dy, hx⟩ := t.1.1
    have nxs : x ≠ sd := ne_of hx D.choose_spec.choose_spec.choose_spec.choose_spec fun z => by cases z
    have nds : d ≠ sd := ne_of t.1.2 D.choose_spec.choose_spec.choose_spec.choose_spec fun z => by cases z
    have ncs : cd ≠ sd := ne_of c.1 D.choose_spec.choose_spec.choose_spec.choose_spec fun z => by cases z
    have nks : kt ≠ sd := ne_of hkt D.choose_spec.choose_spec.choose_spec.choose_spec fun z => by cases z
    have nxc : x ≠ cd := ne_of hx c.1 fun z => by cases z
    have tk : ∀ {H' : Hp}, KeepBut sd H H' → TalL C H' x d ks L := fun k => t.keep (fun o e => k _ _ e nxs) fun o e => k _ _ e nds
    have ck : ∀ {H' : Hp}, KeepBut sd H H' → CntL H' cd cs L := fun k => c.keep fun o e => k _ _ e ncs
    have xk : ∀ {H' : Hp}, KeepBut sd H H' → H' x = some (.ins C dy [("often", .ref d)]) := fun k => k _ _ hx nxs
    refine ⟨_, rfl, cd, _, rfl, c.1, fun vs ep => ?_⟩
    have hd := c.1
    have lk := kinds_len cs (fun k => (L.count k : Int))
    have hw : upd H cd (DWalk P w cd (kinds cs fun k => (L.count k : Int)) vs ep) cd = some (DWalk P w cd (kinds cs fun k => (L.count k : Int)) vs ep) := upd_same
    refine compW_keys (fun i zs H' => Same (upd H cd (DWalk P w cd (kinds cs fun k => (L.count k : Int)) vs ep)) H' ∧ zs = ((cs.take i).filter fun k => decide (0 < (L.count k : Int))).map V.int) ⟨Same.refl _, rfl⟩ (by rw [lk]; exact Nat.le_of_lt (small1000 c.2.2.2)) (fun i zs H' _ ⟨s1, _⟩ => s1 _ _ hw) ?_ ?_
    · rintro i k v zs H1 hk ⟨s1, rfl⟩
      obtain ⟨m, em, rfl, rfl⟩ := kinds_at hk
      have e2 : cs.take (i + 1) = cs.take i ++ [m] := by rw [List.take_add_one, em]; rfl
      refine ⟨_, rfl, _, rfl, cd, _, vs, ep, Sum.inl m, .int (L.count m : Int), rfl, s1 _ _ hw, rfl, ?_, _, _, rfl, rfl, _, rfl, ?_⟩
      · rw [kinds_val, if_pos (List.mem_of_getElem? em)]
      by_cases z : 0 < (L.count m : Int)
      · rw [decide_eq_true z]
        refine iteT ?_
        refine ⟨_, rfl, s1, ?_⟩
        rw [e2, List.filter_append, List.map_append]
        have : m ∈ L := List.count_pos_iff.mp (by omega)
        simp [z, this]
        rfl
      · rw [decide_eq_false z]
        refine iteF ?_
        refine ⟨s1, ?_⟩
        rw [e2, List.filter_append, List.map_append]
        have : m ∉ L := fun h => z (by have := List.count_pos_iff.mpr h; omega)
        simp [this]
    rintro zs H1 ⟨s1, rfl⟩ l hl2
    rw [lk, List.take_length]
    generalize hI : (cs.filter fun k => decide (0 < (L.count k : Int))) = ins
    have hins : ∀ y ∈ ins, y ∈ L := fun y hy => by
      rw [← hI, List.mem_filter] at hy
      exact List.count_pos_iff.mp (by have := of_decide_eq_true hy.2; omega)
    have lins : ins.length ≤ 1000 := by rw [← hI]; exact Nat.le_trans (List.length_filter_le _ _) c.2.2.2
    have sl := same_upd (o := .lst (ins.map V.int)) hl2
    have nl : l ≠ cd := (ne_of_none (s1 _ _ hw) hl2).symm
    refine thaw_at (sl _ _ (s1 _ _ hw)) ?_
    have s3 : Same H (upd (upd H1 l (.lst (ins.map V.int))) cd (.dK (kinds cs fun k => (L.count k : Int)))) := same_thaw hd (s1.trans sl)
    have e3 : upd (upd H1 l (.lst (ins.map V.int))) cd (.dK (kinds cs fun k => (L.count k : Int))) l = some (.lst (ins.map V.int)) := by rw [upd_ne nl]; exact upd_same
    generalize upd (upd H1 l (.lst (ins.map V.int))) cd (.dK (kinds cs fun k => (L.count k : Int))) = H3 at s3 e3 ⊢
    refine ⟨l, ins, rfl, .inr e3, fun so hso => ?_⟩
    have s4 := same_upd (o := .lst ((sortI ins).map V.int)) hso
    have e4 : upd H3 so (.lst ((sortI ins).map V.int)) so = some (.lst ((sortI ins).map V.int)) := upd_same
    have S4 := s3.trans s4
    have D4 := D.keep S4
    have K4 : KeepBut sd H (upd H3 so (.lst ((sortI ins).map V.int))) := S4.but sd
    have nso : so ≠ sd := (D.keep s3).ne hso
    have nsc : so ≠ cd := (ne_of_none (s3 _ _ c.1) hso).symm
    have nsd : so ≠ d := (ne_of_none (s3 _ _ t.1.2) hso).symm
    generalize upd H3 so (.lst ((sortI ins).map V.int)) = H4 at e4 D4 K4 ⊢
    clear s1 hw sl nl s3 e3 s4 S4 hl2
    dsimp only [gName, List.set]
    refine tSeq_cut (fun σ' H' => σ' = [some (.ref sd), some (.ref x), some (.ref cd), some (.ref kt), some (.ref so), none] ∧ Seed H' sd ∧ KeepBut sd H H') ?_ (fun rest => ?_)
    · rintro _ H5 ⟨rfl, D5, K5⟩
      have kl : 0 < kk.length := List.length_pos_iff.mpr k1
      refine ⟨_, rfl, _, rfl, _, rfl, _, _, rfl, Or.inr ⟨_, SqT.of (K5 _ _ hkt nks), rfl⟩, _, _, rfl, D5, by rw [List.length_map]; omega, by rw [List.length_map]; omega, fun y H6 y0 y1 D6 k6 => ?_⟩
      rw [List.length_map] at y1
      obtain ⟨nu, enu, hnu⟩ := pickI y0 y1
      have K6 := K5.trans k6
      refine Or.inr (Or.inl ⟨_, _, _, _, rfl, rfl, SqT.of (K6 _ _ hkt nks), enu, ?_⟩)
      have c6 := ck K6
      refine ⟨_, rfl, cd, rfl, .inl ⟨_, .inl c6.1⟩, _, rfl, _, DGet.k (k := Sum.inl nu) c6.1, ?_⟩
      obtain ⟨wv, hwv⟩ : ∃ wv : Int, (valV (kinds cs fun k => (L.count k : Int)) (Sum.inl nu)).getD (.int 0) = .int wv := by
        rw [kinds_val]
        split
        · exact ⟨_, rfl⟩
        · exact ⟨_, rfl⟩
      rw [hwv]
      refine ⟨_, _, rfl, rfl, _, rfl, _, rfl, cd, _, rfl, DPut.k (k := Sum.inl nu) c6.1 (by rw [kinds_len]; exact small1000 c.2.2.2), ?_⟩
      have kc := fun b o (e : H6 b = some o) (n : b ≠ cd) => (show upd H6 cd (.dK (putK (kinds cs fun k => (L.count k : Int)) (Sum.inl nu) (.int (wv + 1)))) b = some o by rw [upd_ne n]; exact e)
      obtain ⟨cs', c7, sub'⟩ := c6.more (H' := upd H6 cd (.dK (putK (kinds cs fun k => (L.count k : Int)) (Sum.inl nu) (.int (wv + 1))))) sub (hkk _ hnu) t.2.2.2 _ rfl wv hwv upd_same
      generalize upd H6 cd (.dK (putK (kinds cs fun k => (L.count k : Int)) (Sum.inl nu) (.int (wv + 1)))) = H7 at kc c7 ⊢
      have t7 : TalL C H7 x d ks L := (tk K6).keep (fun o e => kc _ _ e nxc) fun o e => kc _ _ e ndc
      refine ⟨_, rfl, x, dy, _, rfl, kc _ _ (xk K6) nxc, no_m (by decide +kernel), _, rfl, ?_⟩
      dsimp only [tNil, List.nil_append, List.cons_append]
      refine put_L t7 (hkk _ hnu) fun H8 t8 k8 => ?_
      refine ⟨rfl, ?_⟩
      refine q (L ++ [nu]) cs' H8 t8 (c7.keep fun o e => k8 _ _ e ndc.symm) sub' (by rw [List.length_append]; exact Nat.le_refl _) ?_ fun b o e n1 n2 n3 => k8 _ _ (kc _ _ (K6 _ _ e n1) n3) n2
      obtain ⟨a1, a2, a3, a4, e⟩ := D6
      exact ⟨a1, a2, a3, a4, k8 _ _ (kc _ _ e ncs.symm) nds.symm⟩
    · refine ⟨_, rfl, (by show 0 ≤ sizeLine; decide), fun e he => ?_⟩
      have se := same_upd (o := .lst []) he
      refine Or.inr (ne_cellsNil (cs := (sortI ins).map some) (by rw [← cells_of]; exact se _ _ e4) upd_same ⟨_, rfl, ?_⟩)
      have D5 := D4.keep se
      have K5 := K4.trans (se.but sd)
      have e5 := se _ _ e4
      generalize upd H4 e (.lst []) = H5 at D5 K5 e5 ⊢
      by_cases z : (sortI ins).map some = []
      · rw [decide_eq_true z]
        refine iteF ?_
        refine iteF ?_
        exact rest _ _ ⟨rfl, D5, K5⟩
      · rw [decide_eq_false z]
        refine iteT ?_
        have lpos : 0 < (sortI ins).length := by
          rw [← List.length_map (f := some)]
          exact List.length_pos_iff.mpr z
        have lS : (sortI ins).length ≤ 1000 := by rw [sortI_len]; exact lins
        refine ⟨_, rfl, _, _, rfl, D5, (by decide), (by decide), fun y H6 y0 y1 D6 k6 => ?_⟩
        have K6 := K5.trans k6
        have e6 := k6 _ _ e5 nso
        refine ⟨_, _, rfl, rfl, _, rfl, ?_⟩
        refine ite2 (fun z2 => ?_) (fun z2 => rest _ _ ⟨rfl, D6, K6⟩)
        refine ⟨_, rfl, _, rfl, _, rfl, _, _, rfl, Or.inl ⟨_, SqL.of e6, rfl⟩, _, _, rfl, D6, by rw [List.length_map]; omega, by rw [List.length_map]; omega, fun y7 H7 y0 y1 D7 k7 => ?_⟩
        rw [List.length_map] at y1
        obtain ⟨nu, enu, hnu⟩ := pickI y0 y1
        have K7 := K6.trans k7
        refine Or.inl ⟨_, _, _, _, rfl, rfl, SqL.of (k7 _ _ e6 nso), enu, ?_⟩
        have hL := hins _ (mem_sortI.mp hnu)
        have c7 := ck K7
        refine ⟨_, rfl, _, rfl, cd, _, rfl, c7.get (c.2.2.1 _ hL), _, _, rfl, rfl, _, rfl, _, rfl, cd, _, rfl, DPut.k (k := Sum.inl nu) c7.1 (by rw [kinds_len]; exact small1000 c.2.2.2), ?_⟩
        have kc := fun b o (e : H7 b = some o) (n : b ≠ cd) => (show upd H7 cd (.dK (putK (kinds cs fun k => (L.count k : Int)) (Sum.inl nu) (.int ((L.count nu : Int) - 1)))) b = some o by rw [upd_ne n]; exact e)
        have c8 := c7.less (H' := upd H7 cd (.dK (putK (kinds cs fun k => (L.count k : Int)) (Sum.inl nu) (.int ((L.count nu : Int) - 1))))) hL upd_same
        generalize upd H7 cd (.dK (putK (kinds cs fun k => (L.count k : Int)) (Sum.inl nu) (.int ((L.count nu : Int) - 1)))) = H8 at kc c8 ⊢
        have t8 : TalL C H8 x d ks L := (tk K7).keep (fun o e => kc _ _ e nxc) fun o e => kc _ _ e ndc
        refine ⟨_, rfl, x, dy, _, rfl, kc _ _ (xk K7) nxc, no_m (by decide +kernel), _, rfl, ?_⟩
        dsimp only [tNil, List.nil_append, List.cons_append]
        refine take_L t8 hL fun H9 t9 k9 => ?_
        refine ⟨rfl, ?_⟩
        refine q (L.erase nu) cs H9 t9 (c8.keep fun o e => k9 _ _ e ndc.symm) sub (by have := List.length_erase_of_mem hL; omega) ?_ fun b o e n1 n2 n3 => k9 _ _ (kc _ _ (K7 _ _ e n1) n3) n2
        obtain ⟨a1, a2, a3, a4, e⟩ := D7
        exact ⟨a1, a2, a3, a4, k9 _ _ (kc _ _ e ncs.symm) nds.symm⟩
theorem ne_empty {H : Hp} {p e : Addr} {ks : List Int} {Q : VK} (hp : H p = some (.tup (ks.map V.int))) (he : H e = some (.tup [])) (q : Q (.bl (!decide (ks = []))) H) : rNe (.ref p) (.ref e) H Q ∨ rNeD 0 (.ref p) (.ref e) H Q := by
  rw [cells_of] at hp
  refine Or.inr ⟨.tuple ((ks.map some).map cellD), .tuple [], .tup hp (isCells _), .tup he .nil, ⟨canLay_cells _, rfl, ?_⟩, ?_⟩
  · show PyData.depthAll ((ks.map some).map cellD) + 1 ≤ 20
    rw [depth_cells]; decide
  · have := eqv_cells (ks.map some) []
    rw [List.map_nil] at this
    rw [PyData.eqv, this]
    have e : decide (ks.map some = []) = decide (ks = []) := by
      cases ks with
      | nil => rfl
      | cons a l => rfl
    rw [e]; exact q
theorem inV_ints {n : Int} {kk : List Int} : inV (.int n) (kk.map V.int) = true ↔ n ∈ kk := by
  unfold inV
  rw [List.any_eq_true]
  constructor
  · rintro ⟨v, hv, e⟩
    obtain ⟨m, hm, rfl⟩ := List.mem_map.mp hv
    have : m = n := of_decide_eq_true e
    exact this ▸ hm
  · exact fun h => ⟨.int n, List.mem_map.mpr ⟨n, h, rfl⟩, decide_eq_true rfl⟩
theorem flat_ints (kk : List Int) : (kk.map V.int).all flatV = true := by
  rw [List.all_eq_true]
  intro v hv
  obtain ⟨m, _, rfl⟩ := List.mem_map.mp hv
  rfl
def spWrongN : Sp := fun vs H Q _ => ∃ (sd kt : Addr) (cv : V) (kk : List Int) (sc : Int), vs = [.ref sd, cv, .ref kt, .int sc] ∧ Seed H sd ∧ H kt = some (.tup (kk.map V.int)) ∧
  ∀ (y : V) (H' : Hp), (y = .non ∨ ∃ n : Int, y = .int n ∧ Wide n ∧ n ∉ kk) → Seed H' sd → KeepBut sd H H' → Q y H'
theorem df_law_wrong_number (T : Txt K mg C) : Df P w K mg base 3 "_law_wrong_number" ["seed", "counts", "kinds", "scale"] spWrongN := by
  refine T.d_law_wrong_number.ok sc_law_wrong_number (fun vs H Q E h => ?_) (fun f cdv A outer s H vs Q E hr h => ?_)
  · obtain ⟨sd, kt, cv, kk, sc, rfl, _⟩ := h
    rfl
  · obtain ⟨sd, kt, cv, kk, sc, rfl, D, hkt, q⟩ := h
    refine ⟨_, (@pss_cons _ _ _ _ _ (@ps_set _ _ 4 _ _ _ _ sc_law_wrong_number.nd rfl (by first | exact Or.inl rfl | exact Or.inr rfl) (@pe_ix _ _ _ _ _ _ _ (ix_seqK (K := K) rfl) (@pe_lst _ _ _ _ (@pa_cons _ _ _ _ _ (@pe_df _ _ _ _ _ _ _ _ _ _ (df_law_number T) (hr.mono (by decide)) (@pa_cons _ _ _ _ _ (pv 0) (@pa_cons _ _ _ _ _ (pv 3) pa_nil (by rfl)) (by rfl)) (by rfl) (by decide) (by rfl) (by rfl)) (@pa_cons _ _ _ _ _ (@pe_op _ _ _ _ _ _ _ _ op_sub (@pe_op _ _ _ _ _ _ _ _ op_pow pe_int pe_int) pe_int) (@pa_cons _ _ _ _ _ (@pe_op _ _ _ _ _ _ _ _ op_add pe_int (@pe_df _ _ _ _ _ _ _ _ _ _ (df_law_draw T) (hr.mono (by decide)) (@pa_cons _ _ _ _ _ (pv 0) (@pa_cons _ _ _ _ _ (@pe_op _ _ _ _ _ _ _ _ op_pow pe_int pe_int) pa_nil star_bin) (by rfl)) (by rfl) (by decide) (by rfl) (by rfl))) pa_nil star_bin) star_bin) star_call)) (@pe_df _ _ _ _ _ _ _ _ _ _ (df_law_draw T) (hr.mono (by decide)) (@pa_cons _ _ _ _ _ (pv 0) (@pa_cons _ _ _ _ _ pe_int pa_nil (by rfl)) (by rfl)) (by rfl) (by decide) (by rfl) (by rfl)) (fun _ _ => rfl)) (by rfl) (by first | exact .inl rfl | exact .inr rfl))
      (@pss_one _ _ _ (@ps_ret _ _ _ _ (@pe_ix _ _ _ _ _ _ _ (ix_seqK (K := K) rfl) (@pe_lst _ _ _ _ (@pa_cons _ _ _ _ _ (pv 4) (@pa_cons _ _ _ _ _ pe_non pa_nil (by rfl)) (by rfl))) (@pe_callTy _ _ _ _ _ _ _ _ _ call_int1 (by rfl) T.n_int bt_int (@pa_cons _ _ _ _ _ (@pe_cmpR _ _ _ _ _ _ _ _ (op_in_seqK (K := K) rfl) (pv 4) (pv 2) (by rfl)) pa_nil star_cmp) (by decide) (by decide) (by rfl) (by rfl)) (fun _ _ => rfl))))), ?_⟩
    refine ⟨_, rfl, _, rfl, _, _, rfl, D, fun y H1 y0 y1 D1 k1 => ?_⟩
    refine ⟨_, _, rfl, rfl, ⟨by decide, by decide, by decide⟩, _, _, rfl, rfl, ?_⟩
    refine ⟨_, rfl, _, _, rfl, rfl, ⟨by decide, by decide, by decide⟩, _, _, rfl, D1, (by decide), (by decide), fun z H2 z0 z1 D2 k2 => ?_⟩
    refine ⟨_, _, rfl, rfl, ?_⟩
    refine ⟨by show 3 ≤ sizeLine; decide, fun p hp => ?_⟩
    refine ⟨_, rfl, _, _, rfl, D2.upd hp, (by decide), (by decide), fun j H3 j0 j1 D3 k3 => ?_⟩
    obtain ⟨n, en, hn⟩ := pickI (x := j) (ms := [y, 10 ^ 9 - 7, 5 + z]) j0 j1
    refine Or.inl ⟨_, _, _, _, rfl, rfl, SqL.of (k3 p _ upd_same (D2.ne hp)), en, ?_⟩
    have wn : Wide n := by
      have z1 : z < 1000000 := z1
      simp only [List.mem_cons, List.not_mem_nil, or_false] at hn
      rcases hn with e | e | e
      · exact ⟨by omega, by omega⟩
      · rw [e]; exact ⟨by decide, by decide⟩
      · exact ⟨by omega, by omega⟩
    have K3 : KeepBut sd H H3 := ((k1.trans k2).upd hp).trans k3
    have nks : kt ≠ sd := ne_of hkt D.choose_spec.choose_spec.choose_spec.choose_spec fun z => by cases z
    dsimp only [gName, List.set]
    refine ⟨_, rfl, by show 2 ≤ sizeLine; decide, fun p4 hp4 => ?_⟩
    have s4 := same_upd (o := .lst [V.int n, V.non]) hp4
    have e4 : upd H3 p4 (.lst [V.int n, V.non]) p4 = some (.lst [V.int n, V.non]) := upd_same
    have K4 := K3.trans (s4.but sd)
    have D4 := D3.keep s4
    generalize upd H3 p4 (.lst [V.int n, V.non]) = H4 at e4 K4 D4 ⊢
    refine ⟨_, rfl, _, rfl, kt, _, rfl, Or.inr (SqT.of (K4 _ _ hkt nks)), rfl, flat_ints kk, Or.inr ⟨_, rfl, ?_⟩⟩
    by_cases m : n ∈ kk
    · have e : inV (.int n) (kk.map V.int) = true := inV_ints.mpr m
      refine Or.inl ⟨p4, _, 1, .non, rfl, ?_, SqL.of e4, rfl, ?_⟩
      · simp only [e]; rfl
      exact q _ _ (Or.inl rfl) D4 K4
    · have e : inV (.int n) (kk.map V.int) = false := by
        rw [Bool.eq_false_iff]; exact fun z => m (inV_ints.mp z)
      refine Or.inl ⟨p4, _, 0, .int n, rfl, ?_, SqL.of e4, rfl, ?_⟩
      · simp only [e]; rfl
      exact q _ _ (Or.inr ⟨n, rfl, wn, m⟩) D4 K4
def spWrongR (C : Addr) : Sp := fun vs H Q _ => ∃ (sd x d cd kt : Addr) (ks cs L kk : List Int) (sc : Int), vs = [.ref sd, .ref x, .ref cd, .ref kt, .int sc] ∧ Seed H sd ∧ TalL C H x d ks L ∧ CntL H cd cs L ∧ (∀ c ∈ cs, c ∈ ks) ∧ L.length ≤ 100000 ∧ H kt = some (.tup (kk.map V.int)) ∧ kk.length ≤ 1000 ∧ (∀ k, k ∈ kk ↔ k ∈ ks) ∧ (∀ k ∈ kk, Wide k) ∧
  ∀ H', Seed H' sd → KeepBut sd H H' → Q (.bl true) H'
theorem df_law_wrong_right (T : Txt K mg C) : Df P w K mg base 6 "_law_wrong_right" ["seed", "tally", "counts", "kinds", "scale"] (spWrongR C) := by
  refine T.d_law_wrong_right.ok sc_law_wrong_right (fun vs H Q E h => ?_) (fun f cdv A outer s H vs Q E hr h => ?_)
  · obtain ⟨sd, x, d, cd, kt, ks, cs, L, kk, sc, rfl, _⟩ := h
    rfl
  · obtain ⟨sd, x, d, cd, kt, ks, cs, L, kk, sc, rfl, D, t, c, sub, hL, hkt, k2, hkk, hw, q⟩ := h
    refine ⟨_, (@pss_cons _ _ _ _ _ (@ps_set _ _ 5 _ _ _ _ sc_law_wrong_right.nd rfl (by first | exact Or.inl rfl | exact Or.inr rfl) (@pe_df _ _ _ _ _ _ _ _ _ _ (df_law_counted T) (hr.mono (by decide)) (@pa_cons _ _ _ _ _ (pv 2) pa_nil (by rfl)) (by rfl) (by decide) (by rfl) (by rfl)) (by rfl) (by first | exact .inl rfl | exact .inr rfl))
      (@pss_cons _ _ _ _ _ (@ps_set _ _ 6 _ _ _ _ sc_law_wrong_right.nd rfl (by first | exact Or.inl rfl | exact Or.inr rfl) (@pe_df _ _ _ _ _ _ _ _ _ _ (df_law_wrong_number T) (hr.mono (by decide)) (@pa_cons _ _ _ _ _ (pv 0) (@pa_cons _ _ _ _ _ (pv 2) (@pa_cons _ _ _ _ _ (pv 3) (@pa_cons _ _ _ _ _ (pv 4) pa_nil (by rfl)) (by rfl)) (by rfl)) (by rfl)) (by rfl) (by decide) (by rfl) (by rfl)) (by rfl) (by first | exact .inl rfl | exact .inr rfl))
      (@pss_cons _ _ _ _ _ (@ps_if _ _ _ _ _ _ _ _ (pw_and (@pt_cmpR _ _ _ _ _ _ _ _ op_notN (pv 6) pe_non (nomark _)) (pw_and1 (@pt_not _ _ _ _ (pw_and (@pt_val _ _ _ (@pe_df _ _ _ _ _ _ _ _ _ _ (df_law_refused T) (hr.mono (by decide)) (@pa_cons _ _ _ _ _ (pv 1) (@pa_cons _ _ _ _ _ pe_int (@pa_cons _ _ _ _ _ (pv 6) pa_nil (by rfl)) (by rfl)) (by rfl)) (by rfl) (by decide) (by rfl) (by rfl)) (by intro _; rfl)) (pw_and1 (@pt_val _ _ _ (@pe_df _ _ _ _ _ _ _ _ _ _ (df_law_refused T) (hr.mono (by decide)) (@pa_cons _ _ _ _ _ (pv 1) (@pa_cons _ _ _ _ _ pe_int (@pa_cons _ _ _ _ _ (pv 6) pa_nil (by rfl)) (by rfl)) (by rfl)) (by rfl) (by decide) (by rfl) (by rfl)) (by intro _; rfl)))).pt))).pt (@pss_one _ _ _ (@ps_ret _ _ _ _ pe_bl)) pss_nil)
      (@pss_cons _ _ _ _ _ (ps_setComp (i := 7) sc_law_wrong_right.nd rfl (by first | exact Or.inl rfl | exact Or.inr rfl) (M := ["counts"]) (idx := [2]) rfl (pi_seqK (K := K) rfl (pv 3)) (compOk (by kernel_rfl)) (by decide +kernel) (by first | exact Or.inl rfl | exact Or.inr rfl) (fun _ _ _ _ _ => pts_one (@pt_cmpR _ _ _ _ _ _ _ _ (op_eqA hr.units) (pe_dget2 (hu_of hr) (pv 1) (pv 0) pe_int ⟨by rfl, by rfl, by rfl, by rfl⟩) pe_int (nomark _))) (fun _ _ _ _ _ => (pv 0)))
      (@pss_cons _ _ _ _ _ (@ps_if _ _ _ _ _ _ _ _ (pw_and (@pt_cmpR _ _ _ _ _ _ _ _ (op_neX hr.units) (pv 7) (@pe_lst _ _ _ _ pa_nil) (nomark _)) (pw_and1 (@pt_not _ _ _ _ (@pt_val _ _ _ (@pe_df _ _ _ _ _ _ _ _ _ _ (df_law_refused T) (hr.mono (by decide)) (@pa_cons _ _ _ _ _ (pv 1) (@pa_cons _ _ _ _ _ pe_int (@pa_cons _ _ _ _ _ (@pe_ix _ _ _ _ _ _ _ (ix_seqK (K := K) rfl) (pv 7) (@pe_df _ _ _ _ _ _ _ _ _ _ (df_law_draw T) (hr.mono (by decide)) (@pa_cons _ _ _ _ _ (pv 0) (@pa_cons _ _ _ _ _ (@pe_callB _ _ _ _ _ _ _ _ _ (call_lenK (K := K) rfl) (by rfl) T.n_len bt_len (@pa_cons _ _ _ _ _ (pv 7) pa_nil (by rfl)) (by decide) (by decide) (by rfl) (by rfl)) pa_nil star_call) (by rfl)) (by rfl) (by decide) (by rfl) (by rfl)) (fun _ _ => rfl)) pa_nil star_sub) (by rfl)) (by rfl)) (by rfl) (by decide) (by rfl) (by rfl)) (by intro _; rfl))))).pt (@pss_one _ _ _ (@ps_ret _ _ _ _ pe_bl)) pss_nil)
      (@pss_cons _ _ _ _ _ (@ps_for _ _ _ _ _ _ _ _ PassesOwn.never rfl (pi_seqK (K := K) rfl (@pe_lst _ _ _ _ (@pa_cons _ _ _ _ _ (pv 5) (@pa_cons _ _ _ _ _ (@pe_un _ _ _ _ _ _ un_neg pe_int) (@pa_cons _ _ _ _ _ (@pe_op _ _ _ _ _ _ _ _ op_add (pv 5) (@pe_df _ _ _ _ _ _ _ _ _ _ (df_law_draw T) (hr.mono (by decide)) (@pa_cons _ _ _ _ _ (pv 0) (@pa_cons _ _ _ _ _ pe_int pa_nil (by rfl)) (by rfl)) (by rfl) (by decide) (by rfl) (by rfl))) (@pa_cons _ _ _ _ _ (@pe_op _ _ _ _ _ _ _ _ op_sub (@pe_op _ _ _ _ _ _ _ _ op_sub (@pe_op _ _ _ _ _ _ _ _ op_sub pe_int (pv 5)) pe_int) (@pe_df _ _ _ _ _ _ _ _ _ _ (df_law_draw T) (hr.mono (by decide)) (@pa_cons _ _ _ _ _ (pv 0) (@pa_cons _ _ _ _ _ pe_int pa_nil (by rfl)) (by rfl)) (by rfl) (by decide) (by rfl) (by rfl))) pa_nil star_bin) star_bin) star_un) (by rfl)))) (pg_name (i := 8) sc_law_wrong_right.nd rfl (by first | exact Or.inl rfl | exact Or.inr rfl)) (@pss_one _ _ _ (@ps_if _ _ _ _ _ _ _ _ (@pt_not _ _ _ _ (@pt_val _ _ _ (@pe_df _ _ _ _ _ _ _ _ _ _ (df_law_refused T) (hr.mono (by decide)) (@pa_cons _ _ _ _ _ (pv 1) (@pa_cons _ _ _ _ _ pe_int (@pa_cons _ _ _ _ _ (pv 8) pa_nil (by rfl)) (by rfl)) (by rfl)) (by rfl) (by decide) (by rfl) (by rfl)) (by intro _; rfl))) (@pss_one _ _ _ (@ps_ret _ _ _ _ pe_bl)) pss_nil)) (by intro _; rfl))
      (@pss_one _ _ _ (@ps_ret _ _ _ _ pe_bl)))))))), ?_⟩
    obtain ⟨dy, hx⟩ := t.1.1
    have nxs : x ≠ sd := ne_of hx D.choose_spec.choose_spec.choose_spec.choose_spec fun z => by cases z
    have nds : d ≠ sd := ne_of t.1.2 D.choose_spec.choose_spec.choose_spec.choose_spec fun z => by cases z
    have ncs : cd ≠ sd := ne_of c.1 D.choose_spec.choose_spec.choose_spec.choose_spec fun z => by cases z
    have nks : kt ≠ sd := ne_of hkt D.choose_spec.choose_spec.choose_spec.choose_spec fun z => by cases z
    have tk : ∀ {H' : Hp}, KeepBut sd H H' → TalL C H' x d ks L := fun k => t.keep (fun o e => k _ _ e nxs) fun o e => k _ _ e nds
    have ck : ∀ {H' : Hp}, KeepBut sd H H' → CntL H' cd cs L := fun k => c.keep fun o e => k _ _ e ncs
    have rf : ∀ {E' : XK} (way n : Int) (H' : Hp) (Q' : VK), KeepBut sd H H' → Wide n → ((way = 0 ∧ n ∉ ks) ∨ (way = 1 ∧ (n ∈ ks → (L.count n : Int) = 0)) ∨ (way = 2 ∧ (n < 0 ∨ (L.length : Int) ≤ n))) → (∀ H'', Same H' H'' → Q' (.bl true) H'') → spRefused14 C [.ref x, .int way, .int n] H' Q' E' := fun way n H' Q' K' wn hway q' =>
      ⟨x, d, ks, _, way, n, rfl, (tk K').1, t.2.2.2, fun k _ => Int.natCast_nonneg _, wn, by rw [tally_many (t.2.1.imp fun h => Int.ne_of_lt h) t.2.2.1]; exact hway, q'⟩
    refine ⟨_, rfl, cd, cs, L, rfl, c, fun H1 s1 => ?_⟩
    refine ⟨_, rfl, _, rfl, _, rfl, _, rfl, sd, kt, _, kk, sc, rfl, D.keep s1, s1 _ _ hkt, fun y H2 hy D2 k2' => ?_⟩
    have K2 := (s1.but sd).trans k2'
    dsimp only [gName, List.set]
    refine tSeq_cut (fun σ' H' => σ' = [some (.ref sd), some (.ref x), some (.ref cd), some (.ref kt), some (.int sc), some (.int L.length), some y, none, none] ∧ Seed H' sd ∧ KeepBut sd H H') ?_ (fun rest => ?_)
    · rintro _ H5 ⟨rfl, D5, K5⟩
      have c5 := ck K5
      have kt5 := K5 _ _ hkt nks
      refine Or.inr ?_
      refine ⟨_, rfl, _, rfl, ⟨_, SqT.of kt5⟩, ?_⟩
      refine compW_tup (xs := kk.map V.int) (fun j zs H' => H' = H5 ∧ ∃ ns : List Int, zs = ns.map V.int ∧ ns.length ≤ j ∧ ∀ n ∈ ns, n ∈ kk ∧ (L.count n : Int) = 0) ⟨rfl, [], rfl, Nat.le_refl _, fun n h => by cases h⟩ (by rw [List.length_map]; exact Nat.le_trans k2 (by decide)) (fun j zs H' _ ⟨e, _⟩ => by rw [e]; exact SqT.of kt5) ?_ ?_
      · rintro j v zs _ hv ⟨rfl, ns, rfl, ln, hns⟩
        obtain ⟨m, em, rfl⟩ := int_at hv
        have cv : (valV (kinds cs fun k => (L.count k : Int)) (Sum.inl m)).getD (.int 0) = .int (L.count m : Int) := by
          rw [kinds_val]
          split
          · rfl
          · rename_i z
            have : L.count m = 0 := List.count_eq_zero.mpr fun h => z (c.2.2.1 m h)
            rw [this]; rfl
        refine ⟨_, rfl, cd, rfl, .inl ⟨_, .inl c5.1⟩, _, rfl, _, DGet.k (k := Sum.inl m) c5.1, ?_⟩
        rw [cv]
        refine Or.inl ⟨rfl, _, rfl, ?_⟩
        refine ite2 (fun z => ?_) (fun z => ?_)
        · have z0 : (L.count m : Int) = 0 := V.int.inj (of_decide_eq_true z)
          refine ⟨_, rfl, rfl, ns ++ [m], by rw [List.map_append]; rfl, by rw [List.length_append]; exact Nat.succ_le_succ ln, fun n hn => ?_⟩
          rcases List.mem_append.mp hn with h | h
          · exact hns n h
          · have : n = m := by simpa using h
            rw [this]; exact ⟨List.mem_of_getElem? em, z0⟩
        · exact ⟨rfl, ns, by simp, by omega, hns⟩
      rintro zs H5 ⟨rfl, ns, rfl, ln, hns⟩ nl hnl
      rw [List.length_map] at ln
      have s6 := same_upd (o := .lst (ns.map V.int)) hnl
      have e6 : upd H5 nl (.lst (ns.map V.int)) nl = some (.lst (ns.map V.int)) := upd_same
      have D6 := D5.keep s6
      have K6 := K5.trans (s6.but sd)
      have nns : nl ≠ sd := D5.ne hnl
      generalize upd H5 nl (.lst (ns.map V.int)) = H6 at e6 D6 K6 ⊢
      dsimp only [gName, List.set]
      refine tSeq_cut (fun σ' H' => σ' = [some (.ref sd), some (.ref x), some (.ref cd), some (.ref kt), some (.int sc), some (.int L.length), some y, some (.ref nl), none] ∧ Seed H' sd ∧ KeepBut sd H H') ?_ (fun rest => ?_)
      · rintro _ H7 ⟨rfl, D7, K7⟩
        refine Or.inl ?_
        refine ⟨_, rfl, _, rfl, ?_⟩
        refine ⟨_, rfl, _, rfl, _, _, rfl, D7, (by decide), (by decide), fun u H8 u0 u1 D8 k8 => ?_⟩
        refine ⟨_, _, rfl, rfl, ?_⟩
        refine ⟨_, rfl, _, _, rfl, rfl, _, _, rfl, rfl, _, rfl, _, _, rfl, D8, (by decide), (by decide), fun v H9 v0 v1 D9 k9 => ?_⟩
        refine ⟨_, _, rfl, rfl, ?_⟩
        refine ⟨by show 4 ≤ sizeLine; decide, fun p hp => ?_⟩
        have s10 := same_upd (o := .lst ([(L.length : Int), -1, L.length + u, 0 - L.length - 1 - v].map V.int)) hp
        have e10 : upd H9 p (.lst ([(L.length : Int), -1, L.length + u, 0 - L.length - 1 - v].map V.int)) p = some (.lst ([(L.length : Int), -1, L.length + u, 0 - L.length - 1 - v].map V.int)) := upd_same
        have K10 := ((K7.trans k8).trans k9).trans (s10.but sd)
        have D10 := D9.keep s10
        refine ⟨p, rfl, ⟨_, SqL.of e10⟩, ?_⟩
        have inl : ∀ n ∈ [(L.length : Int), -1, L.length + u, 0 - L.length - 1 - v], Wide n ∧ (n < 0 ∨ (L.length : Int) ≤ n) := fun n hn => by
          have u1 : u < 600 := u1
          have v1 : v < 3 := v1
          simp only [List.mem_cons, List.not_mem_nil, or_false] at hn
          rcases hn with e | e | e | e <;> exact ⟨⟨by omega, by omega⟩, by omega⟩
        refine for_list (xs := [(L.length : Int), -1, L.length + u, 0 - L.length - 1 - v].map V.int) (fun i σ H' => (∃ v8 : Option V, σ = [some (.ref sd), some (.ref x), some (.ref cd), some (.ref kt), some (.int sc), some (.int L.length), some y, some (.ref nl), v8]) ∧ Same (upd H9 p (.lst ([(L.length : Int), -1, L.length + u, 0 - L.length - 1 - v].map V.int))) H') ⟨⟨none, rfl⟩, Same.refl _⟩ (fun i σ H' _ ⟨_, s⟩ => SqL.of (s _ _ e10)) ?_ ?_
        · rintro i vv _ H11 hv ⟨⟨v8, rfl⟩, s11⟩
          obtain ⟨n, en, rfl⟩ := int_at hv
          obtain ⟨wn, hn⟩ := inl n (List.mem_of_getElem? en)
          refine ⟨_, rfl, _, rfl, ?_⟩
          dsimp only [tNil, List.nil_append, List.cons_append]
          refine rf 2 n H11 _ (K10.trans (s11.but sd)) wn (Or.inr (Or.inr ⟨rfl, hn⟩)) fun H12 s12 => ⟨_, rfl, iteF ?_⟩
          exact ⟨⟨_, rfl⟩, s11.trans s12⟩
        · rintro _ H11 ⟨⟨v8, rfl⟩, s11⟩
          exact q _ (D10.keep s11) (K10.trans (s11.but sd))
      · refine ⟨_, rfl, (by show 0 ≤ sizeLine; decide), fun e he => ?_⟩
        have se := same_upd (o := .lst []) he
        refine Or.inr (ne_cellsNil (cs := ns.map some) (by rw [← cells_of]; exact se _ _ e6) upd_same ⟨_, rfl, ?_⟩)
        have D7 := D6.keep se
        have K7 := K6.trans (se.but sd)
        have e7 := se _ _ e6
        generalize upd H6 e (.lst []) = H7 at D7 K7 e7 ⊢
        by_cases z : ns.map some = []
        · rw [decide_eq_true z]
          refine iteF ?_
          refine iteF ?_
          exact rest _ _ ⟨rfl, D7, K7⟩
        · rw [decide_eq_false z]
          refine iteT ?_
          have lpos : 0 < ns.length := by
            rw [← List.length_map (f := some)]
            exact List.length_pos_iff.mpr z
          refine ⟨_, rfl, _, rfl, _, rfl, _, rfl, _, _, rfl, Or.inl ⟨_, SqL.of e7, rfl⟩, _, _, rfl, D7, by rw [List.length_map]; omega, by rw [List.length_map]; omega, fun y7 H8 y0 y1 D8 k8 => ?_⟩
          rw [List.length_map] at y1
          obtain ⟨nu, enu, hnu⟩ := pickI y0 y1
          have K8 := K7.trans k8
          refine Or.inl ⟨_, _, _, _, rfl, rfl, SqL.of (k8 _ _ e7 nns), enu, ?_⟩
          dsimp only [tNil, List.nil_append, List.cons_append]
          refine rf 1 nu H8 _ K8 (hw _ (hns nu hnu).1) (Or.inr (Or.inl ⟨rfl, fun _ => (hns nu hnu).2⟩)) fun H9 s9 => ⟨_, rfl, iteF ?_⟩
          exact rest _ _ ⟨rfl, D8.keep s9, K8.trans (s9.but sd)⟩
    · rcases hy with rfl | ⟨n, rfl, wn, nk⟩
      · exact ⟨_, rfl, rfl, _, rfl, iteF (iteF (rest _ _ ⟨rfl, D2, K2⟩))⟩
      · refine ⟨_, rfl, rfl, _, rfl, iteT ?_⟩
        refine ⟨_, rfl, _, rfl, ?_⟩
        dsimp only [tNil, List.nil_append, List.cons_append]
        refine rf 0 n H2 _ K2 wn (Or.inl ⟨rfl, fun z => nk ((hkk n).mpr z)⟩) fun H3 s3 => ⟨_, rfl, iteT ?_⟩
        refine ⟨_, rfl, _, rfl, ?_⟩
        dsimp only [tNil, List.nil_append, List.cons_append]
        refine rf 1 n H3 _ (K2.trans (s3.but sd)) wn (Or.inr (Or.inl ⟨rfl, fun z => absurd ((hkk n).mpr z) nk⟩)) fun H4 s4 => ⟨_, rfl, iteF ?_⟩
        exact rest _ _ ⟨rfl, D2.keep (s3.trans s4), K2.trans ((s3.trans s4).but sd)⟩
theorem df_law (T : Txt K mg C) : Df P w K mg base 7 "law" ["script"] (SpLaw K) := by
  refine T.d_law.ok sc_law (fun vs H Q E h => ?_) (fun f cdv A outer s H vs Q E hr h => ?_)
  · obtain ⟨a, ns, rfl, _⟩ := h
    rfl
  · obtain ⟨a, ns, rfl, hS, hl, q⟩ := h
    obtain ⟨aN, aF, aM, aP, aW, XX⟩ := T.x_exc
    obtain ⟨D, gD, pD, nD, RD⟩ := T.e_NoNumber
    refine ⟨_, (@pss_cons _ _ _ _ _ (@ps_set _ _ 1 _ _ _ _ sc_law.nd rfl (by first | exact Or.inl rfl | exact Or.inr rfl) (@pe_df _ _ _ _ _ _ _ _ _ _ (df_law_seed T) (hr.mono (by decide)) (@pa_cons _ _ _ _ _ (@pe_df _ _ _ _ _ _ _ _ _ _ (df_law_folded T) (hr.mono (by decide)) (@pa_cons _ _ _ _ _ (pv 0) pa_nil (by rfl)) (by rfl) (by decide) (by rfl) (by rfl)) pa_nil star_call) (by rfl) (by decide) (by rfl) (by rfl)) (by rfl) (by first | exact .inl rfl | exact .inr rfl))
      (@pss_cons _ _ _ _ _ (@ps_set _ _ 2 _ _ _ _ sc_law.nd rfl (by first | exact Or.inl rfl | exact Or.inr rfl) (@pe_df _ _ _ _ _ _ _ _ _ _ (df_law_draw T) (hr.mono (by decide)) (@pa_cons _ _ _ _ _ (pv 1) (@pa_cons _ _ _ _ _ pe_int pa_nil (by rfl)) (by rfl)) (by rfl) (by decide) (by rfl) (by rfl)) (by rfl) (by first | exact .inl rfl | exact .inr rfl))
      (@pss_cons _ _ _ _ _ (@ps_set _ _ 3 _ _ _ _ sc_law.nd rfl (by first | exact Or.inl rfl | exact Or.inr rfl) (@pe_df _ _ _ _ _ _ _ _ _ _ (df_law_kinds T) (hr.mono (by decide)) (@pa_cons _ _ _ _ _ (pv 1) (@pa_cons _ _ _ _ _ (pv 2) pa_nil (by rfl)) (by rfl)) (by rfl) (by decide) (by rfl) (by rfl)) (by rfl) (by first | exact .inl rfl | exact .inr rfl))
      (@pss_cons _ _ _ _ _ (@ps_set _ _ 4 _ _ _ _ sc_law.nd rfl (by first | exact Or.inl rfl | exact Or.inr rfl) (pe_new (df_Tally_init T) (hr.mono (by decide)) T.g_Tally (@pa_cons _ _ _ _ _ (pv 3) pa_nil (by rfl))) (by rfl) (by first | exact .inl rfl | exact .inr rfl))
      (@pss_cons _ _ _ _ _ (@ps_set _ _ 5 _ _ _ _ sc_law.nd rfl (by first | exact Or.inl rfl | exact Or.inr rfl) pe_dnewK (by rfl) (by first | exact .inl rfl | exact .inr rfl))
      (@pss_cons _ _ _ _ _ (@ps_for _ _ _ _ _ _ _ _ PassesOwn.never rfl (pi_seqK (K := K) rfl (@pe_op _ _ _ _ _ _ _ _ op_cat (pe_slice (sl_X (K := K) rfl) (pv 0) po_none (po_some pe_int)) (@pe_op _ _ _ _ _ _ _ _ op_rep (@pe_lst _ _ _ _ (@pa_cons _ _ _ _ _ pe_int pa_nil (by rfl))) pe_int))) (pg_name (i := 6) sc_law.nd rfl (by first | exact Or.inl rfl | exact Or.inr rfl)) (@pss_cons _ _ _ _ _ (@ps_set _ _ 7 _ _ _ _ sc_law.nd rfl (by first | exact Or.inl rfl | exact Or.inr rfl) (@pe_df _ _ _ _ _ _ _ _ _ _ (df_law_seed T) (hr.mono (by decide)) (@pa_cons _ _ _ _ _ (@pe_op _ _ _ _ _ _ _ _ op_add (pv 6) (@pe_df _ _ _ _ _ _ _ _ _ _ (df_law_draw T) (hr.mono (by decide)) (@pa_cons _ _ _ _ _ (pv 1) (@pa_cons _ _ _ _ _ pe_int pa_nil (by rfl)) (by rfl)) (by rfl) (by decide) (by rfl) (by rfl))) pa_nil star_bin) (by rfl) (by decide) (by rfl) (by rfl)) (by rfl) (by first | exact .inl rfl | exact .inr rfl))
      (@pss_cons _ _ _ _ _ (@ps_if _ _ _ _ _ _ _ _ (@pt_not _ _ _ _ (@pt_val _ _ _ (@pe_df _ _ _ _ _ _ _ _ _ _ (df_law_wrong_right T) (hr.mono (by decide)) (@pa_cons _ _ _ _ _ (pv 7) (@pa_cons _ _ _ _ _ (pv 4) (@pa_cons _ _ _ _ _ (pv 5) (@pa_cons _ _ _ _ _ (pv 3) (@pa_cons _ _ _ _ _ (pv 2) pa_nil (by rfl)) (by rfl)) (by rfl)) (by rfl)) (by rfl)) (by rfl) (by decide) (by rfl) (by rfl)) (by intro _; rfl))) (@pss_one _ _ _ (@ps_ret _ _ _ _ pe_bl)) pss_nil)
      (@pss_cons _ _ _ _ _ (@ps_if _ _ _ _ _ _ _ _ (@pt_not _ _ _ _ (@pt_val _ _ _ (@pe_df _ _ _ _ _ _ _ _ _ _ (df_law_asked_right T) (hr.mono (by decide)) (@pa_cons _ _ _ _ _ (pv 7) (@pa_cons _ _ _ _ _ (pv 4) (@pa_cons _ _ _ _ _ (pv 5) (@pa_cons _ _ _ _ _ (pv 2) pa_nil (by rfl)) (by rfl)) (by rfl)) (by rfl)) (by rfl) (by decide) (by rfl) (by rfl)) (by intro _; rfl))) (@pss_one _ _ _ (@ps_ret _ _ _ _ pe_bl)) pss_nil)
      (@pss_one _ _ _ (@ps_for _ _ _ _ _ _ _ _ PassesOwn.never rfl (pi_range1 (by rfl) T.n_range (@pa_cons _ _ _ _ _ (@pe_ix _ _ _ _ _ _ _ (ix_seqK (K := K) rfl) (@pe_lst _ _ _ _ (@pa_cons _ _ _ _ _ pe_int (@pa_cons _ _ _ _ _ (@pe_op _ _ _ _ _ _ _ _ op_add pe_int (@pe_df _ _ _ _ _ _ _ _ _ _ (df_law_draw T) (hr.mono (by decide)) (@pa_cons _ _ _ _ _ (pv 7) (@pa_cons _ _ _ _ _ pe_int pa_nil (by rfl)) (by rfl)) (by rfl) (by decide) (by rfl) (by rfl))) pa_nil star_bin) (by rfl))) (@pe_callTy _ _ _ _ _ _ _ _ _ call_int1 (by rfl) T.n_int bt_int (@pa_cons _ _ _ _ _ (@pe_cmpR _ _ _ _ _ _ _ _ (op_neA hr.units) (pv 3) (@pe_tup _ _ _ _ _ pa_nil) (nomark _)) pa_nil star_cmp) (by decide) (by decide) (by rfl) (by rfl)) (fun _ _ => rfl)) pa_nil star_sub)) (pg_name (i := 8) sc_law.nd rfl (by first | exact Or.inl rfl | exact Or.inr rfl)) (@pss_one _ _ _ (@ps_if _ _ _ _ _ _ _ _ (@pt_not _ _ _ _ (@pt_val _ _ _ (@pe_df _ _ _ _ _ _ _ _ _ _ (df_law_turn T) (hr.mono (by decide)) (@pa_cons _ _ _ _ _ (pv 7) (@pa_cons _ _ _ _ _ (pv 4) (@pa_cons _ _ _ _ _ (pv 5) (@pa_cons _ _ _ _ _ (pv 3) pa_nil (by rfl)) (by rfl)) (by rfl)) (by rfl)) (by rfl) (by decide) (by rfl) (by rfl)) (by intro _; rfl))) (@pss_one _ _ _ (@ps_ret _ _ _ _ pe_bl)) pss_nil)) (by intro _; rfl)))))) (by intro _; rfl))
      (@pss_cons _ _ _ _ _ (@ps_if _ _ _ _ _ _ _ _ (pw_or (@pt_cmpR _ _ _ _ _ _ _ _ (op_neA hr.units) (pe_xget (K := K) rfl (pe_newX (df_NoNumber_init T pD nD RD) (hr.mono (by decide)) gD (@pa_cons _ _ _ _ _ (@pe_un _ _ _ _ _ _ un_neg pe_int) pa_nil star_un)) (by rfl)) (@pe_un _ _ _ _ _ _ un_neg pe_int) (nomark _)) (pw_or1 (@pt_not _ _ _ _ (@pt_val _ _ _ (@pe_callB _ _ _ _ _ _ _ _ _ (CallR.or (call_isinstK (K := K) rfl) (call_isinstD (K := K) rfl)) (by rfl) T.n_isinstance bt_isinstance (@pa_cons _ _ _ _ _ (pe_newX (df_NoNumber_init T pD nD RD) (hr.mono (by decide)) gD (@pa_cons _ _ _ _ _ pe_int pa_nil (by rfl))) (@pa_cons _ _ _ _ _ (pe_glob (v := .ref _) (by rfl) XX.win rfl) pa_nil (by rfl)) star_call) (by decide) (by decide) (by rfl) (by rfl)) (by intro _; rfl))))).pt (@pss_one _ _ _ (@ps_ret _ _ _ _ pe_bl)) pss_nil)
      (@pss_one _ _ _ (@ps_ret _ _ _ _ (pe_and (@pe_callB _ _ _ _ _ _ _ _ _ (CallR.or (call_isinstK (K := K) rfl) (call_isinstD (K := K) rfl)) (by rfl) T.n_isinstance bt_isinstance (@pa_cons _ _ _ _ _ (pe_newP XX.place XX.inP (@pa_cons _ _ _ _ _ pe_str pa_nil (by rfl))) (@pa_cons _ _ _ _ _ (pe_glob (v := .ref _) (by rfl) XX.win rfl) pa_nil (by rfl)) star_call) (by decide) (by decide) (by rfl) (by rfl)) (pe_one (@pe_callB _ _ _ _ _ _ _ _ _ (CallR.or (call_isinstK (K := K) rfl) (call_isinstD (K := K) rfl)) (by rfl) T.n_isinstance bt_isinstance (@pa_cons _ _ _ _ _ (pe_newP XX.ask XX.inN (@pa_cons _ _ _ _ _ pe_str pa_nil (by rfl))) (@pa_cons _ _ _ _ _ (pe_glob (v := .ref _) (by rfl) XX.win rfl) pa_nil (by rfl)) star_call) (by decide) (by decide) (by rfl) (by rfl))))))))))))), ?_⟩
    refine ⟨_, rfl, _, _, rfl, hS, fun fo => ?_⟩
    refine ⟨_, rfl, fun sd H1 fd D1 s1 => ?_⟩
    refine ⟨_, rfl, _, _, rfl, D1, (by decide), (by decide), fun sc H2 _ _ D2 k2 => ?_⟩
    refine ⟨_, rfl, _, rfl, _, _, rfl, D2, fun kt kk H3 hkt lkk bkk D3 k3 => ?_⟩
    have S3 := s1.past fd (k2.trans k3)
    refine ⟨_, rfl, ?_⟩
    dsimp only [tNil, List.nil_append, List.cons_append]
    refine make_A hkt lkk fun x d H4 fx fdd s4 t4 => ?_
    refine fun cd hcd => ?_
    have s5 := same_upd (o := .dK []) hcd
    have t5 := t4.same s5
    have D5 := D3.keep (s4.trans s5)
    have hkt5 := s5 _ _ (s4 _ _ hkt)
    have S5 := S3.trans (s4.trans s5)
    have c5 : CntL (upd H4 cd (.dK [])) cd [] [] := ⟨upd_same, List.Pairwise.nil, (fun y hy => by cases hy), Nat.zero_le _⟩
    have ndc : d ≠ cd := ne_of_none t4.1.2 hcd
    generalize upd H4 cd (.dK []) = H5 at t5 D5 hkt5 S5 c5 ⊢
    have hkk : ∀ k, k ∈ kk ↔ k ∈ kindsOf kk := fun k => kinds_mem.symm
    have hww : ∀ k ∈ kk, Wide k := fun k h => ⟨by have := bkk k h; omega, by have := bkk k h; omega⟩
    generalize kindsOf kk = ks at t5 hkk
    clear s5 s4 t4 hkt S3 D3 k3 k2 D2 D1 hcd
    have nks : kt ≠ sd := ne_of hkt5 D5.choose_spec.choose_spec.choose_spec.choose_spec fun z => by cases z
    have nds : d ≠ sd := ne_of t5.1.2 D5.choose_spec.choose_spec.choose_spec.choose_spec fun z => by cases z
    have ncs : cd ≠ sd := ne_of c5.1 D5.choose_spec.choose_spec.choose_spec.choose_spec fun z => by cases z
    have nkd : kt ≠ d := ne_of hkt5 t5.1.2 fun z => by cases z
    have nkc : kt ≠ cd := ne_of hkt5 c5.1 fun z => by cases z
    obtain ⟨dy, hx5⟩ := t5.1.1
    have nxs : x ≠ sd := ne_of hx5 D5.choose_spec.choose_spec.choose_spec.choose_spec fun z => by cases z
    dsimp only [gName, List.set]
    refine Or.inl ?_
    have hS6 := S5.seq hS
    refine ⟨_, rfl, _, rfl, Or.inl ⟨_, _, rfl, hS6, fun p hp => ?_⟩⟩
    have s7 := same_upd (o := .lst (cutV (ns.map V.int) none (some 54))) hp
    refine ⟨(by show 1 ≤ sizeLine; decide), fun p2 hp2 => ?_⟩
    have s8 := same_upd (o := .lst [.int 1]) hp2
    refine ⟨_, _, _, rfl, rfl, upd_same, (by decide), (by decide), (by decide), fun p3 hp3 => ?_⟩
    have s9 := same_upd (o := .lst (List.replicate (6 : Int).toNat [V.int 1]).flatten) hp3
    obtain ⟨c1, ec1, lc1⟩ := cut_ints ns none (some 54)
    have er : (List.replicate (6 : Int).toNat [V.int 1]).flatten = (List.replicate 6 (1 : Int)).map V.int := rfl
    refine ⟨_, _, _, _, rfl, rfl, s9 _ _ (s8 _ _ upd_same), upd_same, (by rw [er, ec1, List.length_map, List.length_map, List.length_replicate]; exact Nat.le_trans (show _ ≤ 100 by omega) (by decide)), fun p4 hp4 => ?_⟩
    have s10 := same_upd (o := .lst (cutV (ns.map V.int) none (some 54) ++ (List.replicate (6 : Int).toNat [V.int 1]).flatten)) hp4
    have e10 : upd (upd (upd (upd H5 p (.lst (cutV (ns.map V.int) none (some 54)))) p2 (.lst [.int 1])) p3 (.lst (List.replicate (6 : Int).toNat [V.int 1]).flatten)) p4 (.lst (cutV (ns.map V.int) none (some 54) ++ (List.replicate (6 : Int).toNat [V.int 1]).flatten)) p4 = some (.lst ((c1 ++ List.replicate 6 (1 : Int)).map V.int)) := by rw [upd_same, ec1, er, List.map_append]
    have S10 := ((s7.trans s8).trans s9).trans s10
    have np4 : p4 ≠ sd := ((((D5.keep s7).keep s8).keep s9)).ne hp4
    generalize upd (upd (upd (upd H5 p (.lst (cutV (ns.map V.int) none (some 54)))) p2 (.lst [.int 1])) p3 (.lst (List.replicate (6 : Int).toNat [V.int 1]).flatten)) p4 (.lst (cutV (ns.map V.int) none (some 54) ++ (List.replicate (6 : Int).toNat [V.int 1]).flatten)) = H10 at e10 S10 ⊢
    have lcc : (c1 ++ List.replicate 6 (1 : Int)).length ≤ 100 := by rw [List.length_append, List.length_replicate]; omega
    generalize c1 ++ List.replicate 6 (1 : Int) = cc at e10 lcc
    refine ⟨_, rfl, ⟨_, SqL.of e10⟩, ?_⟩
    refine for_list (xs := cc.map V.int) (fun i σ H' => ∃ (v6 v7 v8 : Option V) (L cs : List Int), σ = [some (.ref a), some (.ref sd), some (.int sc), some (.ref kt), some (.ref x), some (.ref cd), v6, v7, v8] ∧ Seed H' sd ∧ TalL C H' x d ks L ∧ CntL H' cd cs L ∧ (∀ c ∈ cs, c ∈ ks) ∧ L.length ≤ 10 * i ∧ H' kt = some (.tup (kk.map V.int)) ∧ H' p4 = some (.lst (cc.map V.int)))
      ⟨none, none, none, [], [], rfl, D5.keep S10, t5.same S10, c5.same S10, (fun c hc => by cases hc), Nat.zero_le _, S10 _ _ hkt5, e10⟩ (fun i σ H' _ ⟨_, _, _, _, _, _, _, _, _, _, _, _, e⟩ => SqL.of e) ?_ ?_
    · rintro i v _ H11 hv ⟨v6, v7, v8, L, cs, rfl, D11, t11, c11, sub, lL, hkt11, hp11⟩
      obtain ⟨n, en, rfl⟩ := int_at hv
      have hi : i < cc.length := (List.getElem?_eq_some_iff.mp en).1
      refine ⟨_, rfl, _, rfl, _, _, rfl, D11, (by decide), (by decide), fun y H12 y0 y1 D12 k12 => ?_⟩
      have npd : p4 ≠ d := ne_of hp11 t11.1.2 fun z => by cases z
      have npc : p4 ≠ cd := ne_of hp11 c11.1 fun z => by cases z
      have t12 : TalL C H12 x d ks L := t11.keep (fun o e => k12 _ _ e nxs) fun o e => k12 _ _ e nds
      have c12 : CntL H12 cd cs L := c11.keep fun o e => k12 _ _ e ncs
      have hkt12 := k12 _ _ hkt11 nks
      have hp12 := k12 _ _ hp11 np4
      refine ⟨_, _, rfl, rfl, ?_⟩
      refine ⟨_, rfl, fun od H13 fod D13 s13 => ?_⟩
      have nso : sd ≠ od := (D12.ne fod).symm
      have npo : p4 ≠ od := ne_of_none hp12 fod
      have nko : kt ≠ od := ne_of_none hkt12 fod
      have ndo : d ≠ od := ne_of_none t12.1.2 fod
      have nco : cd ≠ od := ne_of_none c12.1 fod
      have nxo : x ≠ od := let ⟨dy, e⟩ := t12.1.1; ne_of_none e fod
      have S13 := D12.keep s13
      have t13 := t12.same s13
      have c13 := c12.same s13
      have hkt13 := s13 _ _ hkt12
      have hp13 := s13 _ _ hp12
      refine ⟨_, rfl, _, rfl, _, rfl, _, rfl, _, rfl, od, x, d, cd, kt, ks, cs, L, kk, sc, rfl, D13, t13, c13, sub, by omega, hkt13, lkk, hkk, hww, fun Ha Da ka => ?_⟩
      refine ⟨_, rfl, ?_⟩
      refine iteF ?_
      have t13 : TalL C Ha x d ks L := t13.keep (fun o e => ka _ _ e nxo) fun o e => ka _ _ e ndo
      have c13 : CntL Ha cd cs L := c13.keep fun o e => ka _ _ e nco
      have hkt13 := ka _ _ hkt13 nko
      have hp13 := ka _ _ hp13 npo
      have S13 : Seed Ha sd := let ⟨b1, b2, b3, b4, e⟩ := S13; ⟨b1, b2, b3, b4, ka _ _ e nso⟩
      refine ⟨_, rfl, _, rfl, _, rfl, _, rfl, od, x, d, cd, sc, ks, cs, L, rfl, Da, t13, c13, by omega, fun H13 D13 ka => ?_⟩
      refine ⟨_, rfl, ?_⟩
      refine iteF ?_
      have t13 : TalL C H13 x d ks L := t13.keep (fun o e => ka _ _ e nxo) fun o e => ka _ _ e ndo
      have c13 : CntL H13 cd cs L := c13.keep fun o e => ka _ _ e nco
      have hkt13 := ka _ _ hkt13 nko
      have hp13 := ka _ _ hp13 npo
      have S13 : Seed H13 sd := let ⟨b1, b2, b3, b4, e⟩ := S13; ⟨b1, b2, b3, b4, ka _ _ e nso⟩
      refine ⟨_, rfl, _, _, rfl, D13, (by decide), (by decide), fun m H14 m0 m1 D14 k14 => ?_⟩
      refine ⟨_, _, rfl, rfl, ?_⟩
      refine ⟨(by show 2 ≤ sizeLine; decide), fun pl hpl => ?_⟩
      have s15 := same_upd (o := .lst [.int 0, .int (1 + m)]) hpl
      have e15 : upd H14 pl (.lst [.int 0, .int (1 + m)]) pl = some (.lst [.int 0, .int (1 + m)]) := upd_same
      have t15 : TalL C (upd H14 pl (.lst [.int 0, .int (1 + m)])) x d ks L := (t13.keep (fun o e => k14 _ _ e nxo) fun o e => k14 _ _ e ndo).same s15
      have c15 : CntL (upd H14 pl (.lst [.int 0, .int (1 + m)])) cd cs L := (c13.keep fun o e => k14 _ _ e nco).same s15
      have hkt15 := s15 _ _ (k14 _ _ hkt13 nko)
      have hp15 := s15 _ _ (k14 _ _ hp13 npo)
      have S15 : Seed (upd H14 pl (.lst [.int 0, .int (1 + m)])) sd := let ⟨b1, b2, b3, b4, e⟩ := S13; ⟨b1, b2, b3, b4, s15 _ _ (k14 _ _ e nso)⟩
      have D15 := D14.keep s15
      generalize upd H14 pl (.lst [.int 0, .int (1 + m)]) = H15 at e15 t15 c15 hkt15 hp15 S15 D15 ⊢
      refine ⟨_, rfl, (by show 0 ≤ sizeLine; decide), fun et het => ?_⟩
      have s16 := same_upd (o := .tup []) het
      refine ne_empty (s16 _ _ hkt15) upd_same ?_
      refine Or.inr ⟨_, rfl, ?_⟩
      obtain ⟨nt, ent, hnt⟩ : ∃ nt : Int, atI [V.int 0, V.int (1 + m)] (if (!decide (kk = [])) = true then 1 else 0) = some (.int nt) ∧ 0 ≤ nt ∧ nt ≤ 5 ∧ (0 < nt → kk ≠ []) := by
        by_cases z : kk = []
        · rw [decide_eq_true z]; exact ⟨0, rfl, by omega, by omega, fun h => by omega⟩
        · rw [decide_eq_false z]; exact ⟨1 + m, rfl, by omega, by omega, fun _ => z⟩
      refine Or.inl ⟨_, _, _, _, rfl, rfl, SqL.of (s16 _ _ e15), ent, ?_⟩
      refine ⟨_, rfl, by omega, by omega, ?_⟩
      refine for_range (n := nt.toNat) (fun j σ H' => ∃ (v8 : Option V) (L cs : List Int), σ = [some (.ref a), some (.ref sd), some (.int sc), some (.ref kt), some (.ref x), some (.ref cd), some (.int n), some (.ref od), v8] ∧ Seed H' sd ∧ Seed H' od ∧ TalL C H' x d ks L ∧ CntL H' cd cs L ∧ (∀ c ∈ cs, c ∈ ks) ∧ L.length ≤ 10 * i + j ∧ H' kt = some (.tup (kk.map V.int)) ∧ H' p4 = some (.lst (cc.map V.int)))
        ⟨v8, L, cs, rfl, S15.keep s16, D15.keep s16, t15.same s16, c15.same s16, sub, lL, s16 _ _ hkt15, s16 _ _ hp15⟩ ?_ ?_
      · rintro j _ H17 hj ⟨v8, L, cs, rfl, S17, D17, t17, c17, sub, lL, hkt17, hp17⟩
        have kne : kk ≠ [] := hnt.2.2 (by omega)
        refine ⟨_, rfl, _, rfl, _, rfl, _, rfl, od, x, d, cd, kt, ks, cs, L, kk, rfl, D17, t17, c17, ndc, sub, hkt17, kne, lkk, (fun k h => (hkk k).mp h), fun L' cs' H18 t18 c18 sub18 lL18 D18 k18 => ?_⟩
        refine ⟨_, rfl, ?_⟩
        refine iteF ?_
        have S18 : Seed H18 sd := let ⟨b1, b2, b3, b4, e⟩ := S17; ⟨b1, b2, b3, b4, k18 _ _ e nso nds.symm ncs.symm⟩
        have hkt18 := k18 _ _ hkt17 nko nkd nkc
        have hp18 := k18 _ _ hp17 npo npd npc
        exact ⟨_, L', cs', rfl, S18, D18, t18, c18, sub18, by omega, hkt18, hp18⟩
      rintro _ H17 ⟨v8, L, cs, rfl, S17, D17, t17, c17, sub, lL, hkt17, hp17⟩
      exact ⟨_, _, _, L, cs, rfl, S17, t17, c17, sub, by omega, hkt17, hp17⟩
    · rintro _ H11 ⟨v6, v7, v8, L, cs, rfl, _⟩
      refine ⟨_, rfl, (by show 1 ≤ sizeLine; decide), fun y hy => ⟨y, -7, rfl, upd_same, ⟨by decide, by decide⟩, fun dx hdx ndx => ⟨rfl, ?_⟩⟩⟩
      refine ⟨y, D, dx, _, _, _, rfl, upd_same, (fun h z => z.a), (by rw [upd_ne ndx, upd_same]), pD, nD, rfl, ?_⟩
      obtain rfl : D = aM := by have z := gD.symm.trans XX.number; cases z; rfl
      have tt : ∀ {y D : Addr} {o : Option Addr} (h : Heap), ExN y (.ref D) o h → ExAt y (.ref D) h := fun h ⟨o, _, _, ho, hc, _⟩ => ⟨o, ho, hc⟩
      refine ⟨_, rfl, Or.inl ⟨rfl, _, rfl, iteF ?_⟩⟩
      refine ⟨(by show 1 ≤ sizeLine; decide), fun y2 hy2 => ⟨y2, 4, rfl, upd_same, ⟨by decide, by decide⟩, fun dx2 hdx2 ndx2 => ⟨rfl, ?_⟩⟩⟩
      refine Or.inr ⟨y2, D, _, true, _, rfl, upd_same, tt, XX.kitM, Or.inl ⟨rfl, kit_of_exm XX.exmM⟩, _, rfl, iteF ?_⟩
      refine ⟨(by show 1 ≤ sizeLine; decide), fun y3 hy3 => Or.inr ⟨y3, aP, _, true, _, rfl, upd_same, tt, XX.kitP, Or.inl ⟨rfl, kit_of_exm XX.exmP⟩, _, rfl, iteT ?_⟩⟩
      exact ⟨(by show 1 ≤ sizeLine; decide), fun y4 hy4 => Or.inr ⟨y4, aN, _, true, _, rfl, upd_same, tt, XX.kitN, Or.inl ⟨rfl, kit_of_exm XX.exmN⟩, q _⟩⟩
end
def RawN (K : PySem.W.Frag) (mg : Str → Option Value) (x : Str) (st : Stmt) : Prop := ∃ (f : Addr) (fd : FuncData), Fun K x x st f fd ∧ mg x = some (.ref f)
theorem rawn_of {K : PySem.W.Frag} {mg : Str → Option Value} {x : Str} {st : Stmt} {ps : List Str} (R : RawN K mg x st) (h : ∀ (kV doc pm : Value) (an : Option Addr) (cdv ct : Value) (us : List Value), us.length = ps.length → bindArgs (PySem.W.fnOf x x (defArgs st) (defBody st) (defScope st) .none kV doc pm an cdv ct) ⟨us, []⟩ = pure (ps.zip us)) : Raw K mg x ps st :=
  let ⟨f, fd, F, m⟩ := R
  ⟨f, fd, F, m, Fun.binds F h⟩
theorem raw_mk0 {K : PySem.W.Frag} {h : Heap} {mg : Str → Option Value} (X : K.In h) (G : h.Ns mainGlobals mg) {x : Str} {st : Stmt} {f : Addr} {oc : Value} {od an : Option Addr} {osl : Array (Option Value)} {kV doc pm cdv ct : Value} (a : PySem.W.nsIn K mainGlobals x = some (some (.ref f))) (l : K.lookup f = some ⟨oc, od, .func (PySem.W.fnOf x x (defArgs st) (defBody st) (defScope st) .none kV doc pm an cdv ct), osl⟩)
    (c : PySem.W.codeIn K cdv x = true) (k : PySem.W.keepIn K (.ref f) = true) : RawN K mg x st := ⟨_, _, fun_mk l c k, PySem.W.mg_of X G a⟩
def RawMN (K : PySem.W.Frag) (C : Addr) (m qual : Str) (st : Stmt) : Prop := ∃ f fd, Meth K C m f ∧ Fun K m qual st f fd
theorem rawm_of {K : PySem.W.Frag} {C : Addr} {m qual : Str} {st : Stmt} {ps : List Str} (R : RawMN K C m qual st) (h : ∀ (kV doc pm : Value) (an : Option Addr) (cdv ct : Value) (us : List Value), us.length = ps.length → bindArgs (PySem.W.fnOf m qual (defArgs st) (defBody st) (defScope st) .none kV doc pm an cdv ct) ⟨us, []⟩ = pure (ps.zip us)) : RawM K C m qual ps st :=
  let ⟨f, fd, M, F⟩ := R
  ⟨f, fd, M, F, Fun.binds F h⟩
theorem rawm_mk0 {K : PySem.W.Frag} {C : Addr} {m qual : Str} {st : Stmt} {f : Addr} {oc : Value} {od an : Option Addr} {osl : Array (Option Value)} {kV doc pm cdv ct : Value} (a : PySem.W.findIn K (.ref C) m = some (some (.ref f))) (i : PySem.W.isFn K (.ref f) = true) (l : K.lookup f = some ⟨oc, od, .func (PySem.W.fnOf m qual (defArgs st) (defBody st) (defScope st) .none kV doc pm an cdv ct), osl⟩)
    (c : PySem.W.codeIn K cdv qual = true) (k : PySem.W.keepIn K (.ref f) = true) : RawMN K C m qual st := ⟨_, _, ⟨a, i, k⟩, fun_mk l c k⟩
def RawIN (K : PySem.W.Frag) (C : Addr) (qual : Str) (st : Stmt) : Prop := ∃ f fd, Mk K C f ∧ Fun K "__init__" qual st f fd
theorem rawi_of {K : PySem.W.Frag} {C : Addr} {qual : Str} {st : Stmt} {ps : List Str} (R : RawIN K C qual st) (h : ∀ (kV doc pm : Value) (an : Option Addr) (cdv ct : Value) (us : List Value), us.length = ps.length → bindArgs (PySem.W.fnOf "__init__" qual (defArgs st) (defBody st) (defScope st) .none kV doc pm an cdv ct) ⟨us, []⟩ = pure (ps.zip us)) : RawI K C qual ps st :=
  let ⟨f, fd, M, F⟩ := R
  ⟨f, fd, M, F, Fun.binds F h⟩
theorem rawi_mk0 {K : PySem.W.Frag} {C : Addr} {qual : Str} {st : Stmt} {f : Addr} {oc : Value} {od an : Option Addr} {osl : Array (Option Value)} {kV doc pm cdv ct : Value} (mkC : PySem.W.makesIn K C = true) (kc : PySem.W.keepIn K (.ref C) = true) (a : PySem.W.findIn K (.ref C) "__init__" = some (some (.ref f))) (i : PySem.W.isFn K (.ref f) = true) (l : K.lookup f = some ⟨oc, od, .func (PySem.W.fnOf "__init__" qual (defArgs st) (defBody st) (defScope st) .none kV doc pm an cdv ct), osl⟩)
    (c : PySem.W.codeIn K cdv qual = true) (k : PySem.W.keepIn K (.ref f) = true) : RawIN K C qual st := ⟨_, _, ⟨mkC, a, i, kc⟩, fun_mk l c k⟩
def RawEN (K : PySem.W.Frag) (mg : Str → Option Value) (x attr qual : Str) (st : Stmt) : Prop := ∃ D, mg x = some (.ref D) ∧ excPut K D = true ∧ NoAttr K D attr ∧ ∃ f fd, (excMade K D f = true ∧ PySem.W.isFn K (.ref f) = true ∧ PySem.W.keepIn K (.ref D) = true) ∧ Fun K "__init__" qual st f fd
theorem rawe_of {K : PySem.W.Frag} {mg : Str → Option Value} {x attr qual : Str} {st : Stmt} {ps : List Str} (R : RawEN K mg x attr qual st) (h : ∀ (kV doc pm : Value) (an : Option Addr) (cdv ct : Value) (us : List Value), us.length = ps.length → bindArgs (PySem.W.fnOf "__init__" qual (defArgs st) (defBody st) (defScope st) .none kV doc pm an cdv ct) ⟨us, []⟩ = pure (ps.zip us)) : ∃ D, mg x = some (.ref D) ∧ excPut K D = true ∧ NoAttr K D attr ∧ RawE K D qual ps st :=
  let ⟨D, a, b, c, f, fd, M, F⟩ := R
  ⟨D, a, b, c, f, fd, M, F, Fun.binds F h⟩
theorem rawe_mk0 {K : PySem.W.Frag} {h : Heap} {mg : Str → Option Value} (X : K.In h) (G : h.Ns mainGlobals mg) {x attr qual : Str} {st : Stmt} {D f : Addr} {oc : Value} {od an : Option Addr} {osl : Array (Option Value)} {kV doc pm cdv ct : Value} (a : PySem.W.nsIn K mainGlobals x = some (some (.ref D))) (_i : PySem.W.findIn K (.ref D) "__init__" = some (some (.ref f))) (p : excPut K D = true) (n : PySem.W.findIn K (.ref D) attr = some none) (q : excMade K D f = true) (fn : PySem.W.isFn K (.ref f) = true) (kc : PySem.W.keepIn K (.ref D) = true) (l : K.lookup f = some ⟨oc, od, .func (PySem.W.fnOf "__init__" qual (defArgs st) (defBody st) (defScope st) .none kV doc pm an cdv ct), osl⟩)
    (c : PySem.W.codeIn K cdv qual = true) (k : PySem.W.keepIn K (.ref f) = true) : RawEN K mg x attr qual st := ⟨D, PySem.W.mg_of X G a, p, n, f, _, ⟨q, fn, kc⟩, fun_mk l c k⟩
theorem win_mk0 {K : PySem.W.Frag} {h : Heap} {mg : Str → Option Value} (X : K.In h) (G : h.Ns mainGlobals mg) {W : Addr} (a : PySem.W.nsIn K mainGlobals "WindowError" = some (some (.ref W))) (q : winIn K W = true) : ∃ W, mg "WindowError" = some (.ref W) ∧ winIn K W = true := ⟨W, PySem.W.mg_of X G a, q⟩
theorem txt_mk {K : PySem.W.Frag} {h : Heap} {mg : Str → Option Value} (X : K.In h) (G : h.Ns mainGlobals mg) {C : Addr} {x_aN x_aF x_aM x_aP x_aW : Addr}
    (r_law_folded : RawN K mg "_law_folded" s_law_folded)
    (r_law_seed : RawN K mg "_law_seed" s_law_seed)
    (r_law_draw : RawN K mg "_law_draw" s_law_draw)
    (r_law_number : RawN K mg "_law_number" s_law_number)
    (r_law_kinds : RawN K mg "_law_kinds" s_law_kinds)
    (r_law_is_whole : RawN K mg "_law_is_whole" s_law_is_whole)
    (r_law_counted : RawN K mg "_law_counted" s_law_counted)
    (r_law_nth : RawN K mg "_law_nth" s_law_nth)
    (r_law_below : RawN K mg "_law_below" s_law_below)
    (r_law_asked_right : RawN K mg "_law_asked_right" s_law_asked_right)
    (r_law_turn : RawN K mg "_law_turn" s_law_turn)
    (r_law_wrong_number : RawN K mg "_law_wrong_number" s_law_wrong_number)
    (r_law_tried : RawN K mg "_law_tried" s_law_tried)
    (r_law_refused : RawN K mg "_law_refused" s_law_refused)
    (r_law_wrong_right : RawN K mg "_law_wrong_right" s_law_wrong_right)
    (r_law : RawN K mg "law" s_law)
    (aC : PySem.W.nsIn K mainGlobals "Tally" = some (some (.ref C)))
    (pg : PySem.W.plainGet K C Str.empty = true) (hd : PySem.W.hasDictIn K C = true) (po : PySem.W.plainOver K C = true) (sa : PySem.W.findIn K (.ref C) "__setattr__" = some (some (.builtin "object.__setattr__")))
    (na_often : PySem.W.findIn K (.ref C) "often" = some none)
    (r_Tally_init : RawIN K C "Tally.__init__" s_Tally_init)
    (r_Tally_put_in : RawMN K C "put_in" "Tally.put_in" s_Tally_put_in)
    (r_Tally_take_out : RawMN K C "take_out" "Tally.take_out" s_Tally_take_out)
    (r_Tally_how_many_in : RawMN K C "how_many_in" "Tally.how_many_in" s_Tally_how_many_in)
    (r_Tally_nth_in : RawMN K C "nth_in" "Tally.nth_in" s_Tally_nth_in)
    (r_Tally_how_many_below : RawMN K C "how_many_below" "Tally.how_many_below" s_Tally_how_many_below)
    (r_NoNumber : RawEN K mg "NoNumber" "number" "NoNumber.__init__" s_NoNumber_init)
    (r_win : ∃ W, mg "WindowError" = some (.ref W) ∧ winIn K W = true)
    (e_NoAsk : PySem.W.nsIn K mainGlobals "NoAsk" = some (some (.ref x_aN)))
    (e_NoField : PySem.W.nsIn K mainGlobals "NoField" = some (some (.ref x_aF)))
    (e_NoNumber : PySem.W.nsIn K mainGlobals "NoNumber" = some (some (.ref x_aM)))
    (e_NoPlace : PySem.W.nsIn K mainGlobals "NoPlace" = some (some (.ref x_aP)))
    (e_WindowError : PySem.W.nsIn K mainGlobals "WindowError" = some (some (.ref x_aW)))
    (e_all : excAll K x_aN x_aF x_aM x_aP x_aW = true)
    (z_len : PySem.W.nsIn K mainGlobals "len" = some none)
    (z_sum : PySem.W.nsIn K mainGlobals "sum" = some none)
    (z_max : PySem.W.nsIn K mainGlobals "max" = some none)
    (z_abs : PySem.W.nsIn K mainGlobals "abs" = some none)
    (z_tuple : PySem.W.nsIn K mainGlobals "tuple" = some none)
    (z_int : PySem.W.nsIn K mainGlobals "int" = some none)
    (z_bool : PySem.W.nsIn K mainGlobals "bool" = some none)
    (z_isinstance : PySem.W.nsIn K mainGlobals "isinstance" = some none)
    (z_range : PySem.W.nsIn K mainGlobals "range" = some none)
    (z_sorted : PySem.W.nsIn K mainGlobals "sorted" = some none)
    (z_set : PySem.W.nsIn K mainGlobals "set" = some none)
    (z_ValueError : PySem.W.nsIn K mainGlobals "ValueError" = some none) : Txt K mg C where
    d_law_folded := rawn_of r_law_folded (ps := ["script"]) fun _ _ _ _ _ _ us hl => match us, hl with | [_], _ => rfl
    d_law_seed := rawn_of r_law_seed (ps := ["cell"]) fun _ _ _ _ _ _ us hl => match us, hl with | [_], _ => rfl
    d_law_draw := rawn_of r_law_draw (ps := ["seed", "most"]) fun _ _ _ _ _ _ us hl => match us, hl with | [_, _], _ => rfl
    d_law_number := rawn_of r_law_number (ps := ["seed", "scale"]) fun _ _ _ _ _ _ us hl => match us, hl with | [_, _], _ => rfl
    d_law_kinds := rawn_of r_law_kinds (ps := ["seed", "scale"]) fun _ _ _ _ _ _ us hl => match us, hl with | [_, _], _ => rfl
    d_law_is_whole := rawn_of r_law_is_whole (ps := ["found", "due"]) fun _ _ _ _ _ _ us hl => match us, hl with | [_, _], _ => rfl
    d_law_counted := rawn_of r_law_counted (ps := ["counts"]) fun _ _ _ _ _ _ us hl => match us, hl with | [_], _ => rfl
    d_law_nth := rawn_of r_law_nth (ps := ["counts", "place"]) fun _ _ _ _ _ _ us hl => match us, hl with | [_, _], _ => rfl
    d_law_below := rawn_of r_law_below (ps := ["counts", "number"]) fun _ _ _ _ _ _ us hl => match us, hl with | [_, _], _ => rfl
    d_law_asked_right := rawn_of r_law_asked_right (ps := ["seed", "tally", "counts", "scale"]) fun _ _ _ _ _ _ us hl => match us, hl with | [_, _, _, _], _ => rfl
    d_law_turn := rawn_of r_law_turn (ps := ["seed", "tally", "counts", "kinds"]) fun _ _ _ _ _ _ us hl => match us, hl with | [_, _, _, _], _ => rfl
    d_law_wrong_number := rawn_of r_law_wrong_number (ps := ["seed", "counts", "kinds", "scale"]) fun _ _ _ _ _ _ us hl => match us, hl with | [_, _, _, _], _ => rfl
    d_law_tried := rawn_of r_law_tried (ps := ["tally", "way", "number"]) fun _ _ _ _ _ _ us hl => match us, hl with | [_, _, _], _ => rfl
    d_law_refused := rawn_of r_law_refused (ps := ["tally", "way", "number"]) fun _ _ _ _ _ _ us hl => match us, hl with | [_, _, _], _ => rfl
    d_law_wrong_right := rawn_of r_law_wrong_right (ps := ["seed", "tally", "counts", "kinds", "scale"]) fun _ _ _ _ _ _ us hl => match us, hl with | [_, _, _, _, _], _ => rfl
    d_law := rawn_of r_law (ps := ["script"]) fun _ _ _ _ _ _ us hl => match us, hl with | [_], _ => rfl
    g_Tally := PySem.W.mg_of X G aC
    cl_Tally := ⟨pg, hd, po, sa⟩
    a_often := na_often
    m_Tally_init := rawi_of r_Tally_init (ps := ["self", "kinds"]) fun _ _ _ _ _ _ us hl => match us, hl with | [_, _], _ => rfl
    m_Tally_put_in := rawm_of r_Tally_put_in (ps := ["self", "number"]) fun _ _ _ _ _ _ us hl => match us, hl with | [_, _], _ => rfl
    m_Tally_take_out := rawm_of r_Tally_take_out (ps := ["self", "number"]) fun _ _ _ _ _ _ us hl => match us, hl with | [_, _], _ => rfl
    m_Tally_how_many_in := rawm_of r_Tally_how_many_in (ps := ["self"]) fun _ _ _ _ _ _ us hl => match us, hl with | [_], _ => rfl
    m_Tally_nth_in := rawm_of r_Tally_nth_in (ps := ["self", "place"]) fun _ _ _ _ _ _ us hl => match us, hl with | [_, _], _ => rfl
    m_Tally_how_many_below := rawm_of r_Tally_how_many_below (ps := ["self", "number"]) fun _ _ _ _ _ _ us hl => match us, hl with | [_, _], _ => rfl
    e_NoNumber := rawe_of r_NoNumber (ps := ["self", "number"]) fun _ _ _ _ _ _ us hl => match us, hl with | [_, _], _ => rfl
    e_win := r_win
    x_exc := ⟨_, _, _, _, _, ExcAll.of (PySem.W.mg_of X G e_NoAsk) (PySem.W.mg_of X G e_NoField) (PySem.W.mg_of X G e_NoNumber) (PySem.W.mg_of X G e_NoPlace) (PySem.W.mg_of X G e_WindowError) e_all⟩
    n_len := PySem.W.mg_none_of X G z_len
    n_sum := PySem.W.mg_none_of X G z_sum
    n_max := PySem.W.mg_none_of X G z_max
    n_abs := PySem.W.mg_none_of X G z_abs
    n_tuple := PySem.W.mg_none_of X G z_tuple
    n_int := PySem.W.mg_none_of X G z_int
    n_bool := PySem.W.mg_none_of X G z_bool
    n_isinstance := PySem.W.mg_none_of X G z_isinstance
    n_range := PySem.W.mg_none_of X G z_range
    n_sorted := PySem.W.mg_none_of X G z_sorted
    n_set := PySem.W.mg_none_of X G z_set
    n_ValueError := PySem.W.mg_none_of X G z_ValueError
end Mw
namespace PySem.W.Fast
theorem tw10025914077630126491 : True := ⟨⟩
theorem tw10057049786792677613 : True := ⟨⟩
theorem tw1012789075950984702 : True := ⟨⟩
theorem tw10170785810214669002 : True := ⟨⟩
theorem tw1017859482945169468 : True := ⟨⟩
theorem tw10293661410453190757 : True := ⟨⟩
theorem tw10409851374766034232 : True := ⟨⟩
theorem tw10417860398847921947 : True := ⟨⟩
theorem tw10450534362773813219 : True := ⟨⟩
theorem tw10515109861169084192 : True := ⟨⟩
theorem tw10611499868504854378 : True := ⟨⟩
theorem tw10687608901151332413 : True := ⟨⟩
theorem tw10725137972776055879 : True := ⟨⟩
theorem tw10735841736414326491 : True := ⟨⟩
theorem tw10853868139123649791 : True := ⟨⟩
theorem tw11010322457944528294 : True := ⟨⟩
theorem tw11051739150963655303 : True := ⟨⟩
theorem tw11111080423334039874 : True := ⟨⟩
theorem tw11156743868878994280 : True := ⟨⟩
theorem tw11169334764486494998 : True := ⟨⟩
theorem tw11251777142225772129 : True := ⟨⟩
theorem tw11274241196935323272 : True := ⟨⟩
theorem tw11508640614470524395 : True := ⟨⟩
theorem tw11526837502283416902 : True := ⟨⟩
theorem tw1156274892324945491 : True := ⟨⟩
theorem tw11663840991538663187 : True := ⟨⟩
theorem tw11676044993904374122 : True := ⟨⟩
theorem tw11719830566367139405 : True := ⟨⟩
theorem tw11888778934885287301 : True := ⟨⟩
theorem tw11899605128218419417 : True := ⟨⟩
theorem tw11924355813260058601 : True := ⟨⟩
theorem tw12094711647976566880 : True := ⟨⟩
theorem tw12171547402081688354 : True := ⟨⟩
theorem tw12378395797589330290 : True := ⟨⟩
theorem tw12379682674446881598 : True := ⟨⟩
theorem tw12410723026415694171 : True := ⟨⟩
theorem tw12413369639652189201 : True := ⟨⟩
theorem tw12477337477466445417 : True := ⟨⟩
theorem tw12616962747313960737 : True := ⟨⟩
theorem tw12693368774553387519 : True := ⟨⟩
theorem tw12765589922589419855 : True := ⟨⟩
theorem tw12874501205439787858 : True := ⟨⟩
theorem tw12911264322596996053 : True := ⟨⟩
theorem tw12966278885614166733 : True := ⟨⟩
theorem tw13167873196073024795 : True := ⟨⟩
theorem tw13247547492863639367 : True := ⟨⟩
theorem tw1328551877200796822 : True := ⟨⟩
theorem tw1335287667126879458 : True := ⟨⟩
theorem tw13357513518397316978 : True := ⟨⟩
theorem tw13494259315226133720 : True := ⟨⟩
theorem tw13556838198873704775 : True := ⟨⟩
theorem tw13658121190182989049 : True := ⟨⟩
theorem tw13836705539872479802 : True := ⟨⟩
theorem tw13923124387572040814 : True := ⟨⟩
theorem tw1397477695459185661 : True := ⟨⟩
theorem tw1399074626423067691 : True := ⟨⟩
theorem tw13995195787310790461 : True := ⟨⟩
theorem tw14064403962057385544 : True := ⟨⟩
theorem tw14064606603040378451 : True := ⟨⟩
theorem tw14065676228678438632 : True := ⟨⟩
theorem tw14113376206170694764 : True := ⟨⟩
theorem tw14206702123489248335 : True := ⟨⟩
theorem tw14292576049516109247 : True := ⟨⟩
theorem tw14366451101423249578 : True := ⟨⟩
theorem tw14456004883029451565 : True := ⟨⟩
theorem tw14544760338257605453 : True := ⟨⟩
theorem tw14693314210292044035 : True := ⟨⟩
theorem tw14709822047620711530 : True := ⟨⟩
theorem tw14734799017611209992 : True := ⟨⟩
theorem tw1474201318009215963 : True := ⟨⟩
theorem tw14750749438211734294 : True := ⟨⟩
theorem tw14790505076635671233 : True := ⟨⟩
theorem tw14823390863334870243 : True := ⟨⟩
theorem tw15042802516349471085 : True := ⟨⟩
theorem tw1511179327100424670 : True := ⟨⟩
theorem tw15136269553228043971 : True := ⟨⟩
theorem tw15188946615464226859 : True := ⟨⟩
theorem tw1525285978164935463 : True := ⟨⟩
theorem tw15370897947095018732 : True := ⟨⟩
theorem tw15386930248678710521 : True := ⟨⟩
theorem tw15395263436036816284 : True := ⟨⟩
theorem tw15415367577735632210 : True := ⟨⟩
theorem tw15438278209486748118 : True := ⟨⟩
theorem tw15580534129926780036 : True := ⟨⟩
theorem tw15662289729502610445 : True := ⟨⟩
theorem tw15712032541280698120 : True := ⟨⟩
theorem tw15834313962686777304 : True := ⟨⟩
theorem tw16006254423175302975 : True := ⟨⟩
theorem tw1610320530954831812 : True := ⟨⟩
theorem tw16104968977759911450 : True := ⟨⟩
theorem tw16240685526536410526 : True := ⟨⟩
theorem tw1633088848489846003 : True := ⟨⟩
theorem tw1642700356298840906 : True := ⟨⟩
theorem tw16463053129554544621 : True := ⟨⟩
theorem tw16495676426425217636 : True := ⟨⟩
theorem tw16503124559769174448 : True := ⟨⟩
theorem tw16781624540512132894 : True := ⟨⟩
theorem tw16784102852962906511 : True := ⟨⟩
theorem tw16854245389803493054 : True := ⟨⟩
theorem tw16926663243982215921 : True := ⟨⟩
theorem tw16965449989215889868 : True := ⟨⟩
theorem tw16974912870171372724 : True := ⟨⟩
theorem tw17001991970620211641 : True := ⟨⟩
theorem tw17046583851175689179 : True := ⟨⟩
theorem tw17142961663123641984 : True := ⟨⟩
theorem tw17147614212974524520 : True := ⟨⟩
theorem tw17231729730065714077 : True := ⟨⟩
theorem tw17261130452186089091 : True := ⟨⟩
theorem tw17303698983492835469 : True := ⟨⟩
theorem tw17314961411815509524 : True := ⟨⟩
theorem tw17342388849621392600 : True := ⟨⟩
theorem tw17405460501542871248 : True := ⟨⟩
theorem tw17436895116132443276 : True := ⟨⟩
theorem tw17601259010781557568 : True := ⟨⟩
theorem tw17615005274337087016 : True := ⟨⟩
theorem tw176236994623340064 : True := ⟨⟩
theorem tw1765197192591454024 : True := ⟨⟩
theorem tw17677489068627311821 : True := ⟨⟩
theorem tw1771965239040968458 : True := ⟨⟩
theorem tw17770118882071364294 : True := ⟨⟩
theorem tw17804410216238499617 : True := ⟨⟩
theorem tw17844112136948176798 : True := ⟨⟩
theorem tw17975533767461890756 : True := ⟨⟩
theorem tw17995160974862568124 : True := ⟨⟩
theorem tw18019580715768988068 : True := ⟨⟩
theorem tw18040855793178208534 : True := ⟨⟩
theorem tw18069151473226163494 : True := ⟨⟩
theorem tw18115279542248501253 : True := ⟨⟩
theorem tw18171422461025652486 : True := ⟨⟩
theorem tw18235121237218439003 : True := ⟨⟩
theorem tw18406378834988767287 : True := ⟨⟩
theorem tw18418061901200567075 : True := ⟨⟩
theorem tw1880352568737700629 : True := ⟨⟩
theorem tw1902256726260499524 : True := ⟨⟩
theorem tw1904404555964200302 : True := ⟨⟩
theorem tw1973527348097273923 : True := ⟨⟩
theorem tw2122105597020444473 : True := ⟨⟩
theorem tw2228455204599009595 : True := ⟨⟩
theorem tw2344905708826205456 : True := ⟨⟩
theorem tw2396730372485629073 : True := ⟨⟩
theorem tw2397700940425463016 : True := ⟨⟩
theorem tw25374772859240099 : True := ⟨⟩
theorem tw255525444836213178 : True := ⟨⟩
theorem tw2588724430469454415 : True := ⟨⟩
theorem tw2674428192397905128 : True := ⟨⟩
theorem tw269725124631480256 : True := ⟨⟩
theorem tw29306868854611814 : True := ⟨⟩
theorem tw2943301417380384368 : True := ⟨⟩
theorem tw2970873864821125273 : True := ⟨⟩
theorem tw3115836089533405302 : True := ⟨⟩
theorem tw3131702904916624188 : True := ⟨⟩
theorem tw3177848057960790540 : True := ⟨⟩
theorem tw3178144492451470246 : True := ⟨⟩
theorem tw3203279202448977501 : True := ⟨⟩
theorem tw3257268329466035285 : True := ⟨⟩
theorem tw3262665064249280449 : True := ⟨⟩
theorem tw3379269547025331771 : True := ⟨⟩
theorem tw3408692064254411849 : True := ⟨⟩
theorem tw351120395647979587 : True := ⟨⟩
theorem tw3606890021892159049 : True := ⟨⟩
theorem tw3618741278288691987 : True := ⟨⟩
theorem tw3859387499581899638 : True := ⟨⟩
theorem tw3888170561953623329 : True := ⟨⟩
theorem tw4001708293928616987 : True := ⟨⟩
theorem tw4150989150331509042 : True := ⟨⟩
theorem tw4154329182937656346 : True := ⟨⟩
theorem tw4184074323278069893 : True := ⟨⟩
theorem tw4190903188219183096 : True := ⟨⟩
theorem tw4225019675128420902 : True := ⟨⟩
theorem tw448401914870507022 : True := ⟨⟩
theorem tw4763919482142154341 : True := ⟨⟩
theorem tw4773591014975259997 : True := ⟨⟩
theorem tw4817667203276531315 : True := ⟨⟩
theorem tw4922517376996335770 : True := ⟨⟩
theorem tw5021294441002431018 : True := ⟨⟩
theorem tw5025210905956175975 : True := ⟨⟩
theorem tw5064007190521933323 : True := ⟨⟩
theorem tw5096908934825047986 : True := ⟨⟩
theorem tw5246265274496510331 : True := ⟨⟩
theorem tw5281433091259647143 : True := ⟨⟩
theorem tw5304995008670682682 : True := ⟨⟩
theorem tw5315861062212997146 : True := ⟨⟩
theorem tw5346180258436871289 : True := ⟨⟩
theorem tw5416158420603491367 : True := ⟨⟩
theorem tw5453536215309941882 : True := ⟨⟩
theorem tw5481198778645090925 : True := ⟨⟩
theorem tw55813169064418521 : True := ⟨⟩
theorem tw5608181503888912461 : True := ⟨⟩
theorem tw564940134425891860 : True := ⟨⟩
theorem tw5694023520089796821 : True := ⟨⟩
theorem tw5701978059192429367 : True := ⟨⟩
theorem tw5853951391793633846 : True := ⟨⟩
theorem tw6001270300936631125 : True := ⟨⟩
theorem tw6195307730742431156 : True := ⟨⟩
theorem tw6272883117968641668 : True := ⟨⟩
theorem tw6366601086197431986 : True := ⟨⟩
theorem tw6618898590248331419 : True := ⟨⟩
theorem tw6622930233285326617 : True := ⟨⟩
theorem tw6637904911369647658 : True := ⟨⟩
theorem tw6678845732175923339 : True := ⟨⟩
theorem tw6751589145767369589 : True := ⟨⟩
theorem tw6792252903772566492 : True := ⟨⟩
theorem tw6840389988652826811 : True := ⟨⟩
theorem tw6961288265896045966 : True := ⟨⟩
theorem tw6966976380193931461 : True := ⟨⟩
theorem tw7113937466884238523 : True := ⟨⟩
theorem tw717478692463733194 : True := ⟨⟩
theorem tw7272016352910440384 : True := ⟨⟩
theorem tw7349277469706211456 : True := ⟨⟩
theorem tw7350589829613707314 : True := ⟨⟩
theorem tw7403556878888155980 : True := ⟨⟩
theorem tw7435462813127497487 : True := ⟨⟩
theorem tw7584288141190430695 : True := ⟨⟩
theorem tw7624048102228559314 : True := ⟨⟩
theorem tw7684568724486868632 : True := ⟨⟩
theorem tw7690937156745430737 : True := ⟨⟩
theorem tw7815709658203679845 : True := ⟨⟩
theorem tw7834383709733239261 : True := ⟨⟩
theorem tw7988414608232536078 : True := ⟨⟩
theorem tw8151589523728257801 : True := ⟨⟩
theorem tw8244203385793858920 : True := ⟨⟩
theorem tw8267508584198155315 : True := ⟨⟩
theorem tw8352900588075790471 : True := ⟨⟩
theorem tw8362762683121491919 : True := ⟨⟩
theorem tw8438135192593056598 : True := ⟨⟩
theorem tw8622742879336509223 : True := ⟨⟩
theorem tw8808907266786665755 : True := ⟨⟩
theorem tw8810455891117914117 : True := ⟨⟩
theorem tw9078472072127599091 : True := ⟨⟩
theorem tw9324749244166975744 : True := ⟨⟩
theorem tw9352343372575704260 : True := ⟨⟩
theorem tw9362532799067812484 : True := ⟨⟩
theorem tw9433965473050234890 : True := ⟨⟩
theorem tw9554814406396320758 : True := ⟨⟩
theorem tw9567776560973729381 : True := ⟨⟩
theorem tw9852709733532023497 : True := ⟨⟩
theorem tw9939305455567575074 : True := ⟨⟩
theorem tw9970654651220847906 : True := ⟨⟩
end PySem.W.Fast
open PySem PySem.W PyProof.Rows
set_option maxHeartbeats 0 in
theorem PySem.Challenge.cw_midwindow_k14_tally_refused_holds : PySem.Challenge.rw_midwindow_k14_tally_refused.Holds := by
  w_on; o_law; k_head; (case hw => w_witness2)
  k_fill
  refine L2.walk_df (l := PySem.Challenge.rw_midwindow_k14_tally_refused) (k := 7) (st := Mw.s_law) rfl rfl rfl ⟨rfl, by decide, by decide⟩ (fun w h Y => PySem.W.kIn_of Y) (fun _ _ _ _ _ _ _ => rfl) ?F
  case F =>
    intro w mg h KX G
    have T : ∃ C, Mw.Txt (L2.KOf KX) mg C := by
      dsimp only [L2.KOf]
      refine' ⟨_, Mw.txt_mk KX G (Mw.raw_mk0 KX G ?h0 ?h1 ?h2 ?h3) (Mw.raw_mk0 KX G ?h4 ?h5 ?h6 ?h7) (Mw.raw_mk0 KX G ?h8 ?h9 ?h10 ?h11) (Mw.raw_mk0 KX G ?h12 ?h13 ?h14 ?h15) (Mw.raw_mk0 KX G ?h16 ?h17 ?h18 ?h19) (Mw.raw_mk0 KX G ?h20 ?h21 ?h22 ?h23) (Mw.raw_mk0 KX G ?h24 ?h25 ?h26 ?h27) (Mw.raw_mk0 KX G ?h28 ?h29 ?h30 ?h31) (Mw.raw_mk0 KX G ?h32 ?h33 ?h34 ?h35) (Mw.raw_mk0 KX G ?h36 ?h37 ?h38 ?h39) (Mw.raw_mk0 KX G ?h40 ?h41 ?h42 ?h43) (Mw.raw_mk0 KX G ?h44 ?h45 ?h46 ?h47) (Mw.raw_mk0 KX G ?h48 ?h49 ?h50 ?h51) (Mw.raw_mk0 KX G ?h52 ?h53 ?h54 ?h55) (Mw.raw_mk0 KX G ?h56 ?h57 ?h58 ?h59) (Mw.raw_mk0 KX G ?h60 ?h61 ?h62 ?h63) ?aC ?pg ?hd ?po ?sa ?na_often (Mw.rawi_mk0 ?h64 ?h65 ?h66 ?h67 ?h68 ?h69 ?h70) (Mw.rawm_mk0 ?h71 ?h72 ?h73 ?h74 ?h75) (Mw.rawm_mk0 ?h76 ?h77 ?h78 ?h79 ?h80) (Mw.rawm_mk0 ?h81 ?h82 ?h83 ?h84 ?h85) (Mw.rawm_mk0 ?h86 ?h87 ?h88 ?h89 ?h90) (Mw.rawm_mk0 ?h91 ?h92 ?h93 ?h94 ?h95) (Mw.rawe_mk0 KX G ?h96 ?h97 ?h98 ?h99 ?h100 ?h101 ?h102 ?h103 ?h104 ?h105) (Mw.win_mk0 KX G ?h106 ?h107) ?e_NoAsk ?e_NoField ?e_NoNumber ?e_NoPlace ?e_WindowError ?e_all ?z_len ?z_sum ?z_max ?z_abs ?z_tuple ?z_int ?z_bool ?z_isinstance ?z_range ?z_sorted ?z_set ?z_ValueError⟩
      (case h0 => k_is)
      (case h1 => k_is)
      (case h2 => k_is)
      (case h3 => k_is)
      (case h4 => k_is)
      (case h5 => k_is)
      (case h6 => k_is)
      (case h7 => k_is)
      (case h8 => k_is)
      (case h9 => k_is)
      (case h10 => k_is)
      (case h11 => k_is)
      (case h12 => k_is)
      (case h13 => k_is)
      (case h14 => k_is)
      (case h15 => k_is)
      (case h16 => k_is)
      (case h17 => k_is)
      (case h18 => k_is)
      (case h19 => k_is)
      (case h20 => k_is)
      (case h21 => k_is)
      (case h22 => k_is)
      (case h23 => k_is)
      (case h24 => k_is)
      (case h25 => k_is)
      (case h26 => k_is)
      (case h27 => k_is)
      (case h28 => k_is)
      (case h29 => k_is)
      (case h30 => k_is)
      (case h31 => k_is)
      (case h32 => k_is)
      (case h33 => k_is)
      (case h34 => k_is)
      (case h35 => k_is)
      (case h36 => k_is)
      (case h37 => k_is)
      (case h38 => k_is)
      (case h39 => k_is)
      (case h40 => k_is)
      (case h41 => k_is)
      (case h42 => k_is)
      (case h43 => k_is)
      (case h44 => k_is)
      (case h45 => k_is)
      (case h46 => k_is)
      (case h47 => k_is)
      (case h48 => k_is)
      (case h49 => k_is)
      (case h50 => k_is)
      (case h51 => k_is)
      (case h52 => k_is)
      (case h53 => k_is)
      (case h54 => k_is)
      (case h55 => k_is)
      (case h56 => k_is)
      (case h57 => k_is)
      (case h58 => k_is)
      (case h59 => k_is)
      (case h60 => k_is)
      (case h61 => k_is)
      (case h62 => k_is)
      (case h63 => k_is)
      (case aC => k_is)
      (case pg => k_is)
      (case hd => k_is)
      (case po => k_is)
      (case sa => k_is)
      (case na_often => k_is)
      (case h64 => k_is)
      (case h65 => k_is)
      (case h66 => k_is)
      (case h67 => k_is)
      (case h68 => k_is)
      (case h69 => k_is)
      (case h70 => k_is)
      (case h71 => k_is)
      (case h72 => k_is)
      (case h73 => k_is)
      (case h74 => k_is)
      (case h75 => k_is)
      (case h76 => k_is)
      (case h77 => k_is)
      (case h78 => k_is)
      (case h79 => k_is)
      (case h80 => k_is)
      (case h81 => k_is)
      (case h82 => k_is)
      (case h83 => k_is)
      (case h84 => k_is)
      (case h85 => k_is)
      (case h86 => k_is)
      (case h87 => k_is)
      (case h88 => k_is)
      (case h89 => k_is)
      (case h90 => k_is)
      (case h91 => k_is)
      (case h92 => k_is)
      (case h93 => k_is)
      (case h94 => k_is)
      (case h95 => k_is)
      (case h96 => k_is)
      (case h97 => k_is)
      (case h98 => kernel_rfl)
      (case h99 => k_is)
      (case h100 => kernel_rfl)
      (case h101 => k_is)
      (case h102 => k_is)
      (case h103 => k_is)
      (case h104 => k_is)
      (case h105 => k_is)
      (case h106 => k_is)
      (case h107 => kernel_rfl)
      (case e_NoAsk => k_is)
      (case e_NoField => k_is)
      (case e_NoNumber => k_is)
      (case e_NoPlace => k_is)
      (case e_WindowError => k_is)
      (case e_all => kernel_rfl)
      (case z_len => k_is)
      (case z_sum => k_is)
      (case z_max => k_is)
      (case z_abs => k_is)
      (case z_tuple => k_is)
      (case z_int => k_is)
      (case z_bool => k_is)
      (case z_isinstance => k_is)
      (case z_range => k_is)
      (case z_sorted => k_is)
      (case z_set => k_is)
      (case z_ValueError => k_is)
    obtain ⟨C, T⟩ := T
    exact ⟨T.d_law, fun base => Mw.df_law T⟩
