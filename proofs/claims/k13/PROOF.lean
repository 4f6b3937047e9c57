import PyProof.Rows.All
import Wide.All
import OpenK.AllK
import Wide.FinOn
import PyProof.EqAt
import PyProof.EqKinds
import PyProof.TupleCall
import KE.KTryMore
import KE.KIsNot
import PyProof.MeetsStr
import PyProof.Rows.RuleM_int
import PyProof.CompFree
import PyProof.WalksEnum
import PyProof.EnumMake
import PyProof.NeKinds
import PyProof.ConsumeWalk
import PyProof.CompMap
import PyProof.Rows.EqBoolInt
import KE.IntBitsLaws
import PyProof.ZipIter
import PyProof.Rows.ZipGen
import PyProof.MinMaxWalk
import PyProof.WalkInts
import PyProof.Rows.CallKwBuiltin
import PyProof.CompUse
import KE.KRevIter
import PyProof.Rows.Range3
import PyProof.NsDelKeeps
import PyProof.SumAny
import PyProof.TupleIter
import PyProof.WalksMore
import PySem.Challenge.RW_restward_k13_divisions_told
set_option Elab.async false
set_option linter.all false
-- CHANGE: your row's module here, as the last of these rows
set_option maxRecDepth 100000
namespace L2
open PySem PySem.Spec PyProof.Rows
abbrev Key := Sum Int Str
def bf8 : Key → Value → Bool
  | .inl k, v => Value.isInt k v
  | .inr x, v => Value.isStrOf x v
def bo3 (w : World) : Key → Int
  | .inl k => hashInt k
  | .inr x => hashStr w x
theorem C8 : ∀ {k : Key} {v : Value}, bf8 k v = true → (∃ i t, k = Sum.inl i ∧ v = Value.int i t) ∨ (∃ x t, k = Sum.inr x ∧ v = Value.str x t)
  | .inl i, v, h => by
    obtain ⟨t, e⟩ := Value.isInt_shape (k := i) (v := v) h
    exact .inl ⟨i, t, rfl, e⟩
  | .inr x, v, h => by
    obtain ⟨t, e⟩ := Value.isStrOf_shape (x := x) (v := v) h
    exact .inr ⟨x, t, rfl, e⟩
theorem bj2 (a b : Int) : decide ((Sum.inl a : Key) = Sum.inl b) = (a == b) := by
  by_cases e : a = b
  · subst e; simp
  · have h : ¬ (Sum.inl a : Key) = Sum.inl b := fun q => e (Sum.inl.inj q)
    rw [decide_eq_false h]
    exact (beq_eq_false_iff_ne.mpr e).symm
theorem bi9 (a b : Str) : decide ((Sum.inr a : Key) = Sum.inr b) = decide (a = b) := by
  by_cases e : a = b
  · subst e; simp
  · have h : ¬ (Sum.inr a : Key) = Sum.inr b := fun q => e (Sum.inr.inj q)
    rw [decide_eq_false h, decide_eq_false e]
theorem bj1 (a : Int) (b : Str) : decide ((Sum.inl a : Key) = Sum.inr b) = false := decide_eq_false (fun q => nomatch q)
theorem bj0 (a : Str) (b : Int) : decide ((Sum.inr a : Key) = Sum.inl b) = false := decide_eq_false (fun q => nomatch q)
def aA2 (prog : Program) (w : World) : PySem.KeyKind prog w Key where
  is := bf8
  hash := bo3 w
  inj := fun v a b ha hb => by
    rcases C8 ha with ⟨i, t, rfl, rfl⟩ | ⟨x, t, rfl, rfl⟩
    · rcases C8 hb with ⟨j, u, rfl, e⟩ | ⟨y, u, rfl, e⟩
      · injection e with e1 _; rw [e1]
      · exact nomatch e
    · rcases C8 hb with ⟨j, u, rfl, e⟩ | ⟨y, u, rfl, e⟩
      · exact nomatch e
      · injection e with e1 _; rw [e1]
  byValue := fun k v h => by
    rcases C8 h with ⟨i, t, rfl, rfl⟩ | ⟨x, t, rfl, rfl⟩ <;> rfl
  pyHash := fun hv h => by
    rcases C8 hv with ⟨i, t, rfl, rfl⟩ | ⟨x, t, rfl, rfl⟩
    · exact wpAny_pyHash_int h
    · exact wpAny_pyHash_str h
  eqBool := fun hu hv h => by
    rcases C8 hu with ⟨i, t, rfl, rfl⟩ | ⟨x, t, rfl, rfl⟩
    · rcases C8 hv with ⟨j, u, rfl, rfl⟩ | ⟨y, u, rfl, rfl⟩
      · rw [bj2] at h; exact wpAny_eqBool_int h
      · rw [bj1] at h; exact SeqAt.EqAt.int_str i t y u _ _ _ _ h
    · rcases C8 hv with ⟨j, u, rfl, rfl⟩ | ⟨y, u, rfl, rfl⟩
      · rw [bj0] at h; exact SeqAt.EqAt.str_int x t j u _ _ _ _ h
      · rw [bi9] at h; exact wpAny_eqBool_str h
  «strs» := fun k x t v h => by
    rcases C8 h with ⟨i, u, rfl, e⟩ | ⟨y, u, rfl, e⟩
    · exact nomatch e
    · injection e with e1 _
      subst e1
      cases v <;> rfl
inductive V where
  | non | bl (b : Bool) | int (i : Int) | str (x : Str) | byt (b : Array UInt8) | flt (b : UInt64) | ref (a : Addr) | ty (n : String)
  deriving DecidableEq
def y7 : V → Value → Prop
  | .non, u => u = Value.none
  | .bl b, u => u = Value.bool b
  | .int i, u => ∃ t, u = Value.int i t
  | .str x, u => ∃ t, u = Value.str x t
  | .byt b, u => ∃ t, u = Value.bytes b t
  | .flt b, u => ∃ t, u = Value.float b t
  | .ref a, u => u = Value.ref a
  | .ty n, u => u = Value.type n
abbrev j9 : List V → List Value → Prop := Paired y7
theorem j9.length {xs : List V} {us : List Value} (r : j9 xs us) : xs.length = us.length := Paired.length r
theorem j9.get : ∀ {xs : List V} {us : List Value} {i : Nat} {x : V}, j9 xs us → xs[i]? = some x → ∃ u, us[i]? = some u ∧ y7 x u
  | _, _, _, _, .nil, e => by simp at e
  | _, _, 0, _, .cons r _, e => by simp at e; subst e; exact ⟨_, rfl, r⟩
  | _, _, i + 1, x, .cons _ t, e => by
    obtain ⟨u, h1, h2⟩ := j9.get (i := i) (x := x) t (by simpa using e)
    exact ⟨u, by simpa using h1, h2⟩
theorem j9.set {x : V} {u : Value} (r : y7 x u) : ∀ {xs : List V} {us : List Value} (i : Nat), j9 xs us → j9 (xs.set i x) (us.set i u)
  | _, _, _, .nil => .nil
  | _, _, 0, .cons _ t => .cons r t
  | _, _, i + 1, .cons q t => .cons q (j9.set r i t)
theorem j9.append : ∀ {xs ys : List V} {us ws : List Value}, j9 xs us → j9 ys ws → j9 (xs ++ ys) (us ++ ws)
  | _, _, _, _, .nil, s => s
  | _, _, _, _, .cons r t, s => .cons r (j9.append t s)
theorem j9.take : ∀ {xs : List V} {us : List Value} (n : Nat), j9 xs us → j9 (xs.take n) (us.take n)
  | _, _, 0, _ => .nil
  | _, _, _ + 1, .nil => .nil
  | _, _, n + 1, .cons r t => .cons r (j9.take n t)
theorem j9.drop : ∀ {xs : List V} {us : List Value} (n : Nat), j9 xs us → j9 (xs.drop n) (us.drop n)
  | _, _, 0, r => r
  | _, _, _ + 1, .nil => .nil
  | _, _, n + 1, .cons _ t => j9.drop n t
def bk1 : Option V → Option Value → Prop
  | some v, some u => y7 v u
  | none, none => True
  | _, _ => False
def KV {κ : Type} : List (κ × V) → List (κ × Value) → Prop := Paired fun (p : κ × V) (q : κ × Value) => p.1 = q.1 ∧ y7 p.2 q.2
def kV : Key → V
  | .inl i => .int i
  | .inr x => .str x
inductive HO where
  /-- a list -/
  | lst (xs : List V)
  /-- a tuple (never changes) -/
  | tup (xs : List V)
  /-- a dict whose keys are ints and texts; one whose keys are tuples of ints and texts (the empty one is both) -/
  | dK (kvs : List (Key × V)) | dT (kvs : List (List Key × V))
  /-- a set of ints: its members, its size -/
  | set (S : Int → Bool) (n : Nat)
  /-- an instance of the class at C, its dict at dx, its attributes -/
  | ins (C dx : Addr) (fs : List (Str × V))
  /-- the dict of the instance at x -/
  | own (x : Addr)
  /-- the dict of an exception -/
  | xd (fs : List (Str × V))
  /-- a bound method, f of x -/
  | met (f x : Addr)
  /-- a range object lo, lo + 1, .. U9 hi -/
  | rng (lo hi : Int)
  /-- a thing that is known to the object (the script; a dict while a loop walks it): read, never written while it is so -/
  | frz (o : Obj) (u : HO)
  /-- a code object's table -/
  | tbl (ps : Array Value)
  /-- any other thing, by what is true of its one object (a def of one's own: SetO a S n := HO.ext fun h => ..) -/
  | ext (φ : Heap → Prop)
abbrev Hp := Addr → Option HO
def upd (H : Hp) (a : Addr) (o : HO) : Hp := fun b => if b = a then some o else H b
theorem b7 {H : Hp} {a : Addr} {o : HO} : upd H a o a = some o := by unfold upd; rw [if_pos rfl]
theorem e9 {H : Hp} {a b : Addr} {o : HO} (h : b ≠ a) : upd H a o b = H b := by unfold upd; rw [if_neg h]
theorem bf7 {H : Hp} {a b : Addr} {o u : HO} (h : H a = some o) (h' : H b = some u) (d : o ≠ u) : a ≠ b := by
  intro e; subst e; rw [h] at h'; exact d (Option.some.inj h')
theorem d8 {H : Hp} {a b : Addr} {o : HO} (h : H a = some o) (h' : H b = none) : a ≠ b := by
  intro e; subst e; rw [h] at h'; cases h'
section
variable (P : Program) (w : World)
def F0 (H : Hp) (h : Heap) (a : Addr) : HO → Prop
  | .lst xs => xs.length ≤ sizeLine ∧ ∃ (its : List Value) (n : Nat), j9 xs its ∧ h.get? a = some { cls := .type "list", data := .seq its.toArray n }
  | .tup xs => xs.length ≤ sizeLine ∧ ∃ its : List Value, j9 xs its ∧ IsTup h a its.toArray
  | .dK kvs => kvs.length ≤ sizeLine ∧ (a == sysModules) = false ∧ ∃ vs, KV kvs vs ∧ h.DictOf (aA2 P w) a vs
  | .dT kvs => kvs.length ≤ sizeLine ∧ (a == sysModules) = false ∧ ∃ xs : List (List Key × Addr × Value),
      Paired (fun (p : List Key × V) (q : List Key × Addr × Value) => p.1 = q.1 ∧ H q.2.1 = some (.tup (p.1.map kV)) ∧ y7 p.2 q.2.2) kvs xs ∧
      ∃ o es ep, h.get? a = some o ∧ o.ExactDict ∧ o.data = .dict es ep ∧ es.toList = xs.map (entryOfKey (tupleKind (aA2 P w))) ∧ (xs.map (·.1)).Nodup
  | .set S n => h.SetOf (intKind P w) a S n
  | .ins C dx fs => H dx = some (.own a) ∧ fs.length ≤ 1000 ∧ dx ≠ a ∧ h.get? a = some (PySem.W.instObj C dx) ∧
      ∃ mA, h.Ns1 dx mA ∧ (∀ f, bk1 (fs.lookup f) (mA f)) ∧ PySem.Within mA (fs.map (·.1))
  | .own _ => ∃ o, h.get? a = some o
  | .xd fs => ∃ mA, h.Ns1 a mA ∧ ∀ f, bk1 (fs.lookup f) (mA f)
  | .rng lo hi => ∃ t u v, h.get? a = some { cls := .type "range", data := .fields #[.int lo t, .int hi u, .int 1 v] }
  | .frz o u => h.get? a = some o ∧ F0 H h a u
  | .tbl ps => h.get? a = some { cls := .none, data := .fields ps }
  | .met f x => h.get? a = some (PySem.W.methodObj (.ref f) (.ref x))
  | .ext φ => φ h ∧ (∃ o, h.get? a = some o) ∧ ∀ h1 h2 : Heap, φ h1 → (∀ o, h1.get? a = some o → h2.get? a = some o) → φ h2
def HOk (H : Hp) (h : Heap) : Prop := ∀ a o, H a = some o → F0 P w H h a o
end
section
variable {P : Program} {w : World} {H H' : Hp} {h h' : Heap} {a : Addr} {o : HO}
theorem F0.lt (x : F0 P w H h a o) : a < h.objs.size := by
  cases o with
  | lst xs => obtain ⟨_, _, _, _, e⟩ := x; exact Heap.lt_size e
  | tup xs => obtain ⟨_, _, _, p⟩ := x; exact p.lt
  | dK kvs => obtain ⟨_, _, _, _, o, _, _, e, _⟩ := x; exact Heap.lt_size e
  | dT kvs => obtain ⟨_, _, _, _, o, _, _, e, _⟩ := x; exact Heap.lt_size e
  | set S n => obtain ⟨o, _, _, _, e, _⟩ := x; exact Heap.lt_size e
  | ins C dx fs => obtain ⟨_, _, _, e, _⟩ := x; exact Heap.lt_size e
  | own y => obtain ⟨_, e⟩ := x; exact Heap.lt_size e
  | xd fs => obtain ⟨_, ⟨_, _, _, e, _⟩, _⟩ := x; exact Heap.lt_size e
  | rng lo hi => obtain ⟨_, _, _, e⟩ := x; exact Heap.lt_size e
  | frz ob u => obtain ⟨e, _⟩ := x; exact Heap.lt_size e
  | tbl ps => exact Heap.lt_size (show h.get? a = some _ from x)
  | met f y => exact Heap.lt_size (show h.get? a = some _ from x)
  | ext φ => obtain ⟨_, ⟨_, e⟩, _⟩ := x; exact Heap.lt_size e
theorem Paired.mapP {α β : Type} {F G : α → β → Prop} : ∀ {l₁ : List α} {l₂ : List β}, Paired F l₁ l₂ → (∀ a b, F a b → G a b) → Paired G l₁ l₂
  | _, _, .nil, _ => .nil
  | _, _, .cons r t, f => .cons (f _ _ r) (Paired.mapP t f)
theorem F0.stay (x : F0 P w H h a o) (k : ∀ b u, (b = a ∨ H b = some (.own a)) → h.get? b = some u → h'.get? b = some u)
    (ho : ∀ b, H b = some (.own a) → H' b = some (.own a)) (ht : ∀ b xs, H b = some (.tup xs) → H' b = some (.tup xs)) : F0 P w H' h' a o := by
  induction o with
  | lst xs => obtain ⟨z, its, n, r, e⟩ := x; exact ⟨z, its, n, r, k _ _ (.inl rfl) e⟩
  | tup xs => obtain ⟨z, its, r, ob, e, c⟩ := x; exact ⟨z, its, r, ob, k _ _ (.inl rfl) e, c⟩
  | dK kvs => obtain ⟨z, y, vs, r, ob, es, ep, e, c⟩ := x; exact ⟨z, y, vs, r, ob, es, ep, k _ _ (.inl rfl) e, c⟩
  | dT kvs =>
    obtain ⟨z, y, xs, r, ob, es, ep, e, c⟩ := x
    exact ⟨z, y, xs, Paired.mapP r fun p q z => ⟨z.1, ht _ _ z.2.1, z.2.2⟩, ob, es, ep, k _ _ (.inl rfl) e, c⟩
  | set S n => obtain ⟨ob, es, ep, t, e, c⟩ := x; exact ⟨ob, es, ep, t, k _ _ (.inl rfl) e, c⟩
  | ins C dx fs =>
    obtain ⟨d, z, ne, e, mA, ⟨od, es, ep, e2, c⟩, r⟩ := x
    exact ⟨ho _ d, z, ne, k _ _ (.inl rfl) e, mA, ⟨od, es, ep, k _ _ (.inr d) e2, c⟩, r⟩
  | own y => obtain ⟨ob, e⟩ := x; exact ⟨ob, k _ _ (.inl rfl) e⟩
  | xd fs => obtain ⟨mA, ⟨od, es, ep, e, c⟩, r⟩ := x; exact ⟨mA, ⟨od, es, ep, k _ _ (.inl rfl) e, c⟩, r⟩
  | rng lo hi => obtain ⟨t, u, v, e⟩ := x; exact ⟨t, u, v, k _ _ (.inl rfl) e⟩
  | frz ob u ih => obtain ⟨e, q⟩ := x; exact ⟨k _ _ (.inl rfl) e, ih q⟩
  | tbl ps =>
    have e : h.get? a = some { cls := .none, data := .fields ps } := x
    show h'.get? a = some { cls := .none, data := .fields ps }
    exact k a _ (.inl rfl) e
  | met f y =>
    have e : h.get? a = some (PySem.W.methodObj (.ref f) (.ref y)) := x
    show h'.get? a = some (PySem.W.methodObj (.ref f) (.ref y))
    exact k a _ (.inl rfl) e
  | ext φ => obtain ⟨p, ⟨o, e⟩, st⟩ := x; exact ⟨st _ _ p fun o q => k _ _ (.inl rfl) q, ⟨o, k _ _ (.inl rfl) e⟩, st⟩
theorem HOk.lt (x : HOk P w H h) (e : H a = some o) : a < h.objs.size := (x a o e).lt
theorem HOk.fresh (x : HOk P w H h) (e : h.objs.size ≤ a) : H a = none := by
  cases q : H a with
  | none => rfl
  | some u => exact absurd (Nat.lt_of_lt_of_le (x.lt q) e) (Nat.lt_irrefl _)
theorem HOk.kept (x : HOk P w H h) (k : ∀ b u, h.get? b = some u → h'.get? b = some u) : HOk P w H h' := fun a o e =>
  (x a o e).stay (fun b u _ q => k b u q) (fun _ q => q) fun _ _ q => q
theorem HOk.laid (x : HOk P w H h) (k : ∀ b u, h.get? b = some u → h'.get? b = some u) (hp : h.objs.size ≤ a) (new : F0 P w (upd H a o) h' a o) : HOk P w (upd H a o) h' := fun b u e => by
  have hn := x.fresh hp
  by_cases hb : b = a
  · subst hb; rw [b7] at e; cases e; exact new
  · rw [e9 hb] at e
    exact (x b u e).stay (fun c v _ q => k c v q) (fun c q => by rw [e9 (d8 q hn)]; exact q) fun c xs q => by rw [e9 (d8 q hn)]; exact q
end
def Rd (H : Hp) (a : Addr) (u : HO) : Prop := H a = some u ∨ ∃ o, H a = some (.frz o u)
theorem Rd.ok {P : Program} {w : World} {H : Hp} {h : Heap} {a : Addr} {u : HO} (r : Rd H a u) (x : HOk P w H h) : F0 P w H h a u := by
  rcases r with r | ⟨o, r⟩
  · exact x a u r
  · obtain ⟨_, q⟩ := x a _ r
    exact q
def Mut : Option HO → Prop
  | some (.lst _) => True
  | some (.dK _) => True
  | some (.dT _) => True
  | some (.set _ _) => True
  | some (.ins _ _ _) => True
  | some (.ext _) => True
  | _ => False
section
variable {P : Program} {w : World} {H : Hp} {h h' : Heap} {x e : Addr} {o' : HO}
theorem HOk.write (ok : HOk P w H h) (mu : Mut (H x)) (he : e = x ∨ H e = some (.own x)) (k : ∀ b u, b ≠ e → h.get? b = some u → h'.get? b = some u) (heo : ∃ u, h'.get? e = some u)
    (new : F0 P w (upd H x o') h' x o') : HOk P w (upd H x o') h' := fun b u q => by
  have nown : ∀ c y, H c = some (.own y) → c ≠ x := fun c y r z => by subst z; rw [r] at mu; exact mu
  have ntup : ∀ c xs, H c = some (.tup xs) → c ≠ x := fun c xs r z => by subst z; rw [r] at mu; exact mu
  by_cases hb : b = x
  · subst hb; rw [b7] at q; cases q; exact new
  · rw [e9 hb] at q
    by_cases hbe : b = e
    · have q' : H b = some (.own x) := by
        rcases he with z | z
        · exact absurd (hbe.trans z) hb
        · rw [hbe]; exact z
      rw [q] at q'; cases q'
      obtain ⟨v, hv⟩ := heo
      exact ⟨v, by rw [hbe]; exact hv⟩
    · refine (ok b u q).stay (fun c v hc r => k c v ?_ r) (fun c r => by rw [e9 (nown c b r)]; exact r) fun c xs r => by rw [e9 (ntup c xs r)]; exact r
      rcases hc with rfl | hc
      · exact hbe
      · rintro rfl
        rcases he with z | z
        · exact nown c b hc z
        · rw [hc] at z; cases z; exact hb rfl
end
structure Un (fs ex : List Addr) (H H' : Hp) (h h' : Heap) : Prop where
  keep : ∀ b o, h.get? b = some o → H b = none → b ∉ fs → b ∉ ex → h'.get? b = some o
  slot : ∀ b o, h.get? b = some o → H b = none → b ∈ fs → b ∉ ex → ∃ sl, h'.get? b = some { o with slots := sl }
  free : ∀ b o, h.get? b = some o → H b = none → b ∉ ex → H' b = none
  there : ∀ b o, h.get? b = some o → b ∉ ex → ∃ o', h'.get? b = some o'
  tups : ∀ b xs, H b = some (.tup xs) → H' b = some (.tup xs)
  frzs : ∀ b o u, H b = some (.frz o u) → H' b = some (.frz o u)
  tbls : ∀ b ps, H b = some (.tbl ps) → ∃ more, H' b = some (.tbl (ps ++ more))
section
variable {fs fs' ex ex' : List Addr} {H H1 H2 : Hp} {h h1 h2 h' : Heap} {a x e : Addr} {o : HO}
theorem Un.any (u : Un fs ex H H1 h h1) {b : Addr} {ob : Obj} (q : h.get? b = some ob) (n : H b = none) (hx : b ∉ ex) : ∃ sl, h1.get? b = some { ob with slots := sl } := by
  by_cases hb : b ∈ fs
  · exact u.slot b ob q n hb hx
  · exact ⟨ob.slots, u.keep b ob q n hb hx⟩
theorem Un.kept (k : ∀ b u, h.get? b = some u → h'.get? b = some u) : Un fs ex H H h h' :=
  ⟨fun b ob q _ _ _ => k b ob q, fun b ob q _ _ _ => ⟨ob.slots, k b ob q⟩, fun _ _ _ n _ => n, fun b ob q _ => ⟨ob, k b ob q⟩, fun _ _ q => q, fun _ _ _ q => q, fun _ ps q => ⟨#[], by rw [q]; simp⟩⟩
theorem Un.refl : Un fs ex H H h h := Un.kept fun _ _ q => q
theorem Un.laid (k : ∀ b u, h.get? b = some u → h'.get? b = some u) (hp : h.objs.size ≤ a) (hn : H a = none) : Un fs ex H (upd H a o) h h' where
  keep := fun b u q _ _ _ => k b u q
  slot := fun b u q _ _ _ => ⟨u.slots, k b u q⟩
  free := fun b u q n _ => by rw [e9 (Nat.ne_of_lt (Nat.lt_of_lt_of_le (Heap.lt_size q) hp))]; exact n
  there := fun b u q _ => ⟨u, k b u q⟩
  tups := fun b xs q => by rw [e9 (d8 q hn)]; exact q
  frzs := fun b u xs q => by rw [e9 (d8 q hn)]; exact q
  tbls := fun b ps q => ⟨#[], by rw [e9 (d8 q hn), q]; simp⟩
theorem Un.write (mu : Mut (H x)) (he : e = x ∨ H e = some (.own x)) (k : ∀ b u, b ≠ e → h.get? b = some u → h'.get? b = some u) (heo : ∃ u, h'.get? e = some u) : Un fs ex H (upd H x o) h h' := by
  have hx : ∀ b, H b = none → b ≠ x := fun b n z => by subst z; rw [n] at mu; exact mu
  have hb : ∀ b, H b = none → b ≠ e := fun b n z => by
    subst z
    rcases he with r | r
    · exact hx b n r
    · rw [n] at r; cases r
  have hm : ∀ b u, H b = some u → ¬ Mut (some u) → b ≠ x := fun b u q nm z => by subst z; rw [q] at mu; exact nm mu
  refine ⟨fun b u q n _ _ => k b u (hb b n) q, fun b u q n _ _ => ⟨u.slots, k b u (hb b n) q⟩, fun b u q n _ => by rw [e9 (hx b n)]; exact n, fun b u q _ => ?_,
    fun b xs q => by rw [e9 (hm b _ q fun z => z)]; exact q, fun b u xs q => by rw [e9 (hm b _ q fun z => z)]; exact q, fun b ps q => ⟨#[], by rw [e9 (hm b _ q fun z => z), q]; simp⟩⟩
  by_cases hbe : b = e
  · subst hbe; exact heo
  · exact ⟨u, k b u hbe q⟩
end
def trk (h : Heap) (H : Hp) : List Addr := (List.range h.objs.size).filter fun a => (H a).isSome
def aA5 (h : Heap) (H : Hp) : Heap := PySem.W.hideAll h (trk h H)
theorem aO9 (h : Heap) (H : Hp) : (aA5 h H).objs.size = h.objs.size := PySem.W.hideAll_size _ _
theorem aW9 {h : Heap} {H : Hp} {b : Addr} {o : Obj} (e : h.get? b = some o) (n : H b = none) : (aA5 h H).get? b = some o :=
  PySem.W.hideAll_get _ e fun hm => by
    have q : (H b).isSome = true := (List.mem_filter.mp hm).2
    rw [n] at q; simp at q
theorem bb1 {h : Heap} {H : Hp} {b : Addr} {o : Obj} (e : (aA5 h H).get? b = some o) : h.get? b = some o ∧ H b = none := by
  have e' : h.get? b = some o := PySem.W.of_hideAll (trk h H) e
  refine ⟨e', ?_⟩
  cases q : H b with
  | none => rfl
  | some x =>
    have hm : b ∈ trk h H := List.mem_filter.mpr ⟨List.mem_range.mpr (Heap.lt_size e'), by simp [q]⟩
    have z : (aA5 h H).get? b = none := PySem.W.hideAll_none (trk h H) hm
    rw [z] at e; cases e
def bd7 (g h : Heap) (L : Addr) : List (Addr × Obj) := (List.range h.objs.size).filterMap fun a => if a = L ∨ (g.get? a).isSome = true then none else (h.get? a).map fun o => (a, o)
def ag2 (g h : Heap) (L d : Addr) : List (Addr × Obj) := (bd7 g h L).filter fun p => decide (p.1 ≠ d)
structure Mod (K : PySem.W.Frag) (mg : Str → Option Value) (base : Heap) : Prop where
  kin : K.In base
  glob : base.Ns mainGlobals mg
  blt : ∃ mb, base.Ns builtinsNs mb ∧ ∀ x : Str, x ≠ "__name__" → mb x = bootBuiltins x
  nolimit : base.NoLimit
/-- the context: a def's body (or a comprehension's block) running. base: fixed through the whole law; s₀, H₀: the entry; outer: the frames whose slots others may change (a def's callers); stack: all frames that run;
   ex: iterators that were made ahead of the entry and are walked here (a comprehension's); fn: the names whose cells were made at the entry (a def: all; a comprehension's block: its own); calm: not within an except suite; pn: pins that every state bears; xe: what is wanted of an exception that leaves the code -/
structure Cx where
  prog : Program
  w : World
  K : PySem.W.Frag
  mg : Str → Option Value
  base : Heap
  A : Around
  N : List Str
  s₀ : Shared
  H₀ : Hp
  env : Env
  outer : List Env
  stack : List Env
  ex : List Addr
  fn : Str → Bool
  calm : Bool
  pn : List (Addr × Obj)
  xe : Value → Shared → Prop
def frs (l : List Env) : List Addr := l.filterMap (·.frame)
abbrev Cx.fs (X : Cx) : List Addr := frs X.outer
def Vis (sc : Scope) (x : Str) : Prop := sc.names.lookup x = some .local ∨ sc.names.lookup x = some .cell ∨ sc.names.lookup x = some .free
def Loc (sc : Scope) (x : Str) : Prop := sc.names.lookup x = some .local ∨ sc.names.lookup x = some .cell
def bp1 (env : Env) (h : Heap) (m : Str → Option Value) (x : Str) (u : Value) : Prop :=
  (env.kindOf x = some .local ∧ m x = some u) ∨ ((env.kindOf x = some .cell ∨ env.kindOf x = some .free) ∧ ∃ c, env.cells.lookup x = some c ∧ h.IsCell c (some u))
structure Cx.Ok (X : Cx) : Prop where
  mod : Mod X.K X.mg X.base
  kind : X.env.scope.kind = .function
  glob : X.env.globals = mainGlobals
  blt : X.env.builtins = builtinsNs
  above : X.s₀.heap.objs.size ≤ X.env.locals
  inj : ∀ x y c, X.env.cells.lookup x = some c → X.env.cells.lookup y = some c → x = y
  has : ∀ x, (X.env.kindOf x = some .cell ∨ X.env.kindOf x = some .free) → ∃ c, X.env.cells.lookup x = some c
  cab : ∀ x c, X.fn x = true → X.env.cells.lookup x = some c → X.s₀.heap.objs.size ≤ c
  hd : X.calm = true → X.A.handled = none
  frames : X.A.frames = some X.stack
  stk : X.stack = X.outer ∨ (X.stack = X.env :: X.outer ∧ X.env.frame = some X.env.locals)
  exf : ∀ b ∈ X.ex, b ≠ X.env.locals ∧ ∀ x c, X.env.cells.lookup x = some c → c ≠ b
  bs : ∀ b o, X.base.get? b = some o → X.s₀.heap.get? b = some o ∧ X.H₀ b = none
  bsz : X.base.objs.size ≤ X.s₀.heap.objs.size
  noex : ∀ b o, X.base.get? b = some o → b ∉ X.ex
  exfs : ∀ b ∈ X.ex, b ∉ X.fs
  funs : X.s₀.heap.FunFrames X.base X.outer
  frf : ∀ b ∈ X.fs, X.H₀ b = none
structure Inv (X : Cx) (pins : List (Addr × Obj)) (σ : List (Option V)) (H : Hp) (s : Shared) : Prop where
  ok : X.Ok
  os : s.os = X.s₀.os
  bare : AllBare s.gens
  base : Un X.fs X.ex X.H₀ H X.s₀.heap s.heap
  loc : ∃ m, s.heap.Ns X.env.locals m ∧ ∀ (i : Nat) (x : Str) (v : V), X.N[i]? = some x → σ[i]? = some (some v) → Vis X.env.scope x → ∃ u, y7 v u ∧ bp1 X.env s.heap m x u
  cell : ∀ x c, X.env.cells.lookup x = some c → ∃ v, s.heap.IsCell c v
  free : H X.env.locals = none
  freeC : ∀ x c, X.env.cells.lookup x = some c → H c = none
  pin : ∀ p ∈ X.pn ++ pins, s.heap.get? p.1 = some p.2 ∧ H p.1 = none ∧ p.1 ≠ X.env.locals ∧ p.1 ∉ X.fs ∧ ∀ v, p.2.data ≠ .cell v
  hok : HOk X.prog X.w H s.heap
  len : σ.length = X.N.length
section
variable {X : Cx} {pins : List (Addr × Obj)} {σ : List (Option V)} {H H' : Hp} {s : Shared} {h' : Heap}
theorem Cx.Ok.nofr (ok : X.Ok) {b : Addr} {o : Obj} (e : X.base.get? b = some o) : b ∉ X.fs := fun hb => by
  have := (ok.funs.mem hb).1
  rw [e] at this; cases this
theorem Inv.bs (I : Inv X pins σ H s) : ∀ b o, X.base.get? b = some o → s.heap.get? b = some o ∧ H b = none := fun b o e =>
  ⟨I.base.keep b o (I.ok.bs b o e).1 (I.ok.bs b o e).2 (I.ok.nofr e) (I.ok.noex b o e), I.base.free b o (I.ok.bs b o e).1 (I.ok.bs b o e).2 (I.ok.noex b o e)⟩
theorem Inv.bk (I : Inv X pins σ H s) : ∀ b o, X.base.get? b = some o → s.heap.get? b = some o := fun b o e => (I.bs b o e).1
theorem Inv.mod (I : Inv X pins σ H s) : Mod X.K X.mg X.base := I.ok.mod
theorem Inv.kIn (I : Inv X pins σ H s) : X.K.In s.heap := I.ok.mod.kin.keeps I.bk
theorem Inv.fr (I : Inv X pins σ H s) : ∃ m, Fr X.base X.env.locals s.heap m :=
  let ⟨m, hn, _⟩ := I.loc
  ⟨m, hn, I.bk, Nat.le_trans I.ok.bsz I.ok.above⟩
theorem Inv.lt (I : Inv X pins σ H s) : X.env.locals < s.heap.objs.size := let ⟨_, hn, _⟩ := I.loc; hn.lt
theorem Inv.sz (I : Inv X pins σ H s) : X.s₀.heap.objs.size ≤ s.heap.objs.size := Nat.le_trans I.ok.above (Nat.le_of_lt I.lt)
theorem Inv.nofs (I : Inv X pins σ H s) {a : Addr} (h : s.heap.objs.size ≤ a) : a ∉ X.fs := fun hb => by
  obtain ⟨_, o, ho, _⟩ := I.ok.funs.mem hb
  exact absurd (Nat.lt_of_lt_of_le (Heap.lt_size ho) (Nat.le_trans I.sz h)) (Nat.lt_irrefl _)
theorem Inv.cne (I : Inv X pins σ H s) : ∀ x c, X.env.cells.lookup x = some c → c ≠ X.env.locals := fun x c e z => by
  obtain ⟨v, o, ho, hd⟩ := I.cell x c e
  obtain ⟨m, ⟨o', es, ep, ho', hd', _⟩, _⟩ := I.loc
  rw [z, ho'] at ho; cases ho; rw [hd'] at hd; cases hd
theorem Inv.funs (I : Inv X pins σ H s) : s.heap.FunFrames X.base X.outer := by
  have all : ∀ (l : List Env), (∀ b ∈ frs l, b ∈ X.fs) → X.s₀.heap.FunFrames X.base l → s.heap.FunFrames X.base l := by
    intro l
    induction l with
    | nil => intro _ _; trivial
    | cons env r ih =>
      intro hs hl
      obtain ⟨hk, ⟨L, o, hf, hn, ho, hd⟩, hr⟩ := hl
      have hL : L ∈ X.fs := hs L (by unfold frs; rw [List.filterMap_cons, hf]; exact List.mem_cons_self)
      obtain ⟨sl, e⟩ := I.base.slot L o ho (I.ok.frf L hL) hL fun z => I.ok.exfs L z hL
      exact ⟨hk, ⟨L, _, hf, hn, e, hd⟩, ih (fun b hb => hs b (by unfold frs; rw [List.filterMap_cons, hf]; exact List.mem_cons_of_mem _ hb)) hr⟩
  exact all X.outer (fun _ hb => hb) I.ok.funs
theorem Inv.stack (I : Inv X pins σ H s) : s.heap.FunFrames X.base X.stack := by
  rcases I.ok.stk with e | ⟨e, hf⟩
  · rw [e]; exact I.funs
  · rw [e]
    obtain ⟨m, hn, _⟩ := I.loc
    refine .cons (by rw [I.ok.kind]; decide) hf hn ?_ I.funs
    exact Heap.get?_none_of_le (Nat.le_trans I.ok.bsz I.ok.above)
theorem Inv.stkSub (I : Inv X pins σ H s) : ∀ b ∈ frs X.stack, b ∈ X.env.locals :: X.fs := fun b hb => by
  rcases I.ok.stk with e | ⟨e, hf⟩
  · rw [e] at hb; exact List.mem_cons_of_mem _ hb
  · rw [e] at hb
    unfold frs at hb
    rw [List.filterMap_cons, hf] at hb
    exact hb
theorem Inv.stkFree (I : Inv X pins σ H s) : ∀ b ∈ frs X.stack, H b = none := fun b hb => by
  rcases List.mem_cons.mp (I.stkSub b hb) with e | hb
  · rw [e]; exact I.free
  · obtain ⟨_, o, ho, _⟩ := I.ok.funs.mem hb
    exact I.base.free b o ho (I.ok.frf b hb) fun z => I.ok.exfs b z hb
theorem Inv.step {g' : Array GenState} {t' : Nat} {d' : Drawn} {ch : List Addr} (I : Inv X pins σ H s)
    (hch : ∀ b ∈ ch, (b ∈ X.ex ∨ X.s₀.heap.objs.size ≤ b) ∧ b ≠ X.env.locals ∧ (∀ x c, X.env.cells.lookup x = some c → c ≠ b) ∧ ∀ p ∈ X.pn ++ pins, p.1 ≠ b)
    (keep : ∀ b o, b ≠ X.env.locals → b ∉ X.fs → b ∉ ch → s.heap.get? b = some o → H b = none → h'.get? b = some o)
    (slot : ∀ b o, b ≠ X.env.locals → b ∈ X.fs → b ∉ ch → s.heap.get? b = some o → H b = none → ∃ sl, h'.get? b = some { o with slots := sl }) (free : ∀ b o, b ∉ ch → s.heap.get? b = some o → H b = none → H' b = none)
    (there : ∀ b o, b ∉ ch → s.heap.get? b = some o → ∃ o', h'.get? b = some o')
    (tups : ∀ b xs, H b = some (.tup xs) → H' b = some (.tup xs)) (frzs : ∀ b o u, H b = some (.frz o u) → H' b = some (.frz o u)) (tbls : ∀ b ps, H b = some (.tbl ps) → ∃ more, H' b = some (.tbl (ps ++ more)))
    (ns : ∀ m, s.heap.Ns X.env.locals m → h'.Ns X.env.locals m) (hok : HOk X.prog X.w H' h') (hg : AllBare g') :
    Inv X pins σ H' { s with heap := h', gens := g', drawn := d', toks := t' } := by
  have neL : ∀ b o, X.s₀.heap.get? b = some o → b ≠ X.env.locals := fun b o e => Nat.ne_of_lt (Nat.lt_of_lt_of_le (Heap.lt_size e) I.ok.above)
  have neC : ∀ b o, X.s₀.heap.get? b = some o → b ∉ X.ex → b ∉ ch := fun b o e hx hb => by
    rcases (hch b hb).1 with z | z
    · exact hx z
    · exact absurd (Nat.lt_of_lt_of_le (Heap.lt_size e) z) (Nat.lt_irrefl _)
  have cellK : ∀ x c, X.env.cells.lookup x = some c → ∀ v, s.heap.IsCell c v → h'.IsCell c v := fun x c e v ⟨o, ho, hd⟩ => by
    have nch : c ∉ ch := fun z => (hch c z).2.2.1 x c e rfl
    by_cases hc : c ∈ X.fs
    · obtain ⟨sl, q⟩ := slot c o (I.cne x c e) hc nch ho (I.freeC x c e)
      exact ⟨_, q, hd⟩
    · exact ⟨o, keep c o (I.cne x c e) hc nch ho (I.freeC x c e), hd⟩
  refine ⟨I.ok, I.os, hg, ⟨fun b o e n hb hx => ?_, fun b o e n hb hx => ?_, fun b o e n hx => ?_, fun b o e hx => ?_, fun b xs e => tups b xs (I.base.tups b xs e), fun b o xs e => frzs b o xs (I.base.frzs b o xs e), fun b ps e => ?_⟩, ?_, fun x c e => ?_, ?_, fun x c e => ?_, fun p hp => ?_, hok, I.len⟩
  · exact keep b o (neL b o e) hb (neC b o e hx) (I.base.keep b o e n hb hx) (I.base.free b o e n hx)
  · obtain ⟨sl, e1⟩ := I.base.slot b o e n hb hx
    obtain ⟨sl', e2⟩ := slot b _ (neL b o e) hb (neC b o e hx) e1 (I.base.free b o e n hx)
    exact ⟨sl', e2⟩
  · obtain ⟨o', e1⟩ := I.base.there b o e hx
    exact free b o' (neC b o e hx) e1 (I.base.free b o e n hx)
  · obtain ⟨o', e1⟩ := I.base.there b o e hx
    exact there b o' (neC b o e hx) e1
  · obtain ⟨m1, e1⟩ := I.base.tbls b ps e
    obtain ⟨m2, e2⟩ := tbls b _ e1
    exact ⟨m1 ++ m2, by rw [e2, Array.append_assoc]⟩
  · obtain ⟨m, hn, hl⟩ := I.loc
    refine ⟨m, ns m hn, fun i x v e1 e2 e3 => ?_⟩
    obtain ⟨u, r, l⟩ := hl i x v e1 e2 e3
    refine ⟨u, r, ?_⟩
    rcases l with l | ⟨k, c, e, z⟩
    · exact .inl l
    · exact .inr ⟨k, c, e, cellK x c e _ z⟩
  · obtain ⟨v, z⟩ := I.cell x c e
    exact ⟨v, cellK x c e v z⟩
  · obtain ⟨m, ⟨o, _, _, ho, _⟩, _⟩ := I.loc
    exact free _ o (fun z => (hch _ z).2.1 rfl) ho I.free
  · obtain ⟨v, o, ho, hd⟩ := I.cell x c e
    exact free c o (fun z => (hch c z).2.2.1 x c e rfl) ho (I.freeC x c e)
  · obtain ⟨e, n, ne, nf, d⟩ := I.pin p hp
    have nch : p.1 ∉ ch := fun z => (hch p.1 z).2.2.2 p hp rfl
    exact ⟨keep p.1 p.2 ne nf nch e n, free p.1 p.2 nch e n, ne, nf, d⟩
theorem Inv.un {t' : Nat} (I : Inv X pins σ H s) (u : Un X.fs [] H H' s.heap h') (hok : HOk X.prog X.w H' h') : Inv X pins σ H' { s with heap := h', toks := t' } := by
  obtain ⟨m, ⟨o, es, ep, ho, r⟩, _⟩ := id I.loc
  obtain ⟨sl, hL⟩ := u.any ho I.free (by simp)
  exact I.step (g' := s.gens) (d' := s.drawn) (ch := []) (fun _ z => nomatch z) (fun b o _ hb _ e n => u.keep b o e n hb (by simp)) (fun b o _ hb _ e n => u.slot b o e n hb (by simp)) (fun b o _ e n => u.free b o e n (by simp)) (fun b o _ e => u.there b o e (by simp)) u.tups u.frzs u.tbls (fun m' hm => by
    obtain ⟨o', es', ep', ho', r'⟩ := hm
    rw [ho] at ho'; cases ho'
    exact ⟨_, es', ep', hL, r'⟩) hok I.bare
theorem Inv.call {g' : Array GenState} {t' : Nat} {d' : Drawn} {ch : List Addr} (I : Inv X pins σ H s) (u : Un (frs X.stack) ch H H' s.heap h') (hok : HOk X.prog X.w H' h') (hg : AllBare g')
    (hch : ∀ b ∈ ch, (b ∈ X.ex ∨ X.s₀.heap.objs.size ≤ b) ∧ b ≠ X.env.locals ∧ (∀ x c, X.env.cells.lookup x = some c → c ≠ b) ∧ ∀ p ∈ X.pn ++ pins, p.1 ≠ b) :
    Inv X pins σ H' { s with heap := h', gens := g', drawn := d', toks := t' } := by
  obtain ⟨m, ⟨o, es, ep, ho, r⟩, _⟩ := id I.loc
  obtain ⟨sl, hL⟩ := u.any ho I.free fun z => (hch _ z).2.1 rfl
  exact I.step (ch := ch) hch (fun b o hL hb hc e n => u.keep b o e n (fun z => (List.mem_cons.mp (I.stkSub b z)).elim hL hb) hc) (fun b o _ _ hc e n => u.any e n hc) (fun b o hc e n => u.free b o e n hc) (fun b o hc e => u.there b o e hc) u.tups u.frzs u.tbls (fun m' hm => by
    obtain ⟨o', es', ep', ho', r'⟩ := hm
    rw [ho] at ho'; cases ho'
    exact ⟨_, es', ep', hL, r'⟩) hok hg
theorem Inv.turned {t' : Nat} {it : Addr} (I : Inv X pins σ H s) (k : ∀ b o, b ≠ it → s.heap.get? b = some o → h'.get? b = some o) (hn : H it = none) (hL : it ≠ X.env.locals)
    (h1 : it ∈ X.ex ∨ X.s₀.heap.objs.size ≤ it) (h2 : ∀ x c, X.env.cells.lookup x = some c → c ≠ it) (h3 : ∀ p ∈ X.pn ++ pins, p.1 ≠ it) : Inv X pins σ H { s with heap := h', toks := t' } := by
  have nit : ∀ b u, H b = some u → b ≠ it := fun b u e z => by rw [z, hn] at e; cases e
  refine I.step (g' := s.gens) (d' := s.drawn) (ch := [it]) (fun b hb => ?_) (fun b o _ _ hc e _ => k b o (fun z => hc (by simp [z])) e) (fun b o _ _ hc e _ => ⟨o.slots, k b o (fun z => hc (by simp [z])) e⟩) (fun _ _ _ _ n => n)
    (fun b o hc e => ⟨o, k b o (fun z => hc (by simp [z])) e⟩) (fun _ _ e => e) (fun _ _ _ e => e) (fun b ps e => ⟨#[], by rw [e]; simp⟩) (fun m hm => ?_) (fun b u e => ?_) I.bare
  · have e : b = it := by simpa using hb
    subst e
    exact ⟨h1, hL, h2, h3⟩
  · obtain ⟨o, es, ep, ho, r⟩ := hm
    exact ⟨o, es, ep, k _ o (Ne.symm hL) ho, r⟩
  · refine (I.hok b u e).stay (fun c v hc q => k c v ?_ q) (fun _ q => q) fun _ _ q => q
    rcases hc with z | z
    · rw [z]; exact nit b u e
    · exact nit c _ z
theorem Inv.tok (I : Inv X pins σ H s) (t : Nat) : Inv X pins σ H { s with toks := t } := I.un (h' := s.heap) (t' := t) Un.refl I.hok
theorem Inv.kept {t' : Nat} (I : Inv X pins σ H s) (k : ∀ b u, s.heap.get? b = some u → h'.get? b = some u) : Inv X pins σ H { s with heap := h', toks := t' } := I.un (Un.kept k) (I.hok.kept k)
theorem Inv.laid {a : Addr} {o : HO} {t' : Nat} (I : Inv X pins σ H s) (k : ∀ b u, s.heap.get? b = some u → h'.get? b = some u) (hp : s.heap.objs.size ≤ a) (new : F0 X.prog X.w (upd H a o) h' a o) :
    Inv X pins σ (upd H a o) { s with heap := h', toks := t' } := I.un (Un.laid k hp (I.hok.fresh hp)) (I.hok.laid k hp new)
theorem Inv.write {x e : Addr} {o : HO} {t' : Nat} (I : Inv X pins σ H s) (mu : Mut (H x)) (he : e = x ∨ H e = some (.own x)) (k : ∀ b u, b ≠ e → s.heap.get? b = some u → h'.get? b = some u) (heo : ∃ u, h'.get? e = some u)
    (new : F0 X.prog X.w (upd H x o) h' x o) : Inv X pins σ (upd H x o) { s with heap := h', toks := t' } := I.un (Un.write mu he k heo) (I.hok.write mu he k heo new)
theorem Inv.weak {σ' : List (Option V)} (I : Inv X pins σ H s) (hl : σ'.length = σ.length) (w : ∀ (i : Nat) v, σ'[i]? = some (some v) → σ[i]? = some (some v)) : Inv X pins σ' H s :=
  ⟨I.ok, I.os, I.bare, I.base, let ⟨m, hn, hl'⟩ := I.loc; ⟨m, hn, fun i x v e1 e2 e3 => hl' i x v e1 (w i v e2) e3⟩, I.cell, I.free, I.freeC, I.pin, I.hok, hl.trans I.len⟩
theorem Inv.pins_of {pins' : List (Addr × Obj)} (I : Inv X pins σ H s) (h : ∀ p ∈ pins', s.heap.get? p.1 = some p.2 ∧ H p.1 = none ∧ p.1 ≠ X.env.locals ∧ p.1 ∉ X.fs ∧ ∀ v, p.2.data ≠ .cell v) : Inv X pins' σ H s :=
  ⟨I.ok, I.os, I.bare, I.base, I.loc, I.cell, I.free, I.freeC, fun p hp => (List.mem_append.mp hp).elim (fun z => I.pin p (List.mem_append_left _ z)) (h p), I.hok, I.len⟩
theorem aE2 {N : List Str} (hN : N.Nodup) {i j : Nat} {x : Str} (a : N[i]? = some x) (b : N[j]? = some x) : i = j := by
  obtain ⟨h1, e1⟩ := List.getElem?_eq_some_iff.mp a
  obtain ⟨h2, e2⟩ := List.getElem?_eq_some_iff.mp b
  exact (List.getElem_inj hN).mp (e1.trans e2.symm)
theorem aN1 {M : Model} {A : Around} {E : Value → Shared → Prop} {i : Nat} {x : Str} {v : V} {u : Value} {Q : Unit → Shared → Prop} (I : Inv X pins σ H s) (hN : X.N.Nodup) (hi : X.N[i]? = some x) (hx : Loc X.env.scope x) (r : y7 v u)
    (h : ∀ s', Inv X pins (σ.set i (some v)) H s' → (∃ a, Heap.SameBut a s.heap s'.heap ∧ (a = X.env.locals ∨ X.env.cells.lookup x = some a)) → Q () s') (hf : X.fn x = true ∨ X.env.scope.names.lookup x = some .local := by first | exact .inl rfl | exact .inr rfl | assumption) : wpAny M A (storeName X.env x u) Q E s := by
  obtain ⟨m, hn, hl⟩ := id I.loc
  have hcls : (X.env.scope.kind == .class || (X.env.scope.kind == .module && X.env.locals != X.env.globals)) = false := by rw [I.ok.kind]; rfl
  have hiσ : i < σ.length := by rw [I.len]; exact (List.getElem?_eq_some_iff.mp hi).1
  have cne := I.cne
  have tracked : ∀ {a : Addr} {h' : Heap}, (∃ o, s.heap.get? a = some o ∧ H a = none) → Heap.SameBut a s.heap h' → HOk X.prog X.w H h' := fun {a h'} ha hs b ob e => by
    obtain ⟨_, _, hfree⟩ := ha
    refine (I.hok b ob e).stay (fun c w' hc q => (hs.2 c ?_).trans q) (fun _ q => q) fun _ _ q => q
    rintro rfl
    rcases hc with rfl | hc
    · rw [hfree] at e; cases e
    · rw [hfree] at hc; cases hc
  rcases hx with hk | hk
  · refine wpAny_storeName_local hk hn (fun h' hn' hs => ?_) hcls
    obtain ⟨oL, _, _, hoL, _⟩ := id hn
    refine h _ ⟨I.ok, I.os, I.bare, ⟨fun b o e n hb hx => ?_, fun b o e n hb hx => ?_, I.base.free, fun b o e hx => ?_, I.base.tups, I.base.frzs, I.base.tbls⟩, ⟨_, hn', fun j y v' e1 e2 e3 => ?_⟩, fun y c e => ?_, I.free, I.freeC, fun p hp => ?_, tracked ⟨oL, hoL, I.free⟩ hs, by simpa using I.len⟩ ⟨_, hs, .inl rfl⟩
    · exact (hs.2 b (Nat.ne_of_lt (Nat.lt_of_lt_of_le (Heap.lt_size e) I.ok.above))).trans (I.base.keep b o e n hb hx)
    · obtain ⟨sl, e1⟩ := I.base.slot b o e n hb hx
      exact ⟨sl, (hs.2 b (Nat.ne_of_lt (Nat.lt_of_lt_of_le (Heap.lt_size e) I.ok.above))).trans e1⟩
    · obtain ⟨o', e1⟩ := I.base.there b o e hx
      exact ⟨o', (hs.2 b (Nat.ne_of_lt (Nat.lt_of_lt_of_le (Heap.lt_size e) I.ok.above))).trans e1⟩
    · by_cases hj : j = i
      · subst hj
        rw [hi] at e1; cases e1
        rw [List.getElem?_set_self hiσ] at e2
        cases e2
        exact ⟨u, r, .inl ⟨hk, by simp⟩⟩
      · rw [List.getElem?_set_ne (Ne.symm hj)] at e2
        obtain ⟨u', r', q⟩ := hl j y v' e1 e2 e3
        refine ⟨u', r', ?_⟩
        rcases q with ⟨k, e⟩ | ⟨k, c, e, z⟩
        · refine .inl ⟨k, ?_⟩
          have : y ≠ x := fun e => hj (aE2 hN e1 (e ▸ hi))
          simp [this, e]
        · exact .inr ⟨k, c, e, z.sameBut hs (cne y c e)⟩
    · obtain ⟨w', z⟩ := I.cell y c e
      exact ⟨w', z.sameBut hs (cne y c e)⟩
    · obtain ⟨e, n, ne, nf, d⟩ := I.pin p hp
      exact ⟨(hs.2 p.1 ne).trans e, n, ne, nf, d⟩
  · have hfn : X.fn x = true := by
      rcases hf with z | z
      · exact z
      · rw [z] at hk; cases hk
    obtain ⟨c, hc⟩ := I.ok.has x (.inl hk)
    obtain ⟨w', z⟩ := I.cell x c hc
    refine wpAny_storeName_cell I.ok.kind hk hc z (fun h' hc' hs => ?_)
    obtain ⟨oc, hoc, hocd⟩ := id z
    refine h { s with heap := h' } ⟨I.ok, I.os, I.bare, ⟨fun b o e n hb hx => ?_, fun b o e n hb hx => ?_, I.base.free, fun b o e hx => ?_, I.base.tups, I.base.frzs, I.base.tbls⟩, ⟨m, hn.sameBut hs (Ne.symm (cne x c hc)), fun j y v' e1 e2 e3 => ?_⟩, fun y c' e => ?_, I.free, I.freeC, fun p hp => ?_, tracked ⟨oc, hoc, I.freeC x c hc⟩ hs, by simpa using I.len⟩ ⟨c, hs, .inr hc⟩
    · exact (hs.2 b (Nat.ne_of_lt (Nat.lt_of_lt_of_le (Heap.lt_size e) (I.ok.cab x c hfn hc)))).trans (I.base.keep b o e n hb hx)
    · obtain ⟨sl, e1⟩ := I.base.slot b o e n hb hx
      exact ⟨sl, (hs.2 b (Nat.ne_of_lt (Nat.lt_of_lt_of_le (Heap.lt_size e) (I.ok.cab x c hfn hc)))).trans e1⟩
    · obtain ⟨o', e1⟩ := I.base.there b o e hx
      exact ⟨o', (hs.2 b (Nat.ne_of_lt (Nat.lt_of_lt_of_le (Heap.lt_size e) (I.ok.cab x c hfn hc)))).trans e1⟩
    · by_cases hj : j = i
      · subst hj
        rw [hi] at e1; cases e1
        rw [List.getElem?_set_self hiσ] at e2
        cases e2
        exact ⟨u, r, .inr ⟨.inl hk, c, hc, hc'⟩⟩
      · rw [List.getElem?_set_ne (Ne.symm hj)] at e2
        obtain ⟨u', r', q⟩ := hl j y v' e1 e2 e3
        refine ⟨u', r', ?_⟩
        rcases q with q | ⟨k, c', e, z'⟩
        · exact .inl q
        · refine .inr ⟨k, c', e, z'.sameBut hs ?_⟩
          rintro rfl
          exact hj (aE2 hN e1 (I.ok.inj _ _ _ e hc ▸ hi))
    · by_cases hcc : c' = c
      · subst hcc; exact ⟨_, hc'⟩
      · obtain ⟨w2, z2⟩ := I.cell y c' e
        exact ⟨w2, z2.sameBut hs hcc⟩
    · obtain ⟨e, n, ne, nf, d⟩ := I.pin p hp
      refine ⟨(hs.2 p.1 ?_).trans e, n, ne, nf, d⟩
      intro q
      rw [q, hoc] at e
      have q' : oc = p.2 := Option.some.inj e
      exact d w' (by rw [← q']; exact hocd)
theorem U1 {M : Model} {A : Around} {E : Value → Shared → Prop} {i : Nat} {x : Str} {v : V} {u : Value} {Q : Unit → Shared → Prop} (I : Inv X pins σ H s) (hN : X.N.Nodup) (hi : X.N[i]? = some x) (hx : Loc X.env.scope x) (r : y7 v u)
    (h : ∀ s', Inv X pins (σ.set i (some v)) H s' → Q () s') (hf : X.fn x = true ∨ X.env.scope.names.lookup x = some .local := by first | exact .inl rfl | exact .inr rfl | assumption) : wpAny M A (storeName X.env x u) Q E s :=
  aN1 I hN hi hx r (fun s' I' _ => h s' I') hf
theorem Inv.call' {s' : Shared} {ch : List Addr} (I : Inv X pins σ H s) (ho : s'.os = s.os) (u : Un (frs X.stack) ch H H' s.heap s'.heap) (hok : HOk X.prog X.w H' s'.heap) (hg : AllBare s'.gens)
    (hch : ∀ b ∈ ch, (b ∈ X.ex ∨ X.s₀.heap.objs.size ≤ b) ∧ b ≠ X.env.locals ∧ (∀ x c, X.env.cells.lookup x = some c → c ≠ b) ∧ ∀ p ∈ X.pn ++ pins, p.1 ≠ b) : Inv X pins σ H' s' := by
  obtain ⟨h', g', d', t', o'⟩ := s'
  have e : o' = s.os := ho
  subst e
  exact I.call (g' := g') (t' := t') (d' := d') u hok hg hch
end
abbrev XK := Value → Option Addr → Hp → Prop
abbrev St := List (Option V)
abbrev VK := V → Hp → Prop
abbrev TE := St → Hp → VK → Prop
abbrev TT := St → Hp → (Bool → Hp → Prop) → Prop
abbrev TA := St → Hp → (List V → Hp → Prop) → Prop
structure ab8 where
  nx : St → Hp → Prop
  rt : VK
  bk : St → Hp → Prop := fun _ _ => False
  ct : St → Hp → Prop := fun _ _ => False
abbrev TS := ab8 → St → Hp → Prop
def EP (X : Cx) (pins : List (Addr × Obj)) (σ : St) (Q : VK) (u : Value) (s' : Shared) : Prop := ∃ v H', Inv X pins σ H' s' ∧ y7 v u ∧ Q v H'
def TP (X : Cx) (pins : List (Addr × Obj)) (σ : St) (Q : Bool → Hp → Prop) (b : Bool) (s' : Shared) : Prop := ∃ H', Inv X pins σ H' s' ∧ Q b H'
def AP (X : Cx) (pins : List (Addr × Obj)) (σ : St) (Q : List V → Hp → Prop) (us : List Value) (s' : Shared) : Prop := ∃ vs H', Inv X pins σ H' s' ∧ j9 vs us ∧ Q vs H'
def SP (X : Cx) (pins : List (Addr × Obj)) (D : ab8) (f : Flow) (s' : Shared) : Prop :=
  match f with
  | .next => ∃ σ' H', Inv X pins σ' H' s' ∧ D.nx σ' H'
  | .brk => ∃ σ' H', Inv X pins σ' H' s' ∧ D.bk σ' H'
  | .cont => ∃ σ' H', Inv X pins σ' H' s' ∧ D.ct σ' H'
  | .ret u => ∃ v σ' H', Inv X pins σ' H' s' ∧ y7 v u ∧ D.rt v H'
def PE (X : Cx) (e : Expr) (t : TE) : Prop :=
  ∀ (pins : List (Addr × Obj)) (s : Shared) (σ : St) (H : Hp) (Q : VK), Inv X pins σ H s → t σ H Q → wpAny (model X.prog X.w) X.A (eval e X.env) (EP X pins σ Q) X.xe s
def PT (X : Cx) (e : Expr) (t : TT) : Prop :=
  ∀ (pins : List (Addr × Obj)) (s : Shared) (σ : St) (H : Hp) (Q : Bool → Hp → Prop), Inv X pins σ H s → t σ H Q → wpAny (model X.prog X.w) X.A (isTrue e X.env (eval e X.env)) (TP X pins σ Q) X.xe s
def PW (X : Cx) (e : Expr) (t : TT) : Prop :=
  ∀ (whole : Sem Value) (pins : List (Addr × Obj)) (s : Shared) (σ : St) (H : Hp) (Q : Bool → Hp → Prop), Inv X pins σ H s → t σ H Q → wpAny (model X.prog X.w) X.A (isTrue e X.env whole) (TP X pins σ Q) X.xe s
theorem PW.pt {X : Cx} {e : Expr} {t : TT} (h : PW X e t) : PT X e t := h _
def PA (X : Cx) (es : List Expr) (t : TA) : Prop :=
  ∀ (pos : Pos) (pins : List (Addr × Obj)) (s : Shared) (σ : St) (H : Hp) (Q : List V → Hp → Prop), Inv X pins σ H s → t σ H Q → wpAny (model X.prog X.w) X.A (spliced (backTo pos (starEach es X.env))) (AP X pins σ Q) X.xe s
def PS (X : Cx) (st : Stmt) (t : TS) : Prop :=
  ∀ (pins : List (Addr × Obj)) (s : Shared) (σ : St) (H : Hp) (D : ab8), Inv X pins σ H s → t D σ H → wpAny (model X.prog X.w) X.A (exec st X.env) (SP X pins D) X.xe s
def PSs (X : Cx) (st : List Stmt) (t : TS) : Prop :=
  ∀ (pins : List (Addr × Obj)) (s : Shared) (σ : St) (H : Hp) (D : ab8), Inv X pins σ H s → t D σ H → wpAny (model X.prog X.w) X.A (execs st X.env) (SP X pins D) X.xe s
theorem thn {α : Type} {t : Sem α} {Q Q' : α → Shared → Prop} {M : Model} {A : Around} {E : Value → Shared → Prop} {s : Shared} (h : wpAny M A t Q E s) (hQ : ∀ a s, Q a s → Q' a s) : wpAny M A t Q' E s := wpAny_mono h hQ fun _ _ x => x
section
variable {X : Cx}
def Q3 (i : Nat) : TE := fun σ H Q => ∃ v, σ[i]? = some (some v) ∧ Q v H
def tC (v : V) : TE := fun _ H Q => Q v H
theorem bh7 {i : Nat} {x : Str} {pos : Pos} (hN : X.N[i]? = some x) (hv : Vis X.env.scope x) (hd : (x == ("__debug__" : Str)) = false := by decide) (hcd : (x == ("__classdict__" : Str)) = false := by decide) : PE X (.Name x pos) (Q3 i) := by
  intro pins s σ H Q I h
  obtain ⟨v, e, h⟩ := h
  obtain ⟨m, hn, hl⟩ := I.loc
  obtain ⟨u, r, l⟩ := hl i x v hN e hv
  have fin : EP X pins σ Q u s := ⟨v, H, I, r, h⟩
  rcases l with ⟨hk, hm⟩ | ⟨hk, c, hc, hcell⟩
  · exact wpAny_Name (wpAny_loadName_local I.ok.kind hk hn hm fin) hd
  · rcases hk with hk | hk
    · exact wpAny_Name (wpAny_loadName_cell I.ok.kind hk hc hcell fin) hd
    · exact wpAny_Name (wpAny_loadName_free I.ok.kind hk hc hcell fin hcd) hd
theorem b9 {i j pos} : PE X (.Constant (.int i) j pos) (tC (.int i)) := fun _ _ _ H _ I h => wpAny_Constant_int ⟨.int i, H, I.tok _, ⟨_, rfl⟩, h⟩
theorem ac5 {b j pos} : PE X (.Constant (.bool b) j pos) (tC (.bl b)) := fun _ _ _ H _ I h => Constant_bool ⟨.bl b, H, I, rfl, h⟩
theorem ad7 {x j pos} : PE X (.Constant (.str x) j pos) (tC (.str x)) := fun _ _ _ H _ I h => Calls.Constant_str ⟨.str x, H, I.tok _, ⟨_, rfl⟩, h⟩
def Gl (X : Cx) (x : Str) : Prop := X.env.kindOf x = some .globalImplicit
theorem ah3 {E : Value → Shared → Prop} {pins : List (Addr × Obj)} {s : Shared} {σ : St} {H : Hp} {x : Str} {u : Value} {pos : Pos} {Q : Value → Shared → Prop} (I : Inv X pins σ H s) (hg : Gl X x) (hm : X.mg x = some u) (h : Q u s)
    (hd : (x == ("__debug__" : Str)) = false := by decide) : wpAny (model X.prog X.w) X.A (eval (.Name x pos) X.env) Q E s :=
  Calls.Name_function_global I.ok.kind hg (Calls.loadGlobal_global (by rw [I.ok.glob]; exact I.mod.glob.keeps I.bk) hm h) hd
theorem Z3 {E : Value → Shared → Prop} {pins : List (Addr × Obj)} {s : Shared} {σ : St} {H : Hp} {x : Str} {u : Value} {pos : Pos} {Q : Value → Shared → Prop} (I : Inv X pins σ H s) (hg : Gl X x) (hm : X.mg x = none) (hv : bootBuiltins x = some u) (h : Q u s)
    (hn : x ≠ "__name__" := by decide) (hd : (x == ("__debug__" : Str)) = false := by decide) : wpAny (model X.prog X.w) X.A (eval (.Name x pos) X.env) Q E s := by
  obtain ⟨mb, h1, h2⟩ := I.mod.blt
  exact Calls.Name_function_global I.ok.kind hg (Calls.loadGlobal_builtin (by rw [I.ok.glob]; exact I.mod.glob.keeps I.bk) hm (by rw [I.ok.blt]; exact h1.keeps I.bk) ((h2 x hn).trans hv) h) hd
theorem v9 {x : Str} {v : V} {u : Value} {pos : Pos} (hg : Gl X x) (hm : X.mg x = some u) (r : y7 v u) (hd : (x == ("__debug__" : Str)) = false := by decide) : PE X (.Name x pos) (tC v) :=
  fun _ _ _ H _ I h => ah3 I hg hm ⟨v, H, I, r, h⟩ hd
theorem W0 {x : Str} {v : V} {u : Value} {pos : Pos} (hg : Gl X x) (hm : X.mg x = none) (hv : bootBuiltins x = some u) (r : y7 v u) (hn : x ≠ "__name__" := by decide) (hd : (x == ("__debug__" : Str)) = false := by decide) : PE X (.Name x pos) (tC v) :=
  fun _ _ _ H _ I h => Z3 I hg hm hv ⟨v, H, I, r, h⟩ hn hd
variable {a b : Expr} {ta tb : TE} {pos : Pos}
def PC (X : Cx) (op : CmpOp) (a b : Expr) (t : TE) : Prop :=
  ∀ (pins : List (Addr × Obj)) (s : Shared) (σ : St) (H : Hp) (Q : VK), Inv X pins σ H s → t σ H Q →
    wpAny (model X.prog X.w) X.A (eval a X.env) (fun v s₁ => wpAny (model X.prog X.w) X.A (eval b X.env) (fun u s₂ => wpAny (model X.prog X.w) X.A (compareOp op v u) (EP X pins σ Q) X.xe s₂) X.xe s₁) X.xe s
def tB (t : TE) : TT := fun σ H Q => t σ H fun x H1 => ∃ c, x = .bl c ∧ Q c H1
theorem T8 {e : Expr} {t : TE} (h : PE X e t) (he : ∀ whole, isTrue e X.env whole = (do let v ← whole; standAt e.pos; holding [v] (truthy v)) := by intro _; rfl) : PT X e (tB t) := by
  intro pins s σ H Q I hw
  refine isTrue_plain (thn (h pins s σ H _ I hw) fun v s1 ⟨x, H1, I1, r1, q1⟩ => ?_) (he _)
  obtain ⟨d, rfl, q⟩ := q1
  cases r1
  exact wpAny_truthy_bool ⟨H1, I1, q⟩
variable {tA tB' : TT} {ag2 : List Expr}
def aS4 (t u : TT) : TT := fun σ H Q => t σ H fun c H1 => if c = true then u σ H1 Q else Q false H1
def tOr (t u : TT) : TT := fun σ H Q => t σ H fun c H1 => if c = true then Q true H1 else u σ H1 Q
def aR9 (t : TT) : TT := fun σ H Q => t σ H fun c H1 => Q (!c) H1
theorem am2 (ha : PT X a tA) : PW X (.BoolOp .And [a] pos) tA := by
  intro wh pins s σ H Q I h
  refine isTrue_and (thn (ha pins s σ H Q I h) fun c s1 e => ?_)
  cases c with
  | true => exact isTrue_and_nil e
  | false => exact e
theorem ad5 (ha : PT X a tA) : PW X (.BoolOp .Or [a] pos) tA := by
  intro wh pins s σ H Q I h
  refine isTrue_or (thn (ha pins s σ H Q I h) fun c s1 e => ?_)
  cases c with
  | false => exact isTrue_or_nil e
  | true => exact e
theorem az1 (ha : PT X a tA) (hb : PW X (.BoolOp .And (b :: ag2) pos) tB') : PW X (.BoolOp .And (a :: b :: ag2) pos) (aS4 tA tB') := by
  intro wh pins s σ H Q I h
  refine isTrue_and (thn (ha pins s σ H _ I h) fun c s1 ⟨H1, I1, q1⟩ => ?_)
  cases c with
  | true => exact hb wh pins s1 σ H1 Q I1 q1
  | false => exact ⟨H1, I1, q1⟩
theorem W9 (ha : PT X a tA) (hb : PW X (.BoolOp .Or (b :: ag2) pos) tB') : PW X (.BoolOp .Or (a :: b :: ag2) pos) (tOr tA tB') := by
  intro wh pins s σ H Q I h
  refine isTrue_or (thn (ha pins s σ H _ I h) fun c s1 ⟨H1, I1, q1⟩ => ?_)
  cases c with
  | true => exact ⟨H1, I1, q1⟩
  | false => exact hb wh pins s1 σ H1 Q I1 q1
theorem N0 (ha : PT X a tA) : PT X (.UnaryOp .Not a pos) (aR9 tA) := by
  intro pins s σ H Q I h
  exact isTrue_not (ha pins s σ H (fun c H1 => Q (!c) H1) I h)
def aC3 (ta tb : TE) : TE := fun σ H Q => ta σ H fun x H1 => ∃ c, x = .bl c ∧ if c = true then tb σ H1 Q else Q (.bl false) H1
def aR8 (ta tb : TE) : TE := fun σ H Q => ta σ H fun x H1 => ∃ c, x = .bl c ∧ if c = true then Q (.bl true) H1 else tb σ H1 Q
def aB8 (ta : TE) : TE := fun σ H Q => ta σ H fun x H1 => ∃ c, x = .bl c ∧ Q (.bl (!c)) H1
theorem ao9 {op} {t : TE} (h : PE X a t) : PE X (.BoolOp op [a] pos) t := fun pins s σ H Q I hw => BoolOp_one (h pins s σ H Q I hw)
theorem ai7 (ha : PE X a ta) (hb : PE X (.BoolOp .And (b :: ag2) pos) tb) : PE X (.BoolOp .And (a :: b :: ag2) pos) (aC3 ta tb) := by
  intro pins s σ H Q I h
  refine BoolOp_and (thn (ha pins s σ H _ I h) fun v s1 ⟨x, H1, I1, r1, q1⟩ => ?_)
  obtain ⟨c, rfl, q1⟩ := q1
  cases r1
  refine wpAny_truthy_bool ?_
  cases c with
  | true => exact hb pins s1 σ H1 Q I1 q1
  | false => exact ⟨.bl false, H1, I1, rfl, q1⟩
theorem bl9 (ha : PE X a ta) (hb : PE X (.BoolOp .Or (b :: ag2) pos) tb) : PE X (.BoolOp .Or (a :: b :: ag2) pos) (aR8 ta tb) := by
  intro pins s σ H Q I h
  refine BoolOp_or (thn (ha pins s σ H _ I h) fun v s1 ⟨x, H1, I1, r1, q1⟩ => ?_)
  obtain ⟨c, rfl, q1⟩ := q1
  cases r1
  refine wpAny_truthy_bool ?_
  cases c with
  | false => exact hb pins s1 σ H1 Q I1 q1
  | true => exact ⟨.bl true, H1, I1, rfl, q1⟩
theorem bh8 (ha : PE X a ta) : PE X (.UnaryOp .Not a pos) (aB8 ta) := by
  intro pins s σ H Q I h
  refine UnaryOp_ (thn (ha pins s σ H _ I h) fun v s1 ⟨x, H1, I1, r1, q1⟩ => ?_)
  obtain ⟨c, rfl, q1⟩ := q1
  cases r1
  exact not_of (wpAny_truthy_bool ⟨.bl (!c), H1, I1, rfl, q1⟩)
def tIf (t : TT) (ta tb : TE) : TE := fun σ H Q => t σ H fun c H1 => if c = true then ta σ H1 Q else tb σ H1 Q
theorem U2 {c : Expr} (hc : PT X c tA) (ha : PE X a ta) (hb : PE X b tb) : PE X (.IfExp c a b pos) (tIf tA ta tb) := by
  intro pins s σ H Q I h
  refine wpAny_IfExp (thn (hc pins s σ H _ I h) fun d s1 ⟨H1, I1, q1⟩ => ?_)
  cases d with
  | true => exact ha pins s1 σ H1 Q I1 q1
  | false => exact hb pins s1 σ H1 Q I1 q1
end
def SqL (K : PySem.W.Frag) (H : Hp) (a : Addr) (xs : List V) : Prop :=
  Rd H a (.lst xs) ∨
    ∃ (o : Obj) (its : Array Value) (n : Nat), K.lookup a = some o ∧ o.cls = .type "list" ∧ o.dict = none ∧ o.data = .seq its n ∧ its.size ≤ sizeLine ∧ j9 xs its.toList
def SqT (K : PySem.W.Frag) (H : Hp) (a : Addr) (xs : List V) : Prop :=
  Rd H a (.tup xs) ∨
    ∃ (o : Obj) (its : Array Value) (n : Nat), K.lookup a = some o ∧ o.cls = .type "tuple" ∧ o.data = .seq its n ∧ its.size ≤ sizeLine ∧ j9 xs its.toList
def bo9 : Value → Option V
  | .none => some .non
  | .bool b => some (.bl b)
  | .int i _ => some (.int i)
  | .str x _ => some (.str x)
  | .bytes b _ => some (.byt b)
  | .float b _ => some (.flt b)
  | .ref a => some (.ref a)
  | .type n => some (.ty n)
  | _ => none
theorem y7.abs {x : V} {u : Value} (r : y7 x u) : bo9 u = some x := by
  cases x with
  | non => cases r; rfl
  | bl _ => cases r; rfl
  | int _ => obtain ⟨t, rfl⟩ := r; rfl
  | str _ => obtain ⟨t, rfl⟩ := r; rfl
  | byt _ => obtain ⟨t, rfl⟩ := r; rfl
  | flt _ => obtain ⟨t, rfl⟩ := r; rfl
  | ref _ => cases r; rfl
  | ty _ => cases r; rfl
theorem y7.inj {x y : V} {u : Value} (r : y7 x u) (q : y7 y u) : x = y := Option.some.inj (r.abs.symm.trans q.abs)
theorem j9.inj : ∀ {xs ys : List V} {us : List Value}, j9 xs us → j9 ys us → xs = ys
  | _, _, _, .nil, .nil => rfl
  | _, _, _, .cons r t, .cons r' t' => by rw [r.inj r', j9.inj t t']
section
variable {X : Cx} {pins : List (Addr × Obj)} {σ : St} {H : Hp} {s : Shared} {a : Addr} {xs ys : List V}
theorem SqL.of {K : PySem.W.Frag} (h : H a = some (.lst xs)) : SqL K H a xs := .inl (.inl h)
theorem SqT.of {K : PySem.W.Frag} (h : H a = some (.tup xs)) : SqT K H a xs := .inl (.inl h)
theorem Inv.list (I : Inv X pins σ H s) (h : SqL X.K H a xs) : ∃ its : List Value, j9 xs its ∧ PlainL s.heap a its.toArray ∧ xs.length ≤ sizeLine := by
  rcases h with h | ⟨o, its, n, hk, hc, hd, hs, hz, r⟩
  · obtain ⟨z, its, n, r, e⟩ := h.ok I.hok
    exact ⟨its, r, ⟨_, n, e, rfl, rfl, rfl⟩, z⟩
  · refine ⟨its.toList, r, ⟨o, n, I.kIn a o hk, hc, hd, by simpa using hs⟩, ?_⟩
    have e := r.length
    simp only [Array.length_toList] at e
    omega
theorem Inv.tuple (I : Inv X pins σ H s) (h : SqT X.K H a xs) : ∃ its : List Value, j9 xs its ∧ IsTup s.heap a its.toArray ∧ xs.length ≤ sizeLine := by
  rcases h with h | ⟨o, its, n, hk, hc, hs, hz, r⟩
  · obtain ⟨z, its, r, p⟩ := h.ok I.hok
    exact ⟨its, r, p, z⟩
  · refine ⟨its.toList, r, ⟨o, I.kIn a o hk, hc, n, by simpa using hs⟩, ?_⟩
    have e := r.length
    simp only [Array.length_toList] at e
    omega
theorem Inv.list_inj (I : Inv X pins σ H s) (h : SqL X.K H a xs) (h' : SqL X.K H a ys) : xs = ys := by
  obtain ⟨its, r, ⟨o, n, e, _, _, d⟩, _⟩ := I.list h
  obtain ⟨its', r', ⟨o', n', e', _, _, d'⟩, _⟩ := I.list h'
  rw [e] at e'; cases e'
  rw [d] at d'
  injection d' with d1 _
  have : its = its' := by simpa using congrArg Array.toList d1
  subst this
  exact r.inj r'
theorem Inv.tuple_inj (I : Inv X pins σ H s) (h : SqT X.K H a xs) (h' : SqT X.K H a ys) : xs = ys := by
  obtain ⟨its, r, ⟨o, e, _, n, d⟩, _⟩ := I.tuple h
  obtain ⟨its', r', ⟨o', e', _, n', d'⟩, _⟩ := I.tuple h'
  rw [e] at e'; cases e'
  rw [d] at d'
  injection d' with d1 _
  have : its = its' := by simpa using congrArg Array.toList d1
  subst this
  exact r.inj r'
end
abbrev Cx.wish (X : Cx) (E : Value → Shared → Prop) : Cx := { X with xe := E }
abbrev Cx.nox (X : Cx) : Cx := X.wish fun _ _ => False
theorem Cx.Ok.wish {X : Cx} (ok : X.Ok) (E : Value → Shared → Prop) : (X.wish E).Ok :=
  ⟨ok.mod, ok.kind, ok.glob, ok.blt, ok.above, ok.inj, ok.has, ok.cab, ok.hd, ok.frames, ok.stk, ok.exf, ok.bs, ok.bsz, ok.noex, ok.exfs, ok.funs, ok.frf⟩
theorem Cx.Ok.unwish {X : Cx} {E : Value → Shared → Prop} (ok : (X.wish E).Ok) : X.Ok :=
  ⟨ok.mod, ok.kind, ok.glob, ok.blt, ok.above, ok.inj, ok.has, ok.cab, ok.hd, ok.frames, ok.stk, ok.exf, ok.bs, ok.bsz, ok.noex, ok.exfs, ok.funs, ok.frf⟩
section
variable {X : Cx} {pins : List (Addr × Obj)} {σ : St} {H : Hp} {s : Shared} {E : Value → Shared → Prop}
theorem Inv.wish (I : Inv X pins σ H s) (E : Value → Shared → Prop) : Inv (X.wish E) pins σ H s := ⟨I.ok.wish E, I.os, I.bare, I.base, I.loc, I.cell, I.free, I.freeC, I.pin, I.hok, I.len⟩
theorem Inv.unwish (I : Inv (X.wish E) pins σ H s) : Inv X pins σ H s := ⟨I.ok.unwish, I.os, I.bare, I.base, I.loc, I.cell, I.free, I.freeC, I.pin, I.hok, I.len⟩
theorem SP.unwish {D : ab8} {f : Flow} {s' : Shared} (h : SP (X.wish E) pins D f s') : SP X pins D f s' := by
  cases f with
  | next => obtain ⟨σ', H', I, q⟩ := h; exact ⟨σ', H', I.unwish, q⟩
  | brk => obtain ⟨σ', H', I, q⟩ := h; exact ⟨σ', H', I.unwish, q⟩
  | cont => obtain ⟨σ', H', I, q⟩ := h; exact ⟨σ', H', I.unwish, q⟩
  | ret u => obtain ⟨v, σ', H', I, r, q⟩ := h; exact ⟨v, σ', H', I.unwish, r, q⟩
theorem PSs.nox {st : List Stmt} {t : TS} (h : PSs X.nox st t) : PSs X st t := fun pins s σ H D I hw =>
  wpAny_mono (h pins s σ H D (I.wish _) hw) (fun _ _ q => q.unwish) fun _ _ z => False.elim z
end
section
variable {X : Cx} {st : Stmt} {ag2 : List Stmt} {t u : TS} {e : Expr} {te : TE} {pos : Pos}
def aB9 : TS := fun D σ H => D.nx σ H
def aM6 (t u : TS) : TS := fun D σ H => t { D with nx := u D } σ H
theorem t3 : PSs X [] aB9 := fun _ _ σ H _ I h => wpAny_execs_nil ⟨σ, H, I, h⟩
theorem b8 (h1 : PS X st t) (h2 : PSs X ag2 u) : PSs X (st :: ag2) (aM6 t u) := by
  intro pins s σ H D I h
  refine wpAny_execs_cons (thn (h1 pins s σ H { D with nx := u D } I h) fun f s1 q => ?_)
  cases f with
  | next =>
    obtain ⟨σ', H', I', q⟩ := q
    exact h2 pins s1 σ' H' D I' q
  | ret v => exact q
  | brk => exact q
  | cont => exact q
theorem d6 (h1 : PS X st t) : PSs X [st] t := by
  intro pins s σ H D I h
  refine wpAny_execs_cons (thn (h1 pins s σ H D I h) fun f s1 q => ?_)
  cases f with
  | next => exact wpAny_execs_nil q
  | ret v => exact q
  | brk => exact q
  | cont => exact q
def bg7 : TS := fun D σ H => D.bk σ H
theorem Inv.quiet {pins : List (Addr × Obj)} {σ : St} {H : Hp} {s : Shared} (I : Inv X pins σ H s) : interactive X.env = false := by simp [interactive, I.ok.kind]
def aC1 (te : TE) : TS := fun D σ H => te σ H fun _ H1 => D.nx σ H1
theorem P4 (he : PE X e te) (hs : swapsWith e none pos.line X.env = pure false := by rfl) : PS X (.Expr e pos) (aC1 te) := by
  intro pins s σ H D I h
  exact wpAny_Expr_any (thn (he pins s σ H _ I h) fun v s1 ⟨x, H1, I1, r1, q1⟩ => ⟨σ, H1, I1, q1⟩) I.quiet hs
def aM7 (te : TE) : TS := fun D σ H => te σ H D.rt
theorem i3 (he : PE X e te) : PS X (.Return (some e) pos) (aM7 te) := by
  intro pins s σ H D I h
  exact wpAny_Return_some (thn (he pins s σ H _ I h) fun v s1 ⟨x, H1, I1, r1, q1⟩ => ⟨x, σ, H1, I1, r1, q1⟩)
def bl2 : TS := fun D _ H => D.rt .non H
def aS1 (c : TT) (t u : TS) : TS := fun D σ H => c σ H fun b H1 => if b = true then t D σ H1 else u D σ H1
theorem C2 {c : Expr} {a b : List Stmt} {tc : TT} (hc : PT X c tc) (ha : PSs X a t) (hb : PSs X b u) : PS X (.If c a b pos) (aS1 tc t u) := by
  intro pins s σ H D I h
  refine wpAny_If (thn (hc pins s σ H _ I h) fun d s1 ⟨H1, I1, q1⟩ => ?_)
  cases d with
  | true => exact ha pins s1 σ H1 D I1 q1
  | false => exact hb pins s1 σ H1 D I1 q1
def ao0 : TS := fun _ _ _ => False
theorem aD4 : PS X st ao0 := fun _ _ _ _ _ _ h => h.elim
end
abbrev TG := V → St → Hp → (St → Hp → Prop) → Prop
abbrev TGs := List V → St → Hp → (St → Hp → Prop) → Prop
def PG (X : Cx) (target : Expr) (t : TG) : Prop :=
  ∀ (pins : List (Addr × Obj)) (s : Shared) (σ : St) (H : Hp) (v : V) (u : Value) (Q : St → Hp → Prop), Inv X pins σ H s → y7 v u → t v σ H Q →
    wpAny (model X.prog X.w) X.A (assign target X.env u) (fun _ s' => ∃ σ' H', Inv X pins σ' H' s' ∧ Q σ' H') X.xe s
def PGs (X : Cx) (ts : List Expr) (t : TGs) : Prop :=
  ∀ (pins : List (Addr × Obj)) (s : Shared) (σ : St) (H : Hp) (vs : List V) (us : List Value) (Q : St → Hp → Prop), Inv X pins σ H s → j9 vs us → t vs σ H Q →
    wpAny (model X.prog X.w) X.A (assignInOrder ((assignEach ts X.env).map (·.2)) us) (fun _ s' => ∃ σ' H', Inv X pins σ' H' s' ∧ Q σ' H') X.xe s
abbrev aY6 := V → V → V → Hp → (Hp → Prop) → Prop
def bk4 (X : Cx) (t : aY6) : Prop :=
  ∀ (pins : List (Addr × Obj)) (s : Shared) (σ : St) (H : Hp) (o i v : V) (ov iv u : Value) (Q : Hp → Prop), Inv X pins σ H s → y7 o ov → y7 i iv → y7 v u → t o i v H Q →
    wpAny (model X.prog X.w) X.A (setItem ov iv u) (fun _ s' => ∃ H', Inv X pins σ H' s' ∧ Q H') X.xe s
abbrev TIp := V → V → Hp → VK → Prop
def PIp (X : Cx) (op : Operator) (t : TIp) : Prop :=
  ∀ (pins : List (Addr × Obj)) (s : Shared) (σ : St) (H : Hp) (x y : V) (v u : Value) (Q : VK), Inv X pins σ H s → y7 x v → y7 y u → t x y H Q →
    wpAny (model X.prog X.w) X.A (inplaceOp op v u) (EP X pins σ Q) X.xe s
section
variable {X : Cx} {pos : Pos}
def p7 (i : Nat) : TG := fun v σ H Q => Q (σ.set i (some v)) H
theorem g6 {i : Nat} {x : Str} (hN : X.N.Nodup) (hi : X.N[i]? = some x) (hx : Loc X.env.scope x) (hf : X.fn x = true ∨ X.env.scope.names.lookup x = some .local := by first | exact .inl rfl | exact .inr rfl | assumption) : PG X (.Name x pos) (p7 i) := by
  intro pins s σ H v u Q I r h
  exact wpAny_assign_Name (U1 I hN hi hx r (fun s' I' => ⟨_, H, I', h⟩) hf)
def O6 : TGs := fun vs σ H Q => vs = [] ∧ Q σ H
def t5 (t : TG) (u : TGs) : TGs := fun vs σ H Q => ∃ v r, vs = v :: r ∧ t v σ H fun σ' H' => u r σ' H' Q
theorem B3 : PGs X [] O6 := by
  intro pins s σ H vs us Q I r h
  obtain ⟨e, h⟩ := h
  subst e
  cases r
  exact assignInOrder_nil ⟨σ, H, I, h⟩
theorem i4 {e : Expr} {es : List Expr} {t : TG} {u : TGs} (h1 : PG X e t) (h2 : PGs X es u)
    (hs : (assignEach (e :: es) X.env).map (·.2) = assign e X.env :: (assignEach es X.env).map (·.2) := by rfl) : PGs X (e :: es) (t5 t u) := by
  intro pins s σ H vs us Q I r h
  obtain ⟨v, vr, e1, h⟩ := h
  subst e1
  cases r with
  | cons r rr =>
    rw [hs]
    refine assignInOrder_cons (thn (h1 pins s σ H _ _ _ I r h) fun _ s1 ⟨σ1, H1, I1, q1⟩ => ?_)
    exact h2 pins s1 σ1 H1 _ _ Q I1 rr q1
def O5 (K : PySem.W.Frag) (n : Nat) (t : TGs) : TG := fun v σ H Q => ∃ a xs, v = .ref a ∧ SqT K H a xs ∧ xs.length = n ∧ t xs σ H Q
theorem D8 {es : List Expr} {k : Nat} {t : TGs} {n : Nat} (hc : X.calm = true) (h : PGs X es t)
    (hn : (assignEach es X.env).length = n := by rfl) (hst : (assignEach es X.env).findIdx? (·.1) = none := by rfl) : PG X (.Tuple es k pos) (O5 X.K n t) := by
  intro pins s σ H v u Q I r hw
  obtain ⟨a, xs, e1, hq, hl, hw⟩ := hw
  subst e1
  cases r
  obtain ⟨its, rv, ht, hz⟩ := I.tuple hq
  refine assign_Tuple_tuple (I.ok.hd hc) ht (by simp [hn, ← hl, rv.length]) hst fun h' hx => ?_
  have I1 : Inv X pins σ H { s with heap := h' } := I.kept (t' := s.toks) fun b o e => hx b o (Nat.ne_of_lt (Heap.lt_size e)) e
  exact h pins _ σ H xs _ Q I1 (by simpa using rv) hw
def aX3 (to ti : TE) (t : aY6) : TG := fun v σ H Q => to σ H fun o H1 => ti σ H1 fun i H2 => t o i v H2 fun H3 => Q σ H3
theorem ai6 {o i : Expr} {to ti : TE} {t : aY6} (ho : PE X o to) (hi : PE X i ti) (hs : bk4 X t)
    (ha : ∀ v, assign (.Subscript o i pos) X.env v = (do
      let ov ← holding [v] (eval o X.env)
      let iv ← holding [v, ov] (eval i X.env)
      standAt pos
      holding [v, ov, iv] (setItem ov iv v)
      release [v, ov, iv] []) := by intro _; rfl) : PG X (.Subscript o i pos) (aX3 to ti t) := by
  intro pins s σ H v u Q I r h
  rw [ha]
  refine wpAny_bind (wpAny_holding (thn (ho pins s σ H _ I h) fun ov s1 ⟨x, H1, I1, r1, q1⟩ => ?_))
  refine wpAny_bind (wpAny_holding (thn (hi pins s1 σ H1 _ I1 q1) fun iv s2 ⟨y, H2, I2, r2, q2⟩ => ?_))
  refine wpAny_bind (wpAny_standAt (wpAny_bind (wpAny_holding (thn (hs pins s2 σ H2 x y v ov iv u _ I2 r1 r2 r q2) fun _ s3 ⟨H3, I3, q3⟩ => ?_))))
  exact wpAny_release ⟨σ, H3, I3, q3⟩
def aG5 (te : TE) (g : TG) : TS := fun D σ H => te σ H fun x H1 => g x σ H1 D.nx
theorem G8 {tg e : Expr} {te : TE} {g : TG} (he : PE X e te) (hg : PG X tg g) (hs : swapsWithSole [tg] e pos.line X.env = pure false := by rfl) (hw : swappedStores [tg] e X.env = pure none := by rfl)
    (h1 : (assignEach [tg] X.env).map (·.2) = [assign tg X.env] := by rfl) : PS X (.Assign [tg] e pos) (aG5 te g) := by
  intro pins s σ H D I h
  refine wpAny_Assign_stores (thn (he pins s σ H _ I h) fun v s1 ⟨x, H1, I1, r1, q1⟩ => ?_) hs hw
  rw [h1]
  exact thn (hg pins s1 σ H1 x v _ I1 r1 q1) fun _ s2 q => q
theorem g7 {i : Nat} {x : Str} {e : Expr} {te : TE} {pos' : Pos} (hN : X.N.Nodup) (hi : X.N[i]? = some x) (hx : Loc X.env.scope x) (he : PE X e te) (hs : swapsWith e (some (.Name x pos')) pos.line X.env = pure false := by rfl) (hf : X.fn x = true ∨ X.env.scope.names.lookup x = some .local := by first | exact .inl rfl | exact .inr rfl | assumption) :
    PS X (.Assign [.Name x pos'] e pos) (aG5 te (p7 i)) := by
  intro pins s σ H D I h
  refine wpAny_Assign_Name (thn (he pins s σ H _ I h) fun v s1 ⟨y, H1, I1, r1, q1⟩ => ?_) hs
  exact U1 I1 hN hi hx r1 (fun s2 I2 => ⟨_, H1, I2, q1⟩) hf
def aM8 (i j : Nat) (ta : TA) : TS := fun D σ H => ta σ H fun vs H1 => ∃ v w, vs = [v, w] ∧ D.nx ((σ.set i (some v)).set j (some w)) H1
theorem X8 {i j : Nat} {x y : Str} {a b : Expr} {ta : TA} {px py pt : Pos} {kt k2 pt2} (hc : X.calm = true) (hN : X.N.Nodup) (hi : X.N[i]? = some x) (hj : X.N[j]? = some y) (hij : i ≠ j)
    (hx : X.env.scope.names.lookup x = some .local) (hy : X.env.scope.names.lookup y = some .local) (ha : PA X [a, b] ta)
    (hw : swappedStores [.Tuple [.Name x px, .Name y py] kt pt] (.Tuple [a, b] k2 pt2) X.env = pure (some [x, y]))
    (hs : swapsWithSole [.Tuple [.Name x px, .Name y py] kt pt] (.Tuple [a, b] k2 pt2) pos.line X.env = pure false := by rfl) :
    PS X (.Assign [.Tuple [.Name x px, .Name y py] kt pt] (.Tuple [a, b] k2 pt2) pos) (aM8 i j ta) := by
  intro pins s σ H D I h
  rw [exec_Assign_arm]
  refine wpAny_bind (wpAny_standAt ?_)
  rw [hs]
  refine wpAny_bind (wpAny_pure ?_)
  rw [if_neg (by decide)]
  refine wpAny_bind (Tuple_ (thn (ha _ pins s σ H _ I h) fun us s1 ⟨vs, H1, I1, r1, q1⟩ => ?_))
  obtain ⟨v, w, e1, q1⟩ := q1
  subst e1
  obtain ⟨u1, u2, rfl, rv, rw'⟩ : ∃ u1 u2, us = [u1, u2] ∧ y7 v u1 ∧ y7 w u2 := by
    cases r1 with
    | cons p q =>
      cases q with
      | cons p' q' =>
        cases q'
        exact ⟨_, _, rfl, p, p'⟩
  refine wpAny_newObj_type ?_ (by show 2 ≤ sizeLine; decide)
  have I2 : Inv X pins σ H1 { s1 with heap := s1.heap.push { cls := .type "tuple", data := .seq [u1, u2].toArray } } := I1.kept (t' := s1.toks) fun b o e => Heap.get?_push_of_some _ e
  rw [hw]
  refine wpAny_bind (wpAny_pure ?_)
  show wpAny (model X.prog X.w) X.A (do rule "assign.swapped-stores"; let items ← unpackItems (.ref s1.heap.objs.size) 2 none; assignInOrder [fun v => bindName X.env y v, fun v => bindName X.env x v] items.reverse; pure Flow.next) _ _ _
  refine wpAny_bind (wpAny_rule (wpAny_bind (unpackItems_tuple (items := #[u1, u2]) (I.ok.hd hc) (IsTup.new s1.heap _) fun h' hx' => ?_)))
  have I3 := I2.kept (h' := h') (t' := s1.toks) fun b o e => hx' b o (Nat.ne_of_lt (Heap.lt_size e)) e
  show wpAny _ _ (assignInOrder [fun v => bindName X.env y v, fun v => bindName X.env x v] [u2, u1] >>= fun _ => pure Flow.next) _ _ _
  refine wpAny_bind (assignInOrder_cons (wpAny_bindName (U1 I3 hN hj (.inl hy) rw' (fun s2 I4 => ?_) (.inr hy))))
  refine assignInOrder_cons (wpAny_bindName (U1 I4 hN hi (.inl hx) rv (fun s3 I5 => assignInOrder_nil (wpAny_pure ?_)) (.inr hx)))
  rw [List.set_comm _ _ (Ne.symm hij)] at I5
  exact ⟨_, H1, I5, q1⟩
def aS3 (i : Nat) (te : TE) (ti : TIp) : TS := fun D σ H => ∃ x, σ[i]? = some (some x) ∧ te σ H fun y H1 => ti x y H1 fun z H2 => D.nx (σ.set i (some z)) H2
theorem aG9 {i : Nat} {x : Str} {e : Expr} {te : TE} {op : Operator} {ti : TIp} {pos' : Pos} (hN : X.N.Nodup) (hi : X.N[i]? = some x) (hx : Loc X.env.scope x) (he : PE X e te) (ho : PIp X op ti) (hf : X.fn x = true ∨ X.env.scope.names.lookup x = some .local := by first | exact .inl rfl | exact .inr rfl | assumption) :
    PS X (.AugAssign (.Name x pos') op e pos) (aS3 i te ti) := by
  intro pins s σ H D I h
  obtain ⟨v, e1, h⟩ := h
  obtain ⟨m, hn, hl⟩ := I.loc
  have vis : Vis X.env.scope x := by rcases hx with k | k; exact .inl k; exact .inr (.inl k)
  obtain ⟨u, r, l⟩ := hl i x v hi e1 vis
  refine wpAny_AugAssign_Name ?_
  have go : wpAny (model X.prog X.w) X.A (eval e X.env) (fun w s₂ => wpAny (model X.prog X.w) X.A (inplaceOp op u w) (fun r s₃ => wpAny (model X.prog X.w) X.A (storeName X.env x r) (fun _ => SP X pins D .next) X.xe s₃) X.xe s₂) X.xe s := by
    refine thn (he pins s σ H _ I h) fun w s1 ⟨y, H1, I1, r1, q1⟩ => ?_
    refine thn (ho pins s1 σ H1 v y u w _ I1 r r1 q1) fun z s2 ⟨zv, H2, I2, r2, q2⟩ => ?_
    exact U1 I2 hN hi hx r2 (fun s3 I3 => ⟨_, H2, I3, q2⟩) hf
  rcases l with ⟨hk, hm⟩ | ⟨hk, c, hc, hcell⟩
  · exact wpAny_loadName_local I.ok.kind hk hn hm go
  · rcases hk with hk | hk
    · exact wpAny_loadName_cell I.ok.kind hk hc hcell go
    · rcases hx with k | k
      · have : X.env.scope.names.lookup x = some .free := hk
        rw [k] at this; cases this
      · have : X.env.scope.names.lookup x = some .free := hk
        rw [k] at this; cases this
def aC2 (to ti te : TE) (tget : V → V → Hp → VK → Prop) (tip : TIp) (tset : aY6) : TS := fun D σ H => to σ H fun o H1 => ti σ H1 fun i H2 => tget o i H2 fun x H3 => te σ H3 fun y H4 => tip x y H4 fun z H5 => tset o i z H5 fun H6 => D.nx σ H6
def bn3 (X : Cx) (t : V → V → Hp → VK → Prop) : Prop :=
  ∀ (pins : List (Addr × Obj)) (s : Shared) (σ : St) (H : Hp) (o i : V) (ov iv : Value) (Q : VK), Inv X pins σ H s → y7 o ov → y7 i iv → t o i H Q →
    wpAny (model X.prog X.w) X.A (getItem ov iv) (EP X pins σ Q) X.xe s
theorem ba3 {o i e : Expr} {to ti te : TE} {tget : V → V → Hp → VK → Prop} {tip : TIp} {tset : aY6} {op : Operator} {tpos : Pos} (ho : PE X o to) (hi : PE X i ti) (hg : bn3 X tget) (he : PE X e te) (hp : PIp X op tip) (hs : bk4 X tset)
    (ha : ∀ ov iv new, augStore i ov iv new = (do holding [new, ov, iv] (setItem ov iv new); release [new, ov, iv] []; pure .next) := by intros; rfl) : PS X (.AugAssign (.Subscript o i tpos) op e pos) (aC2 to ti te tget tip tset) := by
  intro pins s σ H D I h
  refine wpAny_AugAssign_SubscriptAny (thn (ho pins s σ H _ I h) fun ov s1 ⟨x1, H1, I1, r1, q1⟩ => ?_) ha
  refine thn (hi pins s1 σ H1 _ I1 q1) fun iv s2 ⟨x2, H2, I2, r2, q2⟩ => ?_
  refine thn (hg pins s2 σ H2 x1 x2 ov iv _ I2 r1 r2 q2) fun old s3 ⟨x3, H3, I3, r3, q3⟩ => ?_
  refine thn (he pins s3 σ H3 _ I3 q3) fun v s4 ⟨x4, H4, I4, r4, q4⟩ => ?_
  refine thn (hp pins s4 σ H4 x3 x4 old v _ I4 r3 r4 q4) fun new s5 ⟨x5, H5, I5, r5, q5⟩ => ?_
  exact thn (hs pins s5 σ H5 x1 x2 x5 ov iv new _ I5 r1 r2 r5 q5) fun _ s6 ⟨H6, I6, q6⟩ => ⟨σ, H6, I6, q6⟩
def ipI (f : Int → Int → Int) : TIp := fun x y H Q => ∃ i j, x = .int i ∧ y = .int j ∧ Q (.int (f i j)) H
theorem aI3 : PIp X .Sub (ipI fun i j => i - j) := by
  intro pins s σ H x y v u Q I r1 r2 h
  obtain ⟨i, j, e1, e2, q⟩ := h
  subst e1; subst e2
  obtain ⟨t, rfl⟩ := r1
  obtain ⟨t', rfl⟩ := r2
  exact isub_int ⟨.int _, H, I.tok _, ⟨_, rfl⟩, q⟩
end
section
variable {X : Cx} {pos : Pos}
def ai2 (c : TT) (tb : TS) : TS := fun D σ H => ∃ W : Nat → St → Hp → Prop, (∃ m, W m σ H) ∧ ∀ m σ H, W m σ H →
  c σ H fun b H1 => if b = true then ∃ N : St → Hp → Prop, (∀ σ' H', N σ' H' → ∃ m', m' < m ∧ W m' σ' H') ∧ tb { D with nx := N, ct := N, bk := D.nx } σ H1 else D.nx σ H1
theorem O4 {c : Expr} {body : List Stmt} {tc : TT} {tb : TS} (hp : PassesOwn (model X.prog X.w) X.A X.env X.xe) (hc : PT X c tc) (hb : PSs X body tb) : PS X (.While c body [] pos) (ai2 tc tb) := by
  intro pins s σ H D I h
  obtain ⟨W, ⟨m0, w0⟩, turn⟩ := h
  refine wpAny_While (codeAny_whileLoop (fun n s' => ∃ σ' H', Inv X pins σ' H' s' ∧ W n σ' H') ?_ m0 ⟨σ, H, I, w0⟩)
  rintro n s1 ⟨σ1, H1, I1, w1⟩
  refine wpAny_passesOwn hp (thn (hc pins s1 σ1 H1 _ I1 (turn n σ1 H1 w1)) fun b s2 ⟨H2, I2, q2⟩ => ?_)
  cases b with
  | true =>
    obtain ⟨N, hN, q2⟩ := q2
    rw [if_pos rfl]
    refine wpAny_passesOwn hp (thn (hb pins s2 σ1 H2 _ I2 q2) fun f s3 q3 => ?_)
    cases f with
    | next =>
      obtain ⟨σ3, H3, I3, n3⟩ := q3
      obtain ⟨m', hm, w3⟩ := hN σ3 H3 n3
      exact ⟨m', hm, σ3, H3, I3, w3⟩
    | cont =>
      obtain ⟨σ3, H3, I3, n3⟩ := q3
      obtain ⟨m', hm, w3⟩ := hN σ3 H3 n3
      exact ⟨m', hm, σ3, H3, I3, w3⟩
    | brk => exact q3
    | ret v => exact q3
  | false =>
    rw [if_neg Bool.false_ne_true]
    exact wpAny_execs_nil ⟨σ1, H2, I2, q2⟩
end
structure It where
  go : Nat → Hp → Prop
  yld : Nat → Hp → V → Hp → Prop
  stop : Nat → Hp → Prop
def aj8 (X : Cx) (pins : List (Addr × Obj)) (H : Hp) (b : Addr) : Prop :=
  H b = none ∧ b ≠ X.env.locals ∧ b ∉ X.fs ∧ (b ∈ X.ex ∨ X.s₀.heap.objs.size ≤ b) ∧ (∀ x c, X.env.cells.lookup x = some c → c ≠ b) ∧ ∀ p ∈ X.pn ++ pins, p.1 ≠ b
theorem Inv.fpOk {X : Cx} {pins : List (Addr × Obj)} {σ : St} {H H' : Hp} {s : Shared} {b : Addr} (I : Inv X pins σ H s) (hb : s.heap.objs.size ≤ b) (hn : H' b = none) : aj8 X pins H' b := by
  refine ⟨hn, Nat.ne_of_gt (Nat.lt_of_lt_of_le I.lt hb), I.nofs hb, .inr (Nat.le_trans I.sz hb), fun x c e z => ?_, fun p hp z => ?_⟩
  · obtain ⟨v, q⟩ := I.cell x c e
    exact absurd (Nat.lt_of_lt_of_le q.lt (by rw [z]; exact hb)) (Nat.lt_irrefl _)
  · exact absurd (Nat.lt_of_lt_of_le (Heap.lt_size (I.pin p hp).1) (by rw [z]; exact hb)) (Nat.lt_irrefl _)
structure aQ5 (P : Program) (w : World) (K : PySem.W.Frag) (tg : Expr) (J : It) (fp : List Addr) (it : Addr) (tn : Nat → Heap → Prop) : Prop where
  mem : it ∈ fp
  obj : ∀ i h, tn i h → ∀ b ∈ fp, ∃ o, h.get? b = some o ∧ ∀ v, o.data ≠ .cell v
  keep : ∀ i h h', tn i h → (∀ b ∈ fp, ∀ o, h.get? b = some o → h'.get? b = some o) → tn i h'
  item : ∀ (X : Cx), X.prog = P → X.w = w → X.K = K → X.calm = true → ∀ (i : Nat) (pins : List (Addr × Obj)) (s : Shared) (σ : St) (H : Hp) (E : Value → Shared → Prop), Inv X pins σ H s → (∀ b ∈ fp, aj8 X pins H b) → tn i s.heap → J.go i H →
    wpAny (model P w) X.A (pyNext (.ref it)) (fun r s1 => ∃ u, r = some u ∧
      wpAny (model P w) X.A (letOwnedTupleGo tg (.ref it) u) (fun _ s2 => ∃ x H', Inv X pins σ H' s2 ∧ y7 x u ∧ J.yld i H x H' ∧ tn (i + 1) s2.heap ∧ ∀ b ∈ fp, H' b = none) E s1) E s
  done : ∀ (X : Cx), X.prog = P → X.w = w → X.K = K → X.calm = true → ∀ (i : Nat) (pins : List (Addr × Obj)) (s : Shared) (σ : St) (H : Hp) (E : Value → Shared → Prop), Inv X pins σ H s → (∀ b ∈ fp, aj8 X pins H b) → tn i s.heap → J.stop i H →
    wpAny (model P w) X.A (pyNext (.ref it)) (fun r s1 => r = none ∧ Inv X pins σ H s1) E s
  self : ∀ (A : Around) (i : Nat) (s : Shared) (Q : Value → Shared → Prop) (E : Value → Shared → Prop), tn i s.heap → Q (.ref it) s → wpAny (model P w) A (pyIter (.ref it)) Q E s
abbrev TI := St → Hp → (It → Hp → Prop) → Prop
def PIE (X : Cx) (pins : List (Addr × Obj)) (σ : St) (tg : Expr) (R : It → Hp → Prop) (itv : Value) (s2 : Shared) : Prop :=
  ∃ (it : Addr) (fp : List Addr) (tn : Nat → Heap → Prop) (J : It) (H' : Hp), itv = .ref it ∧ Inv X pins σ H' s2 ∧ aQ5 X.prog X.w X.K tg J fp it tn ∧ tn 0 s2.heap ∧ (∀ b ∈ fp, aj8 X pins H' b) ∧ R J H'
def PI (X : Cx) (tg iter : Expr) (wi : TI) : Prop :=
  ∀ (pins : List (Addr × Obj)) (s : Shared) (σ : St) (H : Hp) (R : It → Hp → Prop), Inv X pins σ H s → wi σ H R →
    wpAny (model X.prog X.w) X.A (eval iter X.env) (fun v s1 => wpAny (model X.prog X.w) X.A (pyIter v) (PIE X pins σ tg R) X.xe s1) X.xe s
theorem aK9 {M : Model} {A : Around} {E : Value → Shared → Prop} {s : Shared} {tg : Expr} {it : Addr} {u : Value} {o : Obj} {n : String} {vs : Array Value} {Q : Unit → Shared → Prop} (ho : s.heap.get? it = some o) (hc : o.cls = .type n) (hd : o.data = .fields vs)
    (hn : ["enumerate", "zip", "dict_itemiterator", "dict_reverseitemiterator", "odict_iterator", "itertools.zip_longest", "itertools.pairwise"].contains n = false) (hQ : Q () s) : wpAny M A (letOwnedTupleGo tg (.ref it) u) Q E s := by
  unfold letOwnedTupleGo
  cases tg <;> first
    | exact wpAny_pure hQ
    | (cases u <;> first
        | exact wpAny_pure hQ
        | (refine wpAny_bind (wpAny_load ho ?_)
           rw [hc, hd]
           show wpAny M A (if (["enumerate", "zip", "dict_itemiterator", "dict_reverseitemiterator", "odict_iterator", "itertools.zip_longest", "itertools.pairwise"].contains n && vs[0]? == some (rawInt _)) = true then _ else _) Q E s
           rw [if_neg (by intro h; rw [hn, Bool.false_and] at h; cases h)]
           exact wpAny_pure hQ))
def Itl (K : PySem.W.Frag) (a : Addr) : It :=
  ⟨fun i H => ∃ xs x, SqL K H a xs ∧ xs[i]? = some x, fun i H x H' => H' = H ∧ ∀ xs, SqL K H a xs → xs[i]? = some x, fun i H => ∃ xs, SqL K H a xs ∧ xs.length ≤ i⟩
def Itt (K : PySem.W.Frag) (a : Addr) : It :=
  ⟨fun i H => ∃ xs x, SqT K H a xs ∧ xs[i]? = some x, fun i H x H' => H' = H ∧ ∀ xs, SqT K H a xs → xs[i]? = some x, fun i H => ∃ xs, SqT K H a xs ∧ xs.length ≤ i⟩
def Itr (lo : Int) (n : Nat) : It := ⟨fun i _ => i < n, fun i H x H' => H' = H ∧ x = .int (lo + i), fun i _ => n ≤ i⟩
theorem aM2 {P : Program} {w : World} {K : PySem.W.Frag} {tg : Expr} (a it : Addr) : aQ5 P w K tg (Itl K a) [it] it (fun i h => h.IsListIter it a i) where
  mem := by simp
  obj := fun i h st b hb => by
    have e : b = it := by simpa using hb
    subst e
    obtain ⟨o, e, c, d⟩ := st
    exact ⟨o, e, fun v z => by rw [d] at z; cases z⟩
  keep := fun i h h' st k => st.at fun o e => k it (by simp) o e
  item := by
    intro X hP hw hK hc i pins s σ H E I hf st hg
    subst hP hw hK
    obtain ⟨xs, x, hq, hx⟩ := hg
    obtain ⟨its, rv, p, hz⟩ := I.list hq
    obtain ⟨u, hu, ru⟩ := rv.get hx
    obtain ⟨f0, f1, f2, f3, f4, f5⟩ := hf it (by simp)
    refine wpAny_pyNext_list_item st p.isList (x := u) (by simpa using hu) fun h' st' sb => ?_
    have I1 : Inv X pins σ H { s with heap := h' } := I.turned (t' := s.toks) (fun b o hb e => (sb.2 b hb).trans e) f0 f1 f3 f4 f5
    obtain ⟨o, e, c, d⟩ := id st'
    exact ⟨u, rfl, aK9 (s := { s with heap := h' }) e c d (by decide) ⟨x, H, I1, ru, ⟨rfl, fun ys hy => by rw [I.list_inj hy hq]; exact hx⟩, st', fun b hb => (hf b hb).1⟩⟩
  done := by
    intro X hP hw hK hc i pins s σ H E I hf st hg
    subst hP hw hK
    obtain ⟨xs, hq, hx⟩ := hg
    obtain ⟨its, rv, p, hz⟩ := I.list hq
    obtain ⟨f0, f1, f2, f3, f4, f5⟩ := hf it (by simp)
    have hl := rv.length
    exact wpAny_pyNext_list_end (I.ok.hd hc) st p.isList (by simp; omega) fun h' eb => ⟨rfl, I.turned (t' := s.toks) (fun b o hb e => eb b o hb e) f0 f1 f3 f4 f5⟩
  self := fun _ _ _ _ _ st h => wpAny_pyIter_listiter st h
theorem aG3 {P : Program} {w : World} {K : PySem.W.Frag} {tg : Expr} (it : Addr) (lo : Int) (n : Nat) : aQ5 P w K tg (Itr lo n) [it] it (fun i h => IsRangeIter h it (lo + (i : Nat) * 1) ((n : Int) - (i : Nat)) 1) where
  mem := by simp
  obj := fun i h st b hb => by
    have e : b = it := by simpa using hb
    subst e
    exact ⟨_, st, fun v z => by
      have z' : Data.fields _ = Data.cell v := z
      cases z'⟩
  keep := fun i h h' st k => k it (by simp) _ st
  item := by
    intro X hP hw hK hc i pins s σ H E I hf st hg
    subst hP hw hK
    obtain ⟨f0, f1, f2, f3, f4, f5⟩ := hf it (by simp)
    have W := Walks.range (prog := X.prog) (w := X.w) (I.ok.hd hc) it lo 1 n
    refine W.item i s _ _ hg st fun v h' tk hv st' kk => ?_
    obtain ⟨t, rfl⟩ := hv
    have I1 : Inv X pins σ H { s with heap := h', toks := tk } := I.turned (fun b o hb e => kk b o (by simpa using hb) e) f0 f1 f3 f4 f5
    refine ⟨_, rfl, aK9 (s := { s with heap := h', toks := tk }) (n := "range_iterator") st' rfl rfl (by decide) ⟨.int (lo + i), H, I1, ⟨t, ?_⟩, ⟨rfl, rfl⟩, st', fun b hb => (hf b hb).1⟩⟩
    rw [Int.mul_one]
  done := by
    intro X hP hw hK hc i pins s σ H E I hf st hg
    subst hP hw hK
    obtain ⟨f0, f1, f2, f3, f4, f5⟩ := hf it (by simp)
    exact wpAny_pyNext_range_end (I.ok.hd hc) st (by have : n ≤ i := hg; omega) fun h' eb => ⟨rfl, I.turned (t' := s.toks) (fun b o hb e => eb b o hb e) f0 f1 f3 f4 f5⟩
  self := fun _ _ _ _ _ st h => wpAny_pyIter_rangeiter st h
section
variable {X : Cx} {tg : Expr}
def aF1 (K : PySem.W.Frag) (tl : TE) : TI := fun σ H R => tl σ H fun x H1 => ∃ a, x = .ref a ∧ (∃ xs, SqL K H1 a xs) ∧ R (Itl K a) H1
def bo6 (K : PySem.W.Frag) (tl : TE) : TI := fun σ H R => tl σ H fun x H1 => ∃ a, x = .ref a ∧ (∃ xs, SqT K H1 a xs) ∧ R (Itt K a) H1
theorem E8 {l : Expr} {tl : TE} (hl : PE X l tl) : PI X tg l (aF1 X.K tl) := by
  intro pins s σ H R I h
  refine thn (hl pins s σ H _ I h) fun v s1 ⟨x, H1, I1, r1, q1⟩ => ?_
  obtain ⟨a, e, ⟨xs, hq⟩, q⟩ := q1
  subst e
  cases r1
  obtain ⟨its, rv, p, hz⟩ := I1.list hq
  refine wpAny_pyIter_list p.isList ?_
  refine ⟨s1.heap.objs.size, [s1.heap.objs.size], _, _, H1, rfl, I1.kept (t' := s1.toks) fun b o e => Heap.get?_push_of_some _ e, aM2 a _, ⟨_, Heap.get?_push_size _ rfl, rfl, rfl⟩, fun b hb => ?_, q⟩
  have e : b = s1.heap.objs.size := by simpa using hb
  subst e
  exact I1.fpOk (Nat.le_refl _) (I1.hok.fresh (Nat.le_refl _))
theorem aT3 {pins : List (Addr × Obj)} {σ : St} {H : Hp} {s : Shared} {R : It → Hp → Prop} {E : Value → Shared → Prop} {lo hi : Int} {t u v : Tok} {tk : Nat} (I : Inv X pins σ H s) (h1 : -(2 ^ 62) ≤ lo) (h2 : lo < 2 ^ 62) (h3 : -(2 ^ 62) ≤ hi) (h4 : hi < 2 ^ 62)
    (q : R (Itr lo (hi - lo).toNat) H) : wpAny (model X.prog X.w) X.A (pyIter (.ref s.heap.objs.size)) (PIE X pins σ tg R) E { s with heap := s.heap.push { cls := .type "range", data := .fields #[.int lo t, .int hi u, .int 1 v] }, toks := tk } := by
  refine wpAny_pyIter_range (IsRange.new ..) (small_one h1 h2 h3 h4) ?_
  have I1 : Inv X pins σ H { s with heap := s.heap.push { cls := .type "range", data := .fields #[.int lo t, .int hi u, .int 1 v] }, toks := tk } := I.kept fun b o e => Heap.get?_push_of_some _ e
  refine ⟨(s.heap.push { cls := .type "range", data := .fields #[.int lo t, .int hi u, .int 1 v] }).objs.size, [(s.heap.push { cls := .type "range", data := .fields #[.int lo t, .int hi u, .int 1 v] }).objs.size], _, _, H, rfl,
    I1.kept (t' := tk) fun b o e => Heap.get?_push_of_some _ e, aG3 _ lo (hi - lo).toNat, ?_, fun b hb => ?_, q⟩
  · have e1 : lo + ((0 : Nat) : Int) * 1 = lo := by simp
    have e2 : (((hi - lo).toNat : Nat) : Int) - ((0 : Nat) : Int) = Builtin.Range.rangeSize lo hi 1 := by rw [rangeSize_one]; split <;> omega
    show IsRangeIter _ _ (lo + ((0 : Nat) : Int) * 1) ((((hi - lo).toNat : Nat) : Int) - ((0 : Nat) : Int)) 1
    rw [e1, e2]
    exact Heap.get?_push_size _ rfl
  · have e : b = (s.heap.push { cls := .type "range", data := .fields #[.int lo t, .int hi u, .int 1 v] }).objs.size := by simpa using hb
    subst e
    exact I1.fpOk (Nat.le_refl _) (I1.hok.fresh (Nat.le_refl _))
def aF0 (ta : TA) : TI := fun σ H R => ta σ H fun vs H1 => ∃ j : Int, vs = [.int j] ∧ -(2 ^ 62) ≤ j ∧ j < 2 ^ 62 ∧ R (Itr 0 j.toNat) H1
def bm7 (ta : TA) : TI := fun σ H R => ta σ H fun vs H1 => ∃ i j : Int, vs = [.int i, .int j] ∧ (-(2 ^ 62) ≤ i ∧ i < 2 ^ 62 ∧ -(2 ^ 62) ≤ j ∧ j < 2 ^ 62) ∧ R (Itr i (j - i).toNat) H1
theorem ab2 {a : Expr} {ta : TA} {p pos : Pos} (hg : Gl X "range") (hm : X.mg "range" = none) (ha : PA X [a] ta) (hs : starEach [a] X.env = [(false, eval a X.env)] := by rfl) : PI X tg (.Call (.Name "range" p) [a] [] pos) (aF0 ta) := by
  intro pins s σ H R I h
  refine Call_ (Z3 I hg hm boot_range (PyProof.Rows.callWith_type1 (thn (ha pos pins s σ H _ I h) fun us s1 ⟨vs, H1, I1, r1, q1⟩ => ?_) hs rfl))
  obtain ⟨j, e, q1, q2, q⟩ := q1
  subst e
  cases r1 with
  | cons r rr =>
    cases rr
    obtain ⟨t, rfl⟩ := r
    exact call_range_1 (aT3 I1 (by omega) (by omega) q1 q2 (by simpa using q))
def bn7 (wi : TI) (g : TG) (tb : TS) : TS := fun D σ H => wi σ H fun J H1 => ∃ W : Nat → Nat → St → Hp → Prop, (∃ m, W 0 m σ H1) ∧ ∀ i m σ H, W i m σ H →
  (J.stop i H ∧ D.nx σ H) ∨ (J.go i H ∧ ∃ N : St → Hp → Prop, (∀ σ' H', N σ' H' → ∃ m', m' < m ∧ W (i + 1) m' σ' H') ∧ ∀ x H', J.yld i H x H' → g x σ H' fun σ2 H2 => tb { D with nx := N, ct := N, bk := D.nx } σ2 H2)
def az2 (fp : List Addr) (h : Heap) : List (Addr × Obj) := fp.filterMap fun b => (h.get? b).map fun o => (b, o)
theorem B5 {fp : List Addr} {h : Heap} {b : Addr} {o : Obj} (hb : b ∈ fp) (e : h.get? b = some o) : (b, o) ∈ az2 fp h := List.mem_filterMap.mpr ⟨b, hb, by rw [e]; rfl⟩
theorem aO3 {fp : List Addr} {h : Heap} {p : Addr × Obj} (hp : p ∈ az2 fp h) : p.1 ∈ fp ∧ h.get? p.1 = some p.2 := by
  obtain ⟨b, hb, e⟩ := List.mem_filterMap.mp hp
  cases q : h.get? b with
  | none => rw [q] at e; cases e
  | some o =>
    rw [q] at e
    have e' : (b, o) = p := Option.some.inj e
    subst e'
    exact ⟨hb, q⟩
theorem Inv.pinned {pins : List (Addr × Obj)} {σ : St} {H : Hp} {s : Shared} {fp : List Addr} (I : Inv X pins σ H s) (hf : ∀ b ∈ fp, aj8 X pins H b) (ho : ∀ b ∈ fp, ∃ o, s.heap.get? b = some o ∧ ∀ v, o.data ≠ .cell v) : Inv X (pins ++ az2 fp s.heap) σ H s :=
  I.pins_of fun p hp => (List.mem_append.mp hp).elim (fun z => I.pin p (List.mem_append_right _ z)) fun z => by
    obtain ⟨hb, e⟩ := aO3 z
    obtain ⟨f0, f1, f2, _⟩ := hf p.1 hb
    obtain ⟨o, e', d⟩ := ho p.1 hb
    rw [e] at e'; cases e'
    exact ⟨e, f0, f1, f2, d⟩
theorem Inv.unpinned {pins pl : List (Addr × Obj)} {σ : St} {H : Hp} {s : Shared} (I : Inv X (pins ++ pl) σ H s) : Inv X pins σ H s := I.pins_of fun p hp => I.pin p (List.mem_append_right _ (List.mem_append_left _ hp))
theorem N1 {iter : Expr} {body : List Stmt} {wi : TI} {g : TG} {tb : TS} {pos : Pos} (hp : PassesOwn (model X.prog X.w) X.A X.env X.xe) (hc : X.calm = true) (hi : PI X tg iter wi) (hg : PG X tg g) (hb : PSs X body tb)
    (hs : ∀ x, foldedSetIterable iter X.env x = pure x := by intro _; rfl) : PS X (.For tg iter body [] pos) (bn7 wi g tb) := by
  intro pins s σ H D I h
  refine wpAny_For (thn (hi pins s σ H _ I h) fun v s1 h1 => thn h1 fun itv s2 h2 => ?_) hs
  obtain ⟨it, fp, tn, J, H2, e, I2, T, st2, f2, W, ⟨m0, w0⟩, turn⟩ := h2
  subst e
  -- what stays true of the iterator's objects through the loop
  have stat : ∀ {H' : Hp}, (∀ b ∈ fp, H' b = none) → ∀ b ∈ fp, aj8 X pins H' b := fun hn b hb => ⟨hn b hb, (f2 b hb).2⟩
  refine codeAny_forLoop_any (fun n s' => ∃ i σ' H', Inv X pins σ' H' s' ∧ tn i s'.heap ∧ (∀ b ∈ fp, H' b = none) ∧ W i n σ' H') ?_ m0 ⟨0, σ, H2, I2, st2, fun b hb => (f2 b hb).1, w0⟩
  rintro n s3 ⟨i, σ3, H3, I3, st3, fr3, w3⟩
  rcases turn i n σ3 H3 w3 with ⟨stop, qn⟩ | ⟨go, N, hN, step⟩
  · refine wpAny_passesOwn hp (thn (T.done X rfl rfl rfl hc i pins s3 σ3 H3 X.xe I3 (stat fr3) st3 stop) fun r s4 ⟨hr, I4⟩ => ?_)
    subst hr
    exact wpAny_execs_nil ⟨σ3, H3, I4, qn⟩
  · refine wpAny_passesOwn hp (thn (T.item X rfl rfl rfl hc i pins s3 σ3 H3 X.xe I3 (stat fr3) st3 go) fun r s4 ⟨u, hr, h4⟩ => ?_)
    subst hr
    refine wpAny_passesOwn hp (thn h4 fun _ s5 ⟨x, H5, I5, r5, y5, st5, fr5⟩ => ?_)
    have I5' := I5.pinned (stat fr5) (T.obj _ _ st5)
    refine wpAny_passesOwn hp (thn (hg _ s5 σ3 H5 x u _ I5' r5 (step x H5 y5)) fun _ s6 ⟨σ6, H6, I6, q6⟩ => ?_)
    refine wpAny_passesOwn hp (thn (hb _ s6 σ6 H6 _ I6 q6) fun f s7 q7 => ?_)
    have again : ∀ {σ7 : St} {H7 : Hp}, Inv X (pins ++ az2 fp s5.heap) σ7 H7 s7 → N σ7 H7 → ∃ m, m < n ∧ ∃ i σ' H', Inv X pins σ' H' s7 ∧ tn i s7.heap ∧ (∀ b ∈ fp, H' b = none) ∧ W i m σ' H' := fun {σ7 H7} I7 n7 => by
      obtain ⟨m', hm, w7⟩ := hN σ7 H7 n7
      refine ⟨m', hm, i + 1, σ7, H7, I7.unpinned, T.keep _ _ _ st5 fun b hb o e => (I7.pin (b, o) (List.mem_append_right _ (List.mem_append_right _ (B5 hb e)))).1, fun b hb => ?_, w7⟩
      obtain ⟨o, e, d⟩ := T.obj _ _ st5 b hb
      exact (I7.pin (b, o) (List.mem_append_right _ (List.mem_append_right _ (B5 hb e)))).2.1
    cases f with
    | next => obtain ⟨σ7, H7, I7, n7⟩ := q7; exact again I7 n7
    | cont => obtain ⟨σ7, H7, I7, n7⟩ := q7; exact again I7 n7
    | brk => obtain ⟨σ7, H7, I7, q7⟩ := q7; exact ⟨σ7, H7, I7.unpinned, q7⟩
    | ret v => obtain ⟨x7, σ7, H7, I7, r7, q7⟩ := q7; exact ⟨x7, σ7, H7, I7.unpinned, r7, q7⟩
end
theorem Z4 {K : PySem.W.Frag} {a : Addr} {xs : List V} {g : TG} {tb : TS} {D : ab8} {σ : St} {H : Hp} (Pv : Nat → St → Hp → Prop) (h0 : Pv 0 σ H) (hl : ∀ i σ H, i ≤ xs.length → Pv i σ H → SqL K H a xs)
    (hs : ∀ i x σ H, xs[i]? = some x → Pv i σ H → g x σ H fun σ2 H2 => tb { D with nx := Pv (i + 1), ct := Pv (i + 1), bk := D.nx } σ2 H2) (hd : ∀ σ H, Pv xs.length σ H → D.nx σ H) :
    ∃ W : Nat → Nat → St → Hp → Prop, (∃ m, W 0 m σ H) ∧ ∀ i m σ H, W i m σ H →
      ((Itl K a).stop i H ∧ D.nx σ H) ∨ ((Itl K a).go i H ∧ ∃ N : St → Hp → Prop, (∀ σ' H', N σ' H' → ∃ m', m' < m ∧ W (i + 1) m' σ' H') ∧ ∀ x H', (Itl K a).yld i H x H' → g x σ H' fun σ2 H2 => tb { D with nx := N, ct := N, bk := D.nx } σ2 H2) := by
  refine ⟨fun i m σ H => m = xs.length - i ∧ i ≤ xs.length ∧ Pv i σ H, ⟨xs.length, by simp, Nat.zero_le _, h0⟩, ?_⟩
  rintro i m σ H ⟨rfl, hi, p⟩
  have q := hl i σ H hi p
  by_cases hlt : i < xs.length
  · refine .inr ⟨⟨xs, xs[i], q, by simp [hlt]⟩, Pv (i + 1), fun σ' H' p' => ⟨xs.length - (i + 1), by omega, rfl, hlt, p'⟩, fun x H' y => ?_⟩
    obtain ⟨e, y⟩ := y
    subst e
    exact hs i x σ _ (y xs q) p
  · have e : i = xs.length := by omega
    subst e
    exact .inl ⟨⟨xs, q, Nat.le_refl _⟩, hd σ H p⟩
theorem aj3 {lo : Int} {n : Nat} {g : TG} {tb : TS} {D : ab8} {σ : St} {H : Hp} (Pv : Nat → St → Hp → Prop) (h0 : Pv 0 σ H)
    (hs : ∀ i σ H, i < n → Pv i σ H → g (.int (lo + i)) σ H fun σ2 H2 => tb { D with nx := Pv (i + 1), ct := Pv (i + 1), bk := D.nx } σ2 H2) (hd : ∀ σ H, Pv n σ H → D.nx σ H) :
    ∃ W : Nat → Nat → St → Hp → Prop, (∃ m, W 0 m σ H) ∧ ∀ i m σ H, W i m σ H →
      ((Itr lo n).stop i H ∧ D.nx σ H) ∨ ((Itr lo n).go i H ∧ ∃ N : St → Hp → Prop, (∀ σ' H', N σ' H' → ∃ m', m' < m ∧ W (i + 1) m' σ' H') ∧ ∀ x H', (Itr lo n).yld i H x H' → g x σ H' fun σ2 H2 => tb { D with nx := N, ct := N, bk := D.nx } σ2 H2) := by
  refine ⟨fun i m σ H => m = n - i ∧ i ≤ n ∧ Pv i σ H, ⟨n, by simp, Nat.zero_le _, h0⟩, ?_⟩
  rintro i m σ H ⟨rfl, hi, p⟩
  by_cases hlt : i < n
  · refine .inr ⟨hlt, Pv (i + 1), fun σ' H' p' => ⟨n - (i + 1), by omega, rfl, hlt, p'⟩, fun x H' y => ?_⟩
    obtain ⟨e, y⟩ := y
    subst e y
    exact hs i σ _ hlt p
  · have e : i = n := by omega
    subst e
    exact .inl ⟨Nat.le_refl _, hd σ H p⟩
theorem aB5 {c : TT} {tb : TS} {D : ab8} {σ : St} {H : Hp} (Pv : St → Hp → Prop) (μ : St → Hp → Nat) (h0 : Pv σ H)
    (hs : ∀ σ H, Pv σ H → c σ H fun b H1 => if b = true then tb { D with nx := fun σ' H' => Pv σ' H' ∧ μ σ' H' < μ σ H, ct := fun σ' H' => Pv σ' H' ∧ μ σ' H' < μ σ H, bk := D.nx } σ H1 else D.nx σ H1)
    (mono : ∀ σ H Q Q', (∀ b H1, Q b H1 → Q' b H1) → c σ H Q → c σ H Q') : ai2 c tb D σ H := by
  refine ⟨fun m σ H => m = μ σ H ∧ Pv σ H, ⟨_, rfl, h0⟩, ?_⟩
  rintro m σ H ⟨rfl, p⟩
  refine mono σ H _ _ (fun b H1 q => ?_) (hs σ H p)
  cases b with
  | true => exact ⟨_, fun σ' H' ⟨p', l⟩ => ⟨_, l, rfl, p'⟩, q⟩
  | false => exact q
abbrev R2 := V → V → Hp → VK → Prop
def OpR (X : Cx) (f : Value → Value → Sem Value) (r : R2) : Prop :=
  ∀ (pins : List (Addr × Obj)) (s : Shared) (σ : St) (H : Hp) (x y : V) (v u : Value) (Q : VK), Inv X pins σ H s → y7 x v → y7 y u → r x y H Q →
    wpAny (model X.prog X.w) X.A (f v u) (EP X pins σ Q) X.xe s
def UnR (X : Cx) (f : Value → Sem Value) (r : V → Hp → VK → Prop) : Prop :=
  ∀ (pins : List (Addr × Obj)) (s : Shared) (σ : St) (H : Hp) (x : V) (v : Value) (Q : VK), Inv X pins σ H s → y7 x v → r x H Q →
    wpAny (model X.prog X.w) X.A (f v) (EP X pins σ Q) X.xe s
def aa5 (X : Cx) (f : Value) (r : List V → Hp → VK → Prop) : Prop :=
  ∀ (pins : List (Addr × Obj)) (s : Shared) (σ : St) (H : Hp) (xs : List V) (us : List Value) (Q : VK), Inv X pins σ H s → j9 xs us → r xs H Q →
    wpAny (model X.prog X.w) X.A (call f us) (EP X pins σ Q) X.xe s
def bp0 (X : Cx) (r : V → Hp → (Bool → Hp → Prop) → Prop) : Prop :=
  ∀ (pins : List (Addr × Obj)) (s : Shared) (σ : St) (H : Hp) (x : V) (v : Value) (Q : Bool → Hp → Prop), Inv X pins σ H s → y7 x v → r x H Q →
    wpAny (model X.prog X.w) X.A (truthy v) (TP X pins σ Q) X.xe s
def tOp (r : R2) (ta tb : TE) : TE := fun σ H Q => ta σ H fun x H1 => tb σ H1 fun y H2 => r x y H2 Q
def tUn (r : V → Hp → VK → Prop) (ta : TE) : TE := fun σ H Q => ta σ H fun x H1 => r x H1 Q
def rI (C : Int → Int → Prop) (g : Int → Int → V) : R2 := fun x y H Q => ∃ i j, x = .int i ∧ y = .int j ∧ C i j ∧ Q (g i j) H
def rI0 (g : Int → Int → V) : R2 := fun x y H Q => ∃ i j, x = .int i ∧ y = .int j ∧ Q (g i j) H
def rU (g : Int → V) : V → Hp → VK → Prop := fun x H Q => ∃ i, x = .int i ∧ Q (g i) H
section
variable {X : Cx} {a b c : Expr} {ta tb tc : TE} {pos : Pos}
theorem bj7 (ha : PE X a ta) (hb : PE X b tb) {pins : List (Addr × Obj)} {s : Shared} {σ : St} {H : Hp} {R : V → V → Hp → Prop} (I : Inv X pins σ H s)
    (h : ta σ H fun x H1 => tb σ H1 fun y H2 => R x y H2) {Q : Value → Shared → Prop} {f : Value → Value → Sem Value}
    (hf : ∀ v u s2 x y H2, Inv X pins σ H2 s2 → y7 x v → y7 y u → R x y H2 → wpAny (model X.prog X.w) X.A (f v u) Q X.xe s2) :
    wpAny (model X.prog X.w) X.A (eval a X.env) (fun v s₁ => wpAny (model X.prog X.w) X.A (eval b X.env) (fun u s₂ => wpAny (model X.prog X.w) X.A (f v u) Q X.xe s₂) X.xe s₁) X.xe s := by
  refine thn (ha pins s σ H _ I h) fun v s1 ⟨x, H1, I1, r1, q1⟩ => ?_
  refine thn (hb pins s1 σ H1 _ I1 q1) fun u s2 ⟨y, H2, I2, r2, q2⟩ => ?_
  exact hf v u s2 x y H2 I2 r1 r2 q2
theorem e8 {op : Operator} {r : R2} (ho : OpR X (binaryOp op) r) (ha : PE X a ta) (hb : PE X b tb) : PE X (.BinOp a op b pos) (tOp r ta tb) := by
  intro pins s σ H Q I h
  exact wpAny_BinOp (bj7 ha hb I h fun v u s2 x y H2 I2 rx ry q => ho pins s2 σ H2 x y v u Q I2 rx ry q)
theorem X9 {op : UnaryOp} {r : V → Hp → VK → Prop} (ho : UnR X (unaryOp op) r) (ha : PE X a ta) : PE X (.UnaryOp op a pos) (tUn r ta) := by
  intro pins s σ H Q I h
  exact UnaryOp_ (thn (ha pins s σ H _ I h) fun v s1 ⟨x, H1, I1, r1, q1⟩ => ho pins s1 σ H1 x v Q I1 r1 q1)
theorem opI {f : Value → Value → Sem Value} {C : Int → Int → Prop} {g : Int → Int → Int}
    (rule : ∀ (i j : Int) (t u : Tok) (s : Shared) (Q : Value → Shared → Prop) (E : Value → Shared → Prop), C i j → Q (.int (g i j) s.toks) { s with toks := s.toks + 1 } → wpAny (model X.prog X.w) X.A (f (.int i t) (.int j u)) Q E s) :
    OpR X f (rI C fun i j => .int (g i j)) := by
  intro pins s σ H x y v u Q I rx ry h
  obtain ⟨i, j, rfl, rfl, hc, q⟩ := h
  obtain ⟨t, rfl⟩ := rx
  obtain ⟨t', rfl⟩ := ry
  exact rule i j t t' s _ _ hc ⟨.int (g i j), H, I.tok _, ⟨_, rfl⟩, q⟩
theorem bh9 {f : Value → Value → Sem Value} {g : Int → Int → Int}
    (rule : ∀ (i j : Int) (t u : Tok) (s : Shared) (Q : Value → Shared → Prop) (E : Value → Shared → Prop), Q (.int (g i j) s.toks) { s with toks := s.toks + 1 } → wpAny (model X.prog X.w) X.A (f (.int i t) (.int j u)) Q E s) :
    OpR X f (rI0 fun i j => .int (g i j)) := by
  intro pins s σ H x y v u Q I rx ry h
  obtain ⟨i, j, rfl, rfl, q⟩ := h
  obtain ⟨t, rfl⟩ := rx
  obtain ⟨t', rfl⟩ := ry
  exact rule i j t t' s _ _ ⟨.int (g i j), H, I.tok _, ⟨_, rfl⟩, q⟩
theorem ba7 {f : Value → Value → Sem Value} {g : Int → Int → Bool}
    (rule : ∀ (i j : Int) (t u : Tok) (s : Shared) (Q : Value → Shared → Prop) (E : Value → Shared → Prop), Q (.bool (g i j)) s → wpAny (model X.prog X.w) X.A (f (.int i t) (.int j u)) Q E s) :
    OpR X f (rI0 fun i j => .bl (g i j)) := by
  intro pins s σ H x y v u Q I rx ry h
  obtain ⟨i, j, rfl, rfl, q⟩ := h
  obtain ⟨t, rfl⟩ := rx
  obtain ⟨t', rfl⟩ := ry
  exact rule i j t t' s _ _ ⟨.bl (g i j), H, I, rfl, q⟩
def be7 (i j : Int) : Prop := 0 ≤ j ∧ j ≤ 1000000 ∧ i.natAbs < 2 ^ 64
theorem C3 : OpR X (binaryOp .Add) (rI0 fun i j => .int (i + j)) := bh9 fun _ _ _ _ _ _ _ q => add_int q
theorem O7 : OpR X (binaryOp .Sub) (rI0 fun i j => .int (i - j)) := bh9 fun _ _ _ _ _ _ _ q => sub_int q
theorem J2 : OpR X (binaryOp .Mod) (rI (fun _ j => j ≠ 0) fun i j => .int (i.fmod j)) := opI fun _ _ _ _ _ _ _ hc q => mod_int' hc q
theorem Y7 : OpR X (binaryOp .Pow) (rI be7 fun i j => .int (i ^ j.toNat)) := opI fun _ _ _ _ _ _ _ hc q => pow_int_small hc.1 hc.2.1 hc.2.2 q
theorem aV2 : OpR X (binaryOp .BitAnd) (rI0 fun i j => .int (Builtin.bitAnd i j)) := bh9 fun _ _ _ _ _ _ _ q => and_int q
theorem unI {f : Value → Sem Value} {g : Int → Int}
    (rule : ∀ (i : Int) (t : Tok) (s : Shared) (Q : Value → Shared → Prop) (E : Value → Shared → Prop), Q (.int (g i) s.toks) { s with toks := s.toks + 1 } → wpAny (model X.prog X.w) X.A (f (.int i t)) Q E s) :
    UnR X f (rU fun i => .int (g i)) := by
  intro pins s σ H x v Q I rx h
  obtain ⟨i, rfl, q⟩ := h
  obtain ⟨t, rfl⟩ := rx
  exact rule i t s _ _ ⟨.int (g i), H, I.tok _, ⟨_, rfl⟩, q⟩
theorem P9 : UnR X (unaryOp .USub) (rU fun i => .int (-i)) := unI fun _ _ _ _ _ q => neg_int q
end
def aD1 : V → V → Bool
  | .non, .non => true | .non, .int _ => true | .int _, .non => true | .non, .bl _ => true | .bl _, .non => true | .non, .str _ => true | .str _, .non => true
  | .int _, .int _ => true | .bl _, .bl _ => true | .str _, .str _ => true | .byt _, .byt _ => true
  | .int _, .str _ => true | .str _, .int _ => true | .bl _, .str _ => true | .str _, .bl _ => true
  | _, _ => false
def rEq : R2 := fun x y H Q => aD1 x y = true ∧ Q (.bl (decide (x = y))) H
def rNe : R2 := fun x y H Q => aD1 x y = true ∧ Q (.bl (!decide (x = y))) H
theorem aL6 {i j : Int} : decide (V.int i = V.int j) = (i == j) := by
  rw [Bool.eq_iff_iff]
  simp
theorem aY1 {i j : Bool} : decide (V.bl i = V.bl j) = (i == j) := by
  rw [Bool.eq_iff_iff]
  simp
theorem aL5 {i j : Str} : decide (V.str i = V.str j) = (i == j) := by
  rw [Bool.eq_iff_iff]
  simp
theorem aL7 {i j : Array UInt8} : decide (V.byt i = V.byt j) = (i.toList == j.toList) := by
  rw [Bool.eq_iff_iff]
  cases i
  cases j
  simp
section
variable {X : Cx} {a b c : Expr} {ta tb tc : TE} {pos : Pos}
theorem w8 {pins : List (Addr × Obj)} {σ : St} {H : Hp} {s : Shared} {Q : VK} {k k' : Bool} (I : Inv X pins σ H s) (q : Q (.bl k) H) (e : k = k') : EP X pins σ Q (.bool k') s := by
  subst e
  exact ⟨.bl k, H, I, rfl, q⟩
theorem X0 : OpR X (compareOp .Eq) rEq := by
  intro pins s σ H x y v u Q I rx ry h
  obtain ⟨hs, q⟩ := h
  cases x with
  | non =>
    cases rx
    cases y with
    | non => cases ry; exact PySem.EqNone.eq_none_none (w8 I q (by simp))
    | bl j => cases ry; exact PySem.EqNone.eq_none_bool (w8 I q (by simp))
    | int j => obtain ⟨t', rfl⟩ := ry; exact PySem.EqNone.eq_none_int (w8 I q (by simp))
    | str j => obtain ⟨t', rfl⟩ := ry; exact PySem.EqNone.eq_none_str (w8 I q (by simp))
    | _ => exact absurd (show false = true from hs) Bool.false_ne_true
  | bl i =>
    cases rx
    cases y with
    | non => cases ry; exact PySem.EqNone.eq_bool_none (w8 I q (by simp))
    | bl j => cases ry; exact eq_bool (w8 I q aY1)
    | str j => obtain ⟨t', rfl⟩ := ry; exact PySem.EqMixed.eq_bool_str (w8 I q (by simp))
    | _ => exact absurd (show false = true from hs) Bool.false_ne_true
  | int i =>
    obtain ⟨t, rfl⟩ := rx
    cases y with
    | non => cases ry; exact PySem.EqNone.eq_int_none (w8 I q (by simp))
    | int j => obtain ⟨t', rfl⟩ := ry; exact eq_int (w8 I q aL6)
    | str j => obtain ⟨t', rfl⟩ := ry; exact PySem.EqMixed.eq_int_str (w8 I q (by simp))
    | _ => exact absurd (show false = true from hs) Bool.false_ne_true
  | str i =>
    obtain ⟨t, rfl⟩ := rx
    cases y with
    | non => cases ry; exact PySem.EqNone.eq_str_none (w8 I q (by simp))
    | bl j => cases ry; exact PySem.EqMixed.eq_str_bool (w8 I q (by simp))
    | int j => obtain ⟨t', rfl⟩ := ry; exact PySem.EqMixed.eq_str_int (w8 I q (by simp))
    | str j => obtain ⟨t', rfl⟩ := ry; exact eq_str (w8 I q aL5)
    | _ => exact absurd (show false = true from hs) Bool.false_ne_true
  | byt i =>
    obtain ⟨t, rfl⟩ := rx
    cases y with
    | byt j => obtain ⟨t', rfl⟩ := ry; exact PySem.W.eq_bytes (w8 I q aL7)
    | _ => exact absurd (show false = true from hs) Bool.false_ne_true
  | _ => cases y <;> exact absurd (show false = true from hs) Bool.false_ne_true
theorem aK6 : OpR X (compareOp .NotEq) rNe := by
  intro pins s σ H x y v u Q I rx ry h
  obtain ⟨hs, q⟩ := h
  cases x with
  | non =>
    cases rx
    cases y with
    | non => cases ry; exact PySem.EqNone.ne_none_none (w8 I q (by simp))
    | bl j => cases ry; exact PySem.EqNone.ne_none_bool (w8 I q (by simp))
    | int j => obtain ⟨t', rfl⟩ := ry; exact PySem.EqNone.ne_none_int (w8 I q (by simp))
    | str j => obtain ⟨t', rfl⟩ := ry; exact PySem.EqNone.ne_none_str (w8 I q (by simp))
    | _ => exact absurd (show false = true from hs) Bool.false_ne_true
  | bl i =>
    cases rx
    cases y with
    | non => cases ry; exact PySem.EqNone.ne_bool_none (w8 I q (by simp))
    | bl j => cases ry; exact ne_bool (w8 I q (congrArg not aY1))
    | str j => obtain ⟨t', rfl⟩ := ry; exact PySem.EqMixed.ne_bool_str (w8 I q (by simp))
    | _ => exact absurd (show false = true from hs) Bool.false_ne_true
  | int i =>
    obtain ⟨t, rfl⟩ := rx
    cases y with
    | non => cases ry; exact PySem.EqNone.ne_int_none (w8 I q (by simp))
    | int j => obtain ⟨t', rfl⟩ := ry; exact ne_int (w8 I q (congrArg not aL6))
    | str j => obtain ⟨t', rfl⟩ := ry; exact PySem.EqMixed.ne_int_str (w8 I q (by simp))
    | _ => exact absurd (show false = true from hs) Bool.false_ne_true
  | str i =>
    obtain ⟨t, rfl⟩ := rx
    cases y with
    | non => cases ry; exact PySem.EqNone.ne_str_none (w8 I q (by simp))
    | bl j => cases ry; exact PySem.EqMixed.ne_str_bool (w8 I q (by simp))
    | int j => obtain ⟨t', rfl⟩ := ry; exact PySem.EqMixed.ne_str_int (w8 I q (by simp))
    | str j => obtain ⟨t', rfl⟩ := ry; exact ne_str (w8 I q (congrArg not aL5))
    | _ => exact absurd (show false = true from hs) Bool.false_ne_true
  | byt i =>
    obtain ⟨t, rfl⟩ := rx
    cases y with
    | byt j => obtain ⟨t', rfl⟩ := ry; exact PySem.W.ne_bytes (w8 I q (congrArg not aL7))
    | _ => exact absurd (show false = true from hs) Bool.false_ne_true
  | _ => cases y <;> exact absurd (show false = true from hs) Bool.false_ne_true
theorem ap1 : OpR X (compareOp .Lt) (rI0 fun i j => .bl (decide (i < j))) := ba7 fun _ _ _ _ _ _ _ q => lt_int q
theorem bm2 : OpR X (compareOp .LtE) (rI0 fun i j => .bl (decide (i ≤ j))) := ba7 fun _ _ _ _ _ _ _ q => le_int q
theorem ap2 : OpR X (compareOp .Gt) (rI0 fun i j => .bl (decide (j < i))) := ba7 fun _ _ _ _ _ _ _ q => gt_int q
theorem bf6 : OpR X (compareOp .GtE) (rI0 fun i j => .bl (decide (j ≤ i))) := ba7 fun _ _ _ _ _ _ _ q => ge_int q
theorem j7 (b : Expr) {op : CmpOp} (h : op ≠ .In := by decide) (h2 : op ≠ .NotIn := by decide) : behindInMarks op b = false := by
  have e1 : (op == CmpOp.In) = false := by cases op <;> first | rfl | exact absurd rfl h
  have e2 : (op == CmpOp.NotIn) = false := by cases op <;> first | rfl | exact absurd rfl h2
  cases b <;> simp [behindInMarks, e1, e2]
theorem V9 {op : CmpOp} {r : R2} (ho : OpR X (compareOp op) r) (ha : PE X a ta) (hb : PE X b tb) (hm : behindInMarks op b = false) : PE X (.Compare a [op] [b] pos) (tOp r ta tb) := by
  intro pins s σ H Q I h
  exact wpAny_Compare1 (bj7 ha hb I h fun v u s2 x y H2 I2 rx ry q => ho pins s2 σ H2 x y v u Q I2 rx ry q) hm
def am7 (t : TE) : TT := fun σ H Q => t σ H fun x H' => ∃ k, x = .bl k ∧ Q k H'
theorem j5 {op : CmpOp} {r : R2} (ho : OpR X (compareOp op) r) (ha : PE X a ta) (hb : PE X b tb) (hm : behindInMarks op b = false) : PT X (.Compare a [op] [b] pos) (am7 (tOp r ta tb)) := by
  intro pins s σ H Q I h
  refine wpAny_isTrue_Compare1 (thn (ha pins s σ H _ I h) fun v s1 ⟨x, H1, I1, r1, q1⟩ => thn (hb pins s1 σ H1 _ I1 q1) fun u s2 ⟨y, H2, I2, r2, q2⟩ =>
    thn (ho pins s2 σ H2 x y v u _ I2 r1 r2 q2) fun c s3 ⟨z, H3, I3, r3, k, e, q3⟩ => ?_) hm
  subst e
  cases r3
  exact wpAny_truthy_bool ⟨H3, I3, q3⟩
def bg5 (r r' : R2) (ta tb tc : TE) : TE := fun σ H Q => ta σ H fun x H1 => tb σ H1 fun y H2 => r x y H2 fun z H3 => ∃ k, z = .bl k ∧
  (if k = true then tc σ H3 fun w' H4 => r' y w' H4 Q else Q (.bl false) H3)
def aa2 (K : PySem.W.Frag) (x : V) (H : Hp) (k : Bool) : Prop :=
  match x with
  | .non => k = false
  | .bl b => k = b
  | .int i => k = (i != 0)
  | .str y => y.length ≤ sizeLine ∧ k = ((y.length : Int) != 0)
  | .byt y => y.size ≤ sizeLine ∧ k = ((y.size : Int) != 0)
  | .ref p => (∃ xs, SqL K H p xs ∧ k = !xs.isEmpty) ∨ (∃ xs, SqT K H p xs ∧ k = !xs.isEmpty) ∨ ∃ kvs, H p = some (.dK kvs) ∧ k = !kvs.isEmpty
  | _ => False
theorem aI2 {κ : Type} {kvs : List (κ × V)} {vs : List (κ × Value)} (r : KV kvs vs) : (!vs.isEmpty) = !kvs.isEmpty := by
  cases r <;> rfl
theorem ap9 {xs : List V} {its : List Value} (r : j9 xs its) : (!its.toArray.isEmpty) = !xs.isEmpty := by
  cases r <;> simp
theorem ae4 : (sizeLine : Nat) < 2 ^ 63 := by rw [sizeLine_eq]; decide
theorem bg3 : bp0 X (fun x H Q => ∃ k, aa2 X.K x H k ∧ Q k H) := by
  intro pins s σ H x v Q I rx h
  obtain ⟨k, e, q⟩ := h
  have hl := ae4
  have hs : sizeLine = 16777216 := sizeLine_eq
  cases x with
  | non =>
    cases rx
    have e' : k = false := e
    subst e'
    exact truthy_none ⟨H, I, q⟩
  | bl b =>
    cases rx
    have e' : k = b := e
    subst e'
    exact wpAny_truthy_bool ⟨H, I, q⟩
  | int i =>
    obtain ⟨t, rfl⟩ := rx
    have e' : k = (i != 0) := e
    subst e'
    exact PySem.P.truthy_int ⟨H, I, q⟩
  | str y =>
    obtain ⟨t, rfl⟩ := rx
    obtain ⟨hy, e'⟩ : y.length ≤ sizeLine ∧ k = ((y.length : Int) != 0) := e
    subst e'
    exact PySem.P.truthy_str (by omega) ⟨H, I.tok _, q⟩
  | byt y =>
    obtain ⟨t, rfl⟩ := rx
    obtain ⟨hy, e'⟩ : y.size ≤ sizeLine ∧ k = ((y.size : Int) != 0) := e
    subst e'
    exact PySem.W.truthy_bytes (by omega) ⟨H, I.tok _, q⟩
  | ref p =>
    cases rx
    have e' : (∃ xs, SqL X.K H p xs ∧ k = !xs.isEmpty) ∨ (∃ xs, SqT X.K H p xs ∧ k = !xs.isEmpty) ∨ ∃ kvs, H p = some (.dK kvs) ∧ k = !kvs.isEmpty := e
    rcases e' with ⟨xs, hx, e'⟩ | ⟨xs, hx, e'⟩ | ⟨kvs, hx, e'⟩
    · subst e'
      obtain ⟨its, r, pl, hz⟩ := I.list hx
      have hlen := r.length
      exact wpAny_truthy_list pl.isList (by simp only [List.size_toArray]; omega) ⟨H, I.tok _, by rw [ap9 r]; exact q⟩
    · subst e'
      obtain ⟨its, r, pl, hz⟩ := I.tuple hx
      have hlen := r.length
      exact truthy_tuple pl (by simp only [List.size_toArray]; omega) ⟨H, I.tok _, by rw [ap9 r]; exact q⟩
    · subst e'
      obtain ⟨hz, hS, vs, r, m⟩ : kvs.length ≤ sizeLine ∧ (p == sysModules) = false ∧ ∃ vs, KV kvs vs ∧ s.heap.DictOf (aA2 X.prog X.w) p vs := I.hok p _ hx
      have hlen : kvs.length = vs.length := Paired.length r
      exact wpAny_truthy_dict hS m (by omega) ⟨H, I.tok _, by rw [aI2 r]; exact q⟩
  | _ => exact (show False from e).elim
theorem G7 (ha : PE X a ta) (he : ∀ whole, isTrue a X.env whole = (do let v ← whole; standAt a.pos; holding [v] (truthy v))) :
    PT X a (fun σ H Q => ta σ H fun x H' => ∃ k, aa2 X.K x H' k ∧ Q k H') := by
  intro pins s σ H Q I h
  exact isTrue_plain (thn (ha pins s σ H _ I h) fun v s1 ⟨x, H1, I1, r1, q1⟩ => bg3 pins s1 σ H1 x v Q I1 r1 q1) (he _)
theorem af1 {x : V} {us : List Value} (r : j9 [x] us) : ∃ u, us = [u] ∧ y7 x u := by
  cases r with
  | cons r1 r2 => cases r2; exact ⟨_, rfl, r1⟩
theorem be8 {x y : V} {us : List Value} (r : j9 [x, y] us) : ∃ u w', us = [u, w'] ∧ y7 x u ∧ y7 y w' := by
  cases r with
  | cons r1 r2 =>
    cases r2 with
    | cons r3 r4 => cases r4; exact ⟨_, _, rfl, r1, r3⟩
theorem U8 : aa5 X (.builtin "abs") (fun xs H Q => ∃ i, xs = [.int i] ∧ Q (.int (if i < 0 then -i else i)) H) := by
  intro pins s σ H xs us Q I r h
  obtain ⟨i, rfl, q⟩ := h
  obtain ⟨u, rfl, t, rfl⟩ := af1 r
  exact call_abs_int fun u tk => ⟨.int (if i < 0 then -i else i), H, I.tok _, ⟨_, rfl⟩, q⟩
theorem aj5 (hc : X.calm = true) : aa5 X (.builtin "max") (fun xs H Q => ∃ i j, xs = [.int i, .int j] ∧ Q (.int (if j > i then j else i)) H) := by
  intro pins s σ H xs us Q I r h
  obtain ⟨i, j, rfl, q⟩ := h
  obtain ⟨u, w', rfl, ⟨t, rfl⟩, ⟨t', rfl⟩⟩ := be8 r
  refine max_two_ints (I.ok.hd hc) fun h' tk k => ⟨_, H, I.kept k, ?_, q⟩
  by_cases hj : j > i
  · rw [if_pos hj, if_pos hj]; exact ⟨_, rfl⟩
  · rw [if_neg hj, if_neg hj]; exact ⟨_, rfl⟩
theorem aP9 (hc : X.calm = true) : aa5 X (.builtin "min") (fun xs H Q => ∃ i j, xs = [.int i, .int j] ∧ Q (.int (if j < i then j else i)) H) := by
  intro pins s σ H xs us Q I r h
  obtain ⟨i, j, rfl, q⟩ := h
  obtain ⟨u, w', rfl, ⟨t, rfl⟩, ⟨t', rfl⟩⟩ := be8 r
  refine min_two_ints (I.ok.hd hc) fun h' tk k => ⟨_, H, I.kept k, ?_, q⟩
  by_cases hj : j < i
  · rw [if_pos hj, if_pos hj]; exact ⟨_, rfl⟩
  · rw [if_neg hj, if_neg hj]; exact ⟨_, rfl⟩
theorem aQ1 : aa5 X (.type "int") (fun xs H Q => (∃ i, xs = [.int i] ∧ Q (.int i) H) ∨ ∃ k, xs = [.bl k] ∧ Q (.int (if k then 1 else 0)) H) := by
  intro pins s σ H xs us Q I r h
  rcases h with ⟨i, rfl, q⟩ | ⟨k, rfl, q⟩
  · obtain ⟨u, rfl, t, rfl⟩ := af1 r
    exact call_int_int ⟨.int i, H, I, ⟨_, rfl⟩, q⟩
  · obtain ⟨u, rfl, r1⟩ := af1 r
    cases r1
    exact call_int_bool ⟨.int (if k then 1 else 0), H, I.tok _, ⟨_, rfl⟩, q⟩
end
structure bk6 (h : Heap) (x dx C : Addr) (mA : Str → Option Value) : Prop where
  obj : h.get? x = some (PySem.W.instObj C dx)
  ns : h.Ns1 dx mA
  ne : dx ≠ x
theorem aO6 {h : Heap} {dx : Addr} {mA : Str → Option Value} (n : h.Ns1 dx mA) : ∃ od, h.get? dx = some od ∧ ∀ name, PySem.W.lookIn name od = some (mA name) := by
  obtain ⟨o, es, ep, ho, hd, hk, _, hm⟩ := n
  refine ⟨o, ho, fun name => ?_⟩
  have e := hm name
  unfold nsFind findBy at e
  rw [← Array.find?_toList] at e
  unfold PySem.W.lookIn
  rw [hd]
  dsimp only
  split
  · rename_i y q
    rw [q] at e
    exact congrArg some e
  · rename_i q
    rw [q] at e
    have a : es.toList.any (·.refKey) = false := by
      rw [List.any_eq_false]
      intro y hy
      obtain ⟨z, t, hkey⟩ := hk y (Array.mem_toList_iff.mp hy)
      simp [DictEntry.refKey, hkey]
    have a' : ¬ es.toList.any (·.refKey) = true := by rw [a]; exact Bool.false_ne_true
    rw [if_neg a']
    exact congrArg some e
theorem bk6.look {h : Heap} {x dx C : Addr} {mA : Str → Option Value} (I : bk6 h x dx C mA) : ∃ od, PySem.W.InstAt h x (PySem.W.instObj C dx) C (some od) ∧ ∀ name, PySem.W.lookIn name od = some (mA name) :=
  let ⟨od, ho, hl⟩ := aO6 I.ns
  ⟨od, ⟨I.obj, rfl, rfl, ho⟩, hl⟩
section
variable {P : Program} {w : World} {H H' : Hp} {h h' : Heap} {a C dx : Addr} {fs fs' : List (Str × V)}
theorem bc0 (hok : HOk P w H h) (e : H a = some (.ins C dx fs)) : ∃ mA, bk6 h a dx C mA ∧ (∀ f, bk1 (fs.lookup f) (mA f)) ∧ PySem.Within mA (fs.map (·.1)) ∧ fs.length ≤ 1000 ∧ H dx = some (.own a) := by
  obtain ⟨d, z, ne, ob, mA, n, r, q⟩ := (show F0 P w H h a (.ins C dx fs) from hok a _ e)
  exact ⟨mA, ⟨ob, n, ne⟩, r, q, z, d⟩
end
structure Cls (K : PySem.W.Frag) (C : Addr) : Prop where
  pg : PySem.W.plainGet K C Str.empty = true
  hd : PySem.W.hasDictIn K C = true
  po : PySem.W.plainOver K C = true
  sa : PySem.W.findIn K (.ref C) "__setattr__" = some (some (.builtin "object.__setattr__"))
theorem Cls.get {K : PySem.W.Frag} {C : Addr} (c : Cls K C) (f : Str) : PySem.W.plainGet K C f = true := c.pg
structure Con (K : PySem.W.Frag) (C : Addr) (f : Str) (v : V) (u : Value) : Prop where
  at_ : PySem.W.findIn K (.ref C) f = some (some u)
  rel : y7 v u
  get : PySem.W.specialIn K u "__get__" = some none
  cp : PySem.W.copiedNames.contains f = false
structure Meth (K : PySem.W.Frag) (C : Addr) (m : Str) (f : Addr) : Prop where
  at_ : PySem.W.findIn K (.ref C) m = some (some (.ref f))
  fn : PySem.W.isFn K (.ref f) = true
  kp : PySem.W.keepIn K (.ref f) = true
section
variable {X : Cx} {pins : List (Addr × Obj)} {σ : St} {H : Hp} {s : Shared} {A : Around} {E : Value → Shared → Prop} {Q : Value → Shared → Prop} {c : Value} {b : Bool}
inductive aj7 (K : PySem.W.Frag) (H : Hp) : V → Value → Prop where
  | non : aj7 K H .non (.type "NoneType")
  | bl (x : Bool) : aj7 K H (.bl x) (.type "bool")
  | int (i : Int) : aj7 K H (.int i) (.type "int")
  | str (x : Str) : aj7 K H (.str x) (.type "str")
  | flt (x : UInt64) : aj7 K H (.flt x) (.type "float")
  | lst {a : Addr} {xs : List V} (e : H a = some (.lst xs)) : aj7 K H (.ref a) (.type "list")
  | frz {a : Addr} {o : Obj} {xs : List V} (e : H a = some (.frz o (.lst xs))) : aj7 K H (.ref a) (.type "list")
  | tup {a : Addr} {xs : List V} (e : H a = some (.tup xs)) : aj7 K H (.ref a) (.type "tuple")
  | dK {a : Addr} {kvs : List (Key × V)} (e : H a = some (.dK kvs)) : aj7 K H (.ref a) (.type "dict")
  | dT {a : Addr} {kvs : List (List Key × V)} (e : H a = some (.dT kvs)) : aj7 K H (.ref a) (.type "dict")
  | ins {a C dx : Addr} {fs : List (Str × V)} (e : H a = some (.ins C dx fs)) (cl : Cls K C) (ha : PySem.W.findIn K (.ref C) "__class__" = some (some (.builtin "object.__class__")))
      (hn : PySem.W.specialIn K (.builtin "object.__class__") "__get__" = some (some (.builtin "getset_descriptor.__get__"))) (htk : PySem.W.takesIn K (.builtin "object.__class__") = some true)
      (hm : PySem.W.mroIn K C (.type "object") = some true) : aj7 K H (.ref a) (.ref C)
theorem aO8 {x : V} {u t : Value} (I : Inv X pins σ H s) (rx : y7 x u) (ty : aj7 X.K H x t) (e : PySem.W.kitOne X.K t c = some b) (h : ∀ tk, Q (.bool b) { s with toks := tk }) :
    wpAny (model X.prog X.w) A (call (.builtin "isinstance") [u, c]) Q E s := by
  cases ty with
  | non => cases (show u = Value.none from rx); exact PySem.W.kia_one PySem.W.kitx_none I.kIn True.intro e (fun z => nomatch z) h
  | bl y => cases (show u = Value.bool y from rx); exact PySem.W.kia_one PySem.W.kitx_bool I.kIn True.intro e (fun z => nomatch z) h
  | int i => obtain ⟨t, q⟩ := (show ∃ t, u = Value.int i t from rx); cases q; exact PySem.W.kia_one PySem.W.kitx_int I.kIn True.intro e (fun z => nomatch z) h
  | str y => obtain ⟨t, q⟩ := (show ∃ t, u = Value.str y t from rx); cases q; exact PySem.W.kia_one PySem.W.kitx_str I.kIn True.intro e (fun z => nomatch z) h
  | flt y => obtain ⟨t, q⟩ := (show ∃ t, u = Value.float y t from rx); cases q; exact PySem.W.kia_one PySem.W.kitx_float I.kIn True.intro e (fun z => nomatch z) h
  | @lst a xs ea =>
    cases (show u = Value.ref a from rx)
    obtain ⟨_, _, n, _, h1⟩ := (show F0 X.prog X.w H s.heap a (.lst xs) from I.hok a _ ea)
    exact PySem.W.kia_one PySem.W.kitx_list I.kIn ⟨_, h1, rfl⟩ e (fun z => nomatch z) h
  | @frz a ob xs ea =>
    cases (show u = Value.ref a from rx)
    obtain ⟨_, _, _, n, _, h1⟩ := (show F0 X.prog X.w H s.heap a (.frz ob (.lst xs)) from I.hok a _ ea)
    exact PySem.W.kia_one PySem.W.kitx_list I.kIn ⟨_, h1, rfl⟩ e (fun z => nomatch z) h
  | @tup a xs ea =>
    cases (show u = Value.ref a from rx)
    obtain ⟨_, _, _, p⟩ := (show F0 X.prog X.w H s.heap a (.tup xs) from I.hok a _ ea)
    obtain ⟨o, h1, h2, _⟩ := p
    exact PySem.W.kia_one PySem.W.kitx_tuple I.kIn ⟨o, h1, h2⟩ e (fun z => nomatch z) h
  | @dK a kvs ea =>
    cases (show u = Value.ref a from rx)
    obtain ⟨_, _, vs, _, p⟩ := (show F0 X.prog X.w H s.heap a (.dK kvs) from I.hok a _ ea)
    obtain ⟨o, es, ep, h1, h2, _⟩ := p
    exact PySem.W.kia_one PySem.W.kitx_dict I.kIn ⟨o, h1, h2.1⟩ e (fun z => nomatch z) h
  | @dT a kvs ea =>
    cases (show u = Value.ref a from rx)
    obtain ⟨_, _, xs, _, o, es, ep, h1, h2, _⟩ := (show F0 X.prog X.w H s.heap a (.dT kvs) from I.hok a _ ea)
    exact PySem.W.kia_one PySem.W.kitx_dict I.kIn ⟨o, h1, h2.1⟩ e (fun z => nomatch z) h
  | @ins a C dx fs ea cl ha hn htk hm =>
    cases (show u = Value.ref a from rx)
    obtain ⟨mA, O, _⟩ := bc0 I.hok ea
    obtain ⟨od, J, _⟩ := O.look
    exact PySem.W.kia_one (PySem.W.kitx_own (cl.get _) cl.hd ha hn htk hm) I.kIn J e (fun z => nomatch z) h
end
structure R7 (k : Nat) (A : Around) : Prop where
  hd : A.handled = none
  dp : A.depth + 3 * k + 5 < recursionLimit
  un : A.units + 16 * k + 200 < cLine
theorem R7.mono {j k : Nat} {A : Around} (r : R7 k A) (h : j ≤ k) : R7 j A := ⟨r.hd, by have := r.dp; omega, by have := r.un; omega⟩
theorem R7.deeper {k : Nat} {A : Around} (r : R7 (k + 1) A) (env : Env) : R7 k (A.deeper env) :=
  ⟨r.hd, by have := r.dp; show A.depth + 1 + 3 * k + 5 < _; omega, by have := r.un; show A.units + 3 + 16 * k + 200 < _; omega⟩
theorem R7.depth {k : Nat} {A : Around} (r : R7 k A) : A.depth < recursionLimit := by have := r.dp; omega
theorem R7.units {k : Nat} {A : Around} (r : R7 k A) : A.units + 64 < cLine := by have := r.un; omega
def am9 : TA := fun _ H Q => Q [] H
def U0 (ta : TE) (tr : TA) : TA := fun σ H Q => ta σ H fun x H1 => tr σ H1 fun xs H2 => Q (x :: xs) H2
section
variable {X : Cx} {e : Expr} {es : List Expr} {te : TE} {t : TA} {pos : Pos}
theorem b6 : PA X [] am9 := fun _ _ _ _ H Q I h => Calls.spliced_nil ⟨[], H, I, .nil, h⟩
theorem b0 (ha : PE X e te) (hr : PA X es t) (hs : starEach (e :: es) X.env = (false, eval e X.env) :: starEach es X.env := by rfl) : PA X (e :: es) (U0 te t) := by
  intro pos pins s σ H Q I h
  rw [hs]
  show wpAny _ _ (spliced ((false, eval e X.env) :: backTo pos (starEach es X.env))) _ _ s
  refine Calls.spliced_cons (thn (ha pins s σ H _ I h) fun u s1 ⟨x, H1, I1, r1, q1⟩ => ?_)
  exact thn (hr pos pins s1 σ H1 _ I1 q1) fun us s2 ⟨xs, H2, I2, r2, q2⟩ => ⟨x :: xs, H2, I2, .cons r1 r2, q2⟩
def aM5 (t : TA) : TE := fun σ H Q => t σ H fun xs H1 => xs.length ≤ sizeLine ∧ ∀ p, H1 p = none → Q (.ref p) (upd H1 p (.tup xs))
def aS0 (t : TA) : TE := fun σ H Q => t σ H fun xs H1 => xs.length ≤ sizeLine ∧ ∀ p, H1 p = none → Q (.ref p) (upd H1 p (.lst xs))
theorem v7 {x1} (h : PA X es t) : PE X (.Tuple es x1 pos) (aM5 t) := by
  intro pins s σ H Q I hq
  refine wpAny_Tuple_spliced (thn (h pos pins s σ H _ I hq) fun us s1 ⟨xs, H1, I1, r, z, q⟩ => ⟨by rw [← r.length]; exact z, ?_⟩)
  have hf : H1 s1.heap.objs.size = none := I1.hok.fresh (Nat.le_refl _)
  refine ⟨.ref s1.heap.objs.size, upd H1 s1.heap.objs.size (.tup xs), I1.laid (t' := s1.toks) (fun b u e => Heap.get?_push_of_some _ e) (Nat.le_refl _) ?_, rfl, q _ hf⟩
  exact ⟨z, us, r, ⟨_, Heap.get?_push_size _ rfl, rfl, _, rfl⟩⟩
theorem u0 (h : PA X es t) : PE X (.List es pos) (aS0 t) := by
  intro pins s σ H Q I hq
  refine wpAny_List_spliced (thn (h pos pins s σ H _ I hq) fun us s1 ⟨xs, H1, I1, r, z, q⟩ => ⟨by rw [← r.length]; exact z, ?_⟩)
  have hf : H1 s1.heap.objs.size = none := I1.hok.fresh (Nat.le_refl _)
  refine ⟨.ref s1.heap.objs.size, upd H1 s1.heap.objs.size (.lst xs), I1.laid (t' := s1.toks) (fun b u e => Heap.get?_push_of_some _ e) (Nat.le_refl _) ?_, rfl, q _ hf⟩
  exact ⟨z, us, 0, r, Heap.get?_push_size _ rfl⟩
end
abbrev Sp := List V → Hp → VK → XK → Prop
abbrev CXT := List Env → Hp → Shared → XK → Value → Shared → Prop
structure aQ6 (P : Program) (w : World) (K : PySem.W.Frag) (mg : Str → Option Value) (base : Heap) (A : Around) (outer : List Env) (s : Shared) (H : Hp) : Prop where
  frames : A.frames = some outer
  mod : Mod K mg base
  bs : ∀ b o, base.get? b = some o → s.heap.get? b = some o ∧ H b = none
  bsz : base.objs.size ≤ s.heap.objs.size
  funs : s.heap.FunFrames base outer
  frf : ∀ b ∈ frs outer, H b = none
  hok : HOk P w H s.heap
  bare : AllBare s.gens
def CE (outer : List Env) (P : Program) (w : World) (H : Hp) (s : Shared) (Q : VK) (u : Value) (s' : Shared) : Prop :=
  ∃ v H', s'.os = s.os ∧ AllBare s'.gens ∧ Un (frs outer) [] H H' s.heap s'.heap ∧ HOk P w H' s'.heap ∧ y7 v u ∧ Q v H'
def CR (CX : CXT) (outer : List Env) (P : Program) (w : World) (H : Hp) (s : Shared) (Q : VK) (E : XK) (r : Result) (s' : Shared) : Prop :=
  match r with
  | .ok (.ret u) => CE outer P w H s Q u s'
  | .ok _ => False
  | .error e => CX outer H s E e s'
structure aa4 (P : Program) (w : World) (K : PySem.W.Frag) (mg : Str → Option Value) (base : Heap) (CX : CXT) (k : Nat) (f : Addr) (fd : FuncData) (ps : List Str) (sp : Sp) : Prop where
  len : ∀ vs H Q E, sp vs H Q E → vs.length = ps.length
  run : ∀ (A : Around) (outer : List Env) (s : Shared) (H : Hp) (args : Args) (us : List Value) (vs : List V) (Q : VK) (E : XK), R7 k A → aQ6 P w K mg base A outer s H → BindsTo s fd args (ps.zip us) → j9 vs us → sp vs H Q E →
    codeAny (model P w) A (.call (.ref f) args) (CR CX outer P w H s Q E) s
theorem aa4.mono {P : Program} {w : World} {K : PySem.W.Frag} {mg : Str → Option Value} {base : Heap} {CX : CXT} {j k : Nat} {f : Addr} {fd : FuncData} {ps : List Str} {sp : Sp} (F : aa4 P w K mg base CX j f fd ps sp) (h : j ≤ k) :
    aa4 P w K mg base CX k f fd ps sp := ⟨F.len, fun A outer s H args us vs Q E hr => F.run A outer s H args us vs Q E (hr.mono h)⟩
theorem aa4.imp {P : Program} {w : World} {K : PySem.W.Frag} {mg : Str → Option Value} {base : Heap} {CX : CXT} {k : Nat} {f : Addr} {fd : FuncData} {ps : List Str} {sp sp' : Sp} (F : aa4 P w K mg base CX k f fd ps sp)
    (h : ∀ vs H Q E, sp' vs H Q E → sp vs H Q E) : aa4 P w K mg base CX k f fd ps sp' :=
  ⟨fun vs H Q E q => F.len vs H Q E (h _ _ _ _ q), fun A outer s H args us vs Q E hr he hb hv hs => F.run A outer s H args us vs Q E hr he hb hv (h _ _ _ _ hs)⟩
section
variable {X : Cx} {pins : List (Addr × Obj)} {σ : St} {H : Hp} {s s' : Shared}
theorem Inv.env0 (I : Inv X pins σ H s) : aQ6 X.prog X.w X.K X.mg X.base X.A X.stack s H :=
  ⟨I.ok.frames, I.ok.mod, I.bs, Nat.le_trans I.ok.bsz I.sz, I.stack, I.stkFree, I.hok, I.bare⟩
theorem Inv.after {Q : VK} {u : Value} (I : Inv X pins σ H s) (h : CE X.stack X.prog X.w H s Q u s') : EP X pins σ Q u s' := by
  obtain ⟨v, H', os, bare, un, hok, r, q⟩ := h
  obtain ⟨hh, g, d, t, os'⟩ := s'
  obtain rfl : os' = s.os := os
  exact ⟨v, H', I.call (h' := hh) (g' := g) (d' := d) (t' := t) (ch := []) un hok bare (fun b z => absurd z (by simp)), r, q⟩
end
def bf0 (sp : Sp) (dvs : List V) (E : XK) (t : TA) : TE := fun σ H Q => t σ H fun vs H1 => sp (vs ++ dvs) H1 Q E
def aa6 (K : PySem.W.Frag) (fd : FuncData) (ps : List Str) (ds : List Value) : Prop :=
  ∀ (s : Shared) (us : List Value), K.In s.heap → (us ++ ds).length = ps.length → BindsTo s fd ⟨us, []⟩ (ps.zip (us ++ ds))
theorem aa6.all {K : PySem.W.Frag} {fd : FuncData} {ps : List Str} (h : ∀ us : List Value, us.length = ps.length → bindArgs fd ⟨us, []⟩ = pure (ps.zip us)) : aa6 K fd ps [] := fun s us _ hl => by
  rw [List.append_nil] at hl ⊢
  exact .of_eq (h us hl)
def as0 (CX : CXT) (X : Cx) (E : XK) : Prop := ∀ (pins : List (Addr × Obj)) (σ : St) (H : Hp) (s : Shared) (e : Value) (s' : Shared), Inv X pins σ H s → CX X.stack H s E e s' → X.xe e s'
section
variable {X : Cx} {CX : CXT} {k : Nat} {f C : Addr} {fd : FuncData} {ps : List Str} {sp : Sp} {dvs : List V} {ds : List Value} {E : XK} {x m : Str} {p pos apos : Pos} {e o : Expr} {es : List Expr} {ta : TE} {t : TA}
theorem bg9 {pins : List (Addr × Obj)} {σ : St} {H : Hp} {s : Shared} {Q : VK} {us : List Value} {vs : List V} (F : aa4 X.prog X.w X.K X.mg X.base CX k f fd ps sp) (hr : R7 k X.A) (hb : aa6 X.K fd ps ds) (hd : j9 dvs ds) (hx : as0 CX X E)
    (I : Inv X pins σ H s) (r : j9 vs us) (h : sp (vs ++ dvs) H Q E) : wpAny (model X.prog X.w) X.A (call (.ref f) us) (EP X pins σ Q) X.xe s := by
  have r2 : j9 (vs ++ dvs) (us ++ ds) := r.append hd
  have hl : (us ++ ds).length = ps.length := by rw [← r2.length]; exact F.len _ _ _ _ h
  refine wpAny_call (codeAny_mono (F.run X.A X.stack s H ⟨us, []⟩ (us ++ ds) (vs ++ dvs) Q E hr I.env0 (hb s us I.kIn hl) r2 h) fun r s' hq => ?_)
  cases r with
  | error e => exact hx pins σ H s e s' I hq
  | ok fl =>
    cases fl with
    | ret u => exact I.after hq
    | next => exact False.elim hq
    | brk => exact False.elim hq
    | cont => exact False.elim hq
theorem ba6 (F : aa4 X.prog X.w X.K X.mg X.base CX k f fd ps sp) (hr : R7 k X.A) (hg : Gl X x) (hm : X.mg x = some (.ref f)) (hk : PySem.W.keepIn X.K (.ref f) = true) (hb : aa6 X.K fd ps ds) (hd : j9 dvs ds) (hx : as0 CX X E)
    (ha : PA X (e :: es) t) (hdb : (x == ("__debug__" : Str)) = false := by decide) (he : starEach (e :: es) X.env = (false, eval e X.env) :: starEach es X.env := by rfl) (hpl : (backTo pos (starEach es X.env)).any (·.1) = false := by rfl) :
    PE X (.Call (.Name x p) (e :: es) [] pos) (bf0 sp dvs E t) := by
  intro pins s σ H Q I h
  refine wpAny_Call_Name_kw (ah3 I hg hm ?_ hdb)
  refine PySem.W.callWith_K (h₀ := X.base) I.ok.mod.kin hk (thn (ha pos pins s σ H _ I h) fun us s1 ⟨vs, H1, I1, r, q⟩ => ⟨I1.kIn, ?_⟩) he hpl
  exact bg9 F hr hb hd hx I1 r q
structure Mk (K : PySem.W.Frag) (C f : Addr) : Prop where
  makes : PySem.W.makesIn K C = true
  init : PySem.W.findIn K (.ref C) "__init__" = some (some (.ref f))
  fn : PySem.W.isFn K (.ref f) = true
  kp : PySem.W.keepIn K (.ref C) = true
end
section
variable {X : Cx} {CX : CXT} {k : Nat} {f C : Addr} {fd : FuncData} {ps ks : List Str} {sp : Sp} {E : XK} {x m : Str} {p pos apos kpos : Pos} {e o : Expr} {es : List Expr} {kws : List Keyword} {te ta : TE} {t tk : TA} {nm : Option Str}
structure KBinds (K : PySem.W.Frag) (fd : FuncData) (ps ks : List Str) (g : List Value → List Value → List Value) (gV : List V → List V → List V) : Prop where
  to : ∀ (s : Shared) (us ws : List Value), K.In s.heap → (g us ws).length = ps.length → BindsTo s fd ⟨us, ks.zip ws⟩ (ps.zip (g us ws))
  rel : ∀ {vs : List V} {us : List Value} {zs : List V} {ws : List Value}, j9 vs us → j9 zs ws → j9 (gV vs zs) (g us ws)
variable {g : List Value → List Value → List Value} {gV : List V → List V → List V}
end
structure i5 (N P : List Str) (sc : Scope) : Prop where
  kind : sc.kind = .function
  co : sc.isCoroutine = false
  gen : sc.isGenerator = false
  nd : N.Nodup
  pre : N.take P.length = P
  par : ∀ x ∈ P, sc.names.lookup x = some .local ∨ sc.names.lookup x = some .cell
  nofree : ∀ y ∈ sc.names, y.2 ≠ .free
theorem ax3 {kindOf : Str → Option NameKind} {x : Str} : ∀ {binds : List (Str × Value)} {m : Str → Option Value}, (∀ v, (x, v) ∉ binds) → bindL kindOf binds m x = m x
  | [], _, _ => rfl
  | (n, v) :: r, m, h => by
    unfold bindL
    rw [ax3 fun w hw => h w (List.mem_cons_of_mem _ hw)]
    split
    · have : x ≠ n := by rintro rfl; exact h v List.mem_cons_self
      simp [this]
    · rfl
theorem ax5 {kindOf : Str → Option NameKind} {x : Str} : ∀ {binds : List (Str × Value)} {m : Str → Option Value}, (∀ v, (x, v) ∉ binds) → bindC kindOf binds m x = m x
  | [], _, _ => rfl
  | (n, v) :: r, m, h => by
    unfold bindC
    rw [ax5 fun w hw => h w (List.mem_cons_of_mem _ hw)]
    split
    · rfl
    · have : x ≠ n := by rintro rfl; exact h v List.mem_cons_self
      simp [this]
theorem ax4 {kindOf : Str → Option NameKind} {x : Str} {v : Value} : ∀ {P : List Str} {vs : List Value} {i : Nat} {m : Str → Option Value}, P.Nodup → P[i]? = some x → vs[i]? = some v → kindOf x = some .local →
    bindL kindOf (P.zip vs) m x = some v
  | [], _, _, _, _, h, _, _ => by simp at h
  | _ :: _, [], _, _, _, _, h, _ => by simp at h
  | p :: P, w :: vs, 0, m, nd, h1, h2, hk => by
    simp at h1 h2; subst h1; subst h2
    show bindL kindOf ((p, w) :: P.zip vs) m p = _
    unfold bindL
    rw [ax3 fun v hv => (List.nodup_cons.mp nd).1 (List.of_mem_zip hv).1, if_pos hk]
    simp
  | p :: P, w :: vs, i + 1, m, nd, h1, h2, hk => by
    show bindL kindOf ((p, w) :: P.zip vs) m x = _
    unfold bindL
    exact ax4 (i := i) (List.nodup_cons.mp nd).2 (by simpa using h1) (by simpa using h2) hk
theorem ax6 {kindOf : Str → Option NameKind} {x : Str} {v : Value} : ∀ {P : List Str} {vs : List Value} {i : Nat} {m : Str → Option Value}, P.Nodup → P[i]? = some x → vs[i]? = some v → kindOf x ≠ some .local →
    bindC kindOf (P.zip vs) m x = some v
  | [], _, _, _, _, h, _, _ => by simp at h
  | _ :: _, [], _, _, _, _, h, _ => by simp at h
  | p :: P, w :: vs, 0, m, nd, h1, h2, hk => by
    simp at h1 h2; subst h1; subst h2
    show bindC kindOf ((p, w) :: P.zip vs) m p = _
    unfold bindC
    rw [ax5 fun v hv => (List.nodup_cons.mp nd).1 (List.of_mem_zip hv).1, if_neg hk]
    simp
  | p :: P, w :: vs, i + 1, m, nd, h1, h2, hk => by
    show bindC kindOf ((p, w) :: P.zip vs) m x = _
    unfold bindC
    exact ax6 (i := i) (List.nodup_cons.mp nd).2 (by simpa using h1) (by simpa using h2) hk
def start (N : List Str) (vs : List V) : St := vs.map some ++ List.replicate (N.length - vs.length) none
def ae9 (CX : CXT) (P : Program) (w : World) (K : PySem.W.Frag) (mg : Str → Option Value) (base : Heap) (N : List Str) (qual : Str) (scope : Scope) (f : Addr) (cd : Value) (A : Around) (outer : List Env) (s : Shared) (H : Hp) (E : XK) : Cx where
  prog := P
  w := w
  K := K
  mg := mg
  base := base
  A := A.deeper (envOfC qual scope s.heap.objs.size f cd)
  N := N
  s₀ := s
  H₀ := H
  env := envOfC qual scope s.heap.objs.size f cd
  outer := outer
  stack := envOfC qual scope s.heap.objs.size f cd :: outer
  ex := []
  calm := true
  fn := fun _ => true
  pn := []
  xe := fun e s' => wpAny (model P w) (A.deeper (envOfC qual scope s.heap.objs.size f cd)) (leaving (envOfC qual scope s.heap.objs.size f cd) e) (fun _ s'' => CX outer H s E e s'') (fun e' s'' => CX outer H s E e' s'') s'
theorem aG0 {sc : Scope} {n : Nat} {x : Str} (h : sc.names.lookup x = some .cell) : ∃ c, (cellsFrom n sc.names []).lookup x = some c := by
  have q := PySem.W.cellsFrom_some sc.names n [] (.inl h)
  exact Option.isSome_iff_exists.mp q
theorem aw1 {CX : CXT} {P : Program} {w : World} {K : PySem.W.Frag} {mg : Str → Option Value} {base : Heap} {N ps : List Str} {qual : Str} {scope : Scope} {f : Addr} {cd : Value} {A : Around} {outer : List Env} {s s1 : Shared} {H : Hp} {E : XK} {us : List Value} {vs : List V}
    (S : i5 N ps scope) (hd : A.handled = none) (e0 : aQ6 P w K mg base A outer s H) (hl : vs.length = ps.length) (r : j9 vs us)
    (x : InCallC s s.heap.objs.size (bindL (envOfC qual scope s.heap.objs.size f cd).kindOf (ps.zip us) fun _ => none) (cellsFrom (s.heap.objs.size + 1) scope.names []) (bindC (envOfC qual scope s.heap.objs.size f cd).kindOf (ps.zip us) fun _ => none) s1) :
    Inv (ae9 CX P w K mg base N qual scope f cd A outer s H E) [] (start N vs) H s1 := by
  have hpl : ps.length ≤ N.length := by have := congrArg List.length S.pre; rw [List.length_take] at this; omega
  obtain ⟨h1, tk, rfl, hk⟩ := x.done
  have noA : ∀ b : Addr, b ∉ (ae9 CX P w K mg base N qual scope f cd A outer s H E).ex := fun b z => absurd (show b ∈ ([] : List Addr) from z) (by simp)
  refine ⟨⟨e0.mod, S.kind, rfl, rfl, Nat.le_refl _, fun y z c h1 h2 => ?_, fun y hy => ?_, fun y c _ h => ?_, fun _ => hd, Around.frames_deeper e0.frames, .inr ⟨rfl, rfl⟩, fun b z => absurd z (noA b), e0.bs, e0.bsz, fun b _ _ => noA b, fun b z => absurd z (noA b), e0.funs, e0.frf⟩,
    rfl, e0.bare, Un.kept hk, ⟨_, x.toInCall.ns, fun i y v h1 h2 h3 => ?_⟩, fun y c h => ⟨_, x.cell y c h⟩, e0.hok.fresh (Nat.le_refl _), fun y c h => ?_, fun p hp => absurd (show p ∈ ([] : List (Addr × Obj)) from hp) (by simp), e0.hok.kept hk, ?_⟩
  · exact name_of_addr x.apart (PySem.mem_of_lookup h1) (PySem.mem_of_lookup h2)
  · have hy : scope.names.lookup y = some .cell ∨ scope.names.lookup y = some .free := hy
    rcases hy with hy | hy
    · exact aG0 hy
    · exact absurd rfl (S.nofree _ (PySem.mem_of_lookup hy))
  · exact Nat.le_of_lt (x.above y c (PySem.mem_of_lookup h))
  · have hi : i < vs.length := by
      unfold start at h2
      by_cases hi : i < vs.length
      · exact hi
      · rw [List.getElem?_append_right (by simpa using hi)] at h2
        rw [List.getElem?_replicate] at h2
        split at h2 <;> cases h2
    have ha : vs[i]? = some v := by
      unfold start at h2
      rw [List.getElem?_append_left (by simpa using hi), List.getElem?_map] at h2
      cases e : vs[i]? with
      | none => rw [e] at h2; cases h2
      | some a => rw [e] at h2; cases h2; rfl
    obtain ⟨u, hu, rv⟩ := r.get ha
    have hp : ps[i]? = some y := by
      rw [← S.pre, List.getElem?_take_of_lt (by omega)]; exact h1
    have ndP : ps.Nodup := by rw [← S.pre]; exact S.nd.sublist (List.take_sublist _ _)
    refine ⟨u, rv, ?_⟩
    rcases S.par y (List.mem_of_getElem? hp) with k | k
    · exact .inl ⟨k, ax4 ndP hp hu k⟩
    · obtain ⟨c, e⟩ := aG0 (n := s.heap.objs.size + 1) k
      refine .inr ⟨.inl k, c, e, ?_⟩
      have q := x.cell y c e
      rw [ax6 ndP hp hu (by show scope.names.lookup y ≠ _; rw [k]; decide)] at q
      exact q
  · exact e0.hok.fresh (Nat.le_of_lt (x.above y c (PySem.mem_of_lookup h)))
  · unfold start
    show _ = N.length
    rw [List.length_append, List.length_map, List.length_replicate]
    omega
theorem bf9 {CX : CXT} {P : Program} {w : World} {K : PySem.W.Frag} {mg : Str → Option Value} {base : Heap} {k : Nat} {f : Addr} {name qual : Str} {params : Arguments} {body : List Stmt} {scope : Scope} {dV kV doc pm cdv ct oc : Value} {an od : Option Addr}
    {osl : Array (Option Value)} {N ps : List Str} {sp : Sp} (lk : K.lookup f = some ⟨oc, od, .func (PySem.W.fnOf name qual params body scope dV kV doc pm an cdv ct), osl⟩) (hcd : PySem.W.codeIn K cdv qual = true) (S : i5 N ps scope)
    (len : ∀ vs H Q E, sp vs H Q E → vs.length = ps.length)
    (hbody : ∀ (A : Around) (outer : List Env) (s : Shared) (H : Hp) (vs : List V) (Q : VK) (E : XK), R7 k (A.deeper (envOfC qual scope s.heap.objs.size f cdv)) → sp vs H Q E →
      ∃ t, PSs (ae9 CX P w K mg base N qual scope f cdv A outer s H E) body t ∧ t { nx := fun _ H' => Q .non H', rt := Q } (start N vs) H) :
    aa4 P w K mg base CX (k + 1) f (PySem.W.fnOf name qual params body scope dV kV doc pm an cdv ct) ps sp := by
  refine ⟨len, fun A outer s H args us vs Q E hr e0 hb r hsp => ?_⟩
  have hl := len _ _ _ _ hsp
  have KX : K.In s.heap := e0.mod.kin.keeps fun b o e => (e0.bs b o e).1
  have lim : s.heap.NoLimit := e0.mod.nolimit.keeps fun b o e => (e0.bs b o e).1
  have hkind : ∀ y ∈ ps.zip us, scope.names.lookup y.1 = some .local ∨ (scope.names.lookup y.1 = some .cell ∧ ((cellsFrom (s.heap.objs.size + 1) scope.names []).lookup y.1).isSome = true) := fun ⟨n, v⟩ hy => by
    rcases S.par n (List.of_mem_zip hy).1 with q | q
    · exact .inl q
    · exact .inr ⟨q, PySem.W.cellsFrom_some _ _ _ (.inl q)⟩
  refine codeAny_call_function hr.depth (KX _ _ lk) rfl S.co S.gen rfl (PySem.W.codeRec_of KX hcd) (hb _ _ _ _ ?_)
  refine wpAny_newFunctionEnv_cells S.kind hkind fun env he s1 x => ?_
  subst he
  refine ⟨lim.keeps x.toInCall.keep, codeAny_func ?_⟩
  obtain ⟨t, ht, hq⟩ := hbody A outer s H vs Q E (hr.deeper _) hsp
  have I : Inv (ae9 CX P w K mg base N qual scope f cdv A outer s H E) [] (start N vs) H s1 := aw1 S hr.hd e0 hl r x
  refine wpAny_mono (ht [] s1 (start N vs) H _ I hq) (fun fl s' hs => ?_) fun e s' hs => hs
  have fin : ∀ {σ' : St} {H' : Hp} {v : V} {u : Value}, Inv (ae9 CX P w K mg base N qual scope f cdv A outer s H E) [] σ' H' s' → y7 v u → Q v H' → CE outer P w H s Q u s' :=
    fun {σ' H' v u} J rv q => ⟨v, H', J.os, J.bare, J.base, J.hok, rv, q⟩
  cases fl with
  | ret u =>
    obtain ⟨v, σ', H', J, rv, q⟩ := hs
    exact fin J rv q
  | next =>
    obtain ⟨σ', H', J, q⟩ := hs
    exact fin (v := V.non) (u := Value.none) J rfl q
  | brk =>
    obtain ⟨_, _, _, q⟩ := hs
    exact False.elim q
  | cont =>
    obtain ⟨_, _, _, q⟩ := hs
    exact False.elim q
section
variable {X : Cx} {x : Str} {p pos : Pos} {e : Expr} {es : List Expr} {t : TA} {id T : String} {r : List V → Hp → VK → Prop}
def tCB (r : List V → Hp → VK → Prop) (t : TA) : TE := fun σ H Q => t σ H fun vs H1 => r vs H1 Q
theorem d9 (hc : aa5 X (.builtin id) r) (hg : Gl X x) (hm : X.mg x = none) (hv : bootBuiltins x = some (.builtin id)) (ha : PA X (e :: es) t) (hn : x ≠ "__name__" := by decide) (hdb : (x == ("__debug__" : Str)) = false := by decide)
    (he : starEach (e :: es) X.env = (false, eval e X.env) :: starEach es X.env := by rfl) (hpl : (backTo pos (starEach es X.env)).any (·.1) = false := by rfl) : PE X (.Call (.Name x p) (e :: es) [] pos) (tCB r t) := by
  intro pins s σ H Q I h
  refine wpAny_Call_Name_kw (Z3 I hg hm hv ?_ hn hdb)
  exact PyProof.Rows.callWith_builtin1 (thn (ha pos pins s σ H _ I h) fun us s1 ⟨vs, H1, I1, r1, q1⟩ => hc pins s1 σ H1 vs us Q I1 r1 q1) he hpl
theorem N2 (hc : aa5 X (.type T) r) (hg : Gl X x) (hm : X.mg x = none) (hv : bootBuiltins x = some (.type T)) (ha : PA X (e :: es) t) (hn : x ≠ "__name__" := by decide) (hdb : (x == ("__debug__" : Str)) = false := by decide)
    (he : starEach (e :: es) X.env = (false, eval e X.env) :: starEach es X.env := by rfl) (hpl : (backTo pos (starEach es X.env)).any (·.1) = false := by rfl) : PE X (.Call (.Name x p) (e :: es) [] pos) (tCB r t) := by
  intro pins s σ H Q I h
  refine wpAny_Call_Name_kw (Z3 I hg hm hv ?_ hn hdb)
  exact PyProof.Rows.callWith_type1 (thn (ha pos pins s σ H _ I h) fun us s1 ⟨vs, H1, I1, r1, q1⟩ => hc pins s1 σ H1 vs us Q I1 r1 q1) he hpl
end
end L2
namespace HT
open PySem PyProof.Rows
section
open PySem.SeqAt
open PySem.AutoSeq1 (wpAny_loadPart')
open PySem.MeetsSeq PySem.MeetsSeq2 PySem.MeetsSeq3
end
section
variable {prog : Program} {w : World} {A : Around} {E : Value → Shared → Prop} {s : Shared}
def sIx (n d : Nat) : Option Int → Nat
  | none => d
  | some v => if v < 0 then (v + (n : Int)).toNat else min v.toNat n
end
end HT
namespace L2
open PySem PySem.Spec PyProof.Rows
abbrev TO := St → Hp → (Option Int → Hp → Prop) → Prop
def PO (X : Cx) (e : Option Expr) (t : TO) : Prop :=
  ∀ (pins : List (Addr × Obj)) (s : Shared) (σ : St) (H : Hp) (Q : Option Int → Hp → Prop), Inv X pins σ H s → t σ H Q →
    wpAny (model X.prog X.w) X.A (evalPart e X.env) (fun u s' => ∃ o H', Inv X pins σ H' s' ∧ IsPart u o ∧ Q o H') X.xe s
def af2 : TO := fun _ H Q => Q none H
def aB7 (t : TE) : TO := fun σ H Q => t σ H fun x H1 => ∃ i, x = .int i ∧ Q (some i) H1
section
variable {X : Cx} {e : Expr} {te : TE} {lo hi : Option Expr} {tl th : TO} {pos p2 : Pos}
theorem P6 : PO X none af2 := by
  intro pins s σ H Q I h
  rw [evalPart_none]
  exact wpAny_pure ⟨none, H, I, .none, h⟩
theorem P5 (h : PE X e te) : PO X (some e) (aB7 te) := by
  intro pins s σ H Q I hw
  rw [evalPart_some]
  refine thn (h pins s σ H _ I hw) fun u s1 ⟨x, H1, I1, r1, q1⟩ => ?_
  obtain ⟨i, rfl, q⟩ := q1
  obtain ⟨t, rfl⟩ := r1
  exact ⟨some i, H1, I1, .int i t, q⟩
def SlR (X : Cx) (r : V → Option Int → Option Int → Hp → VK → Prop) : Prop :=
  ∀ (pins : List (Addr × Obj)) (s : Shared) (σ : St) (H : Hp) (x : V) (v vl vu : Value) (lo hi : Option Int) (sl : Addr) (Q : VK), Inv X pins σ H s → y7 x v → s.heap.IsSliceOf sl vl vu .none → IsPart vl lo → IsPart vu hi → r x lo hi H Q →
    ∃ T id, typeLookup (.type T) "__getitem__" = pure (some (.builtin id)) ∧ s.TypeIs v T ∧ wpAny (model X.prog X.w) X.A (getItem v (.ref sl)) (EP X pins σ Q) X.xe s
def tSl (r : V → Option Int → Option Int → Hp → VK → Prop) (te : TE) (tl th : TO) : TE := fun σ H Q => te σ H fun x H1 => tl σ H1 fun l H2 => th σ H2 fun u H3 => r x l u H3 Q
theorem M5 {r : V → Option Int → Option Int → Hp → VK → Prop} (hr : SlR X r) (he : PE X e te) (hl : PO X lo tl) (hu : PO X hi th) : PE X (.Subscript e (.Slice lo hi none p2) pos) (tSl r te tl th) := by
  intro pins s σ H Q I h
  refine Subscript_ (thn (he pins s σ H _ I h) fun v s1 ⟨x, H1, I1, r1, q1⟩ => ?_)
  refine wpAny_Slice (thn (hl pins s1 σ H1 _ I1 q1) fun vl s2 ⟨l, H2, I2, pl, q2⟩ => thn (hu pins s2 σ H2 _ I2 q2) fun vu s3 ⟨u, H3, I3, pu, q3⟩ => ?_)
  rw [evalPart_none]
  refine wpAny_pure ?_
  have I4 : Inv X pins σ H3 { s3 with heap := s3.heap.push { cls := .type "slice", data := .fields #[vl, vu, .none] } } := I3.kept (t' := s3.toks) fun b ob q => Heap.get?_push_of_some _ q
  obtain ⟨T, id, hT, ht, hg⟩ := hr pins { s3 with heap := s3.heap.push { cls := .type "slice", data := .fields #[vl, vu, .none] } } σ H3 x v vl vu l u s3.heap.objs.size Q I4 r1 (Heap.IsSliceOf.new ..) pl pu q3
  show wpAny (model X.prog X.w) X.A (subscriptTail e (.Slice lo hi none p2) v (.ref s3.heap.objs.size)) (EP X pins σ Q) X.xe { s3 with heap := s3.heap.push { cls := .type "slice", data := .fields #[vl, vu, .none] } }
  exact tail_any (ops := [.ref s3.heap.objs.size, v]) ht hT hg (by with_unfolding_all rfl)
def Z8 (xs : List V) (lo hi : Option Int) : List V := (xs.drop (HT.sIx xs.length 0 lo)).take (HT.sIx xs.length xs.length hi - HT.sIx xs.length 0 lo)
theorem aF7 (xs : List V) (lo hi : Option Int) : (Z8 xs lo hi).length ≤ xs.length := by
  unfold Z8
  rw [List.length_take, List.length_drop]
  omega
end
def ixN (n : Nat) (i : Int) : Option Nat := if 0 ≤ i then (if i < n then some i.toNat else none) else if -(n : Int) ≤ i then some (i + n).toNat else none
def atI {α : Type} (xs : List α) (i : Int) : Option α := (ixN xs.length i).bind fun j => xs[j]?
theorem aK7 {n : Nat} {i : Int} {j : Nat} (h : ixN n i = some j) : seqIndex? i n = some j ∧ j < n ∧ -(n : Int) ≤ i ∧ i < n := by
  unfold ixN at h
  by_cases h0 : 0 ≤ i
  · rw [if_pos h0] at h
    by_cases h1 : i < n
    · rw [if_pos h1] at h
      have e : i.toNat = j := Option.some.inj h
      exact ⟨by rw [seqIndex_of h0 h1, e], by omega, by omega, h1⟩
    · rw [if_neg h1] at h; cases h
  · rw [if_neg h0] at h
    by_cases h1 : -(n : Int) ≤ i
    · rw [if_pos h1] at h
      have e : (i + n).toNat = j := Option.some.inj h
      exact ⟨by rw [seqIndex_neg (by omega) h1, e], by omega, h1, by omega⟩
    · rw [if_neg h1] at h; cases h
theorem aB3 {α : Type} {xs : List α} {i : Int} {v : α} (h : atI xs i = some v) : ∃ j, seqIndex? i xs.length = some j ∧ xs[j]? = some v ∧ j < xs.length ∧ -(xs.length : Int) ≤ i ∧ i < xs.length := by
  unfold atI at h
  cases e : ixN xs.length i with
  | none => rw [e] at h; cases h
  | some j =>
    rw [e] at h
    obtain ⟨h1, h2, h3, h4⟩ := aK7 e
    exact ⟨j, h1, h, h2, h3, h4⟩
theorem S9 {α : Type} {xs : List α} {j : Nat} {v : α} (h : xs[j]? = some v) : atI xs (j : Int) = some v := by
  have hj : j < xs.length := (List.getElem?_eq_some_iff.mp h).1
  have e : ixN xs.length (j : Int) = some j := by
    unfold ixN
    rw [if_pos (by omega), if_pos (by omega)]; simp
  unfold atI; rw [e]; exact h
def be3 (b : Expr) : Prop := ∀ o i, subscripted b false o i = operate [o, i] (getItem o i)
def IxR (X : Cx) (r : R2) : Prop :=
  ∀ (value slice : Expr) (pins : List (Addr × Obj)) (s : Shared) (σ : St) (H : Hp) (x y : V) (v u : Value) (Q : VK), Inv X pins σ H s → y7 x v → y7 y u → r x y H Q →
    subscripted slice false v u = operate [v, u] (getItem v u) → wpAny (model X.prog X.w) X.A (subscriptTail value slice v u) (EP X pins σ Q) X.xe s
def MtR (X : Cx) (id : String) (r : V → List V → Hp → VK → Prop) : Prop :=
  ∀ (pins : List (Addr × Obj)) (s : Shared) (σ : St) (H : Hp) (x : V) (xs : List V) (v : Value) (us : List Value) (Q : VK), Inv X pins σ H s → y7 x v → j9 xs us → r x xs H Q →
    wpAny (model X.prog X.w) X.A (call (.builtin id) (v :: us)) (EP X pins σ Q) X.xe s
section
variable {X : Cx} {a b : Expr} {ta tb : TE} {pos : Pos}
theorem j6 {r : R2} (hr : IxR X r) (ha : PE X a ta) (hb : PE X b tb) (hs : be3 b) : PE X (.Subscript a b pos) (tOp r ta tb) := by
  intro pins s σ H Q I h
  exact Subscript_ (bj7 ha hb I h fun v u s2 x y H2 I2 rx ry q => hr a b pins s2 σ H2 x y v u Q I2 rx ry q (hs _ _))
def aD3 (K : PySem.W.Frag) : R2 := fun x y H Q => ∃ p xs i v, x = .ref p ∧ y = .int i ∧ SqL K H p xs ∧ atI xs i = some v ∧ Q v H
def aN7 (K : PySem.W.Frag) : R2 := fun x y H Q => ∃ p xs i v, x = .ref p ∧ y = .int i ∧ SqT K H p xs ∧ atI xs i = some v ∧ Q v H
theorem w5 : IxR X (aD3 X.K) := by
  intro value slice pins s σ H x y v u Q I rx ry h hs
  obtain ⟨p, xs, i, z, rfl, rfl, hq, he, q⟩ := h
  cases rx
  obtain ⟨t, rfl⟩ := ry
  obtain ⟨its, r, pl, hz⟩ := I.list hq
  obtain ⟨j, h1, h2, h3, h4, h5⟩ := aB3 he
  obtain ⟨w, ew, rw'⟩ := r.get h2
  have hl := r.length
  have hn := ae4
  have fin : EP X pins σ Q w s := ⟨z, H, I, rw', q⟩
  by_cases h0 : 0 ≤ i
  · have hj : i.toNat = j := by
      rw [seqIndex_of h0 h5] at h1
      exact Option.some.inj h1
    exact item_listR pl.isList h0 (by omega) (by rw [hj]; simpa using ew) fin hs
  · have hj : (i + (its.toArray.size : Int)).toNat = j := by
      rw [seqIndex_neg (by omega) h4] at h1
      rw [List.size_toArray, ← hl]
      exact Option.some.inj h1
    exact subscriptTail_builtinR (x := w) pl.isList.typeIs slot_list_getitem.lookup
      (wpAny_getItem_list_neg (Q := fun r s' => r = w ∧ EP X pins σ Q r s') pl.isList (by omega) (by rw [List.size_toArray] <;> omega) (by omega) (by rw [hj]; simpa using ew) ⟨rfl, fin⟩) hs
theorem p9 : IxR X (aN7 X.K) := by
  intro value slice pins s σ H x y v u Q I rx ry h hs
  obtain ⟨p, xs, i, z, rfl, rfl, hq, he, q⟩ := h
  cases rx
  obtain ⟨t, rfl⟩ := ry
  obtain ⟨its, r, pl, hz⟩ := I.tuple hq
  obtain ⟨j, h1, h2, h3, h4, h5⟩ := aB3 he
  obtain ⟨w, ew, rw'⟩ := r.get h2
  have hl := r.length
  have hn := ae4
  have fin : EP X pins σ Q w s := ⟨z, H, I, rw', q⟩
  exact subscriptTail_builtinR (x := w) pl.typeIs slot_tuple_getitem.lookup
    (getItem_tuple (j := j) (Q := fun r s' => r = w ∧ EP X pins σ Q r s') pl (by omega) (by omega) (by rw [List.size_toArray, ← hl]; exact h1) (by simpa using ew) ⟨rfl, fin⟩) hs
theorem aI0 (its : List Value) (n j : Nat) (u : Value) : Obj.mapSeq (·.setIfInBounds j u) { cls := .type "list", data := .seq its.toArray n } = { cls := .type "list", data := .seq (its.set j u).toArray n } := by
  simp [Obj.mapSeq]
theorem Inv.lst {pins : List (Addr × Obj)} {σ : St} {H : Hp} {s : Shared} {p : Addr} {xs : List V} (I : Inv X pins σ H s) (h : H p = some (.lst xs)) :
    ∃ (its : List Value) (n : Nat), j9 xs its ∧ s.heap.get? p = some { cls := .type "list", data := .seq its.toArray n } ∧ xs.length ≤ sizeLine := by
  obtain ⟨z, its, n, r, e⟩ := I.hok p _ h
  exact ⟨its, n, r, e, z⟩
theorem Inv.lstUpd {pins : List (Addr × Obj)} {σ : St} {H : Hp} {s : Shared} {p : Addr} {xs ys : List V} {its its' : List Value} {n n' : Nat} {f : Obj → Obj} (I : Inv X pins σ H s) (h : H p = some (.lst xs))
    (ho : s.heap.get? p = some { cls := .type "list", data := .seq its.toArray n }) (hf : f { cls := .type "list", data := .seq its.toArray n } = { cls := .type "list", data := .seq its'.toArray n' }) (r : j9 ys its') (hz : ys.length ≤ sizeLine) (t : Nat) :
    Inv X pins σ (upd H p (.lst ys)) { s with heap := s.heap.update p f, toks := t } := by
  have e : (s.heap.update p f).get? p = some { cls := .type "list", data := .seq its'.toArray n' } := by
    rw [Heap.get?_update_self f ho (by rw [hf] <;> rfl), hf]
  refine I.write (x := p) (e := p) (by rw [h]; trivial) (.inl rfl) (fun b u hb q => (Heap.get?_update_other _ _ (Ne.symm hb)).trans q) ⟨_, e⟩ ?_
  exact ⟨hz, its', n', r, e⟩
def aD2 : V → V → V → Hp → (Hp → Prop) → Prop := fun o i v H Q => ∃ p xs k j, o = .ref p ∧ i = .int k ∧ H p = some (.lst xs) ∧ ixN xs.length k = some j ∧ Q (upd H p (.lst (xs.set j v)))
theorem Q5 : bk4 X aD2 := by
  intro pins s σ H o i v ov iv u Q I ro ri rv h
  obtain ⟨p, xs, k, j, rfl, rfl, hp, hj, q⟩ := h
  cases ro
  obtain ⟨t, rfl⟩ := ri
  obtain ⟨its, n, r, ho, hz⟩ := I.lst hp
  obtain ⟨h1, h2, h3, h4⟩ := aK7 hj
  have hl := r.length
  have hn := ae4
  have I' : Inv X pins σ (upd H p (.lst (xs.set j v))) { s with heap := s.heap.update p (Obj.mapSeq (·.setIfInBounds j u)) } :=
    I.lstUpd hp ho (aI0 its n j u) (r.set rv j) (by rw [List.length_set]; exact hz) s.toks
  by_cases h0 : 0 ≤ k
  · have hk : k.toNat = j := by
      rw [seqIndex_of h0 h4] at h1
      exact Option.some.inj h1
    exact PySem.W.ki_setAt ho h0 (by omega) (by rw [List.size_toArray, ← hl]; exact h4) (by rw [hk]; exact ⟨_, I', q⟩)
  · have hk : (k + (its.toArray.size : Int)).toNat = j := by
      rw [seqIndex_neg (by omega) h3] at h1
      rw [List.size_toArray, ← hl]
      exact Option.some.inj h1
    exact PySem.W.ki_setBack ho (by omega) (by rw [List.size_toArray, ← hl]; exact h3) (by omega) (by rw [hk]; exact ⟨_, I', q⟩)
theorem ay5 (lo hi : Option Int) (n : Nat) : (sliceBounds lo hi none n).1 = ((HT.sIx n 0 lo : Nat) : Int) ∧ (sliceBounds lo hi none n).2.1 = ((HT.sIx n n hi : Nat) : Int) ∧ (sliceBounds lo hi none n).2.2 = 1 := by
  refine ⟨?_, ?_, rfl⟩
  · cases lo with
    | none => simp [sliceBounds, HT.sIx]
    | some i =>
      simp only [sliceBounds, HT.sIx, Option.getD_none, show (1 : Int) > 0 by decide, if_true]
      by_cases h : i < 0
      · simp only [h, if_true] <;> omega
      · simp only [h, if_false] <;> omega
  · cases hi with
    | none => simp [sliceBounds, HT.sIx]
    | some i =>
      simp only [sliceBounds, HT.sIx, Option.getD_none, show (1 : Int) > 0 by decide, if_true]
      by_cases h : i < 0
      · simp only [h, if_true] <;> omega
      · simp only [h, if_false] <;> omega
theorem as2 (its : List Value) (lo hi : Option Int) : slicePick its.toArray lo hi none = ((its.drop (HT.sIx its.length 0 lo)).take (HT.sIx its.length its.length hi - HT.sIx its.length 0 lo)).toArray := by
  obtain ⟨h1, h2, h3⟩ := ay5 lo hi its.toArray.size
  unfold slicePick
  rw [h1, h2, h3]
  simp only [sliceRange_one, pick_run, List.size_toArray] <;> rfl
def aT4 (K : PySem.W.Frag) : V → Option Int → Option Int → Hp → VK → Prop := fun x lo hi H Q => ∃ a xs, x = .ref a ∧ SqL K H a xs ∧ ∀ p, H p = none → Q (.ref p) (upd H p (.lst (Z8 xs lo hi)))
theorem P2 : SlR X (aT4 X.K) := by
  intro pins s σ H x v vl vu lo hi sl Q I rx hs pl pu h
  obtain ⟨a, xs, rfl, hx, q⟩ := h
  cases rx
  obtain ⟨its, r, ht, hz⟩ := I.list hx
  have hlen := r.length
  refine ⟨"list", _, slot_list_getitem.lookup, ht.isList.typeIs, ?_⟩
  refine wpAny_getItem_list_slice ht.isList hs pl pu .none (by simp) ?_ (by rw [List.size_toArray] <;> omega)
  rw [as2, ← hlen]
  refine ⟨.ref s.heap.objs.size, _, I.laid (t' := s.toks) (o := .lst (Z8 xs lo hi)) (fun b ob q => Heap.get?_push_of_some _ q) (Nat.le_refl _) ?_, rfl, q _ (I.hok.fresh (Nat.le_refl _))⟩
  exact ⟨Nat.le_trans (aF7 xs lo hi) hz, _, 0, (r.drop (HT.sIx xs.length 0 lo)).take (HT.sIx xs.length xs.length hi - HT.sIx xs.length 0 lo), Heap.get?_push_size _ rfl⟩
def R6 : V → Bool
  | .non => true
  | .bl _ => true
  | .int _ => true
  | .str _ => true
  | _ => false
def eqV : V → V → Bool
  | .non, .non => true
  | .bl a, .bl b => a == b
  | .bl a, .int b => (if a then 1 else 0) == b
  | .int a, .bl b => a == (if b then 1 else 0)
  | .int a, .int b => a == b
  | .str a, .str b => a == b
  | _, _ => false
theorem aX8 {A : Around} {s : Shared} {y x : V} {u v : Value} (ry : y7 y u) (rx : y7 x v) (fy : R6 y = true) (fx : R6 x = true) : SeqAt.EqAt A s u v (eqV y x) := by
  cases y with
  | non =>
    cases ry
    cases x with
    | non => cases rx; exact SeqAt.EqAt.same _
    | bl b => cases rx; exact SeqAt.EqAt.none_bool b
    | int b => obtain ⟨t, rfl⟩ := rx; exact SeqAt.EqAt.none_int b t
    | str b => obtain ⟨t, rfl⟩ := rx; exact SeqAt.EqAt.none_str b t
    | _ => exact absurd (show false = true from fx) Bool.false_ne_true
  | bl a =>
    cases ry
    cases x with
    | non => cases rx; exact SeqAt.EqAt.bool_none a
    | bl b => cases rx; exact SeqAt.EqAt.bool_bool a b
    | int b => obtain ⟨t, rfl⟩ := rx; exact SeqAt.EqAt.bool_int a b t
    | str b => obtain ⟨t, rfl⟩ := rx; exact SeqAt.EqAt.bool_str a b t
    | _ => exact absurd (show false = true from fx) Bool.false_ne_true
  | int a =>
    obtain ⟨t', rfl⟩ := ry
    cases x with
    | non => cases rx; exact SeqAt.EqAt.int_none a t'
    | bl b => cases rx; exact SeqAt.EqAt.int_bool a t' b
    | int b => obtain ⟨t, rfl⟩ := rx; exact SeqAt.EqAt.int_int a t' b t
    | str b => obtain ⟨t, rfl⟩ := rx; exact SeqAt.EqAt.int_str a t' b t
    | _ => exact absurd (show false = true from fx) Bool.false_ne_true
  | str a =>
    obtain ⟨t', rfl⟩ := ry
    cases x with
    | non => cases rx; exact SeqAt.EqAt.str_none a t'
    | bl b => cases rx; exact SeqAt.EqAt.str_bool a t' b
    | int b => obtain ⟨t, rfl⟩ := rx; exact SeqAt.EqAt.str_int a t' b t
    | str b => obtain ⟨t, rfl⟩ := rx; exact SeqAt.EqAt.str_str a t' b t
    | _ => exact absurd (show false = true from fx) Bool.false_ne_true
  | _ => exact absurd (show false = true from fy) Bool.false_ne_true
def eqU (x : V) (u : Value) : Bool := match u with
  | .none => eqV .non x
  | .bool b => eqV (.bl b) x
  | .int i _ => eqV (.int i) x
  | .str z _ => eqV (.str z) x
  | _ => false
theorem aI6 {x y : V} {u : Value} (r : y7 y u) (f : R6 y = true) : eqU x u = eqV y x := by
  cases y with
  | non => cases r; rfl
  | bl b => cases r; rfl
  | int i => obtain ⟨t, rfl⟩ := r; rfl
  | str z => obtain ⟨t, rfl⟩ := r; rfl
  | _ => exact absurd (show false = true from f) Bool.false_ne_true
theorem ap7 {A : Around} {s : Shared} {x : V} {v : Value} (rx : y7 x v) (fx : R6 x = true) : ∀ {xs : List V} {us : List Value}, j9 xs us → xs.all R6 = true → ∀ u ∈ us, SeqAt.EqAt A s u v (eqU x u)
  | _, _, .nil, _ => fun u hu => by cases hu
  | y :: xs, u :: us, .cons r t, f => fun u' hu => by
    rw [List.all_cons, Bool.and_eq_true] at f
    rcases List.mem_cons.mp hu with rfl | hu
    · rw [aI6 r f.1]; exact aX8 r rx f.1 fx
    · exact ap7 rx fx t f.2 u' hu
theorem j2 : aa5 X (.builtin "len") (fun xs H Q => ∃ p ys, xs = [.ref p] ∧ (SqL X.K H p ys ∨ SqT X.K H p ys) ∧ Q (.int ys.length) H) := by
  intro pins s σ H xs us Q I r h
  obtain ⟨p, ys, rfl, hq, q⟩ := h
  obtain ⟨u, rfl, rx⟩ := af1 r
  cases rx
  have hn := ae4
  rcases hq with hq | hq
  · obtain ⟨its, r', pl, hz⟩ := I.list hq
    have hlen := r'.length
    exact Calls.call_len_list pl.isList (by simp only [List.size_toArray] <;> omega) ⟨.int ys.length, H, I.tok _, ⟨s.toks + 1, by rw [List.size_toArray, hlen]⟩, q⟩
  · obtain ⟨its, r', pl, hz⟩ := I.tuple hq
    have hlen := r'.length
    exact len_tuple pl (by simp only [List.size_toArray] <;> omega) ⟨.int ys.length, H, I.tok _, ⟨s.toks + 1, by rw [List.size_toArray, hlen]⟩, q⟩
theorem K0 : aa5 X (.type "list") (fun xs H Q => ∃ p ys, xs = [.ref p] ∧ (SqL X.K H p ys ∨ SqT X.K H p ys) ∧ ∀ l, H l = none → Q (.ref l) (upd H l (.lst ys))) := by
  intro pins s σ H xs us Q I r h
  obtain ⟨p, ys, rfl, hq, q⟩ := h
  obtain ⟨u, rfl, rx⟩ := af1 r
  cases rx
  have fin : ∀ (its : List Value), j9 ys its → ys.length ≤ sizeLine → ∀ (h' : Heap) (c' : Nat), (∀ b o', s.heap.get? b = some o' → h'.get? b = some o') →
      h'.get? s.heap.objs.size = some { cls := .type "list", dict := none, data := .seq its.toArray c', slots := #[] } → EP X pins σ Q (.ref s.heap.objs.size) { s with heap := h' } := fun its r' hz h' c' kp e =>
    ⟨.ref s.heap.objs.size, _, I.laid (t' := s.toks) kp (Nat.le_refl _) (show F0 X.prog X.w _ h' _ (.lst ys) from ⟨hz, its, c', r', e⟩), rfl, q _ (I.hok.fresh (Nat.le_refl _))⟩
  rcases hq with hq | hq
  · obtain ⟨its, r', pl, hz⟩ := I.list hq
    have hlen := r'.length
    obtain ⟨o, ho, hc, n, hd⟩ := pl.isList
    exact call_list_seq p (.inl rfl) ho hc hd (fun h' c' kp e => fin its r' hz h' c' kp e) (by simp only [List.size_toArray] <;> omega)
  · obtain ⟨its, r', pl, hz⟩ := I.tuple hq
    have hlen := r'.length
    obtain ⟨o, ho, hc, n, hd⟩ := pl
    exact call_list_seq p (.inr rfl) ho hc hd (fun h' c' kp e => fin its r' hz h' c' kp e) (by simp only [List.size_toArray] <;> omega)
def tyV (K : PySem.W.Frag) (T : String) (x : V) (H : Hp) : Prop := match x with
  | .str _ => T = "str"
  | .int _ => T = "int"
  | .ref p => (T = "list" ∧ ∃ xs, SqL K H p xs) ∨ (T = "tuple" ∧ ∃ o, K.lookup p = some o ∧ o.cls = .type "tuple" ∧ o.dict = none) ∨
      (T = "dict" ∧ ((∃ kvs, H p = some (.dK kvs)) ∨ ∃ kvs, H p = some (.dT kvs))) ∨ (T = "set" ∧ ∃ S n, H p = some (.set S n))
  | _ => False
theorem aQ9 {pins : List (Addr × Obj)} {σ : St} {H : Hp} {s : Shared} {T : String} {x : V} {v : Value} (I : Inv X pins σ H s) (r : y7 x v) (ty : tyV X.K T x H) :
    s.TypeIs v T ∧ ∀ a, v = .ref a → ∃ ob, s.heap.get? a = some ob ∧ ob.dict = none := by
  cases x with
  | str z =>
    obtain ⟨t, rfl⟩ := r
    cases (show T = "str" from ty)
    exact ⟨typeIs_str s z t, fun _ e => nomatch e⟩
  | int i =>
    obtain ⟨t, rfl⟩ := r
    cases (show T = "int" from ty)
    exact ⟨typeIs_int s i t, fun _ e => nomatch e⟩
  | ref p =>
    cases r
    rcases ty with ⟨rfl, xs, hq⟩ | ⟨rfl, o, hk, hc, hd⟩ | ⟨rfl, hk⟩ | ⟨rfl, S, n, hk⟩
    · obtain ⟨its, _, pl, _⟩ := I.list hq
      refine ⟨pl.isList.typeIs, fun a e => ?_⟩
      cases e
      obtain ⟨o, n, e, c, hd, _⟩ := pl
      exact ⟨o, e, hd⟩
    · refine ⟨⟨o, I.kIn p o hk, hc⟩, fun a e => ?_⟩
      cases e
      exact ⟨o, I.kIn _ o hk, hd⟩
    · have z : ∃ o, s.heap.get? p = some o ∧ o.ExactDict := by
        rcases hk with ⟨kvs, hk⟩ | ⟨kvs, hk⟩
        · obtain ⟨_, _, _, _, o, _, _, e, ex, _⟩ := I.hok p _ hk
          exact ⟨o, e, ex⟩
        · obtain ⟨_, _, _, _, o, _, _, e, ex, _⟩ := I.hok p _ hk
          exact ⟨o, e, ex⟩
      obtain ⟨o, e, ex⟩ := z
      refine ⟨⟨o, e, ex.1⟩, fun a e2 => ?_⟩
      cases e2
      exact ⟨o, e, ex.2.1⟩
    · obtain ⟨o, _, _, _, e, ex, _⟩ := I.hok p _ hk
      refine ⟨⟨o, e, ex.1⟩, fun a e2 => ?_⟩
      cases e2
      exact ⟨o, e, ex.2.1⟩
  | _ => exact False.elim ty
def aN0 (K : PySem.W.Frag) (T : String) (r : V → List V → Hp → VK → Prop) (to : TE) : TE := fun σ H Q => to σ H fun x H1 => tyV K T x H1 ∧ r x [] H1 Q
def tBM (K : PySem.W.Frag) (T : String) (r : V → List V → Hp → VK → Prop) (to : TE) (t : TA) : TE := fun σ H Q => to σ H fun x H1 => tyV K T x H1 ∧ t σ H1 fun xs H2 => r x xs H2 Q
variable {o e : Expr} {es : List Expr} {to : TE} {t : TA} {name : Str} {apos cpos : Pos} {T id : String} {r : V → List V → Hp → VK → Prop}
theorem ad8 (pa : PlainAttrs T) (slot : Slot T name id) (hty : typeOf (.builtin id) = pure (.type "method_descriptor")) (hm : MtR X id r) (ho : PE X o to)
    (hbase : attributeBase o name X.env (eval o X.env) = eval o X.env := by rfl) (hline : (apos.endLine == cpos.line) = true := by rfl) : PE X (.Call (.Attribute o name apos) [] [] cpos) (aN0 X.K T r to) := by
  intro pins s σ H Q I h
  refine wpAny_Call_method0_late hbase hline (thn (ho pins s σ H _ I h) fun v s1 ⟨x, H1, I1, r1, ty, q1⟩ => ?_)
  obtain ⟨h1, h2⟩ := aQ9 I1 r1 ty
  exact ⟨T, id, pa, slot, hty, h1, h2, Calls.callWith_builtin rfl (PySem.evalArgs_none (hm pins s1 σ H1 x [] v [] Q I1 r1 .nil q1))⟩
theorem ac4 (pa : PlainAttrs T) (slot : Slot T name id) (hty : typeOf (.builtin id) = pure (.type "method_descriptor")) (hm : MtR X id r) (ho : PE X o to) (ha : PA X (e :: es) t)
    (hbase : attributeBase o name X.env (eval o X.env) = eval o X.env := by rfl)
    (hfew : ((backTo cpos (starEach (e :: es) X.env)).all (fun x => !x.1) && (backToKw cpos (keywordEach [] X.env)).all (fun x => x.1.isSome)
      && decide ((e :: es).length + ([] : List Keyword).length + (if ([] : List Keyword).isEmpty then 0 else 1) < 30)) = true := by rfl)
    (hline : (apos.endLine == cpos.line) = true := by rfl) (hs : starEach (e :: es) X.env = (false, eval e X.env) :: starEach es X.env := by rfl) (hplain : (backTo cpos (starEach es X.env)).any (·.1) = false := by rfl) :
    PE X (.Call (.Attribute o name apos) (e :: es) [] cpos) (tBM X.K T r to t) := by
  intro pins s σ H Q I h
  refine wpAny_Call_method_late hbase hfew hline rfl (thn (ho pins s σ H _ I h) fun v s1 ⟨x, H1, I1, r1, ty, q1⟩ => ?_)
  obtain ⟨h1, h2⟩ := aQ9 I1 r1 ty
  refine ⟨T, id, pa, slot, hty, h1, h2, ?_⟩
  have hA := ha cpos pins s1 σ H1 _ I1 q1
  rw [hs] at hA ⊢
  refine Calls.callWith_builtin (by show (false || (backTo cpos (starEach es X.env)).any (·.1)) = false; rw [hplain] <;> rfl) (Calls.evalArgs_plain ?_)
  exact thn hA fun us s2 ⟨vs, H2, I2, r2, q2⟩ => hm pins s2 σ H2 x vs v us Q I2 r1 r2 q2
/- xs.append(e), list.index on a module's tuple .. are MtR facts of 06m -/
end
def MtM (X : Cx) (id : String) (r : V → List V → Hp → VK → Prop) : Prop :=
  ∀ (pins : List (Addr × Obj)) (s : Shared) (σ : St) (H : Hp) (x : V) (xs : List V) (v : Value) (us : List Value) (Q : VK), Inv X pins σ H s → y7 x v → j9 xs us → r x xs H Q →
    wpAny (model X.prog X.w) X.A (call (.builtin id) (v :: us)) (EP X pins σ Q) X.xe s
theorem j9.one : ∀ {x : V} {us : List Value}, j9 [x] us → ∃ u, us = [u] ∧ y7 x u
  | _, _, .cons r .nil => ⟨_, rfl, r⟩
theorem j9.two : ∀ {x y : V} {us : List Value}, j9 [x, y] us → ∃ u v, us = [u, v] ∧ y7 x u ∧ y7 y v
  | _, _, _, .cons r (.cons q .nil) => ⟨_, _, rfl, r, q⟩
theorem j9.zero : ∀ {us : List Value}, j9 [] us → us = []
  | _, .nil => rfl
theorem j9.dropLast {xs : List V} {us : List Value} (h : j9 xs us) : j9 xs.dropLast us.dropLast := by
  induction h with
  | nil => exact .nil
  | cons r t ih =>
    cases t with
    | nil => exact .nil
    | cons q t' => exact .cons r ih
theorem j9.rep {xs : List V} {us : List Value} (h : j9 xs us) : ∀ k : Nat, j9 (List.replicate k xs).flatten (List.replicate k us).flatten
  | 0 => .nil
  | k + 1 => by
    rw [List.replicate_succ, List.replicate_succ, List.flatten_cons, List.flatten_cons]
    exact j9.append h (j9.rep h k)
theorem aI5 {α : Type} (l : List α) : l.eraseIdx (l.length - 1) = l.dropLast := by
  induction l with
  | nil => rfl
  | cons a r ih =>
    cases r with
    | nil => rfl
    | cons b r =>
      have e : (a :: b :: r).length - 1 = ((b :: r).length - 1) + 1 := by
        have h1 : (a :: b :: r).length = r.length + 2 := rfl
        have h2 : (b :: r).length = r.length + 1 := rfl
        omega
      rw [e, List.eraseIdx_cons_succ, ih]
      all_goals rfl
theorem aw5 (its : List Value) : ∀ (k : Nat) (acc : List Value),
    List.foldl (fun x1 x2 => x1 ++ x2) acc.toArray (List.replicate k its.toArray) = (acc ++ (List.replicate k its).flatten).toArray
  | 0, acc => by simp
  | k + 1, acc => by
    have e : acc.toArray ++ its.toArray = (acc ++ its).toArray := by simp
    have e2 : (acc ++ its) ++ (List.replicate k its).flatten = acc ++ (List.replicate (k + 1) its).flatten := by
      rw [List.replicate_succ, List.flatten_cons, List.append_assoc]
    rw [← e2, ← aw5 its k (acc ++ its), ← e, List.replicate_succ, List.foldl_cons]
section
variable {X : Cx} {pins : List (Addr × Obj)} {σ : St} {H : Hp} {s : Shared} {l b : Addr} {xs ys zs : List V}
theorem Inv.lset {its its' : List Value} {n : Nat} {f : Array Value → Array Value} {t' : Nat} (I : Inv X pins σ H s) (hH : H l = some (.lst xs))
    (e : s.heap.get? l = some { cls := .type "list", data := .seq its.toArray n }) (hf : f its.toArray = its'.toArray) (hv : j9 ys its') (hz : ys.length ≤ sizeLine) :
    Inv X pins σ (upd H l (.lst ys)) { s with heap := s.heap.update l (Obj.mapSeq f), toks := t' } := by
  have q := PySem.IsL.update e f
  rw [hf] at q
  refine I.write (x := l) (e := l) (by rw [hH]; exact trivial) (.inl rfl) (fun b' u hb hu => (Heap.get?_update_other s.heap (Obj.mapSeq f) (Ne.symm hb)).trans hu) ⟨_, q⟩ ?_
  exact ⟨hz, its', _, hv, q⟩
theorem Inv.lnew {its : List Value} {t' : Nat} (I : Inv X pins σ H s) (hv : j9 ys its) (hz : ys.length ≤ sizeLine) :
    Inv X pins σ (upd H s.heap.objs.size (.lst ys)) { s with heap := s.heap.push { cls := .type "list", data := .seq its.toArray }, toks := t' } :=
  I.laid (fun _ _ q => Heap.get?_push_of_some _ q) (Nat.le_refl _) ⟨hz, its, 0, hv, Heap.get?_push_size _ rfl⟩
theorem Inv.fresh (I : Inv X pins σ H s) : H s.heap.objs.size = none := I.hok.fresh (Nat.le_refl _)
theorem Inv.lstM (I : Inv X pins σ H s) (hH : H l = some (.lst xs)) : xs.length ≤ sizeLine ∧ ∃ (its : List Value) (n : Nat), j9 xs its ∧ xs.length = its.length ∧ s.heap.get? l = some { cls := .type "list", data := .seq its.toArray n } := by
  obtain ⟨z, its, n, r, e⟩ := I.hok l _ hH
  exact ⟨z, its, n, r, r.length, e⟩
theorem aV7 {n : Nat} (h : n ≤ sizeLine) : Builtin.List.listTooLong n = false := by
  unfold Builtin.List.listTooLong
  exact decide_eq_false (by omega)
end
section
variable {X : Cx}
def ag6 : V → List V → Hp → VK → Prop := fun x vs H Q => ∃ l xs y, x = .ref l ∧ vs = [y] ∧ H l = some (.lst xs) ∧ xs.length < sizeLine ∧ Q .non (upd H l (.lst (xs ++ [y])))
theorem F5 : MtM X "list.append" ag6 := by
  intro pins s σ H x vs v us Q I rx rv h
  obtain ⟨l, xs, y, rfl, rfl, hH, hz, q⟩ := h
  cases rx
  obtain ⟨u, rfl, ru⟩ := rv.one
  obtain ⟨z, its, n, r, hl, e⟩ := I.lstM hH
  refine call_meets F.slot_list_append ⟨_, e, rfl⟩ F.entry_list_append (F.args_list_append_2 _ _) (PySem.list_append l its.toArray n u (by rw [List.size_toArray]; omega)) ⟨e, ?_⟩
  refine ⟨.non, _, I.lset (its' := its ++ [u]) hH e (by simp) (r.append (.cons ru .nil)) ?_, rfl, q⟩
  rw [List.length_append, List.length_singleton]
  omega
def rExtend : V → List V → Hp → VK → Prop := fun x vs H Q => ∃ l b xs zs, x = .ref l ∧ vs = [.ref b] ∧ H l = some (.lst xs) ∧ H b = some (.lst zs) ∧ xs.length + zs.length ≤ sizeLine ∧ Q .non (upd H l (.lst (xs ++ zs)))
def aT6 : V → List V → Hp → VK → Prop := fun x vs H Q => ∃ l xs y, x = .ref l ∧ vs = [] ∧ H l = some (.lst xs) ∧ xs[xs.length - 1]? = some y ∧ Q y (upd H l (.lst xs.dropLast))
theorem bi7 : MtM X "list.pop" aT6 := by
  intro pins s σ H x vs v us Q I rx rv h
  obtain ⟨l, xs, y, rfl, rfl, hH, hy, q⟩ := h
  cases rx
  have hus := rv.zero
  subst hus
  obtain ⟨z, its, n, r, hl, e⟩ := I.lstM hH
  obtain ⟨u, hu, ru⟩ := r.get hy
  have hy' : its.toArray[its.toArray.size - 1]? = some u := by
    show its.toArray[its.length - 1]? = some u
    rw [← Array.getElem?_toList, ← hl]
    exact hu
  refine call_meets F.slot_list_pop ⟨_, e, rfl⟩ F.entry_list_pop (F.args_list_pop_1 _) (MeetsSeq.list_pop_last l its.toArray n u hy' (by rw [List.size_toArray]; omega)) ⟨e, ?_⟩
  refine ⟨y, _, I.lset (its' := its.dropLast) hH e ?_ r.dropLast ?_, ru, q⟩
  · show its.toArray.eraseIdxIfInBounds (its.toArray.size - 1) = its.dropLast.toArray
    rw [List.size_toArray, List.eraseIdxIfInBounds_toArray, aI5]
  · rw [List.length_dropLast]
    omega
def aT8 : V → List V → Hp → VK → Prop := fun x vs H Q => ∃ l xs, x = .ref l ∧ vs = [] ∧ H l = some (.lst xs) ∧ Q .non (upd H l (.lst []))
theorem aW2 : MtM X "list.clear" aT8 := by
  intro pins s σ H x vs v us Q I rx rv h
  obtain ⟨l, xs, rfl, rfl, hH, q⟩ := h
  cases rx
  have hus := rv.zero
  subst hus
  obtain ⟨z, its, n, r, hl, e⟩ := I.lstM hH
  refine call_meets F.slot_list_clear ⟨_, e, rfl⟩ F.entry_list_clear (F.args_list_clear_1 _) (AutoSeq1.list_clear_list_0 l its.toArray n (by rw [List.size_toArray]; omega)) ⟨e, ?_⟩
  exact ⟨.non, _, I.lset (its' := []) (ys := []) hH e rfl .nil (Nat.zero_le _), rfl, q⟩
def aT9 : R2 := fun x y H Q => ∃ l b xs zs, x = .ref l ∧ y = .ref b ∧ H l = some (.lst xs) ∧ H b = some (.lst zs) ∧ xs.length + zs.length ≤ sizeLine ∧ ∀ p, H p = none → Q (.ref p) (upd H p (.lst (xs ++ zs)))
theorem W3 : OpR X (binaryOp .Add) aT9 := by
  intro pins s σ H x y v u Q I rx ry h
  obtain ⟨l, b, xs, zs, rfl, rfl, hH, hB, hz, q⟩ := h
  cases rx
  cases ry
  obtain ⟨z, its, n, r, hl, e⟩ := I.lstM hH
  obtain ⟨z2, its2, n2, r2, hl2, e2⟩ := I.lstM hB
  refine PySem.P.add_list e e2 ?_ (by rw [List.size_toArray, List.size_toArray]; omega)
  have ea : its.toArray ++ its2.toArray = (its ++ its2).toArray := by simp
  rw [ea]
  exact ⟨.ref _, _, I.lnew (t' := s.toks) (r.append r2) (by rw [List.length_append]; omega), rfl, q _ I.fresh⟩
def aT5 : R2 := fun x y H Q => ∃ l k xs, x = .ref l ∧ y = .int k ∧ H l = some (.lst xs) ∧ -(2 ^ 63) ≤ k ∧ k < 2 ^ 63 ∧ xs.length * k.toNat ≤ sizeLine ∧
  ∀ p, H p = none → Q (.ref p) (upd H p (.lst (List.replicate k.toNat xs).flatten))
theorem bb7 {α : Type} (xs : List α) (k : Nat) : (List.replicate k xs).flatten.length = k * xs.length := by
  induction k with
  | zero => simp
  | succ k ih => rw [List.replicate_succ, List.flatten_cons, List.length_append, ih, Nat.succ_mul, Nat.add_comm]
theorem aH2 : OpR X (binaryOp .Mult) aT5 := by
  intro pins s σ H x y v u Q I rx ry h
  obtain ⟨l, k, xs, rfl, rfl, hH, h1, h2, hz, q⟩ := h
  cases rx
  obtain ⟨t, rfl⟩ := ry
  obtain ⟨z, its, n, r, hl, e⟩ := I.lstM hH
  have hlen : its.toArray.size * k.toNat ≤ sizeLine := by rw [List.size_toArray, ← hl]; exact hz
  have hcap : ¬ its.toArray.size * k.toNat > (2 ^ 63 - 1) / 8 := by
    have : (sizeLine : Nat) ≤ (2 ^ 63 - 1) / 8 := by decide
    omega
  have hfit : ¬ (!Builtin.List.listFitsIndex k) = true := by
    rw [fitsIndex_both h1 h2]
    exact Bool.false_ne_true
  have hlong : ¬ Builtin.List.listTooLong (its.toArray.size * k.toNat) = true := by
    rw [aV7 hlen]
    exact Bool.false_ne_true
  have hnew : List.foldl (fun x1 x2 => x1 ++ x2) #[] (List.replicate (if its.toArray.isEmpty = true then 0 else k.toNat) its.toArray) = (List.replicate k.toNat its).flatten.toArray := by
    have f0 : ∀ m : Nat, List.foldl (fun x1 x2 => x1 ++ x2) #[] (List.replicate m its.toArray) = (List.replicate m its).flatten.toArray := fun m => by
      have := aw5 its m []
      rw [List.nil_append] at this
      exact this
    rw [f0]
    cases its with
    | nil => simp
    | cons a r' => rw [if_neg (by simp)]
  refine wpAny_binaryOp_repeat_ref (T := "list") (U := "int") (by decide) ⟨_, e, rfl⟩ (fun s' => typeIs_int s' k t) noFill_list_mul F.fills_int_mul F.slot_int_rmul repeat_list F.slot_int_index.lookup
    (call_meets F.slot_int_rmul (typeIs_int s k t) F.entry_int_rmul (F.args_int_rmul_2 _ _) (int___rmul___int_list k t l its.toArray n)
      ⟨e, rfl, ⟨_, e, rfl⟩, call_meets F.slot_list_mul ⟨_, e, rfl⟩ F.entry_list_mul (F.args_list_mul_2 _ _) (AutoListH.list___mul___list_int_3 l its.toArray n k t hfit hcap hlong) ⟨e, ?_⟩⟩)
  rw [hnew]
  exact ⟨.ref _, _, I.lnew (t' := s.toks) (r.rep k.toNat) (by rw [bb7, Nat.mul_comm]; exact hz), rfl, q _ I.fresh⟩
end
end L2
namespace Att
open PySem PySem.W PySem.Calls PyProof.Rows
theorem al8 {P : Params} {h : Heap} : ∀ (ns : List Int) (vs : List Value), WellAll P h vs (ns.map WData.int) → IntsAre vs ns := by
  intro ns
  induction ns with
  | nil =>
    intro vs w
    rw [List.map_nil] at w
    cases w
    exact .nil
  | cons n ns ih =>
    intro vs w
    rw [List.map_cons] at w
    cases w with
    | cons a b =>
      cases a
      exact .cons _ _ (ih _ b)
theorem aN4 {l : OpenLaw} {n : Nat} (hn : l.most = some n) {P : Params} {h : Heap} {args : List WData} {vals : List Value}
    (hpre : l.row.toRowW.claim.pre args = true) (hwl : WellAll P h vals args) :
    ∃ a vs ns, vals = [Value.ref a] ∧ args = [WData.list (ns.map WData.int)] ∧ h.get? a = some { cls := .type "list", data := .seq vs.toArray } ∧ IntsAre vs ns ∧ ns.length ≤ n := by
  have hsh : WShape.hasAll [] args [.list .int] = true := (pre_splitW hpre).1
  have hc : l.pre.holds [] { args := args } = true := (pre_splitW hpre).2
  obtain ⟨d, r, rfl, h1, h2⟩ := hasAllW_cons hsh
  obtain rfl := hasAllW_nil h2
  obtain ⟨xs, rfl, h3⟩ := hasW_list h1
  obtain ⟨ns, rfl⟩ := items_int h3
  have hlen : ns.length ≤ n := by
    unfold OpenLaw.pre at hc
    have h4 : (WTm.not (.lt (.lit (.int (n : Int))) (.len (.arg 0)))).holds [] { args := [.list (ns.map .int)] } = true := by
      have h4 := (holds_andW hc).1
      rw [hn] at h4
      exact h4
    have h5 := condW_of h4 (w_not (w_lt w_lit (w_len_list (w_arg rfl))))
    rw [List.length_map] at h5
    refine Nat.le_of_not_lt fun q => ?_
    have q' : (n : Int) < ((ns.length : Nat) : Int) := by omega
    first
      | (rw [decide_eq_true q'] at h5; exact absurd h5 (by decide))
      | (simp at h5; omega)
  cases hwl with
  | cons w1 w2 =>
    cases w2
    cases w1 with
    | list ho hall => exact ⟨_, _, ns, rfl, rfl, ho, al8 ns _ hall, hlen⟩
theorem aO0 (l : OpenLaw) (args : List WData) : l.row.toRowW.claim.post args (.bool true) args = true :=
  postW_of (r := l.row.toRowW) (X := (true == true))
    (show WShape.has [] (.bool true) .bool = true by first | rfl | decide | simp [WShape.has, WShape.arms, WShape.armsAll])
    (show (WTm.eq .res (.lit (.bool true))).value [] { args := args, res := some (.bool true), after := args } = some (.bool (true == true)) from w_eq_bool (w_res rfl) w_lit) rfl
theorem attach_call {l : OpenLaw} {n : Nat} {q : Program} {loose : List Str} {XP : (Str → Option Value) → Heap → Prop} {YP : World → Heap → Prop} {d : DefRec}
    (hn : l.most = some n) (hdf : d.params.defaults = [])
    (call : ∀ (w : World) (s₀ s₁ : Shared) (mg mb : Str → Option Value) (fa : Addr) (o : Obj) (pm cd doc : Value) (a : Addr) (vs : List Value) (ns : List Int),
      Ground q loose [] XP w s₀ mg mb s₁.heap → YP w s₁.heap →
      s₁.heap.get? fa = some o → o.data = .func (docDef d.name d.params d.body d.scope pm cd doc) → s₁.heap.CodeRec cd d.name → mg d.name = some (.ref fa) →
      s₁.heap.get? a = some { cls := .type "list", data := .seq vs.toArray } → IntsAre vs ns → ns.length ≤ n → s₁.gens = #[] →
      codeAny (model l.prog w) callerA (.call (.ref fa) ⟨[.ref a], []⟩) (fun r s' => r = .ok (.ret (.bool true)) ∧ OldK s₁.heap s'.heap ∧ s'.os = s₁.os ∧ AllBare s'.gens) s₁) :
    WalkO q loose XP YP l.row.toRowW d [] (fun f vs => PySem.call f vs) := by
  intro w s₀ s₁ mg mb G Y fa o pm cd doc dV kV ho hd hcd hD hmg hg args vals as hpre hlay hrd hwl hlo
  obtain rfl : dV = .none := Dflts.none hD hdf
  obtain rfl : kV = .none := Dflts.noKw hD
  obtain ⟨a, vs, ns, rfl, rfl, hobj, hints, hlen⟩ := aN4 hn hpre hwl
  refine enter_call (codeAny_mono (call w s₀ s₁ mg mb fa o pm cd doc a vs ns G Y ho (fd_plain hd) hcd hmg hobj hints hlen hg) fun r s' hq => ?_)
  obtain ⟨rfl, h2, h3, h4⟩ := hq
  exact ⟨.inl ⟨.bool true, .bool true, [], rfl, fun _ => rfl, .bool true, aO0 l _, fun _ => ⟨List.Pairwise.nil, fun _ hm => (nomatch hm)⟩⟩, h2, h3, h4⟩
end Att
namespace L2
open PySem PySem.Spec PyProof.Rows
theorem au0 : ∀ {vs : List Value} {ns : List Int}, IntsAre vs ns → j9 (ns.map V.int) vs
  | _, _, .nil => .nil
  | _, _, .cons n t h => .cons ⟨t, rfl⟩ (au0 h)
def bk5 (H : Hp) : Prop := ∀ b, H b = none ∨ ∃ o xs, H b = some (.frz o (.lst xs))
theorem aW4 {P : Program} {w : World} {K : PySem.W.Frag} {mg mb : Str → Option Value} {CX : CXT} {k : Nat} {fa a : Addr} {fd : FuncData} {x : Str} {sp : Sp} {s₁ : Shared} {vs : List Value} {ns : List Int}
    (KX : K.In s₁.heap) (hns : s₁.heap.Ns mainGlobals mg) (hb : s₁.heap.Ns builtinsNs mb) (hbb : ∀ x : Str, x ≠ "__name__" → mb x = bootBuiltins x) (hlim : s₁.heap.NoLimit) (hg : s₁.gens = #[])
    (ha : s₁.heap.get? a = some { cls := .type "list", data := .seq vs.toArray }) (hi : IntsAre vs ns) (hl : ns.length ≤ sizeLine) (hr : R7 k callerA)
    (F : ∀ base : Heap, K.In base → base.Ns mainGlobals mg → aa4 P w K mg base CX k fa fd [x] sp) (hbind : ∀ (s : Shared) (u : Value), BindsTo s fd ⟨[u], []⟩ [(x, u)])
    (hsp : ∀ H : Hp, bk5 H → SqL K H a (ns.map V.int) → sp [.ref a] H (fun v _ => v = .bl true) fun _ _ _ => False)
    (hCX : ∀ H e s', CX [] H s₁ (fun _ _ _ => False) e s' → False) :
    codeAny (model P w) callerA (.call (.ref fa) ⟨[.ref a], []⟩) (fun r s' => r = .ok (.ret (.bool true)) ∧ OldK s₁.heap s'.heap ∧ s'.os = s₁.os ∧ AllBare s'.gens) s₁ := by
  have rv := au0 hi
  have lenV := hi.length
  -- from an abstract heap in which nothing but the script may be tracked
  have core : ∀ H : Hp, bk5 H → SqL K H a (ns.map V.int) → HOk P w H s₁.heap → (∀ b, H b ≠ none → b = a) → (H a ≠ none → K.lookup a = none) →
      codeAny (model P w) callerA (.call (.ref fa) ⟨[.ref a], []⟩) (fun r s' => r = .ok (.ret (.bool true)) ∧ OldK s₁.heap s'.heap ∧ s'.os = s₁.os ∧ AllBare s'.gens) s₁ := by
    intro H hO hS hok hA hK
    have base_of : ∀ {b : Addr} {o : Obj}, s₁.heap.get? b = some o → H b = none → (aA5 s₁.heap H).get? b = some o := fun e n => aW9 e n
    have noA : ∀ {b : Addr} {o : Obj} {es : Array DictEntry} {ep : Nat}, s₁.heap.get? b = some o → o.data = .dict es ep → H b = none := fun {b o es ep} e d => by
      cases q : H b with
      | none => rfl
      | some u =>
        have e' : b = a := hA b (by rw [q]; simp)
        subst e'
        rw [ha] at e; cases e
        have d' : Data.seq vs.toArray _ = Data.dict es ep := d
        cases d'
    have nsK : ∀ {b : Addr} {m : Str → Option Value}, s₁.heap.Ns b m → (aA5 s₁.heap H).Ns b m := fun {b m} ⟨o, es, ep, e, d, r⟩ => ⟨o, es, ep, base_of e (noA e d), d, r⟩
    have hKb : K.In (aA5 s₁.heap H) := fun b o e => base_of (KX b o e) (by
      cases q : H b with
      | none => rfl
      | some u =>
        have e' : b = a := hA b (by rw [q]; simp)
        subst e'
        rw [hK (by rw [q]; simp)] at e; cases e)
    have hM : Mod K mg (aA5 s₁.heap H) := ⟨hKb, nsK hns, ⟨mb, nsK hb, hbb⟩, let ⟨mc, h1, h2⟩ := hlim; ⟨mc, nsK h1, h2⟩⟩
    have e0 : aQ6 P w K mg (aA5 s₁.heap H) callerA [] s₁ H := ⟨rfl, hM, fun b o e => bb1 e, Nat.le_of_eq (aO9 _ _), trivial, fun b hb => absurd (show b ∈ ([] : List Addr) from hb) (by simp), hok, .of_eq hg⟩
    refine codeAny_mono ((F _ hKb (nsK hns)).run callerA [] s₁ H ⟨[.ref a], []⟩ [.ref a] [.ref a] _ _ hr e0 (hbind s₁ (.ref a)) (.cons rfl .nil) (hsp H hO hS)) fun r s' h => ?_
    cases r with
    | error e => exact (hCX H e s' h).elim
    | ok fl =>
      cases fl with
      | next => exact False.elim h
      | brk => exact False.elim h
      | cont => exact False.elim h
      | ret u =>
        obtain ⟨v, H', os, bare, un, hok', r', q⟩ := h
        have q' : v = .bl true := q
        subst q'
        obtain rfl : u = Value.bool true := r'
        refine ⟨rfl, OldK.of_keep fun b o e => ?_, os, bare⟩
        cases q : H b with
        | none => exact un.keep b o e q (by intro z; exact absurd (show b ∈ ([] : List Addr) from z) (by simp)) (by simp)
        | some u =>
          rcases hO b with z | ⟨ob, xs, z⟩
          · rw [q] at z; cases z
          · have z2 := un.frzs b ob _ z
            obtain ⟨e1, _⟩ := hok b _ z
            obtain ⟨e2, _⟩ := hok' b _ z2
            rw [e] at e1; cases e1
            exact e2
  cases hk : K.lookup a with
  | some o =>
    -- the script is one of the module's own objects
    have e := KX a o hk
    rw [ha] at e
    cases e
    refine core (fun _ => none) (fun _ => .inl rfl) (.inr ⟨_, vs.toArray, _, hk, rfl, rfl, rfl, by rw [List.size_toArray, lenV]; exact hl, by simpa using rv⟩) (fun b u z => by have z' : (none : Option HO) = some u := z; cases z') (fun b z => absurd rfl z) fun z => absurd rfl z
  | none =>
    refine core (fun b => if b = a then some (.frz { cls := .type "list", data := .seq vs.toArray } (.lst (ns.map V.int))) else none) (fun b => ?_) (.inl (.inr ⟨{ cls := .type "list", data := .seq vs.toArray }, if_pos rfl⟩)) (fun b u z => ?_) (fun b z => ?_) fun _ => hk
    · by_cases hb : b = a
      · exact .inr ⟨_, _, if_pos hb⟩
      · exact .inl (if_neg hb)
    · by_cases hb : b = a
      · have z' := (if_pos hb).symm.trans z
        cases z'
        subst hb
        exact ⟨ha, by rw [List.length_map]; exact hl, vs, _, rv, ha⟩
      · have z' := (if_neg hb).symm.trans z
        cases z'
    · by_cases hb : b = a
      · exact hb
      · exact absurd (if_neg hb) z
abbrev KOf {K : PySem.W.Frag} {h : Heap} (_ : K.In h) : PySem.W.Frag := K
theorem aJ6 {l : PySem.W.OpenLaw} {n k : Nat} {q : Program} {loose : List Str} {XP : (Str → Option Value) → Heap → Prop} {YP : World → Heap → Prop} {d : DefRec} {K : Params → PySem.W.Frag} {CX : World → CXT} {sp : World → Sp} {x : Str}
    (hn : l.most = some n) (hn2 : n ≤ sizeLine) (hdf : d.params.defaults = []) (hr : R7 k callerA)
    (hY : ∀ (w : World) (h : Heap), YP w h → (K w.params).In h)
    (F : ∀ (w : World) (mg : Str → Option Value) (fa : Addr) (h : Heap), (K w.params).In h → h.Ns mainGlobals mg → mg d.name = some (.ref fa) →
      ∃ fd : FuncData, (∀ (s : Shared) (u : Value), BindsTo s fd ⟨[u], []⟩ [(x, u)]) ∧
        ∀ base : Heap, (K w.params).In base → base.Ns mainGlobals mg → aa4 l.prog w (K w.params) mg base (CX w) k fa fd [x] (sp w))
    (hsp : ∀ (w : World) (H : Hp) (a : Addr) (ns : List Int), ns.length ≤ n → bk5 H → SqL (K w.params) H a (ns.map V.int) → sp w [.ref a] H (fun v _ => v = .bl true) fun _ _ _ => False)
    (hCX : ∀ (w : World) (H : Hp) (s : Shared) (e : Value) (s' : Shared), CX w [] H s (fun _ _ _ => False) e s' → False) :
    PySem.W.WalkO q loose XP YP l.row.toRowW d [] (fun f vs => PySem.call f vs) := by
  refine Att.attach_call hn hdf fun w s₀ s₁ mg mb fa o pm cd doc a vs ns G Y ho hd hcd hmg hobj hints hlen hg => ?_
  have KX := hY w _ Y
  obtain ⟨fd, hb, hF⟩ := F w mg fa _ KX G.T.g hmg
  exact aW4 KX G.T.g G.T.b G.T.builtins G.T.nolimit hg hobj hints (Nat.le_trans hlen hn2) hr hF hb (fun H hO hS => hsp w H a ns hlen hO hS) fun H e s' => hCX w H s₁ e s'
end L2
/- THE LAST THEOREM (shape; LID, My.* are yours):
   My.Adr: a structure of the addresses that your layer names (classes, functions); My.Txt K t: a structure (Prop) of the equations over K;
   My.txt_mk : {K} {implicit addresses ..} (e1 : nsIn K mainGlobals "law" = some (some (.ref f))) (e2 : K.lookup f = some ⟨oc, od, .func (fnOf "law" "law" params body scope dV kV doc pm an cdv ct), sl⟩) (e3 : codeIn K cdv "law" = true) .. : ∃ t, My.Txt K t
set_option maxRecDepth 100000 in
set_option maxHeartbeats 0 in
theorem PySem.Challenge.cw_LID_holds : PySem.Challenge.rw_LID.Holds := by
  w_on; o_law; k_head; (case hw => w_witness2)
  k_fill
  refine L2.aJ6 (l := PySem.Challenge.rw_LID) (n := 63) (k := 40) (x := "script") (CX := fun w => ..) (sp := fun _ => My.sp_law) rfl (by decide) rfl ⟨rfl, by decide, by decide⟩ (fun w h Y => PySem.W.kIn_of Y) ?F ?S ?C
  case F =>
    intro w mg fa h KX G hmg
    have T : ∃ t, My.Txt (L2.KOf KX) t := by
      dsimp only [L2.KOf]                          -- K must stand as «<heap const> w.params» for k_is
      refine' My.txt_mk ?e1 ?e2 ?e3 ..
      (case e1 => PySem.W.k_is)                    -- in the order: a name -> its address -> its object -> its parts
      (case e2 => PySem.W.k_is)
      ..
    obtain ⟨t, T⟩ := T
    have e0 := hmg.symm.trans (PySem.W.mg_of KX G T.law)
    cases e0                                       -- fa is the law's own address
    exact ⟨_, fun s u => .of_eq rfl, fun base kb nb => My.law_fn T kb nb⟩     -- if «.of_eq rfl» comes too early: refine' ⟨_, ?b, fun base kb nb => My.law_fn T kb nb⟩; exact fun s u => .of_eq rfl
  case S => exact fun w H a ns hl hO hS => ..
  case C => exact ..
(the tactic k_is has no namespace: write k_is) -/
namespace L2
open PySem PySem.Spec PyProof.Rows
def i8 (s : Stmt) : Arguments := match s with
  | .FunctionDef _ a _ _ _ _ _ _ _ _ => a
  | _ => { posonlyargs := [], args := [], vararg := none, kwonlyargs := [], kw_defaults := [], kwarg := none, defaults := [] }
def g9 (s : Stmt) : List Stmt := match s with
  | .FunctionDef _ _ b _ _ _ _ _ _ _ => b
  | _ => []
def d3 (s : Stmt) : Scope := match s with
  | .FunctionDef _ _ _ _ _ _ sc _ _ _ => sc
  | _ => { kind := .function, names := [], isGenerator := false, isCoroutine := false }
abbrev CX0 : CXT := fun _ _ _ _ _ _ => False
abbrev E0 : XK := fun _ _ _ => False
theorem g8 {X : Cx} : as0 CX0 X E0 := fun _ _ _ _ _ _ _ h => h.elim
structure Fun (K : PySem.W.Frag) (x qual : Str) (st : Stmt) (f : Addr) (fd : FuncData) : Prop where
  ex : ∃ (oc : Value) (od : Option Addr) (kV doc pm : Value) (an : Option Addr) (cdv ct : Value) (osl : Array (Option Value)),
    fd = PySem.W.fnOf x qual (i8 st) (g9 st) (d3 st) .none kV doc pm an cdv ct ∧ K.lookup f = some ⟨oc, od, .func fd, osl⟩ ∧ PySem.W.codeIn K cdv qual = true
  kp : PySem.W.keepIn K (.ref f) = true
section
variable {P : Program} {w : World} {K : PySem.W.Frag} {mg : Str → Option Value} {base : Heap}
theorem Fun.ok {x qual : Str} {st : Stmt} {f : Addr} {fd : FuncData} {N ps : List Str} {k : Nat} {sp : Sp} (F : Fun K x qual st f fd) (S : i5 N ps (d3 st)) (len : ∀ vs H Q E, sp vs H Q E → vs.length = ps.length)
    (hbody : ∀ (cdv : Value) (A : Around) (outer : List Env) (s : Shared) (H : Hp) (vs : List V) (Q : VK) (E : XK), R7 k (A.deeper (envOfC qual (d3 st) s.heap.objs.size f cdv)) → sp vs H Q E →
      ∃ t, PSs (ae9 CX0 P w K mg base N qual (d3 st) f cdv A outer s H E).nox (g9 st) t ∧ t { nx := fun _ H' => Q .non H', rt := Q } (start N vs) H) : aa4 P w K mg base CX0 (k + 1) f fd ps sp := by
  obtain ⟨oc, od, kV, doc, pm, an, cdv, ct, osl, rfl, lk, hcd⟩ := F.ex
  refine bf9 lk hcd S len fun A outer s H vs Q E hr hsp => ?_
  obtain ⟨t, h, q⟩ := hbody cdv A outer s H vs Q E hr hsp
  exact ⟨t, h.nox, q⟩
theorem Fun.binds {x qual : Str} {st : Stmt} {f : Addr} {fd : FuncData} {ps : List Str} (F : Fun K x qual st f fd)
    (h : ∀ (kV doc pm : Value) (an : Option Addr) (cdv ct : Value) (us : List Value), us.length = ps.length → bindArgs (PySem.W.fnOf x qual (i8 st) (g9 st) (d3 st) .none kV doc pm an cdv ct) ⟨us, []⟩ = pure (ps.zip us)) : aa6 K fd ps [] := by
  obtain ⟨oc, od, kV, doc, pm, an, cdv, ct, osl, rfl, lk, hcd⟩ := F.ex
  exact .all (h kV doc pm an cdv ct)
theorem n9 {x qual : Str} {st : Stmt} {f : Addr} {oc : Value} {od an : Option Addr} {osl : Array (Option Value)} {kV doc pm cdv ct : Value} (l : K.lookup f = some ⟨oc, od, .func (PySem.W.fnOf x qual (i8 st) (g9 st) (d3 st) .none kV doc pm an cdv ct), osl⟩)
    (c : PySem.W.codeIn K cdv qual = true) (k : PySem.W.keepIn K (.ref f) = true) : Fun K x qual st f (PySem.W.fnOf x qual (i8 st) (g9 st) (d3 st) .none kV doc pm an cdv ct) := ⟨⟨oc, od, kV, doc, pm, an, cdv, ct, osl, rfl, l, c⟩, k⟩
end
section
variable {X : Cx}
theorem pv (i : Nat) {x : Str} {pos : Pos} (hN : X.N[i]? = some x := by rfl) (hv : Vis X.env.scope x := by first | exact Or.inl rfl | exact Or.inr (Or.inl rfl) | exact Or.inr (Or.inr rfl)) (hd : (x == ("__debug__" : Str)) = false := by decide)
    (hcd : (x == ("__classdict__" : Str)) = false := by decide) : PE X (.Name x pos) (Q3 i) := bh7 hN hv hd hcd
end
theorem bo4 {A B : Prop} (h : A) : if true = true then A else B := by
  rw [if_pos rfl]
  exact h
theorem z8 {c A B : Prop} [Decidable c] (h1 : c → A) (h2 : ¬ c → B) : if c then A else B := by
  by_cases h : c
  · rw [if_pos h]
    exact h1 h
  · rw [if_neg h]
    exact h2 h
def d5 (H H' : Hp) : Prop := ∀ b o, H b = some o → H' b = some o
theorem d5.refl (H : Hp) : d5 H H := fun _ _ h => h
theorem d5.trans {H H1 H2 : Hp} (a : d5 H H1) (b : d5 H1 H2) : d5 H H2 := fun c o h => b c o (a c o h)
theorem d5.free {H H' : Hp} (e : d5 H H') {l : Addr} (h : H' l = Option.none) : H l = Option.none := by
  cases q : H l with
  | none => rfl
  | some o =>
    rw [e l o q] at h
    cases h
theorem d5.seq {K : PySem.W.Frag} {H H' : Hp} {a : Addr} {xs : List V} (e : d5 H H') (h : SqL K H a xs) : SqL K H' a xs := by
  rcases h with (h | ⟨o, h⟩) | h
  · exact .inl (.inl (e _ _ h))
  · exact .inl (.inr ⟨o, e _ _ h⟩)
  · exact .inr h
section
variable {P : Program} {w : World} {H : Hp} {h : Heap} {a : Addr} {o : HO}
theorem F0.there (x : F0 P w H h a o) : ∃ ob, h.get? a = some ob := by
  cases o with
  | lst xs => obtain ⟨_, _, _, _, e⟩ := x; exact ⟨_, e⟩
  | tup xs => obtain ⟨_, _, _, ob, e, _⟩ := x; exact ⟨_, e⟩
  | dK kvs => obtain ⟨_, _, _, _, o, _, _, e, _⟩ := x; exact ⟨_, e⟩
  | dT kvs => obtain ⟨_, _, _, _, o, _, _, e, _⟩ := x; exact ⟨_, e⟩
  | set S n => obtain ⟨o, _, _, _, e, _⟩ := x; exact ⟨_, e⟩
  | ins C dx fs => obtain ⟨_, _, _, e, _⟩ := x; exact ⟨_, e⟩
  | own y => obtain ⟨_, e⟩ := x; exact ⟨_, e⟩
  | xd fs => obtain ⟨_, ⟨_, _, _, e, _⟩, _⟩ := x; exact ⟨_, e⟩
  | rng lo hi => obtain ⟨_, _, _, e⟩ := x; exact ⟨_, e⟩
  | frz ob u => obtain ⟨e, _⟩ := x; exact ⟨_, e⟩
  | tbl ps => exact ⟨_, (show h.get? a = some _ from x)⟩
  | met f y => exact ⟨_, (show h.get? a = some _ from x)⟩
  | ext φ => obtain ⟨_, e, _⟩ := x; exact e
end
def CXR (P : Program) (w : World) : CXT := fun outer H s E e s' => ∃ (a : Addr) (cls a0 : Value) (H' : Hp) (B : Heap), e = .ref a ∧ s'.os = s.os ∧ AllBare s'.gens ∧
  Heap.FlyingW B outer a cls a0 s'.heap ∧ (∀ b o, s.heap.get? b = some o → H b = none → b ∉ frs outer → B.get? b = some o) ∧ (∀ b o, s.heap.get? b = some o → b ∉ frs outer → ∃ o', B.get? b = some o') ∧
  HOk P w H' B ∧ Un (frs outer) [] H H' s.heap s'.heap ∧ H' a = none ∧ E cls none H'
def aY8 (X : Cx) (R : Value → Hp → Prop) : Prop := ∀ (pins : List (Addr × Obj)) (σ : St) (H : Hp) (s : Shared) (h' : Heap) (e : Addr) (cls : Value) (vs : List Value), Inv X pins σ H s → Heap.MadeExcOf s.heap h' e cls vs → R cls H →
  X.xe (.ref e) { s with heap := h' }
section
variable {CX : CXT} {P : Program} {w : World} {K : PySem.W.Frag} {mg : Str → Option Value} {base : Heap} {N : List Str} {qual : Str} {scope : Scope} {f : Addr} {cd : Value} {A : Around} {outer : List Env} {s₀ : Shared} {H₀ : Hp} {E : XK}
abbrev cxR (P : Program) (w : World) (K : PySem.W.Frag) (mg : Str → Option Value) (base : Heap) (N : List Str) (qual : Str) (scope : Scope) (f : Addr) (cd : Value) (A : Around) (outer : List Env) (s₀ : Shared) (H₀ : Hp) (E : XK) : Cx := ae9 (CXR P w) P w K mg base N qual scope f cd A outer s₀ H₀ E
theorem bj5 {X : Cx} {pins : List (Addr × Obj)} {σ : St} {H : Hp} {s : Shared} (I : Inv X pins σ H s) : HOk X.prog X.w H (PySem.W.hideAll s.heap (frs X.stack)) := fun b u e => by
  refine (I.hok b u e).stay (fun c v hc q => PySem.W.hideAll_get _ q fun hm => ?_) (fun _ q => q) fun _ _ q => q
  have z := I.stkFree c hm
  rcases hc with rfl | hc
  · rw [z] at e; cases e
  · rw [z] at hc; cases hc
theorem aN5 : aY8 (cxR P w K mg base N qual scope f cd A outer s₀ H₀ E) (fun cls H' => E cls none H') := by
  intro pins σ H s h' e cls vs I hx hE
  have frS := I.stack
  have hin : ∀ env ∈ (cxR P w K mg base N qual scope f cd A outer s₀ H₀ E).stack, ∀ b, env.frame = some b → b ∈ frs (cxR P w K mg base N qual scope f cd A outer s₀ H₀ E).stack := fun env he b hb => List.mem_filterMap.mpr ⟨env, he, hb⟩
  have lo : ∀ b o, s₀.heap.get? b = some o → b ∉ frs outer → b ∉ frs (cxR P w K mg base N qual scope f cd A outer s₀ H₀ E).stack := fun b o q hb hm => by
    rcases List.mem_cons.mp (I.stkSub b hm) with z | z
    · exact absurd z (Nat.ne_of_lt (Nat.lt_of_lt_of_le (Heap.lt_size q) I.ok.above))
    · exact hb z
  refine wpAny_leaves_madeW (base := PySem.W.hideAll s.heap (frs (cxR P w K mg base N qual scope f cd A outer s₀ H₀ E).stack)) I.ok.frames rfl (fun b o q => PySem.W.of_hideAll _ q) (PySem.W.funFrames_hide frS hin) hx fun h2 t x1 x2 x3 x4 => ?_
  have hk : ∀ b o, s.heap.get? b = some o → b ∉ frs (cxR P w K mg base N qual scope f cd A outer s₀ H₀ E).stack → h2.get? b = some o := fun b o q hb => x1.1 b o (PySem.W.hideAll_get _ q hb)
  have hfr : ∀ b o, s.heap.get? b = some o → b ∈ frs (cxR P w K mg base N qual scope f cd A outer s₀ H₀ E).stack → ∃ sl, h2.get? b = some { o with slots := sl } := fun b o q hb => by
    obtain ⟨_, ob, hob, hnf⟩ := frS.mem hb
    rw [q] at hob; cases hob
    exact x4 b o (hx.keeps b o q) hnf
  have hany : ∀ b o, s.heap.get? b = some o → ∃ o', h2.get? b = some o' := fun b o q => by
    by_cases hb : b ∈ frs (cxR P w K mg base N qual scope f cd A outer s₀ H₀ E).stack
    · obtain ⟨sl, z⟩ := hfr b o q hb; exact ⟨_, z⟩
    · exact ⟨_, hk b o q hb⟩
  have nx : ∀ b : Addr, b ∉ (cxR P w K mg base N qual scope f cd A outer s₀ H₀ E).ex := fun b z => absurd (show b ∈ ([] : List Addr) from z) (by simp)
  refine ⟨e, cls, .ref t, H, _, rfl, I.os, I.bare, x1, fun b o q n hb => PySem.W.hideAll_get _ (I.base.keep b o q n hb (nx b)) (lo b o q hb), fun b o q hb => ?_, bj5 I, ⟨fun b o q n hb _ => ?_, fun b o q n hb _ => ?_, fun b o q n _ => I.base.free b o q n (nx b), fun b o q _ => ?_, I.base.tups, I.base.frzs, I.base.tbls⟩, ?_, hE⟩
  · obtain ⟨o', z⟩ := I.base.there b o q (nx b)
    exact ⟨o', PySem.W.hideAll_get _ z (lo b o q hb)⟩
  · exact hk b o (I.base.keep b o q n hb (nx b)) (lo b o q hb)
  · obtain ⟨sl, z⟩ := I.base.slot b o q n hb (nx b)
    have hm : b ∈ frs (cxR P w K mg base N qual scope f cd A outer s₀ H₀ E).stack := by
      show b ∈ frs (_ :: outer)
      unfold frs at hb ⊢
      rw [List.filterMap_cons]
      exact List.mem_cons_of_mem _ hb
    obtain ⟨sl', z'⟩ := hfr b _ z hm
    exact ⟨sl', z'⟩
  · obtain ⟨o', z⟩ := I.base.there b o q (nx b)
    exact hany b o' z
  · cases q : H e with
    | none => rfl
    | some u =>
      obtain ⟨ob, z⟩ := (I.hok e u q).there
      rw [hx.new] at z; cases z
end
structure be4 (K : PySem.W.Frag) (C : Addr) (bm : List Value) (newId : String) : Prop where
  ok : PySem.W.excIn K C bm newId = true
theorem be4.obj {K : PySem.W.Frag} {C : Addr} {bm : List Value} {newId : String} (O : be4 K C bm newId) {h : Heap} (X : K.In h) :
    ∃ tl N nm q bs hdct sn sub ab col dd k0 k1 k2 k3 k5 mN, h.get? C = some (excClassObj nm q C N bs tl hdct sn sub ab col dd k0 k1 k2 k3 k5 newId) ∧ h.Ns N mN ∧ mN "__init__" = none ∧ OwnTail h bm tl := by
  have q := O.ok
  unfold PySem.W.excIn at q
  split at q
  · rename_i dd cd sl ho
    split at q
    · rename_i C' bm' k0 k1 k2 k3 n k5 hm hs
      simp only [Bool.and_eq_true, beq_iff_eq, Bool.not_eq_true'] at q
      obtain ⟨⟨⟨⟨⟨rfl, rfl⟩, hdel⟩, ht⟩, hok⟩, hni⟩ := q
      obtain ⟨nm, bs, mro, ns, qn, hd, sn, sub, ab, col, del⟩ := cd
      dsimp only at hm hdel hok hni
      subst hm hdel
      have hsl : sl = #[k0, k1, k2, k3, some (.builtin n), k5] := by
        obtain ⟨l⟩ := sl
        simp only at hs
        rw [hs]
      subst hsl
      exact ⟨bm', ns, nm, qn, bs, hd, sn, sub, ab, col, dd, k0, k1, k2, k3, k5, _, X _ _ ho, .of_isNs (PySem.W.isNs_of_in X hok), PySem.W.nsMap_none_of_in X hok hni, PySem.W.tail_of_in X ht⟩
    · cases q
  · cases q
section
variable {X : Cx} {x : Str} {C : Addr} {bm : List Value} {newId B initId : String} {e : Expr} {es : List Expr} {te : TA} {np cpos pos : Pos} {R : Value → Hp → Prop}
def am8 (C : Addr) (te : TA) (R : Value → Hp → Prop) : TS := fun _ σ H => te σ H fun vs H1 => vs.length ≤ sizeLine ∧ R (.ref C) H1
theorem aU1 (O : be4 X.K C bm newId) (FB : ExcBaseFacts B newId initId bm) (hc : X.calm = true) (hg : Gl X x) (hm : X.mg x = some (.ref C)) (hr : aY8 X R) (he : PA X (e :: es) te)
    (hst : starEach (e :: es) X.env = (false, eval e X.env) :: starEach es X.env := by rfl) (hplain : (backTo cpos (starEach es X.env)).any (·.1) = false := by rfl) (hd : (x == ("__debug__" : Str)) = false := by decide) :
    PS X (.Raise (some (.Call (.Name x np) (e :: es) [] cpos)) none pos) (am8 C te R) := by
  intro pins s σ H D I h
  obtain ⟨tl, N, nm, q, bs, hdct, sn, sub, ab, col, dd, k0, k1, k2, k3, k5, mN, hC, hN, hni, T⟩ := O.obj I.ok.mod.kin
  refine wpAny_Raise_call_subT (C := C) (nm := nm) (q := q) (N := N) (bs := bs) (bm := tl) (hdct := hdct) (sn := sn) (sub := sub) (ab := ab) (col := col) (dd := dd) (k0 := k0) (k1 := k1) (k2 := k2) (k3 := k3) (k5 := k5)
    FB (mN := mN) (T.hasType FB.hasBase) (I.ok.hd hc) (by rw [hst]; show (false || (backTo cpos (starEach es X.env)).any (·.1)) = false; rw [hplain]; rfl) hni (ah3 I hg hm ⟨rfl, ?_⟩ hd)
  have hA := he cpos pins s σ H _ I h
  rw [hst] at hA ⊢
  refine Calls.evalArgs_plain (thn hA fun us s2 ⟨vs, H1, I1, r1, hl, q1⟩ => ⟨rfl, ?_, I1.bk _ _ hC, hN.keeps I1.bk, T.keeps I1.bk, fun h' a hx => hr pins σ H1 s2 h' a _ us I1 hx q1⟩)
  show us.length ≤ sizeLine
  rw [← r1.length]; exact hl
end
section
variable {X : Cx} {pins : List (Addr × Obj)} {σ : St} {H H' : Hp} {s s' : Shared}
theorem Inv.reA {A2 : Around} {c2 : Bool} {E2 : Value → Shared → Prop} (I : Inv X pins σ H s) (hf : A2.frames = X.A.frames) (hc : c2 = true → A2.handled = none) : Inv { X with A := A2, calm := c2, xe := E2 } pins σ H s :=
  ⟨⟨I.ok.mod, I.ok.kind, I.ok.glob, I.ok.blt, I.ok.above, I.ok.inj, I.ok.has, I.ok.cab, hc, hf.trans I.ok.frames, I.ok.stk, I.ok.exf, I.ok.bs, I.ok.bsz, I.ok.noex, I.ok.exfs, I.ok.funs, I.ok.frf⟩,
    I.os, I.bare, I.base, I.loc, I.cell, I.free, I.freeC, I.pin, I.hok, I.len⟩
theorem Inv.unA {A2 : Around} {c2 : Bool} {E2 : Value → Shared → Prop} (I : Inv { X with A := A2, calm := c2, xe := E2 } pins σ H s) (ok : X.Ok) : Inv X pins σ H s :=
  ⟨ok, I.os, I.bare, I.base, I.loc, I.cell, I.free, I.freeC, I.pin, I.hok, I.len⟩
theorem Inv.bear {E2 : Value → Shared → Prop} (I : Inv X pins σ H s) : Inv { X with xe := E2, pn := X.pn ++ pins } [] σ H s :=
  ⟨⟨I.ok.mod, I.ok.kind, I.ok.glob, I.ok.blt, I.ok.above, I.ok.inj, I.ok.has, I.ok.cab, I.ok.hd, I.ok.frames, I.ok.stk, I.ok.exf, I.ok.bs, I.ok.bsz, I.ok.noex, I.ok.exfs, I.ok.funs, I.ok.frf⟩,
    I.os, I.bare, I.base, I.loc, I.cell, I.free, I.freeC, fun p hp => I.pin p (by simpa using hp), I.hok, I.len⟩
theorem Inv.unbear {E2 : Value → Shared → Prop} {pins' : List (Addr × Obj)} (I : Inv { X with xe := E2, pn := X.pn ++ pins } pins' σ H s) : Inv X pins σ H s :=
  ⟨⟨I.ok.mod, I.ok.kind, I.ok.glob, I.ok.blt, I.ok.above, I.ok.inj, I.ok.has, I.ok.cab, I.ok.hd, I.ok.frames, I.ok.stk, I.ok.exf, I.ok.bs, I.ok.bsz, I.ok.noex, I.ok.exfs, I.ok.funs, I.ok.frf⟩,
    I.os, I.bare, I.base, I.loc, I.cell, I.free, I.freeC, fun p hp => I.pin p (List.mem_append_left _ hp), I.hok, I.len⟩
def ak4 (X : Cx) : St := List.replicate X.N.length none
theorem Inv.forget (I : Inv X pins σ H s) : Inv X pins (ak4 X) H s :=
  I.weak (by unfold ak4; rw [List.length_replicate]; exact I.len.symm) fun i v e => by
    unfold ak4 at e
    rw [List.getElem?_replicate] at e
    split at e <;> cases e
theorem Inv.relocal {h' : Heap} {m' : Str → Option Value} {t' : Nat} (I : Inv X pins σ H s) (hn' : h'.Ns X.env.locals m') (hs : Heap.SameBut X.env.locals s.heap h') : Inv X pins (ak4 X) H { s with heap := h', toks := t' } := by
  have cne := I.cne
  refine ⟨I.ok, I.os, I.bare, ⟨fun b o e n hb hx => ?_, fun b o e n hb hx => ?_, I.base.free, fun b o e hx => ?_, I.base.tups, I.base.frzs, I.base.tbls⟩, ⟨_, hn', fun j y v' e1 e2 e3 => ?_⟩, fun y c e => ?_, I.free, I.freeC, fun p hp => ?_, fun b ob e => ?_, ?_⟩
  · exact (hs.2 b (Nat.ne_of_lt (Nat.lt_of_lt_of_le (Heap.lt_size e) I.ok.above))).trans (I.base.keep b o e n hb hx)
  · obtain ⟨sl, e1⟩ := I.base.slot b o e n hb hx
    exact ⟨sl, (hs.2 b (Nat.ne_of_lt (Nat.lt_of_lt_of_le (Heap.lt_size e) I.ok.above))).trans e1⟩
  · obtain ⟨o', e1⟩ := I.base.there b o e hx
    exact ⟨o', (hs.2 b (Nat.ne_of_lt (Nat.lt_of_lt_of_le (Heap.lt_size e) I.ok.above))).trans e1⟩
  · unfold ak4 at e2
    rw [List.getElem?_replicate] at e2
    split at e2 <;> cases e2
  · obtain ⟨w', z⟩ := I.cell y c e
    exact ⟨w', z.sameBut hs (cne y c e)⟩
  · obtain ⟨e, n, ne, nf, d⟩ := I.pin p hp
    exact ⟨(hs.2 p.1 ne).trans e, n, ne, nf, d⟩
  · refine (I.hok b ob e).stay (fun c w' hc q => (hs.2 c ?_).trans q) (fun _ q => q) fun _ _ q => q
    rintro rfl
    rcases hc with rfl | hc
    · rw [I.free] at e; cases e
    · rw [I.free] at hc; cases hc
  · show (List.replicate X.N.length none).length = _
    exact List.length_replicate
def Exc (cls : Value) (a : Addr) : HO := .ext fun h => ∃ o vs, h.get? a = some o ∧ o.cls = cls ∧ o.data = .fields vs
end
theorem Exc.ok {P : Program} {w : World} {H : Hp} {h : Heap} {cls : Value} {a : Addr} {o : Obj} {vs : Array Value} (h1 : h.get? a = some o) (h2 : o.cls = cls) (h3 : o.data = .fields vs) : F0 P w H h a (Exc cls a) :=
  ⟨⟨o, vs, h1, h2, h3⟩, ⟨o, h1⟩, fun _ _ ⟨o, vs, q1, q2, q3⟩ k => ⟨o, vs, k o q1, q2, q3⟩⟩
theorem Inv.track {X : Cx} {pins : List (Addr × Obj)} {σ : St} {H : Hp} {s : Shared} {o : HO} {a : Addr} (I : Inv X pins σ H s) (hn : H a = none) (new : F0 X.prog X.w (upd H a o) s.heap a o)
    (h1 : ∀ b ob, X.s₀.heap.get? b = some ob → X.H₀ b = none → b ∉ X.ex → b ≠ a) (h2 : X.env.locals ≠ a) (h3 : ∀ x c, X.env.cells.lookup x = some c → c ≠ a) (h4 : ∀ p ∈ X.pn ++ pins, p.1 ≠ a) : Inv X pins σ (upd H a o) s :=
  ⟨I.ok, I.os, I.bare, ⟨I.base.keep, I.base.slot, fun b ob q n hx => by rw [e9 (h1 b ob q n hx)]; exact I.base.free b ob q n hx, I.base.there, fun b xs q => by rw [e9 (d8 (I.base.tups b xs q) hn)]; exact I.base.tups b xs q,
      fun b ob u q => by rw [e9 (d8 (I.base.frzs b ob u q) hn)]; exact I.base.frzs b ob u q, fun b ps q => by obtain ⟨m, z⟩ := I.base.tbls b ps q; exact ⟨m, by rw [e9 (d8 z hn)]; exact z⟩⟩,
    I.loc, I.cell, by rw [e9 h2]; exact I.free, fun x c q => by rw [e9 (h3 x c q)]; exact I.freeC x c q, fun p hp => let ⟨e1, e2, e3⟩ := I.pin p hp; ⟨e1, by rw [e9 (h4 p hp)]; exact e2, e3⟩,
    fun b u e => by
      by_cases hb : b = a
      · subst hb; rw [b7] at e; cases e; exact new
      · rw [e9 hb] at e
        exact (I.hok b u e).stay (fun _ _ _ q => q) (fun c q => by rw [e9 (d8 q hn)]; exact q) fun c xs q => by rw [e9 (d8 q hn)]; exact q,
    I.len⟩
theorem Inv.caught {X : Cx} {pins : List (Addr × Obj)} {σ : St} {H : Hp} {s s' : Shared} {a : Addr} {cls a0 : Value} {H' : Hp} {B h6 : Heap} (I : Inv X pins σ H s) (os : s'.os = s.os) (bare : AllBare s'.gens) (fl : Heap.FlyingW B X.stack a cls a0 s'.heap)
    (hB : ∀ b o, s.heap.get? b = some o → H b = none → b ∉ frs X.stack → B.get? b = some o) (hth : ∀ b o, s.heap.get? b = some o → b ∉ frs X.stack → ∃ o', B.get? b = some o') (hok : HOk X.prog X.w H' B)
    (un : Un (frs X.stack) [] H H' s.heap s'.heap) (st : B.StaysIn h6) (up : s'.heap.UpToSlots h6) : Inv X pins σ H' { s' with heap := h6 } := by
  have hfr : ∀ b o, s'.heap.get? b = some o → b ∈ frs X.stack → ∃ sl, h6.get? b = some { o with slots := sl } := fun b o q hb => by
    obtain ⟨_, ob, hob, hnf⟩ := fl.2.2.1.mem hb
    rw [q] at hob; cases hob
    exact up b o q hnf
  refine I.call' (s' := { s' with heap := h6 }) (ch := []) os ⟨fun b o q n hb _ => st b o (hB b o q n hb), fun b o q n hb _ => ?_, un.free, fun b o q _ => ?_, un.tups, un.frzs, un.tbls⟩ (hok.kept fun b u q => st b u q) bare (fun b z => absurd z (by simp))
  · obtain ⟨sl, z⟩ := un.slot b o q n hb (by simp)
    obtain ⟨sl2, z2⟩ := hfr b _ z hb
    exact ⟨sl2, z2⟩
  · by_cases hb : b ∈ frs X.stack
    · obtain ⟨o2, z2⟩ := un.there b o q (by simp)
      obtain ⟨sl, z3⟩ := hfr b o2 z2 hb
      exact ⟨_, z3⟩
    · obtain ⟨o2, z2⟩ := hth b o q hb
      exact ⟨o2, st b o2 z2⟩
abbrev Cx.body (X : Cx) (xe : Value → Shared → Prop) (pn : List (Addr × Obj)) : Cx := { X with xe := xe, pn := pn }
abbrev Cx.suite (X : Cx) (a : Addr) : Cx := { X with A := X.A.mark (some (.ref a)), calm := false, xe := fun _ _ => False }
def bl1 (K : PySem.W.Frag) (n C i : Nat) (tb : XK → TS) (th : Addr → TS) : TS := fun D σ H =>
  tb (fun cls _ H' => PySem.W.exmOne K cls (.ref C) = some true ∧ ∀ a, H' a = none → th a { nx := fun _ _ => False, rt := D.rt } ((List.replicate n none).set i (some (.ref a))) (upd H' a (Exc cls a))) D σ H
section
variable {X : Cx}
theorem bh3 {body : List Stmt} {x n : Str} {C : Addr} {i : Nat} {b₀ : Stmt} {suite : List Stmt} {tb : XK → TS} {th : Addr → TS} {np hpos pos : Pos} {l : List Env} (hst : X.stack = X.env :: l) (hfr : X.env.frame = some X.env.locals)
    (hex0 : X.ex = []) (hN : X.N.Nodup) (hi : X.N[i]? = some n) (hl : X.env.kindOf n = some .local) (hg : Gl X x) (hm : X.mg x = some (.ref C)) 
    (hb : ∀ (E : XK) (xe : Value → Shared → Prop) (pn : List (Addr × Obj)), as0 (CXR X.prog X.w) (X.body xe pn) E → PSs (X.body xe pn) body (tb E))
    (hs : ∀ a, PSs (X.suite a) (b₀ :: suite) (th a)) (hd : (x == ("__debug__" : Str)) = false := by decide) :
    PS X (.Try body [.ExceptHandler (some (.Name x np)) (some n) (b₀ :: suite) hpos] [] [] pos) (bl1 X.K X.N.length C i tb th) := by
  intro pins s σ H D I h
  refine wpAny_Try_except ?_
  refine wpAny_mono (hb _ (fun e s₁ => wpAny (model X.prog X.w) X.A (noteFrame e X.env) (fun _ s₂ => wpAny (model X.prog X.w) X.A (setFlight e none) (fun _ s₃ => wpAny (model X.prog X.w) X.A (handleBy e X.env [.ExceptHandler (some (.Name x np)) (some n) (b₀ :: suite) hpos]) (SP X pins D) X.xe s₃) X.xe s₂) X.xe s₁) (X.pn ++ pins) ?_ [] s σ H D I.bear h) ?_ fun _ _ z => z
  case refine_2 =>
    intro f s1 hf
    cases f with
    | next =>
      obtain ⟨σ', H', J, q⟩ := hf
      exact wpAny_execs_nil ⟨σ', H', J.unbear, q⟩
    | brk =>
      obtain ⟨σ', H', J, q⟩ := hf
      exact ⟨σ', H', J.unbear, q⟩
    | cont =>
      obtain ⟨σ', H', J, q⟩ := hf
      exact ⟨σ', H', J.unbear, q⟩
    | ret u =>
      obtain ⟨v, σ', H', J, r, q⟩ := hf
      exact ⟨v, σ', H', J.unbear, r, q⟩
  case refine_1 =>
    intro pins' σ' H1 s1 e s2 J0 hcx
    have J : Inv X pins σ' H1 s1 := J0.unbear
    obtain ⟨a, cls, a0, H2, B, rfl, os, bare, fl, hB, hth, hok, un, hn, hE⟩ := hcx
    obtain ⟨hex, hsu⟩ := hE
    have fl' : Heap.FlyingW B (X.env :: l) a cls a0 s2.heap := by rw [← hst]; exact fl
    refine wpAny_looks_onW (by rw [J.ok.frames, hst]) hfr fl' fun h4 held4 up4 => ?_
    refine wpAny_landsW held4 fun h5 fl5 up5 => ?_
    have J5 : Inv X pins σ' H2 { s2 with heap := h5 } := J.caught os bare fl hB hth hok un fl5.1 (up4.trans up5)
    obtain ⟨ob, hob, hobc⟩ := fl5.there
    have LT : PySem.W.Looks (model X.prog X.w) h5 (typeOf (.ref a)) cls := hobc ▸ (PySem.W.Looks.ld hob).andThen .now
    have J5h : Inv (X.suite a) pins σ' H2 { s2 with heap := h5 } := J5.reA rfl (fun z => nomatch z)
    refine wpAny_handleBy_cons (codeAny_handlers_test (ah3 (X := X.suite a) J5h hg hm ?_ hd)) (by intro q; cases q)
    refine (PySem.W.exm_one (M := model X.prog X.w) J5.kIn LT hex).at ?_
    refine codeAny_handlers_suite_as ?_
    refine lands_againW fl5 fun h6 fl6 up6 => ?_
    have J6 : Inv X pins σ' H2 { s2 with heap := h6 } := J.caught os bare fl hB hth hok un fl6.1 ((up4.trans up5).trans up6)
    have J6h : Inv (X.suite a) pins (ak4 X) H2 { s2 with heap := h6 } := (show Inv (X.suite a) pins σ' H2 { s2 with heap := h6 } from J6.reA rfl (fun z => nomatch z)).forget
    -- the exception is tracked
    obtain ⟨oe, ws, hoe, hoec, hoed, _⟩ := fl6.first
    have nfr : ∀ b ∈ frs X.stack, b ≠ a := fun b hb z => by
      obtain ⟨_, o', ho', hnf⟩ := fl6.2.2.1.mem (show b ∈ frs (X.env :: l) from hst ▸ hb)
      subst z
      have ho6 : h6.get? b = some o' := ho'
      rw [hoe] at ho6; cases ho6
      exact hnf ws hoed
    have nB : ∀ b o, B.get? b = some o → b ≠ a := fun b o q z => by rw [z, fl.2.1] at q; cases q
    have nL : X.env.locals ≠ a := nfr _ (by rw [hst]; unfold frs; rw [List.filterMap_cons, hfr]; exact List.mem_cons_self)
    have J7 : Inv (X.suite a) pins (ak4 X) (upd H2 a (Exc cls a)) { s2 with heap := h6 } := by
      refine J6h.track hn (Exc.ok hoe hoec hoed) (fun b ob q n hx => ?_) nL (fun y c q => ?_) (fun p hp => ?_)
      · have hx' : b ∉ X.ex := hx
        by_cases hbf : b ∈ frs X.stack
        · exact nfr b hbf
        · have z1 : b ∉ X.fs := fun z => hbf (by
            rcases J.ok.stk with e | ⟨e, _⟩
            · rw [e]; exact z
            · rw [e]; unfold frs; rw [List.filterMap_cons, hfr]; exact List.mem_cons_of_mem _ z)
          exact nB b ob (hB b ob (J.base.keep b ob q n z1 hx') (J.base.free b ob q n hx') hbf)
      · obtain ⟨v, o', ho', hd'⟩ := J6h.cell y c q
        intro z
        subst z
        have z1 : h6.get? c = some o' := ho'
        rw [hoe] at z1; cases z1
        rw [hoed] at hd'; cases hd'
      · have hp' : p ∈ X.pn ++ pins := hp
        obtain ⟨e1, e2, e3, e4, _⟩ := J.pin p hp'
        refine nB p.1 p.2 (hB p.1 p.2 e1 e2 fun z => ?_)
        rcases List.mem_cons.mp (J.stkSub p.1 z) with y | y
        · exact e3 y
        · exact e4 y
    refine U1 (X := X.suite a) J7 hN hi (.inl hl) (v := .ref a) (u := .ref a) rfl (fun s8 J8 => ?_) (.inr hl)
    refine wpAny_mono (hs a pins s8 _ _ { nx := fun _ _ => False, rt := D.rt } J8 (hsu a hn)) (fun f s9 hf => ?_) fun _ _ z => False.elim z
    cases f with
    | next => obtain ⟨_, _, _, q⟩ := hf; exact False.elim q
    | brk => obtain ⟨_, _, _, q⟩ := hf; exact False.elim q
    | cont => obtain ⟨_, _, _, q⟩ := hf; exact False.elim q
    | ret u =>
      obtain ⟨v, σ9, H9, J9, r9, q9⟩ := hf
      obtain ⟨m9, hn9, _⟩ := id J9.loc
      have J9' : Inv X pins σ9 H9 s9 := J9.unA J.ok
      refine wpAny_nameGoes hl hn9 (by rw [J.ok.kind]; rfl) fun h' m' hn' hs' => ?_
      exact ⟨v, ak4 X, H9, J9'.relocal hn' hs', r9, q9⟩
end
structure M7 (k : Nat) (A : Around) : Prop where
  dp : A.depth + 3 * k + 5 < recursionLimit
  un : A.units + 16 * k + 200 < cLine
theorem R7.toX {k : Nat} {A : Around} (r : R7 k A) : M7 k A := ⟨r.dp, r.un⟩
theorem M7.mono {j k : Nat} {A : Around} (r : M7 k A) (h : j ≤ k) : M7 j A := ⟨by have := r.dp; omega, by have := r.un; omega⟩
theorem M7.deeper {k : Nat} {A : Around} (r : M7 (k + 1) A) (env : Env) : M7 k (A.deeper env) :=
  ⟨by have := r.dp; show A.depth + 1 + 3 * k + 5 < _; omega, by have := r.un; show A.units + 3 + 16 * k + 200 < _; omega⟩
theorem M7.mark {k : Nat} {A : Around} (r : M7 k A) (v : Option Value) : M7 k (A.mark v) := ⟨r.dp, r.un⟩
theorem M7.depth {k : Nat} {A : Around} (r : M7 k A) : A.depth < recursionLimit := by have := r.dp; omega
structure aM1 (P : Program) (w : World) (K : PySem.W.Frag) (mg : Str → Option Value) (base : Heap) (k : Nat) (f : Addr) (fd : FuncData) (ps : List Str) (sp : Sp) : Prop where
  len : ∀ vs H Q E, sp vs H Q E → vs.length = ps.length
  run : ∀ (A : Around) (outer : List Env) (s : Shared) (H : Hp) (args : Args) (us : List Value) (vs : List V) (Q : VK) (E : XK), M7 k A → aQ6 P w K mg base A outer s H → BindsTo s fd args (ps.zip us) → j9 vs us → sp vs H Q E →
    codeAny (model P w) A (.call (.ref f) args) (CR CX0 outer P w H s Q E) s
abbrev cxX (P : Program) (w : World) (K : PySem.W.Frag) (mg : Str → Option Value) (base : Heap) (N : List Str) (qual : Str) (scope : Scope) (f : Addr) (cd : Value) (A : Around) (outer : List Env) (s₀ : Shared) (H₀ : Hp) (E : XK) : Cx :=
  { ae9 CX0 P w K mg base N qual scope f cd A outer s₀ H₀ E with calm := false, xe := fun _ _ => False }
theorem Fun.okX {P : Program} {w : World} {K : PySem.W.Frag} {mg : Str → Option Value} {base : Heap} {x qual : Str} {st : Stmt} {f : Addr} {fd : FuncData} {N ps : List Str} {k : Nat} {sp : Sp} (F : Fun K x qual st f fd) (S : i5 N ps (d3 st)) (len : ∀ vs H Q E, sp vs H Q E → vs.length = ps.length)
    (hbody : ∀ (cdv : Value) (A : Around) (outer : List Env) (s : Shared) (H : Hp) (vs : List V) (Q : VK) (E : XK), M7 k (A.deeper (envOfC qual (d3 st) s.heap.objs.size f cdv)) → sp vs H Q E →
      ∃ t, PSs (cxX P w K mg base N qual (d3 st) f cdv A outer s H E) (g9 st) t ∧ t { nx := fun _ H' => Q .non H', rt := Q } (start N vs) H) : aM1 P w K mg base (k + 1) f fd ps sp := by
  obtain ⟨oc, od, kV, doc, pm, an, cdv, ct, osl, rfl, lk, hcd⟩ := F.ex
  refine ⟨len, fun A outer s H args us vs Q E hr e0 hb r hsp => ?_⟩
  have hl := len _ _ _ _ hsp
  have KX : K.In s.heap := e0.mod.kin.keeps fun b o e => (e0.bs b o e).1
  have lim : s.heap.NoLimit := e0.mod.nolimit.keeps fun b o e => (e0.bs b o e).1
  have hkind : ∀ y ∈ ps.zip us, (d3 st).names.lookup y.1 = some .local ∨ ((d3 st).names.lookup y.1 = some .cell ∧ ((cellsFrom (s.heap.objs.size + 1) (d3 st).names []).lookup y.1).isSome = true) := fun ⟨n, v⟩ hy => by
    rcases S.par n (List.of_mem_zip hy).1 with q | q
    · exact .inl q
    · exact .inr ⟨q, PySem.W.cellsFrom_some _ _ _ (.inl q)⟩
  refine codeAny_call_function hr.depth (KX _ _ lk) rfl S.co S.gen rfl (PySem.W.codeRec_of KX hcd) (hb _ _ _ _ ?_)
  refine wpAny_newFunctionEnv_cells S.kind hkind fun env he s1 x => ?_
  subst he
  refine ⟨lim.keeps x.toInCall.keep, codeAny_func ?_⟩
  obtain ⟨t, ht, hq⟩ := hbody cdv A outer s H vs Q E (hr.deeper _) hsp
  have e0' : aQ6 P w K mg base { A with handled := none } outer s H := ⟨e0.frames, e0.mod, e0.bs, e0.bsz, e0.funs, e0.frf, e0.hok, e0.bare⟩
  have I0 : Inv (ae9 CX0 P w K mg base N qual (d3 st) f cdv { A with handled := none } outer s H E) [] (start N vs) H s1 := aw1 S rfl e0' hl r x
  have I : Inv (cxX P w K mg base N qual (d3 st) f cdv A outer s H E) [] (start N vs) H s1 := I0.reA (A2 := A.deeper (envOfC qual (d3 st) s.heap.objs.size f cdv)) (by rfl) (fun z => nomatch z)
  refine wpAny_mono (ht [] s1 (start N vs) H _ I hq) (fun fl s' hs => ?_) fun e s' hs => False.elim hs
  have fin : ∀ {σ' : St} {H' : Hp} {v : V} {u : Value}, Inv (cxX P w K mg base N qual (d3 st) f cdv A outer s H E) [] σ' H' s' → y7 v u → Q v H' → CE outer P w H s Q u s' :=
    fun {σ' H' v u} J rv q => ⟨v, H', J.os, J.bare, J.base, J.hok, rv, q⟩
  cases fl with
  | ret u =>
    obtain ⟨v, σ', H', J, rv, q⟩ := hs
    exact fin J rv q
  | next =>
    obtain ⟨σ', H', J, q⟩ := hs
    exact fin (v := V.non) (u := Value.none) J rfl q
  | brk =>
    obtain ⟨_, _, _, q⟩ := hs
    exact False.elim q
  | cont =>
    obtain ⟨_, _, _, q⟩ := hs
    exact False.elim q
section
variable {X : Cx} {CX : CXT} {k : Nat} {f : Addr} {fd : FuncData} {ps : List Str} {sp : Sp} {E : XK} {x : Str} {p pos : Pos} {e : Expr} {es : List Expr} {t : TA}
theorem ba0 {pins : List (Addr × Obj)} {σ : St} {H : Hp} {s : Shared} {Q : VK} {us : List Value} {vs : List V} (F : aM1 X.prog X.w X.K X.mg X.base k f fd ps sp) (hr : M7 k X.A) (hb : aa6 X.K fd ps [])
    (I : Inv X pins σ H s) (r : j9 vs us) (h : sp vs H Q E) : wpAny (model X.prog X.w) X.A (call (.ref f) us) (EP X pins σ Q) X.xe s := by
  have hl : (us ++ []).length = ps.length := by rw [List.append_nil, ← r.length]; exact F.len _ _ _ _ h
  have hb' := hb s us I.kIn hl
  rw [List.append_nil] at hb'
  refine wpAny_call (codeAny_mono (F.run X.A X.stack s H ⟨us, []⟩ us vs Q E hr I.env0 hb' r h) fun r s' hq => ?_)
  cases r with
  | error e => exact False.elim hq
  | ok fl =>
    cases fl with
    | ret u => exact I.after hq
    | next => exact False.elim hq
    | brk => exact False.elim hq
    | cont => exact False.elim hq
def ai3 (sp : Sp) (t : TA) : TE := fun σ H Q => t σ H fun vs H1 => sp vs H1 Q E0
theorem aU4 (F : aM1 X.prog X.w X.K X.mg X.base k f fd ps sp) (hr : M7 k X.A) (hg : Gl X x) (hm : X.mg x = some (.ref f)) (hk : PySem.W.keepIn X.K (.ref f) = true) (hb : aa6 X.K fd ps [])
    (ha : PA X (e :: es) t) (hdb : (x == ("__debug__" : Str)) = false := by decide) (he : starEach (e :: es) X.env = (false, eval e X.env) :: starEach es X.env := by rfl) (hpl : (backTo pos (starEach es X.env)).any (·.1) = false := by rfl) :
    PE X (.Call (.Name x p) (e :: es) [] pos) (ai3 sp t) := by
  intro pins s σ H Q I h
  refine wpAny_Call_Name_kw (ah3 I hg hm ?_ hdb)
  refine PySem.W.callWith_K (h₀ := X.base) I.ok.mod.kin hk (thn (ha pos pins s σ H _ I h) fun us s1 ⟨vs, H1, I1, r, q⟩ => ⟨I1.kIn, ?_⟩) he hpl
  exact ba0 F hr hb I1 r q
structure FnV (P : Program) (w : World) (K : PySem.W.Frag) (mg : Str → Option Value) (base : Heap) (k : Nat) (f : Addr) (sp : Sp) : Prop where
  ex : ∃ fd ps, aa4 P w K mg base (CXR P w) k f fd ps sp ∧ aa6 K fd ps []
  kp : PySem.W.keepIn K (.ref f) = true
def bg6 (P : Program) (w : World) (K : PySem.W.Frag) (mg : Str → Option Value) (base : Heap) (k i : Nat) (E : XK) (t : TA) : TE := fun σ H Q => ∃ f sp, σ[i]? = some (some (.ref f)) ∧ FnV P w K mg base k f sp ∧ t σ H fun vs H1 => sp vs H1 Q E
end
end L2
-- the class of an exception, isinstance, great numbers
set_option maxRecDepth 100000
namespace L2
open PySem PySem.W PySem.Spec PyProof.Rows Builtin Builtin.ObjectAttr Builtin.Getset_descriptor
section
variable {prog : Program} {w : World} {A : Around} {E : Value → Shared → Prop} {s : Shared} {K : Frag} {a C : Addr} {o : Obj}
theorem at6 {R : Result → Shared → Prop} {tp : Value} (X : K.In s.heap) (hx : s.heap.get? a = some o) (hc : o.cls = .ref C) (hm : mroIn K C (.type "object") = some true)
    (h : R (.ok (.ret (.ref C))) s) : codeAny (model prog w) A (.call (.builtin "getset_descriptor.__get__") ⟨[.builtin "object.__class__", .ref a, tp], []⟩) R s := by
  obtain ⟨hh, g, dr, t, os⟩ := s
  have L0 : Looks (model prog w) hh (typeOf (.ref a)) (.ref C) := hc ▸ (Looks.ld hx).andThen .now
  have L1 := looks_mroIn (M := model prog w) X hm
  refine codeAny_call_builtin KF.slot_gs.plain KF.entry_gs (KF.slot_gs.check _ _ _ _ _ _ _ _ KF.type_class (KF.args_gs _ _ _) ?_)
  unfold Builtin.«getset_descriptor.__get__» descrGet
  rw [dga_obj]
  refine wpAny_bind (wpAny_pure ?_)
  unfold descrGetter descrCheckInstance descrNameAndClass isInstance
  simp only [KF.owner_class]
  repeat lk
  refine ⟨Code.quiet_builtin _ (by decide +kernel), codeAny_builtin KF.entry_class ?_⟩
  unfold Builtin.«object.__class__» shownTypeOf
  repeat lk
  exact h
theorem aP2 {tk : Tok} {Q : Fin → Shared → Prop} (X : K.In s.heap) (hx : s.heap.get? a = some o) (hc : o.cls = .ref C) (g3 : findIn K (.ref C) "__class__" = some (some (.builtin "object.__class__"))) (hm : mroIn K C (.type "object") = some true)
    (hq : Q (.done (.ret (.ref C))) s) : wpAny (model prog w) A (Builtin.«object.__getattribute__» ⟨[.ref a, .str "__class__" tk], []⟩) Q E s := by
  obtain ⟨hh, g, dr, t, os⟩ := s
  have L0 : Looks (model prog w) hh (typeOf (.ref a)) (.ref C) := hc ▸ (Looks.ld hx).andThen .now
  have L1 := looks_findIn (M := model prog w) X g3
  have f5 : typeOf (.builtin "object.__class__") = pure (.type "getset_descriptor") := KF.type_class
  have f6 := F.slot_gs_get.lookup
  have f7 := F.slot_gs_set.lookup
  repeat (any_goals (first | assumption | (with_reducible refine wpAny_loadPart_at hx ?_; rw [hc]) | with_reducible refine L1.at ?_ | wp_step))
  refine at6 X hx hc hm ?_
  repeat (any_goals (first | assumption | wp_step))
theorem aP4 {M : Model} {nameV : Value} {Q : Unit → Shared → Prop} (X : K.In s.heap) (hx : s.heap.get? a = some o) (hc : o.cls = .ref C) (hmB : mroIn K C (.type "BaseException") = some true) (hq : Q () s) :
    wpAny M A (checkBuiltinCall "BaseException.__getattribute__" ⟨[.ref a, nameV], []⟩) Q E s := by
  obtain ⟨hh, g, d, t, os⟩ := s
  have L3 := looks_mroIn (M := M) X hmB
  have hk : builtinKind "BaseException.__getattribute__" = some .slot := by decide +kernel
  have hsplit : splitId "BaseException.__getattribute__" = some ("BaseException", "__getattribute__") := by decide +kernel
  have ha := F.args_bexc_ga (.ref a) nameV
  simp only [checkBuiltinCall, hk, hsplit]
  refine wpAny_bind ?_
  · unfold isInstance
    repeat (first | (with_reducible refine wpAny_loadPart_at hx ?_; rw [hc]) | with_reducible refine L3.at ?_ | wp_step)
    exact hq
theorem aP3 {Q : Option Value → Shared → Prop} (X : K.In s.heap) (hx : s.heap.get? a = some o) (hc : o.cls = .ref C) (g1 : findIn K (.ref C) "__getattribute__" = some (some (.builtin "BaseException.__getattribute__"))) (g2 : findIn K (.ref C) "__getattr__" = some none)
    (g3 : findIn K (.ref C) "__class__" = some (some (.builtin "object.__class__"))) (hm : mroIn K C (.type "object") = some true) (hmB : mroIn K C (.type "BaseException") = some true) 
    (h : Q (some (.ref C)) { s with toks := s.toks + 1 }) : wpAny (model prog w) A (getAttr? (.ref a) "__class__") Q E s := by
  obtain ⟨hh, g, d, t, os⟩ := s
  have L0 : Looks (model prog w) hh (typeOf (.ref a)) (.ref C) := hc ▸ (Looks.ld hx).andThen .now
  have L1 := looks_findIn (M := model prog w) X g1
  have L2 := looks_findIn (M := model prog w) X g2
  have L3 := looks_mroIn (M := model prog w) X hmB
  unfold getAttr? getAttrBy? getAttrBy
  refine wpAny_bind (wpAny_mkText (wpAny_bind (wpAny_attempt (wpAny_holding (wpAny_bind (L0.at (wpAny_bind (L1.at ?_))))))))
  have hx2 : (Value.builtin "BaseException.__getattribute__" == Value.builtin "object.__getattribute__") = false := by decide +kernel
  have hx1 : (onTheHeap (Value.ref C) && Value.builtin "BaseException.__getattribute__" == Value.builtin "object.__getattribute__") = false := by rw [hx2]; rfl
  show wpAny _ _ (if (onTheHeap (Value.ref C) && Value.builtin "BaseException.__getattribute__" == Value.builtin "object.__getattribute__") = true then _ else _) _ _ _
  rw [if_neg (by rw [hx1]; decide)]
  have f3 := PySem.F.attr_ValueError.ga.bind (.ref a)
  have hx0 : (false && onTheHeap (Value.builtin "BaseException.__getattribute__")) = false := rfl
  unfold getAttrByItsOwn hookBefore
  repeat (any_goals (first | assumption | (with_reducible refine wpAny_loadPart_at hx ?_; rw [hc]) | with_reducible refine L1.at ?_ | with_reducible refine L2.at ?_ | wp_step))
  refine codeAny_call_builtin PySem.F.attr_ValueError.ga.plain F.entry_bexc_ga (aP4 X hx hc hmB (aP2 X hx hc g3 hm ?_))
  dsimp only
  unfold handedOut
  exact wpAny_pure (wpAny_pure h)
structure D6 (K : Frag) (C : Addr) : Prop where
  cl : (clsIn K C).isSome = true
  g1 : findIn K (.ref C) "__getattribute__" = some (some (.builtin "BaseException.__getattribute__"))
  g2 : findIn K (.ref C) "__getattr__" = some none
  g3 : findIn K (.ref C) "__class__" = some (some (.builtin "object.__class__"))
  hm : mroIn K C (.type "object") = some true
  hB : mroIn K C (.type "BaseException") = some true
theorem aW5 (c : D6 K C) : KitX K (.ref a) (.ref C) (fun h => ∃ o, h.get? a = some o ∧ o.cls = .ref C) where
  ty := fun _ _ _ ⟨o, hx, hc⟩ => hc ▸ (Looks.ld hx).andThen .now
  it := fun _ _ X _ => by
    obtain ⟨cdD, hcD⟩ := Option.isSome_iff_exists.mp c.cl
    unfold clsIn at hcD
    split at hcD
    · rename_i c' d' cd' sl' ho
      intro A' Q' E' s' k q
      unfold isType loadHead
      exact wpAny_bind (wpAny_loadPart (k _ _ (X _ _ ho)) (wpAny_pure q))
    · cases hcD
  ne := fun h tp dd its n sl X htp => by
    obtain ⟨cdD, hcD⟩ := Option.isSome_iff_exists.mp c.cl
    refine Bool.eq_false_iff.mpr fun q => ?_
    have e : C = tp := Value.ref.inj (beq_iff_eq.mp q)
    subst e
    unfold clsIn at hcD
    split at hcD
    · rename_i c' d' cd' sl' ho
      have z := (X _ _ ho).symm.trans htp
      cases z
    · cases hcD
  ca := fun X ⟨o, hx, hc⟩ k => aP3 X hx hc c.g1 c.g2 c.g3 c.hm c.hB k
end
section
variable {X : Cx}
def bn0 : V → Value
  | .ty n => .type n
  | .ref a => .ref a
  | _ => .none
def isC : V → Prop
  | .ty _ => True
  | .ref _ => True
  | _ => False
inductive TyX (K : Frag) (H : Hp) : V → Value → Prop where
  | of {x : V} {t : Value} (h : aj7 K H x t) : TyX K H x t
  | exc {a C : Addr} (e : H a = some (Exc (.ref C) a)) (c : D6 K C) : TyX K H (.ref a) (.ref C)
  | sqt {a : Addr} {xs : List V} (h : SqT K H a xs) : TyX K H (.ref a) (.type "tuple")
  | sql {a : Addr} {xs : List V} (h : SqL K H a xs) : TyX K H (.ref a) (.type "list")
def aT7 (K : Frag) : List V → Hp → VK → Prop := fun xs H Q => ∃ x c t b, xs = [x, c] ∧ isC c ∧ TyX K H x t ∧ kitOne K t (bn0 c) = some b ∧ Q (.bl b) H
theorem j4 : aa5 X (.builtin "isinstance") (aT7 X.K) := by
  intro pins s σ H us vs Q I r h
  obtain ⟨x, c, t, b, rfl, ic, ty, e, q⟩ := h
  obtain ⟨u, cu, rfl, rx, rc⟩ := j9.two r
  have ec : cu = bn0 c := by
    cases c with
    | ty n => exact rc
    | ref a => exact rc
    | _ => exact False.elim ic
  subst ec
  have fin : ∀ tk, EP X pins σ Q (.bool b) { s with toks := tk } := fun tk => ⟨.bl b, H, I.tok tk, rfl, q⟩
  cases ty with
  | of ty => exact aO8 I rx ty e fin
  | @exc a C ea cl =>
    cases (show u = Value.ref a from rx)
    obtain ⟨⟨o, _, h1, h2, _⟩, _⟩ := (show F0 X.prog X.w H s.heap a (Exc (.ref C) a) from I.hok a _ ea)
    exact kia_one (aW5 cl) I.kIn ⟨o, h1, h2⟩ e (fun z => nomatch z) fin
  | @sqt a xs h =>
    cases (show u = Value.ref a from rx)
    obtain ⟨_, _, ⟨o, h1, h2, _⟩, _⟩ := I.tuple h
    exact kia_one kitx_tuple I.kIn ⟨o, h1, h2⟩ e (fun z => nomatch z) fin
  | @sql a xs h =>
    cases (show u = Value.ref a from rx)
    obtain ⟨_, _, ⟨o, n, h1, h2, _⟩, _⟩ := I.list h
    exact kia_one kitx_list I.kIn ⟨o, h1, h2⟩ e (fun z => nomatch z) fin
theorem y9 : OpR X (binaryOp .Mult) (rI IntMulOk fun i j => .int (i * j)) := opI fun _ _ _ _ _ _ _ hc q => mul_int q hc
def as1 (_ j : Int) : Prop := j ≠ 0 ∧ j.natAbs.log2 < 9000
theorem B8 : OpR X (binaryOp .FloorDiv) (rI as1 fun i j => .int (i.fdiv j)) := opI fun _ _ _ _ _ _ _ hc q => floordiv_int hc.1 q (.inl (PyProof.noPylong_of_log2 hc.2))
end
open PySem PySem.Spec PyProof.Rows
inductive D where
  | v (x : V)
  | tup (ds : List D)
  | lst (ds : List D)
mutual
def eqD : D → D → Bool
  | .v x, .v y => eqV x y
  | .tup a, .tup b => F7 a b
  | .lst a, .lst b => F7 a b
  | _, _ => false
def F7 : List D → List D → Bool
  | [], [] => true
  | x :: xs, y :: ys => eqD x y && F7 xs ys
  | _, _ => false
end
mutual
def okD : D → D → Bool
  | .v _, .v _ => true
  | .tup a, .tup b => R8 a b
  | .lst a, .lst b => R8 a b
  | _, _ => false
def R8 : List D → List D → Bool
  | x :: xs, y :: ys => okD x y && R8 xs ys
  | _, _ => true
end
mutual
def dpD : D → Nat
  | .v _ => 0
  | .tup a => Z6 a + 1
  | .lst a => Z6 a + 1
def Z6 : List D → Nat
  | [] => 0
  | x :: xs => max (dpD x) (Z6 xs)
end
mutual
inductive IsD (K : PySem.W.Frag) (H : Hp) : V → D → Prop where
  | v {x : V} (f : R6 x = true) : IsD K H x (.v x)
  | tup {p : Addr} {xs : List V} {ds : List D} (h : SqT K H p xs) (t : aa3 K H xs ds) : IsD K H (.ref p) (.tup ds)
  | lst {p : Addr} {xs : List V} {ds : List D} (h : SqL K H p xs) (t : aa3 K H xs ds) : IsD K H (.ref p) (.lst ds)
inductive aa3 (K : PySem.W.Frag) (H : Hp) : List V → List D → Prop where
  | nil : aa3 K H [] []
  | cons {x : V} {xs : List V} {d : D} {ds : List D} (h : IsD K H x d) (t : aa3 K H xs ds) : aa3 K H (x :: xs) (d :: ds)
end
theorem aa3.length {K : PySem.W.Frag} {H : Hp} : ∀ {xs : List V} {ds : List D}, aa3 K H xs ds → xs.length = ds.length
  | _, _, .nil => rfl
  | _, _, .cons _ t => congrArg (· + 1) t.length
theorem aX5 : ∀ {x : V}, R6 x = true → eqV x x = true
  | .non, _ => rfl
  | .bl a, _ => by simp [eqV]
  | .int a, _ => by simp [eqV]
  | .str a, _ => by simp [eqV]
  | .byt _, h => absurd (show false = true from h) Bool.false_ne_true
  | .flt _, h => absurd (show false = true from h) Bool.false_ne_true
  | .ref _, h => absurd (show false = true from h) Bool.false_ne_true
  | .ty _, h => absurd (show false = true from h) Bool.false_ne_true
section
variable {X : Cx} {pins : List (Addr × Obj)} {σ : St} {H : Hp} {s : Shared}
mutual
theorem aq6 (I : Inv X pins σ H s) : ∀ {x : V} {d d' : D}, IsD X.K H x d → IsD X.K H x d' → okD d d' = true → eqD d d' = true
  | _, _, _, .v f, .v _, _ => by rw [eqD]; exact aX5 f
  | _, _, _, .tup h t, .tup h' t', ok => by
    have e := I.tuple_inj h h'
    subst e
    rw [eqD]
    rw [okD] at ok
    exact aj4 I t t' ok
  | _, _, _, .lst h t, .lst h' t', ok => by
    have e := I.list_inj h h'
    subst e
    rw [eqD]
    rw [okD] at ok
    exact aj4 I t t' ok
  | _, _, _, .v f, .tup _ _, _ => absurd (show false = true from f) Bool.false_ne_true
  | _, _, _, .v f, .lst _ _, _ => absurd (show false = true from f) Bool.false_ne_true
  | _, _, _, .tup _ _, .v f, _ => absurd (show false = true from f) Bool.false_ne_true
  | _, _, _, .lst _ _, .v f, _ => absurd (show false = true from f) Bool.false_ne_true
  | _, _, _, .tup _ _, .lst _ _, ok => by simp [okD] at ok
  | _, _, _, .lst _ _, .tup _ _, ok => by simp [okD] at ok
theorem aj4 (I : Inv X pins σ H s) : ∀ {xs : List V} {ds ds' : List D}, aa3 X.K H xs ds → aa3 X.K H xs ds' → R8 ds ds' = true → F7 ds ds' = true
  | _, _, _, .nil, .nil, _ => by rw [F7]
  | _, _, _, .cons h t, .cons h' t', ok => by
    rw [R8, Bool.and_eq_true] at ok
    rw [F7, aq6 I h h' ok.1, aj4 I t t' ok.2]
    rfl
end
def Z5 (ds ds' : List D) (j : Nat) : Bool := match ds[j]?, ds'[j]? with
  | some d, some d' => eqD d d'
  | _, _ => true
theorem aa0 (n : Nat) (e : Nat → Bool) : (List.range (n + 1)).all e = (e 0 && (List.range n).all fun j => e (j + 1)) := by
  rw [List.range_succ_eq_map, List.all_cons, List.all_map]; rfl
theorem ab6 : ∀ (ds ds' : List D), ((List.range (min ds.length ds'.length)).all (Z5 ds ds') && ds.length == ds'.length) = F7 ds ds'
  | [], [] => by rw [F7]; rfl
  | [], _ :: _ => by simp [F7]
  | _ :: _, [] => by simp [F7]
  | x :: xs, y :: ys => by
    have ih := ab6 xs ys
    rw [F7, ← ih]
    have e1 : min (x :: xs).length (y :: ys).length = min xs.length ys.length + 1 := by simp only [List.length_cons]; omega
    rw [e1, aa0]
    have e2 : ((x :: xs).length == (y :: ys).length) = (xs.length == ys.length) := by
      by_cases h : xs.length = ys.length <;> simp [h]
    rw [e2, Bool.and_assoc]
    rfl
theorem ac9 (ds ds' : List D) (h : ds.length = ds'.length) : (List.range ds.length).all (Z5 ds ds') = F7 ds ds' := by
  rw [← ab6, ← h, Nat.min_self]; simp
theorem aq5 : ∀ (ds ds' : List D), ds.length ≠ ds'.length → F7 ds ds' = false
  | [], [], h => absurd rfl h
  | [], _ :: _, _ => by simp [F7]
  | _ :: _, [], _ => by simp [F7]
  | x :: xs, y :: ys, h => by
    rw [F7, aq5 xs ys (fun e => h (by simp [e]))]; simp
theorem av2 (I : Inv X pins σ H s) {p p' : Addr} {xs ys : List V} {ds ds' : List D} {A : Around} (h : SqT X.K H p xs) (t : aa3 X.K H xs ds) (h' : SqT X.K H p' ys) (t' : aa3 X.K H ys ds') (hu : A.units < cLine)
    (q : ∀ {us vs : List Value}, j9 xs us → j9 ys vs → ∀ (j : Nat) (h1 : j < us.length) (h2 : j < vs.length), SeqAt.EqAt A.in1 s us[j] vs[j] (Z5 ds ds' j)) : SeqAt.RcAt A s (.ref p) (.ref p') (F7 ds ds') := by
    obtain ⟨its, r1, i1, _⟩ := I.tuple h
    obtain ⟨its', r2, i2, _⟩ := I.tuple h'
    have z := SeqAt.RcAt.tuples (A := A) (items := its.toArray) (items2 := its'.toArray) (e := Z5 ds ds') i1 i2 hu (fun j h1 h2 => q r1 r2 j (by simpa using h1) (by simpa using h2))
    have e1 : its.toArray.size = ds.length := by rw [List.size_toArray, ← r1.length, t.length]
    have e2 : its'.toArray.size = ds'.length := by rw [List.size_toArray, ← r2.length, t'.length]
    rw [e1, e2, ab6] at z
    exact z
theorem av3 (I : Inv X pins σ H s) {p p' : Addr} {xs ys : List V} {ds ds' : List D} {A : Around} (h : SqL X.K H p xs) (t : aa3 X.K H xs ds) (h' : SqL X.K H p' ys) (t' : aa3 X.K H ys ds') (hu : A.units < cLine)
    (q : ∀ {us vs : List Value}, j9 xs us → j9 ys vs → ∀ (j : Nat) (h1 : j < us.length) (h2 : j < vs.length), SeqAt.EqAt A.in1 s us[j] vs[j] (Z5 ds ds' j)) : SeqAt.RcAt A s (.ref p) (.ref p') (F7 ds ds') := by
    obtain ⟨its, r1, i1, _⟩ := I.list h
    obtain ⟨its', r2, i2, _⟩ := I.list h'
    have e1 : its.toArray.size = ds.length := by rw [List.size_toArray, ← r1.length, t.length]
    have e2 : its'.toArray.size = ds'.length := by rw [List.size_toArray, ← r2.length, t'.length]
    by_cases hl : ds.length = ds'.length
    · have z := SeqAt.RcAt.lists (A := A) (items := its.toArray) (items2 := its'.toArray) (e := Z5 ds ds') i1.isList i2.isList (by rw [e1, e2, hl]) hu (fun j h1 h2 => q r1 r2 j (by simpa using h1) (by simpa using h2))
      rw [e1, ac9 ds ds' hl] at z
      exact z
    · rw [aq5 ds ds' hl]
      exact SeqAt.RcAt.lists_lengths i1.isList i2.isList (by rw [e1, e2]; simpa using hl) hu
mutual
theorem bj6 (I : Inv X pins σ H s) : ∀ {x y : V} {d d' : D} {u v : Value} {A : Around}, IsD X.K H x d → IsD X.K H y d' → okD d d' = true → y7 x u → y7 y v → A.units + dpD d < cLine → SeqAt.EqAt A s u v (eqD d d')
  | _, _, _, _, _, _, _, .v f, .v f', _, r, r', _ => by rw [eqD]; exact aX8 r r' f f'
  | _, _, _, _, u, v, A, .tup (p := p) h t, .tup (p := p') h' t', ok, r, r', hu => by
    cases (show u = Value.ref p from r)
    cases (show v = Value.ref p' from r')
    by_cases hp : p = p'
    · subst hp
      rw [aq6 I (.tup h t) (.tup h' t') ok]
      exact SeqAt.EqAt.same _
    · rw [okD] at ok
      rw [dpD] at hu
      rw [eqD]
      exact SeqAt.EqAt.of_refs hp (av2 I h t h' t' (by omega) fun r1 r2 j h1 h2 => W6 (A := A.in1) I t t' ok r1 r2 (by show A.units + 1 + _ < _; omega) j h1 h2)
  | _, _, _, _, u, v, A, .lst (p := p) h t, .lst (p := p') h' t', ok, r, r', hu => by
    cases (show u = Value.ref p from r)
    cases (show v = Value.ref p' from r')
    by_cases hp : p = p'
    · subst hp
      rw [aq6 I (.lst h t) (.lst h' t') ok]
      exact SeqAt.EqAt.same _
    · rw [okD] at ok
      rw [dpD] at hu
      rw [eqD]
      exact SeqAt.EqAt.of_refs hp (av3 I h t h' t' (by omega) fun r1 r2 j h1 h2 => W6 (A := A.in1) I t t' ok r1 r2 (by show A.units + 1 + _ < _; omega) j h1 h2)
  | _, _, _, _, _, _, _, .v _, .tup _ _, ok, _, _, _ => by simp [okD] at ok
  | _, _, _, _, _, _, _, .v _, .lst _ _, ok, _, _, _ => by simp [okD] at ok
  | _, _, _, _, _, _, _, .tup _ _, .v _, ok, _, _, _ => by simp [okD] at ok
  | _, _, _, _, _, _, _, .lst _ _, .v _, ok, _, _, _ => by simp [okD] at ok
  | _, _, _, _, _, _, _, .tup _ _, .lst _ _, ok, _, _, _ => by simp [okD] at ok
  | _, _, _, _, _, _, _, .lst _ _, .tup _ _, ok, _, _, _ => by simp [okD] at ok
theorem W6 (I : Inv X pins σ H s) : ∀ {xs ys : List V} {ds ds' : List D} {us vs : List Value} {A : Around}, aa3 X.K H xs ds → aa3 X.K H ys ds' → R8 ds ds' = true → j9 xs us → j9 ys vs → A.units + Z6 ds < cLine →
    ∀ (j : Nat) (h1 : j < us.length) (h2 : j < vs.length), SeqAt.EqAt A s us[j] vs[j] (Z5 ds ds' j)
  | _, _, _, _, _, _, _, .nil, _, _, .nil, _, _ => fun j h1 _ => absurd h1 (Nat.not_lt_zero _)
  | _, _, _, _, _, _, _, .cons _ _, .nil, _, _, .nil, _ => fun j _ h2 => absurd h2 (Nat.not_lt_zero _)
  | _, _, _, _, _, _, A, .cons h t, .cons h' t', ok, .cons r rs, .cons r' rs', hu => fun j h1 h2 => by
    rw [R8, Bool.and_eq_true] at ok
    rw [Z6] at hu
    cases j with
    | zero => exact bj6 I h h' ok.1 r r' (by omega)
    | succ j => exact W6 I t t' ok.2 rs rs' (by omega) j (by simpa using h1) (by simpa using h2)
end
def D.isV : D → Bool
  | .v _ => true
  | _ => false
def bo2 (K : PySem.W.Frag) : R2 := fun x y H Q => ∃ d d', d.isV = false ∧ IsD K H x d ∧ IsD K H y d' ∧ okD d d' = true ∧ dpD d ≤ 60 ∧ Q (.bl (eqD d d')) H
theorem ad9 (hu : X.A.units + 64 < cLine) : OpR X (compareOp .Eq) (bo2 X.K) := by
  intro pins s σ H x y v u Q I rx ry h
  obtain ⟨d, d', nf, h1, h2, ok, dp, q⟩ := h
  have fin : EP X pins σ Q (.bool (eqD d d')) s := ⟨.bl _, H, I, rfl, q⟩
  cases h1 with
  | v f =>
    cases h2 with
    | v f' => exact absurd (show true = false from nf) (by decide)
    | tup _ _ => simp [okD] at ok
    | lst _ _ => simp [okD] at ok
  | @tup p xs ds h t =>
    cases h2 with
    | v f' => simp [okD] at ok
    | @tup p' ys ds' h' t' =>
      cases (show v = Value.ref p from rx)
      cases (show u = Value.ref p' from ry)
      rw [okD] at ok
      rw [dpD] at dp
      rw [eqD] at fin
      exact av2 I h t h' t' (by omega) (fun r1 r2 j h1 h2 => W6 (A := X.A.in1) I t t' ok r1 r2 (by show X.A.units + 1 + _ < _; omega) j h1 h2) X.prog X.w X.xe _ fin
    | lst _ _ => simp [okD] at ok
  | @lst p xs ds h t =>
    cases h2 with
    | v f' => simp [okD] at ok
    | tup _ _ => simp [okD] at ok
    | @lst p' ys ds' h' t' =>
      cases (show v = Value.ref p from rx)
      cases (show u = Value.ref p' from ry)
      rw [okD] at ok
      rw [dpD] at dp
      rw [eqD] at fin
      exact av3 I h t h' t' (by omega) (fun r1 r2 j h1 h2 => W6 (A := X.A.in1) I t t' ok r1 r2 (by show X.A.units + 1 + _ < _; omega) j h1 h2) X.prog X.w X.xe _ fin
end
open PySem PySem.Spec PyProof.Rows
section
variable {X : Cx}
def ag5 : V → List V → Hp → VK → Prop := fun x vs H Q => ∃ i, x = .int i ∧ vs = [] ∧ Q (.int (Builtin.Int.intBits i)) H
theorem U3 : MtM X "int.bit_length" ag5 := by
  intro pins s σ H x vs v us Q I rx rv h
  obtain ⟨i, rfl, rfl, q⟩ := h
  obtain ⟨t, rfl⟩ := rx
  cases j9.zero rv
  exact call_int_bit_length ⟨.int _, H, I.tok _, ⟨_, rfl⟩, q⟩
theorem ax1 {x : V} : ∀ {xs : List V} {us : List Value}, j9 xs us → xs.all R6 = true → us.countP (eqU x) = xs.countP fun y => eqV y x
  | _, _, .nil, _ => rfl
  | y :: xs, u :: us, .cons r t, f => by
    rw [List.all_cons, Bool.and_eq_true] at f
    rw [List.countP_cons, List.countP_cons, aI6 r f.1, ax1 t f.2]
def ao7 : V → List V → Hp → VK → Prop := fun x vs H Q => ∃ l xs y, x = .ref l ∧ vs = [y] ∧ H l = some (.lst xs) ∧ R6 y = true ∧ xs.all R6 = true ∧ Q (.int (xs.countP fun z => eqV z y)) H
theorem aW1 : MtM X "list.count" ao7 := by
  intro pins s σ H x vs v us Q I rx rv h
  obtain ⟨l, xs, y, rfl, rfl, hH, fy, fx, q⟩ := h
  cases rx
  obtain ⟨u, rfl, ru⟩ := rv.one
  obtain ⟨z, its, n, r, hl, e⟩ := I.lstM hH
  refine call_meets F.slot_list_count ⟨_, e, rfl⟩ F.entry_list_count (F.args_list_count_2 _ _) (SeqAt.list_countAt l its.toArray n none #[] u (eqU y)) ⟨e, fun w hw => ap7 ru fy r fx w (by simpa using hw), ?_⟩
  refine ⟨.int _, H, I.tok _, ⟨_, rfl⟩, ?_⟩
  rw [show its.toArray.toList = its from rfl, ax1 r fx]
  exact q
theorem aL2 {y : V} {xs : List V} {us : List Value} (r : j9 xs us) (f : xs.all R6 = true) (j : Nat) (hj : j < us.length) (hx : j < xs.length) : eqU y us[j] = eqV xs[j] y := by
  obtain ⟨u, e1, e2⟩ := r.get (List.getElem?_eq_getElem hx)
  have e3 : us[j] = u := by rw [List.getElem?_eq_getElem hj] at e1; exact Option.some.inj e1
  rw [e3]
  exact aI6 e2 (List.all_eq_true.mp f _ (List.getElem_mem hx))
def ao6 : V → List V → Hp → VK → Prop := fun x vs H Q => ∃ l xs y j, x = .ref l ∧ vs = [y] ∧ H l = some (.lst xs) ∧ R6 y = true ∧ xs.all R6 = true ∧ (xs.findIdx? fun z => eqV z y) = some j ∧ Q (.int (j : Nat)) H
theorem aW0 : MtM X "list.index" ao6 := by
  intro pins s σ H x vs v us Q I rx rv h
  obtain ⟨l, xs, y, j, rfl, rfl, hH, fy, fx, hi, q⟩ := h
  cases rx
  obtain ⟨u, rfl, ru⟩ := rv.one
  obtain ⟨z, its, n, r, hl, e⟩ := I.lstM hH
  obtain ⟨hj, h1, h2⟩ := List.findIdx?_eq_some_iff_getElem.mp hi
  have hz : xs.length < 2 ^ 63 := Nat.lt_of_le_of_lt z ae4
  refine call_meets F.slot_list_index ⟨_, e, rfl⟩ F.entry_list_index (F.args_list_index_2 _ _) (SeqAt.list_indexAt l its.toArray n none #[] u (eqU y) j (by simpa [← hl] using hj) (by have : (xs.length : Int) < 2 ^ 63 := by exact_mod_cast hz
                                                                                                                                                                                       omega) ?_ ?_) ⟨e, fun w hw => ap7 ru fy r fx w (by simpa using hw), ?_⟩
  · rw [show its.toArray[j]'(by simpa [← hl] using hj) = its[j]'(by rw [← hl]; exact hj) from rfl, aL2 r fx j _ hj]; exact h1
  · intro m hm hlt
    have hm' : m < its.length := by simpa using hm
    rw [show its.toArray[m]'hm = its[m]'hm' from rfl, aL2 r fx m _ (by rw [hl]; exact hm')]
    have := h2 m hlt
    simpa using this
  · exact ⟨.int _, H, I.tok _, ⟨_, rfl⟩, q⟩
theorem at9 : ∀ (t : Nat) (ps : List Str), j9 (ps.map V.str) (strsFrom t ps)
  | _, [] => .nil
  | t, p :: ps => .cons ⟨_, rfl⟩ (at9 (t + 1) ps)
def ab4 (x y : Str) : List Str := Builtin.Str.partsBetween x (Builtin.Str.occurrences x y 0 x.length (x.length + 1)) y.length
def ao5 : V → List V → Hp → VK → Prop := fun v vs H Q => ∃ x y, v = .str x ∧ vs = [.str y] ∧ (decide (x.length < y.length) || decide (Builtin.Str.strKind x < Builtin.Str.strKind y)) = false ∧ (y.length == 0) = false ∧
  (Builtin.Str.occurrences x y 0 x.length (x.length + 1)).isEmpty = false ∧ x.length ≤ sizeLine ∧ (ab4 x y).length ≤ sizeLine ∧ ∀ l, H l = none → Q (.ref l) (upd H l (.lst ((ab4 x y).map V.str)))
theorem aV9 : MtM X "str.split" ao5 := by
  intro pins s σ H x vs v us Q I rx rv h
  obtain ⟨x', y, rfl, rfl, h1, h2, h3, h4, h5, q⟩ := h
  obtain ⟨t, rfl⟩ := rx
  obtain ⟨u, rfl, t', rfl⟩ := rv.one
  refine call_meets F.slot_str_split rfl F.entry_str_split (F.args_str_split_2 _ _) (meets_str_split_sep x' y t t' h1 h2 h3 h4 h5) ?_
  exact ⟨.ref _, _, I.lnew (ys := (ab4 x' y).map V.str) (at9 _ _) (by rw [List.length_map]; exact h5), rfl, q _ I.fresh⟩
end
open PySem PySem.Spec PyProof.Rows
structure Df (K : PySem.W.Frag) (mg : Str → Option Value) (x : Str) (st : Stmt) (ps : List Str) (f : Addr) : Prop where
  ex : ∃ fd, Fun K x x st f fd ∧ aa6 K fd ps []
  m : mg x = some (.ref f)
structure Def (P : Program) (w : World) (K : PySem.W.Frag) (mg : Str → Option Value) (base : Heap) (CX : CXT) (k : Nat) (x : Str) (f : Addr) (ps : List Str) (sp : Sp) : Prop where
  ex : ∃ fd, aa4 P w K mg base CX k f fd ps sp ∧ aa6 K fd ps []
  m : mg x = some (.ref f)
  kp : PySem.W.keepIn K (.ref f) = true
structure be6 (P : Program) (w : World) (K : PySem.W.Frag) (mg : Str → Option Value) (base : Heap) (k : Nat) (x : Str) (f : Addr) (ps : List Str) (sp : Sp) : Prop where
  ex : ∃ fd, aM1 P w K mg base k f fd ps sp ∧ aa6 K fd ps []
  m : mg x = some (.ref f)
  kp : PySem.W.keepIn K (.ref f) = true
section
variable {P : Program} {w : World} {K : PySem.W.Frag} {mg : Str → Option Value} {base : Heap} {k : Nat} {x : Str} {f : Addr} {ps N : List Str} {sp : Sp} {st : Stmt} {CX : CXT}
theorem Df.ok (d : Df K mg x st ps f) (S : i5 N ps (d3 st)) (len : ∀ vs H Q E, sp vs H Q E → vs.length = ps.length)
    (hbody : ∀ (cdv : Value) (A : Around) (outer : List Env) (s : Shared) (H : Hp) (vs : List V) (Q : VK) (E : XK), R7 k (A.deeper (envOfC x (d3 st) s.heap.objs.size f cdv)) → sp vs H Q E →
      ∃ t, PSs (ae9 CX0 P w K mg base N x (d3 st) f cdv A outer s H E).nox (g9 st) t ∧ t { nx := fun _ H' => Q .non H', rt := Q } (start N vs) H) : Def P w K mg base CX0 (k + 1) x f ps sp := by
  obtain ⟨fd, F, b⟩ := d.ex
  exact ⟨⟨fd, F.ok S len hbody, b⟩, d.m, F.kp⟩
theorem Df.okR (d : Df K mg x st ps f) (S : i5 N ps (d3 st)) (len : ∀ vs H Q E, sp vs H Q E → vs.length = ps.length)
    (hbody : ∀ (cdv : Value) (A : Around) (outer : List Env) (s : Shared) (H : Hp) (vs : List V) (Q : VK) (E : XK), R7 k (A.deeper (envOfC x (d3 st) s.heap.objs.size f cdv)) → sp vs H Q E →
      ∃ t, PSs (cxR P w K mg base N x (d3 st) f cdv A outer s H E) (g9 st) t ∧ t { nx := fun _ H' => Q .non H', rt := Q } (start N vs) H) : Def P w K mg base (CXR P w) (k + 1) x f ps sp := by
  obtain ⟨fd, F, b⟩ := d.ex
  have kp := F.kp
  obtain ⟨oc, od, kV, doc, pm, an, cdv, ct, osl, rfl, lk, hcd⟩ := F.ex
  exact ⟨⟨_, bf9 lk hcd S len fun A outer s H vs Q E hr hsp => hbody cdv A outer s H vs Q E hr hsp, b⟩, d.m, kp⟩
theorem Df.okX (d : Df K mg x st ps f) (S : i5 N ps (d3 st)) (len : ∀ vs H Q E, sp vs H Q E → vs.length = ps.length)
    (hbody : ∀ (cdv : Value) (A : Around) (outer : List Env) (s : Shared) (H : Hp) (vs : List V) (Q : VK) (E : XK), M7 k (A.deeper (envOfC x (d3 st) s.heap.objs.size f cdv)) → sp vs H Q E →
      ∃ t, PSs (cxX P w K mg base N x (d3 st) f cdv A outer s H E) (g9 st) t ∧ t { nx := fun _ H' => Q .non H', rt := Q } (start N vs) H) : be6 P w K mg base (k + 1) x f ps sp := by
  obtain ⟨fd, F, b⟩ := d.ex
  exact ⟨⟨fd, F.okX S len hbody, b⟩, d.m, F.kp⟩
theorem Def.imp {sp' : Sp} (d : Def P w K mg base CX k x f ps sp) (h : ∀ vs H Q E, sp' vs H Q E → sp vs H Q E) : Def P w K mg base CX k x f ps sp' :=
  let ⟨fd, F, b⟩ := d.ex
  ⟨⟨fd, F.imp h, b⟩, d.m, d.kp⟩
end
section
variable {X : Cx} {CX : CXT} {k j : Nat} {f : Addr} {ps : List Str} {sp : Sp} {E : XK} {x : Str} {p pos : Pos} {e : Expr} {es : List Expr} {t : TA}
def aM9 (sp : Sp) (E : XK) (t : TA) : TE := fun σ H Q => t σ H fun vs H1 => sp vs H1 Q E
theorem d7 (d : Def X.prog X.w X.K X.mg X.base CX j x f ps sp) (hr : R7 k X.A) (ha : PA X (e :: es) t) (hx : as0 CX X E) (hj : j ≤ k := by decide) (hg : Gl X x := by rfl)
    (hdb : (x == ("__debug__" : Str)) = false := by decide) (he : starEach (e :: es) X.env = (false, eval e X.env) :: starEach es X.env := by rfl) (hpl : (backTo pos (starEach es X.env)).any (·.1) = false := by rfl) :
    PE X (.Call (.Name x p) (e :: es) [] pos) (aM9 sp E t) := by
  obtain ⟨fd, F, b⟩ := d.ex
  have z := ba6 (E := E) (es := es) (e := e) (p := p) (pos := pos) (F.mono hj) hr hg d.m d.kp b .nil hx ha hdb he hpl
  intro pins s σ H Q I h
  refine z pins s σ H Q I ?_
  unfold bf0
  simpa only [List.append_nil, aM9] using h
theorem ba5 (d : be6 X.prog X.w X.K X.mg X.base j x f ps sp) (hr : M7 k X.A) (ha : PA X (e :: es) t) (hj : j ≤ k := by decide) (hg : Gl X x := by rfl)
    (hdb : (x == ("__debug__" : Str)) = false := by decide) (he : starEach (e :: es) X.env = (false, eval e X.env) :: starEach es X.env := by rfl) (hpl : (backTo pos (starEach es X.env)).any (·.1) = false := by rfl) :
    PE X (.Call (.Name x p) (e :: es) [] pos) (ai3 sp t) := by
  obtain ⟨fd, F, b⟩ := d.ex
  exact aU4 F (hr.mono hj) hg d.m d.kp b ha hdb he hpl
end
theorem d5.new {H : Hp} {p : Addr} (h : H p = none) (o : HO) : d5 H (upd H p o) := fun b u q => by rw [e9 (d8 q h)]; exact q
theorem d5.tup {K : PySem.W.Frag} {H H' : Hp} {a : Addr} {xs : List V} (e : d5 H H') (h : SqT K H a xs) : SqT K H' a xs := by
  rcases h with h | h
  · rcases h with h | ⟨o, h⟩
    · exact .inl (.inl (e _ _ h))
    · exact .inl (.inr ⟨o, e _ _ h⟩)
  · exact .inr h
open PySem PySem.Spec PyProof.Rows
section
variable {prog : Program} {w : World} {A : Around} {R : Result → Shared → Prop} {s : Shared}
theorem ax2 {elt target iter : Expr} {scope : Scope} {pos : Pos} {it acc : Value} {env : Env} (I : Nat → Shared → Prop)
    (turn : ∀ n s, I n s → wpAny (model prog w) A (pyNext it) (fun r s₁ => match r with
      | none => R (.ok .next) s₁
      | some v => wpAny (model prog w) A (letOwnedTupleGo target it v) (fun _ s₁' => wpAny (model prog w) A (assign target env v) (fun _ s₂ => wpAny (model prog w) A (eval elt env) (fun x s₃ =>
          wpAny (model prog w) A (call (.builtin "list.append") [acc, x]) (fun _ s₄ => ∃ m, m < n ∧ I m s₄) (fun _ _ => False) s₃)
          (fun _ _ => False) s₂) (fun _ _ => False) s₁') (fun _ _ => False) s₁) (fun _ _ => False) s)
    (n : Nat) (h : I n s) :
    codeAny (model prog w) A (.compLoop (.ListComp elt [⟨target, iter, [], 0⟩] scope pos) 0 it acc env) R s := by
  refine codeAny_loop rfl I (fun n s hI => ?_) n h
  show wpAny _ _ ((compTurn (.ListComp elt [⟨target, iter, [], 0⟩] scope pos) 0 it acc env).onRaise (fun x => do noteFrame x env; theTreesLotGoes x)) _ _ s
  refine wpAny_noted ?_
  rw [compTurn_list1]
  have no : ∀ {P : Value → Shared → Prop} (e : Value) (s : Shared), False → P e s := fun _ _ h => h.elim
  refine wpAny_bind (wpAny_standAt (wpAny_bind (wpAny_mono (turn n s hI) (fun r s₁ h₁ => ?_) no)))
  cases r with
  | none => exact wpAny_pure h₁
  | some v =>
    refine wpAny_bind (wpAny_mono h₁ (fun _ s₁' h₁' => ?_) no)
    exact wpAny_bind (wpAny_mono h₁' (fun _ s₂ h₂ => wpAny_bind (wpAny_bind (wpAny_mono h₂ (fun x s₃ h₃ => wpAny_bind (wpAny_mono h₃
      (fun _ s₄ h₄ => wpAny_pure (wpAny_pure ⟨rfl, h₄⟩)) no)) no))) no)
end
abbrev Cx.block (X : Cx) (scope : Scope) (cl : List (Str × Addr)) (C : Addr) (Nc : List Str) (s₂ : Shared) (H₂ : Hp) (fp : List Addr) (pins : List (Addr × Obj)) : Cx :=
  { X with N := Nc, s₀ := s₂, H₀ := H₂, env := compEnvC scope cl C X.env, outer := X.stack, ex := fp, fn := fun _ => false, pn := X.pn ++ pins, xe := fun _ _ => False }
def M2 (caps : List (Option Nat)) (σ : St) : St := caps.map fun o => o.bind fun j => (σ[j]?).join
def aS2 (wi : TI) (caps : List (Option Nat)) (g : TG) (te : TE) : TE := fun σ H Q => wi σ H fun J H1 => ∀ D, H1 D = none → ∃ W : Nat → Nat → St → Hp → Prop, (∃ m, W 0 m (M2 caps σ) (upd H1 D (.lst []))) ∧
  ∀ i m σc H2, W i m σc H2 → (J.stop i H2 ∧ Q (.ref D) H2) ∨
    (J.go i H2 ∧ ∀ x H3, J.yld i H2 x H3 → g x σc H3 fun σ4 H4 => te σ4 H4 fun y H5 => ∃ ys, H5 D = some (.lst ys) ∧ ys.length < sizeLine ∧ ∃ m', m' < m ∧ W (i + 1) m' σ4 (upd H5 D (.lst (ys ++ [y]))))
section
variable {X : Cx}
structure W8 (X : Cx) (scope : Scope) (cl : List (Str × Addr)) (Nc : List Str) (caps : List (Option Nat)) : Prop where
  clos : closureFor scope X.env = pure cl
  sub : ∀ x c, cl.lookup x = some c → X.env.cells.lookup x = some c
  has : ∀ x, (relabel scope X.env).names.lookup x = some .cell ∨ (relabel scope X.env).names.lookup x = some .free → ∃ c, cl.lookup x = some c
  nocell : ∀ x ∈ scope.names, x.2 ≠ .cell
  kind : scope.kind = .function
  names : ∀ x ∈ scope.names, x.2 = .local → scope.names.lookup x.1 = some .local
  len : caps.length = Nc.length
  cap : ∀ (i j : Nat) (x : Str), caps[i]? = some (some j) → Nc[i]? = some x → X.N[j]? = some x ∧ Vis X.env.scope x ∧ X.env.kindOf x ≠ some .local ∧ ((relabel scope X.env).names.lookup x = some .cell ∨ (relabel scope X.env).names.lookup x = some .free)
theorem Inv.sameC {pins : List (Addr × Obj)} {σ : St} {H H' : Hp} {s s' : Shared} {h'' : Heap} {fp : List Addr} {C : Addr} (I : Inv X pins σ H s) (hf : ∀ b ∈ fp, aj8 X pins H b) (os : s'.os = s.os) (bare : AllBare s'.gens)
    (un : Un (frs X.stack) fp H H' s.heap s'.heap) (hok : HOk X.prog X.w H' s'.heap) (hC : s.heap.objs.size ≤ C) (hCn : H' C = none) (sb : Heap.SameBut C s'.heap h'') : Inv X pins σ H' { s' with heap := h'' } := by
  have ne : ∀ b o, s.heap.get? b = some o → b ≠ C := fun b o e => Nat.ne_of_lt (Nat.lt_of_lt_of_le (Heap.lt_size e) hC)
  refine I.call' (s' := { s' with heap := h'' }) (ch := fp) os ⟨fun b o e n h1 h2 => (sb.2 b (ne b o e)).trans (un.keep b o e n h1 h2), fun b o e n h1 h2 => ?_, un.free, fun b o e h2 => ?_, un.tups, un.frzs, un.tbls⟩ (fun b u e => ?_) bare (fun b hb => ?_)
  · obtain ⟨sl, z⟩ := un.slot b o e n h1 h2
    exact ⟨sl, (sb.2 b (ne b o e)).trans z⟩
  · obtain ⟨o', z⟩ := un.there b o e h2
    exact ⟨o', (sb.2 b (ne b o e)).trans z⟩
  · refine (hok b u e).stay (fun c v hc q => (sb.2 c ?_).trans q) (fun _ q => q) fun _ _ q => q
    rintro rfl
    rcases hc with rfl | hc
    · rw [hCn] at e; cases e
    · rw [hCn] at hc; cases hc
  · obtain ⟨_, f1, _, f3, f4, f5⟩ := hf b hb
    exact ⟨f3, f1, f4, f5⟩
theorem P7 {elt tg iter : Expr} {scope : Scope} {pos : Pos} {cl : List (Str × Addr)} {Nc : List Str} {caps : List (Option Nat)} {wi : TI} {g : TG} {te : TE} (hc : X.calm = true) (cp : W8 X scope cl Nc caps) (hi : PI X tg iter wi)
    (hg : ∀ C s₂ H₂ fp pins, PG (X.block scope cl C Nc s₂ H₂ fp pins) tg g) (he : ∀ C s₂ H₂ fp pins, PE (X.block scope cl C Nc s₂ H₂ fp pins) elt te) (hs : ∀ x, foldedSetIterable iter X.env x = pure x := by intro _; rfl) :
    PE X (.ListComp elt [⟨tg, iter, [], 0⟩] scope pos) (aS2 wi caps g te) := by
  intro pins s σ H Q I h
  rw [eval_ListComp]
  refine wpAny_comprehension_free (use := none) rfl hs cp.clos cp.kind cp.names ?_
  refine thn (hi pins s σ H _ I h) fun v s1 h1 => thn h1 fun itv s2 h2 => ?_
  obtain ⟨it, fp, tn, J, H2, e, I2, T, st2, f2, hW⟩ := h2
  subst e
  refine wpAny_newObj_type ?_ (by show 0 ≤ sizeLine; exact Nat.zero_le _)
  refine wpAny_newFunctionEnv cp.nocell (by intro y hy; simp at hy) (fun h4 hns hsb => ?_) cp.kind
  dsimp only at hns hsb ⊢
  generalize hH3 : s2.heap.push { cls := .type "list", dict := none, data := .seq ([] : List Value).toArray } = H3 at hns hsb ⊢
  have hCe : H3.objs.size = s2.heap.objs.size + 1 := by rw [← hH3, Heap.size_push]
  have U9 : ∀ b o, s2.heap.get? b = some o → b ≠ H3.objs.size := fun b o e => by rw [hCe]; exact Nat.ne_of_lt (Nat.lt_succ_of_lt (Heap.lt_size e))
  have old : ∀ b o, s2.heap.get? b = some o → h4.get? b = some o := fun b o e => hsb.extBut b o (U9 b o e) (Heap.get?_push_of_some _ (hH3 ▸ Heap.get?_push_of_some _ e))
  have hD : h4.get? s2.heap.objs.size = some { cls := .type "list", dict := none, data := .seq ([] : List Value).toArray } :=
    hsb.extBut _ _ (by rw [hCe]; exact Nat.ne_of_lt (Nat.lt_succ_self _)) (Heap.get?_push_of_some _ (hH3 ▸ Heap.get?_push_size _ rfl))
  have hDn : H2 s2.heap.objs.size = none := I2.fresh
  have hCn : H2 H3.objs.size = none := I2.hok.fresh (by rw [hCe]; exact Nat.le_succ _)
  have hCs : s2.heap.objs.size ≤ H3.objs.size := by rw [hCe]; exact Nat.le_succ _
  have hDC : s2.heap.objs.size ≠ H3.objs.size := by rw [hCe]; exact Nat.ne_of_lt (Nat.lt_succ_self _)
  have fpl : ∀ b ∈ fp, ∃ o, s2.heap.get? b = some o := fun b hb => let ⟨o, e, _⟩ := T.obj _ _ st2 b hb; ⟨o, e⟩
  have fpC : ∀ b ∈ fp, b ≠ H3.objs.size := fun b hb => let ⟨o, e⟩ := fpl b hb; U9 b o e
  have fpD : ∀ b ∈ fp, b ≠ s2.heap.objs.size := fun b hb => let ⟨o, e⟩ := fpl b hb; Nat.ne_of_lt (Heap.lt_size e)
  have stkN : ∀ b, b ≠ X.env.locals → b ∉ X.fs → b ∉ frs X.stack := fun b h1 h2 z => (List.mem_cons.mp (I2.stkSub b z)).elim h1 h2
  obtain ⟨W, ⟨m0, w0⟩, turn⟩ := hW s2.heap.objs.size hDn
  have okB : (X.block scope cl H3.objs.size Nc s2 H2 fp pins).Ok := by
    refine ⟨I2.ok.mod, ?_, I2.ok.glob, I2.ok.blt, hCs, fun x y c h1 h2 => I2.ok.inj x y c (cp.sub x c h1) (cp.sub y c h2), fun x hx => cp.has x hx, fun x c h => (by cases h), I2.ok.hd, I2.ok.frames, .inl rfl, fun b hb => ⟨fpC b hb, fun x c h => (f2 b hb).2.2.2.2.1 x c (cp.sub x c h)⟩, I2.bs, Nat.le_trans I2.ok.bsz I2.sz, fun b o e hb => ?_, fun b hb => stkN b (f2 b hb).2.1 (f2 b hb).2.2.1, I2.stack, I2.stkFree⟩
    · exact cp.kind
    · rcases (f2 b hb).2.2.2.1 with z | z
      · exact I2.ok.noex b o e z
      · exact absurd (Nat.lt_of_lt_of_le (Heap.lt_size e) (Nat.le_trans I2.ok.bsz z)) (Nat.lt_irrefl _)
  have hokB : HOk X.prog X.w (upd H2 s2.heap.objs.size (.lst [])) h4 := I2.hok.laid old (Nat.le_refl _) ⟨Nat.zero_le _, [], _, .nil, hD⟩
  have IB : Inv (X.block scope cl H3.objs.size Nc s2 H2 fp pins) [] (M2 caps σ) (upd H2 s2.heap.objs.size (.lst [])) { s2 with heap := h4, toks := s2.toks + ([] : List (Str × Value)).length } := by
    refine ⟨okB, rfl, I2.bare, Un.laid old (Nat.le_refl _) hDn, ⟨_, hns, fun i x v e1 e2 e3 => ?_⟩, fun x c e => ?_, (show upd H2 s2.heap.objs.size (.lst []) H3.objs.size = none by rw [e9 (Ne.symm hDC)]; exact hCn), fun x c e => ?_, fun p hp => ?_, hokB, ?_⟩
    · unfold M2 at e2
      rw [List.getElem?_map] at e2
      cases hcap : caps[i]? with
      | none => rw [hcap] at e2; cases e2
      | some o =>
        rw [hcap] at e2
        cases o with
        | none => cases e2
        | some j =>
          have hj : σ[j]? = some (some v) := by
            have e2' : (σ[j]?).join = some v := Option.some.inj e2
            cases q : σ[j]? with
            | none => rw [q] at e2'; cases e2'
            | some z => rw [q] at e2'; exact congrArg some e2'
          obtain ⟨n1, n2, n3, n4⟩ := cp.cap i j x hcap e1
          obtain ⟨m, hm, hl⟩ := I2.loc
          obtain ⟨u, r, q⟩ := hl j x v n1 hj n2
          rcases q with ⟨k, _⟩ | ⟨k, c, ec, z⟩
          · exact absurd k n3
          · obtain ⟨c', ec'⟩ := cp.has x n4
            have := cp.sub x c' ec'
            rw [ec] at this; cases this
            obtain ⟨oc, ho, hd⟩ := z
            exact ⟨u, r, .inr ⟨n4, c, ec', oc, old _ _ ho, hd⟩⟩
    · obtain ⟨v, oc, ho, hd⟩ := I2.cell x c (cp.sub x c e)
      exact ⟨v, oc, old _ _ ho, hd⟩
    · obtain ⟨v, oc, ho, hd⟩ := I2.cell x c (cp.sub x c e)
      rw [e9 (Nat.ne_of_lt (Heap.lt_size ho))]
      exact I2.freeC x c (cp.sub x c e)
    · have hp' : p ∈ X.pn ++ pins := by simpa using hp
      obtain ⟨e1, e2, e3, e4, e5⟩ := I2.pin p hp'
      exact ⟨old _ _ e1, by rw [e9 (Nat.ne_of_lt (Heap.lt_size e1))]; exact e2, U9 _ _ e1, stkN _ e3 e4, e5⟩
    · show (M2 caps σ).length = Nc.length
      unfold M2
      rw [List.length_map]; exact cp.len
  have stat : ∀ {H' : Hp}, (∀ b ∈ fp, H' b = none) → ∀ b ∈ fp, aj8 (X.block scope cl H3.objs.size Nc s2 H2 fp pins) [] H' b := fun hn b hb =>
    ⟨hn b hb, fpC b hb, stkN b (f2 b hb).2.1 (f2 b hb).2.2.1, .inl hb, fun x c h => (f2 b hb).2.2.2.2.1 x c (cp.sub x c h), fun p hp => (f2 b hb).2.2.2.2.2 p (by simpa using hp)⟩
  have loop : ∀ s5 : Shared, s5 = { s2 with heap := h4, toks := s2.toks + ([] : List (Str × Value)).length } →
      codeAny (model X.prog X.w) X.A (.compLoop (.ListComp elt [⟨tg, iter, [], 0⟩] scope pos) 0 (.ref it) (.ref s2.heap.objs.size) (compEnvC scope cl H3.objs.size X.env))
        (compPost (model X.prog X.w) X.A X.xe none (EP X pins σ Q) (.ref s2.heap.objs.size) H3.objs.size) s5 := by
    rintro s5 rfl
    refine ax2 (fun n s' => ∃ i σ' H', Inv (X.block scope cl H3.objs.size Nc s2 H2 fp pins) [] σ' H' s' ∧ tn i s'.heap ∧ (∀ b ∈ fp, H' b = none) ∧ W i n σ' H') ?_ m0 ⟨0, _, _, IB, T.keep _ _ _ st2 fun b hb o e => old b o e, fun b hb => by rw [e9 (fpD b hb)]; exact (f2 b hb).1, w0⟩
    rintro n s6 ⟨i, σ6, H6, I6, st6, fr6, w6⟩
    rcases turn i n σ6 H6 w6 with ⟨stop, qn⟩ | ⟨go, step⟩
    · refine thn (T.done (X.block scope cl H3.objs.size Nc s2 H2 fp pins) rfl rfl rfl hc i [] s6 σ6 H6 _ I6 (stat fr6) st6 stop) fun r s7 ⟨hr, I7⟩ => ?_
      subst hr
      obtain ⟨m7, hn7, _⟩ := id I7.loc
      exact ⟨m7, hn7, fun h' sb => ⟨.ref s2.heap.objs.size, H6, I2.sameC f2 I7.os I7.bare I7.base I7.hok hCs I7.free sb, rfl, qn⟩⟩
    · refine thn (T.item (X.block scope cl H3.objs.size Nc s2 H2 fp pins) rfl rfl rfl hc i [] s6 σ6 H6 _ I6 (stat fr6) st6 go) fun r s7 ⟨u, hr, h7⟩ => ?_
      subst hr
      refine thn h7 fun _ s8 ⟨x, H8, I8, r8, y8, st8, fr8⟩ => ?_
      have I8' := I8.pinned (stat fr8) (T.obj _ _ st8)
      refine thn (hg _ _ _ _ _ _ s8 σ6 H8 x u _ I8' r8 (step x H8 y8)) fun _ s9 ⟨σ9, H9, I9, q9⟩ => ?_
      refine thn (he _ _ _ _ _ _ s9 σ9 H9 _ I9 q9) fun u10 s10 ⟨v10, H10, I10, r10, ys, hys, hlen, m', hm', w'⟩ => ?_
      refine thn (F5 _ s10 σ9 H10 (.ref s2.heap.objs.size) [v10] (.ref s2.heap.objs.size) [u10] (fun _ H11 => H11 = upd H10 s2.heap.objs.size (.lst (ys ++ [v10]))) I10 rfl (.cons r10 .nil) ⟨_, ys, v10, rfl, rfl, hys, hlen, rfl⟩) fun _ s11 ⟨_, H11, I11, _, hH11⟩ => ?_
      subst hH11
      refine ⟨m', hm', i + 1, σ9, _, I11.unpinned, T.keep _ _ _ st8 fun b hb o e => (I11.pin (b, o) (List.mem_append_right _ (List.mem_append_right _ (B5 hb e)))).1, fun b hb => ?_, w'⟩
      obtain ⟨o, e, d⟩ := T.obj _ _ st8 b hb
      exact (I11.pin (b, o) (List.mem_append_right _ (List.mem_append_right _ (B5 hb e)))).2.1
  exact codeAny_compStart_list (loop _ rfl) (T.self _ 0 _ _ _ (T.keep _ _ _ st2 fun b hb o e => old b o e) (loop _ rfl))
end
open PySem PySem.Spec PyProof.Rows
def ag3 (scope osc : Scope) : List (Str × NameKind) := scope.names.map fun (n, k) => if (k == .free && osc.kind == .function && osc.names.lookup n == some .cell) then (n, .cell) else (n, k)
def bb9 (o : Option NameKind) : Bool := o == some .cell || o == some .free
def aY5 (scope osc : Scope) (N ks Nc : List Str) (caps : List (Option Nat)) : Bool :=
  ((ag3 scope osc).all fun y => !(y.2 == .cell || y.2 == .free) || ks.contains y.1) && (scope.names.all fun y => y.2 != .cell) && scope.kind == .function &&
  (scope.names.all fun y => y.2 != .local || scope.names.lookup y.1 == some .local) && caps.length == Nc.length &&
  ((caps.zip Nc).all fun p => match p.1 with
    | none => true
    | some j => N[j]? == some p.2 && bb9 (osc.names.lookup p.2) && bb9 ((ag3 scope osc).lookup p.2))
theorem ap8 {α β : Type} [BEq α] [LawfulBEq α] : ∀ {l : List (α × β)} {x : α} {v : β}, l.lookup x = some v → (x, v) ∈ l
  | [], _, _, h => by simp at h
  | (a, b) :: r, x, v, h => by
    rw [List.lookup_cons] at h
    split at h
    · rename_i e
      have := eq_of_beq e
      subst this
      cases h
      exact List.mem_cons_self
    · exact List.mem_cons_of_mem _ (ap8 h)
theorem ac6 {β : Type} : ∀ {l : List (Str × β)} {x : Str}, x ∈ l.map (·.1) → ∃ c, l.lookup x = some c
  | [], _, h => by simp at h
  | (a, b) :: r, x, h => by
    rw [List.lookup_cons]
    by_cases e : x = a
    · subst e; exact ⟨b, by simp⟩
    · have : (x == a) = false := by simpa using e
      rw [this]
      rcases List.mem_cons.mp h with z | z
      · exact absurd z e
      · exact ac6 z
theorem aK8 {o : Option NameKind} (h : bb9 o = true) : o = some .cell ∨ o = some .free := by
  unfold bb9 at h
  simp only [Bool.or_eq_true, beq_iff_eq] at h
  exact h
theorem W8.of {X : Cx} {scope osc : Scope} {cl : List (Str × Addr)} {N ks Nc : List Str} {caps : List (Option Nat)} (clos : closureFor scope X.env = pure cl) (hN : X.N = N) (hosc : X.env.scope = osc) (hks : cl.map (·.1) = ks)
    (sub : ∀ x c, cl.lookup x = some c → X.env.cells.lookup x = some c) (ok : aY5 scope osc N ks Nc caps = true) : W8 X scope cl Nc caps := by
  unfold aY5 at ok
  simp only [Bool.and_eq_true, List.all_eq_true, beq_iff_eq, Bool.or_eq_true, Bool.not_eq_true', bne_iff_ne, ne_eq] at ok
  obtain ⟨⟨⟨⟨⟨o1, o2⟩, o3⟩, o4⟩, o5⟩, o6⟩ := ok
  have er : (relabel scope X.env).names = ag3 scope osc := by subst hosc; rfl
  have kof : ∀ x, X.env.kindOf x = osc.names.lookup x := fun x => by subst hosc; rfl
  refine ⟨clos, sub, fun x h => ?_, fun x hx => o2 x hx, o3, fun x hx hl => ?_, o5, fun i j x h1 h2 => ?_⟩
  · rw [er] at h
    refine ac6 ?_
    rw [hks]
    have key : ∀ k, (ag3 scope osc).lookup x = some k → (k = .cell ∨ k = .free) → x ∈ ks := fun k hk hcf => by
      rcases o1 (x, k) (ap8 hk) with z | z
      · rcases hcf with rfl | rfl <;> simp at z
      · simpa using z
    rcases h with h | h
    · exact key _ h (.inl rfl)
    · exact key _ h (.inr rfl)
  · rcases o4 x hx with z | z
    · exact absurd hl z
    · exact z
  · have hm : (some j, x) ∈ caps.zip Nc := by
      have : (caps.zip Nc)[i]? = some (some j, x) := by
        rw [List.getElem?_zip_eq_some]; exact ⟨h1, h2⟩
      exact List.mem_of_getElem? this
    have z := o6 _ hm
    simp only [Bool.and_eq_true, beq_iff_eq] at z
    obtain ⟨⟨z1, z2⟩, z3⟩ := z
    have c2 := aK8 z2
    have c3 := aK8 z3
    refine ⟨by rw [hN]; exact z1, ?_, ?_, ?_⟩
    · rw [hosc]
      rcases c2 with c | c
      · exact .inr (.inl c)
      · exact .inr (.inr c)
    · rw [kof]
      rcases c2 with c | c <;> rw [c] <;> decide
    · rw [er]; exact c3
open PySem PySem.Spec PyProof.Rows
section
variable {X : Cx} {pins : List (Addr × Obj)} {σ : St} {H : Hp} {s : Shared}
theorem Inv.turnLaid {h' : Heap} {t' : Nat} {fp : List Addr} {a : Addr} {o : HO} (I : Inv X pins σ H s) (hf : ∀ b ∈ fp, aj8 X pins H b)
    (k : ∀ b u, b ∉ fp → s.heap.get? b = some u → h'.get? b = some u) (hp : s.heap.objs.size ≤ a) (new : F0 X.prog X.w (upd H a o) h' a o) : Inv X pins σ (upd H a o) { s with heap := h', toks := t' } := by
  have hn : H a = none := I.hok.fresh hp
  have nf : ∀ b u, H b = some u → b ∉ fp := fun b u e z => by rw [(hf b z).1] at e; cases e
  have ne : ∀ b u, s.heap.get? b = some u → b ≠ a := fun b u e => Nat.ne_of_lt (Nat.lt_of_lt_of_le (Heap.lt_size e) hp)
  refine I.step (g' := s.gens) (d' := s.drawn) (ch := fp) (fun b hb => ?_) (fun b o _ _ hc e _ => k b o hc e) (fun b o _ _ hc e _ => ⟨o.slots, k b o hc e⟩) (fun b o _ e n => by rw [e9 (ne b o e)]; exact n)
    (fun b o hc e => ⟨o, k b o hc e⟩) (fun b xs e => by rw [e9 (d8 e hn)]; exact e) (fun b o u e => by rw [e9 (d8 e hn)]; exact e) (fun b ps e => ⟨#[], by rw [e9 (d8 e hn), e]; simp⟩) (fun m hm => ?_) (fun b u e => ?_) I.bare
  · obtain ⟨_, f1, _, f3, f4, f5⟩ := hf b hb
    exact ⟨f3, f1, f4, f5⟩
  · obtain ⟨o, es, ep, ho, r⟩ := hm
    exact ⟨o, es, ep, k _ o (fun z => (hf _ z).2.1 rfl) ho, r⟩
  · by_cases hb : b = a
    · subst hb; rw [b7] at e; cases e; exact new
    · rw [e9 hb] at e
      refine (I.hok b u e).stay (fun c v hc q => k c v ?_ q) (fun c q => by rw [e9 (d8 q hn)]; exact q) fun c xs q => by rw [e9 (d8 q hn)]; exact q
      rcases hc with z | z
      · rw [z]; exact nf b u e
      · exact nf c _ z
end
def Ite (K : PySem.W.Frag) (a : Addr) : It :=
  ⟨fun i H => ∃ xs x, SqL K H a xs ∧ xs[i]? = some x, fun i H y H' => ∀ xs, SqL K H a xs → ∃ x p, xs[i]? = some x ∧ H p = none ∧ y = .ref p ∧ H' = upd H p (.tup [.int i, x]), fun i H => ∃ xs, SqL K H a xs ∧ xs.length ≤ i⟩
theorem aM3 {P : Program} {w : World} {K : PySem.W.Frag} {elts : List Expr} {k : Nat} {tpos : Pos} (a e it : Addr) (hei : e ≠ it) :
    aQ5 P w K (.Tuple elts k tpos) (Ite K a) [e, it] e (fun i h => (∃ old, IsEnum h e it ((i : Nat) : Int) old) ∧ h.IsListIter it a i) where
  mem := by simp
  obj := fun i h st b hb => by
    obtain ⟨⟨old, he⟩, hit⟩ := st
    rcases (by simpa using hb : b = e ∨ b = it) with z | z
    · subst z
      exact ⟨_, he, fun v z => by cases z⟩
    · subst z
      obtain ⟨o, e, c, d⟩ := hit
      exact ⟨o, e, fun v z => by rw [d] at z; cases z⟩
  keep := fun i h h' st k => ⟨let ⟨old, he⟩ := st.1; ⟨old, k e (by simp) _ he⟩, st.2.at fun o e => k it (by simp) o e⟩
  item := by
    intro X hP hw hK hc i pins s σ H E I hf st hg
    subst hP hw hK
    obtain ⟨xs, x, hq, hx⟩ := hg
    obtain ⟨its, rv, p, hz⟩ := I.list hq
    obtain ⟨u, hu, ru⟩ := rv.get hx
    obtain ⟨⟨old, he⟩, hit⟩ := st
    have helt : e < s.heap.objs.size := Heap.lt_size he
    have hilt : it < s.heap.objs.size := by obtain ⟨_, x, _⟩ := id hit; exact Heap.lt_size x
    refine wpAny_pyNext_enum_item he hit p.isList (x := u) (by simpa using hu) hei fun h' ho hit' hT hsz kk => ?_
    refine ⟨_, rfl, ?_⟩
    refine wpAny_letOwnedTupleGo_enum (s := { s with heap := h', toks := s.toks + 1 }) ho fun h'' he' sb => ?_
    have hT' : h''.get? s.heap.objs.size = some { cls := .type "tuple", data := .seq #[.int i s.toks, u] } := (sb.2 _ (Nat.ne_of_gt helt)).trans hT
    refine ⟨.ref s.heap.objs.size, upd H s.heap.objs.size (.tup [.int i, x]), I.turnLaid (fp := [e, it]) (t' := s.toks + 1) hf (fun b v hb q => ?_) (Nat.le_refl _) ?_, rfl, ?_, ?_, fun b hb => ?_⟩
    · have h1 : b ≠ e := fun z => hb (by simp [z])
      have h2 : b ≠ it := fun z => hb (by simp [z])
      exact (sb.2 b h1).trans (kk b v h1 h2 q)
    · exact ⟨(show 2 ≤ sizeLine by decide +kernel), [.int i s.toks, u], .cons ⟨_, rfl⟩ (.cons ru .nil), _, hT', rfl, _, rfl⟩
    · intro ys hy
      rw [I.list_inj hy hq]
      exact ⟨x, _, hx, I.fresh, rfl, rfl⟩
    · refine ⟨⟨u, by have := he'; simpa using this⟩, hit'.at fun o q => (sb.2 it hei.symm).trans q⟩
    · have hlt : b < s.heap.objs.size := by
        rcases (by simpa using hb : b = e ∨ b = it) with z | z
        · rw [z]; exact helt
        · rw [z]; exact hilt
      rw [e9 (Nat.ne_of_lt hlt)]
      exact (hf b hb).1
  done := by
    intro X hP hw hK hc i pins s σ H E I hf st hg
    subst hP hw hK
    obtain ⟨xs, hq, hx⟩ := hg
    obtain ⟨its, rv, p, hz⟩ := I.list hq
    obtain ⟨⟨old, he⟩, hit⟩ := st
    obtain ⟨f0, f1, f2, f3, f4, f5⟩ := hf it (by simp)
    have hl := rv.length
    exact wpAny_pyNext_enum_end (I.ok.hd hc) he hit p.isList (by simp; omega) fun h' eb => ⟨rfl, I.turned (t' := s.toks) (fun b o hb e => eb b o hb e) f0 f1 f3 f4 f5⟩
  self := fun _ _ _ _ _ st h => by
    obtain ⟨⟨old, he⟩, _⟩ := st
    exact wpAny_pyIter_enum he h
section
variable {X : Cx}
def aF2 (K : PySem.W.Frag) (ta : TA) : TI := fun σ H R => ta σ H fun vs H1 => ∃ a, vs = [.ref a] ∧ (∃ xs, SqL K H1 a xs) ∧ R (Ite K a) H1
theorem ab3 {elts : List Expr} {k : Nat} {tpos : Pos} {l : Expr} {ta : TA} {p pos : Pos} (hg : Gl X "enumerate") (hm : X.mg "enumerate" = none) (ha : PA X [l] ta) (hs : starEach [l] X.env = [(false, eval l X.env)] := by rfl) :
    PI X (.Tuple elts k tpos) (.Call (.Name "enumerate" p) [l] [] pos) (aF2 X.K ta) := by
  intro pins s σ H R I h
  refine Call_ (Z3 I hg hm (u := .type "enumerate") (by decide +kernel) (PyProof.Rows.callWith_type1 (thn (ha pos pins s σ H _ I h) fun us s1 ⟨vs, H1, I1, r1, q1⟩ => ?_) hs rfl))
  obtain ⟨a, e, ⟨xs, hq⟩, q⟩ := q1
  subst e
  obtain ⟨u, rfl, rx⟩ := af1 r1
  cases rx
  obtain ⟨its, rv, p, hz⟩ := I1.list hq
  refine call_enumerate_list p.isList fun h' he hit hsz kk => ?_
  refine wpAny_pyIter_enum he ?_
  have I2 : Inv X pins σ H1 { s1 with heap := h' } := I1.kept (t' := s1.toks) kk
  refine ⟨s1.heap.objs.size + 1, [s1.heap.objs.size + 1, s1.heap.objs.size], _, _, H1, rfl, I2, aM3 a _ _ (Nat.succ_ne_self _), ⟨⟨_, he⟩, hit⟩, fun b hb => ?_, q⟩
  have hb' : s1.heap.objs.size ≤ b := by
    rcases (by simpa using hb : b = s1.heap.objs.size + 1 ∨ b = s1.heap.objs.size) with z | z
    · rw [z]; exact Nat.le_succ _
    · rw [z]; exact Nat.le_refl _
  obtain ⟨f0, f1, f2, f3, f4, f5⟩ := I1.fpOk (H' := H1) hb' (I1.hok.fresh hb')
  exact ⟨f0, f1, f2, f3, f4, f5⟩
end
section
variable {prog : Program} {w : World} {A : Around} {R : Result → Shared → Prop} {s : Shared}
theorem aF8 {elt target iter c : Expr} {scope : Scope} {pos : Pos} {it acc : Value} {env : Env} (I : Nat → Shared → Prop)
    (turn : ∀ n s, I n s → wpAny (model prog w) A (pyNext it) (fun r s₁ => match r with
      | none => R (.ok .next) s₁
      | some v => wpAny (model prog w) A (letOwnedTupleGo target it v) (fun _ s₁' => wpAny (model prog w) A (assign target env v) (fun _ s₂ =>
          wpAny (model prog w) A (isTrue c env (eval c env)) (fun ok s₂' => if ok = true then wpAny (model prog w) A (eval elt env) (fun x s₃ =>
          wpAny (model prog w) A (call (.builtin "list.append") [acc, x]) (fun _ s₄ => ∃ m, m < n ∧ I m s₄) (fun _ _ => False) s₃)
          (fun _ _ => False) s₂' else ∃ m, m < n ∧ I m s₂') (fun _ _ => False) s₂) (fun _ _ => False) s₁') (fun _ _ => False) s₁) (fun _ _ => False) s)
    (n : Nat) (h : I n s) :
    codeAny (model prog w) A (.compLoop (.ListComp elt [⟨target, iter, [c], 0⟩] scope pos) 0 it acc env) R s := by
  refine codeAny_loop rfl I (fun n s hI => ?_) n h
  show wpAny _ _ ((compTurn (.ListComp elt [⟨target, iter, [c], 0⟩] scope pos) 0 it acc env).onRaise (fun x => do noteFrame x env; theTreesLotGoes x)) _ _ s
  refine wpAny_noted ?_
  rw [compTurn_list]
  have no : ∀ {P : Value → Shared → Prop} (e : Value) (s : Shared), False → P e s := fun _ _ h => h.elim
  refine wpAny_bind (wpAny_standAt (wpAny_bind (wpAny_mono (turn n s hI) (fun r s₁ h₁ => ?_) no)))
  cases r with
  | none => exact wpAny_pure h₁
  | some v =>
    refine wpAny_bind (wpAny_mono h₁ (fun _ s₁' h₁' => ?_) no)
    refine wpAny_bind (wpAny_mono h₁' (fun _ s₂ h₂ => ?_) no)
    refine wpAny_bind (wpAny_tests_one (wpAny_mono h₂ (fun ok s₂' h₂' => ?_) no))
    cases ok with
    | true =>
      rw [if_pos rfl] at h₂' ⊢
      exact wpAny_bind (wpAny_bind (wpAny_mono h₂' (fun x s₃ h₃ => wpAny_bind (wpAny_mono h₃ (fun _ s₄ h₄ => wpAny_pure (wpAny_pure ⟨rfl, h₄⟩)) no)) no))
    | false =>
      rw [if_neg (by decide)] at h₂' ⊢
      exact wpAny_pure ⟨rfl, h₂'⟩
end
def aJ8 (wi : TI) (caps : List (Option Nat)) (g : TG) (tt : TT) (te : TE) : TE := fun σ H Q => wi σ H fun J H1 => ∀ D, H1 D = none → ∃ W : Nat → Nat → St → Hp → Prop, (∃ m, W 0 m (M2 caps σ) (upd H1 D (.lst []))) ∧
  ∀ i m σc H2, W i m σc H2 → (J.stop i H2 ∧ Q (.ref D) H2) ∨
    (J.go i H2 ∧ ∀ x H3, J.yld i H2 x H3 → g x σc H3 fun σ4 H4 => tt σ4 H4 fun b H4' => if b = true then te σ4 H4' fun y H5 => ∃ ys, H5 D = some (.lst ys) ∧ ys.length < sizeLine ∧ ∃ m', m' < m ∧ W (i + 1) m' σ4 (upd H5 D (.lst (ys ++ [y])))
      else ∃ m', m' < m ∧ W (i + 1) m' σ4 H4')
section
variable {X : Cx}
theorem aO2 {elt tg iter c : Expr} {scope : Scope} {pos : Pos} {cl : List (Str × Addr)} {Nc : List Str} {caps : List (Option Nat)} {wi : TI} {g : TG} {tt : TT} {te : TE} (hc : X.calm = true) (cp : W8 X scope cl Nc caps) (hi : PI X tg iter wi)
    (hg : ∀ C s₂ H₂ fp pins, PG (X.block scope cl C Nc s₂ H₂ fp pins) tg g) (ht : ∀ C s₂ H₂ fp pins, PT (X.block scope cl C Nc s₂ H₂ fp pins) c tt) (he : ∀ C s₂ H₂ fp pins, PE (X.block scope cl C Nc s₂ H₂ fp pins) elt te) (hs : ∀ x, foldedSetIterable iter X.env x = pure x := by intro _; rfl) :
    PE X (.ListComp elt [⟨tg, iter, [c], 0⟩] scope pos) (aJ8 wi caps g tt te) := by
  intro pins s σ H Q I h
  rw [eval_ListComp]
  refine wpAny_comprehension_free (use := none) rfl hs cp.clos cp.kind cp.names ?_
  refine thn (hi pins s σ H _ I h) fun v s1 h1 => thn h1 fun itv s2 h2 => ?_
  obtain ⟨it, fp, tn, J, H2, e, I2, T, st2, f2, hW⟩ := h2
  subst e
  refine wpAny_newObj_type ?_ (by show 0 ≤ sizeLine; exact Nat.zero_le _)
  refine wpAny_newFunctionEnv cp.nocell (by intro y hy; simp at hy) (fun h4 hns hsb => ?_) cp.kind
  dsimp only at hns hsb ⊢
  generalize hH3 : s2.heap.push { cls := .type "list", dict := none, data := .seq ([] : List Value).toArray } = H3 at hns hsb ⊢
  have hCe : H3.objs.size = s2.heap.objs.size + 1 := by rw [← hH3, Heap.size_push]
  have U9 : ∀ b o, s2.heap.get? b = some o → b ≠ H3.objs.size := fun b o e => by rw [hCe]; exact Nat.ne_of_lt (Nat.lt_succ_of_lt (Heap.lt_size e))
  have old : ∀ b o, s2.heap.get? b = some o → h4.get? b = some o := fun b o e => hsb.extBut b o (U9 b o e) (Heap.get?_push_of_some _ (hH3 ▸ Heap.get?_push_of_some _ e))
  have hD : h4.get? s2.heap.objs.size = some { cls := .type "list", dict := none, data := .seq ([] : List Value).toArray } :=
    hsb.extBut _ _ (by rw [hCe]; exact Nat.ne_of_lt (Nat.lt_succ_self _)) (Heap.get?_push_of_some _ (hH3 ▸ Heap.get?_push_size _ rfl))
  have hDn : H2 s2.heap.objs.size = none := I2.fresh
  have hCn : H2 H3.objs.size = none := I2.hok.fresh (by rw [hCe]; exact Nat.le_succ _)
  have hCs : s2.heap.objs.size ≤ H3.objs.size := by rw [hCe]; exact Nat.le_succ _
  have hDC : s2.heap.objs.size ≠ H3.objs.size := by rw [hCe]; exact Nat.ne_of_lt (Nat.lt_succ_self _)
  have fpl : ∀ b ∈ fp, ∃ o, s2.heap.get? b = some o := fun b hb => let ⟨o, e, _⟩ := T.obj _ _ st2 b hb; ⟨o, e⟩
  have fpC : ∀ b ∈ fp, b ≠ H3.objs.size := fun b hb => let ⟨o, e⟩ := fpl b hb; U9 b o e
  have fpD : ∀ b ∈ fp, b ≠ s2.heap.objs.size := fun b hb => let ⟨o, e⟩ := fpl b hb; Nat.ne_of_lt (Heap.lt_size e)
  have stkN : ∀ b, b ≠ X.env.locals → b ∉ X.fs → b ∉ frs X.stack := fun b h1 h2 z => (List.mem_cons.mp (I2.stkSub b z)).elim h1 h2
  obtain ⟨W, ⟨m0, w0⟩, turn⟩ := hW s2.heap.objs.size hDn
  have okB : (X.block scope cl H3.objs.size Nc s2 H2 fp pins).Ok := by
    refine ⟨I2.ok.mod, ?_, I2.ok.glob, I2.ok.blt, hCs, fun x y c h1 h2 => I2.ok.inj x y c (cp.sub x c h1) (cp.sub y c h2), fun x hx => cp.has x hx, fun x c h => (by cases h), I2.ok.hd, I2.ok.frames, .inl rfl, fun b hb => ⟨fpC b hb, fun x c h => (f2 b hb).2.2.2.2.1 x c (cp.sub x c h)⟩, I2.bs, Nat.le_trans I2.ok.bsz I2.sz, fun b o e hb => ?_, fun b hb => stkN b (f2 b hb).2.1 (f2 b hb).2.2.1, I2.stack, I2.stkFree⟩
    · exact cp.kind
    · rcases (f2 b hb).2.2.2.1 with z | z
      · exact I2.ok.noex b o e z
      · exact absurd (Nat.lt_of_lt_of_le (Heap.lt_size e) (Nat.le_trans I2.ok.bsz z)) (Nat.lt_irrefl _)
  have hokB : HOk X.prog X.w (upd H2 s2.heap.objs.size (.lst [])) h4 := I2.hok.laid old (Nat.le_refl _) ⟨Nat.zero_le _, [], _, .nil, hD⟩
  have IB : Inv (X.block scope cl H3.objs.size Nc s2 H2 fp pins) [] (M2 caps σ) (upd H2 s2.heap.objs.size (.lst [])) { s2 with heap := h4, toks := s2.toks + ([] : List (Str × Value)).length } := by
    refine ⟨okB, rfl, I2.bare, Un.laid old (Nat.le_refl _) hDn, ⟨_, hns, fun i x v e1 e2 e3 => ?_⟩, fun x c e => ?_, (show upd H2 s2.heap.objs.size (.lst []) H3.objs.size = none by rw [e9 (Ne.symm hDC)]; exact hCn), fun x c e => ?_, fun p hp => ?_, hokB, ?_⟩
    · unfold M2 at e2
      rw [List.getElem?_map] at e2
      cases hcap : caps[i]? with
      | none => rw [hcap] at e2; cases e2
      | some o =>
        rw [hcap] at e2
        cases o with
        | none => cases e2
        | some j =>
          have hj : σ[j]? = some (some v) := by
            have e2' : (σ[j]?).join = some v := Option.some.inj e2
            cases q : σ[j]? with
            | none => rw [q] at e2'; cases e2'
            | some z => rw [q] at e2'; exact congrArg some e2'
          obtain ⟨n1, n2, n3, n4⟩ := cp.cap i j x hcap e1
          obtain ⟨m, hm, hl⟩ := I2.loc
          obtain ⟨u, r, q⟩ := hl j x v n1 hj n2
          rcases q with ⟨k, _⟩ | ⟨k, c, ec, z⟩
          · exact absurd k n3
          · obtain ⟨c', ec'⟩ := cp.has x n4
            have := cp.sub x c' ec'
            rw [ec] at this; cases this
            obtain ⟨oc, ho, hd⟩ := z
            exact ⟨u, r, .inr ⟨n4, c, ec', oc, old _ _ ho, hd⟩⟩
    · obtain ⟨v, oc, ho, hd⟩ := I2.cell x c (cp.sub x c e)
      exact ⟨v, oc, old _ _ ho, hd⟩
    · obtain ⟨v, oc, ho, hd⟩ := I2.cell x c (cp.sub x c e)
      rw [e9 (Nat.ne_of_lt (Heap.lt_size ho))]
      exact I2.freeC x c (cp.sub x c e)
    · have hp' : p ∈ X.pn ++ pins := by simpa using hp
      obtain ⟨e1, e2, e3, e4, e5⟩ := I2.pin p hp'
      exact ⟨old _ _ e1, by rw [e9 (Nat.ne_of_lt (Heap.lt_size e1))]; exact e2, U9 _ _ e1, stkN _ e3 e4, e5⟩
    · show (M2 caps σ).length = Nc.length
      unfold M2
      rw [List.length_map]; exact cp.len
  have stat : ∀ {H' : Hp}, (∀ b ∈ fp, H' b = none) → ∀ b ∈ fp, aj8 (X.block scope cl H3.objs.size Nc s2 H2 fp pins) [] H' b := fun hn b hb =>
    ⟨hn b hb, fpC b hb, stkN b (f2 b hb).2.1 (f2 b hb).2.2.1, .inl hb, fun x c h => (f2 b hb).2.2.2.2.1 x c (cp.sub x c h), fun p hp => (f2 b hb).2.2.2.2.2 p (by simpa using hp)⟩
  have loop : ∀ s5 : Shared, s5 = { s2 with heap := h4, toks := s2.toks + ([] : List (Str × Value)).length } →
      codeAny (model X.prog X.w) X.A (.compLoop (.ListComp elt [⟨tg, iter, [c], 0⟩] scope pos) 0 (.ref it) (.ref s2.heap.objs.size) (compEnvC scope cl H3.objs.size X.env))
        (compPost (model X.prog X.w) X.A X.xe none (EP X pins σ Q) (.ref s2.heap.objs.size) H3.objs.size) s5 := by
    rintro s5 rfl
    refine aF8 (fun n s' => ∃ i σ' H', Inv (X.block scope cl H3.objs.size Nc s2 H2 fp pins) [] σ' H' s' ∧ tn i s'.heap ∧ (∀ b ∈ fp, H' b = none) ∧ W i n σ' H') ?_ m0 ⟨0, _, _, IB, T.keep _ _ _ st2 fun b hb o e => old b o e, fun b hb => by rw [e9 (fpD b hb)]; exact (f2 b hb).1, w0⟩
    rintro n s6 ⟨i, σ6, H6, I6, st6, fr6, w6⟩
    rcases turn i n σ6 H6 w6 with ⟨stop, qn⟩ | ⟨go, step⟩
    · refine thn (T.done (X.block scope cl H3.objs.size Nc s2 H2 fp pins) rfl rfl rfl hc i [] s6 σ6 H6 _ I6 (stat fr6) st6 stop) fun r s7 ⟨hr, I7⟩ => ?_
      subst hr
      obtain ⟨m7, hn7, _⟩ := id I7.loc
      exact ⟨m7, hn7, fun h' sb => ⟨.ref s2.heap.objs.size, H6, I2.sameC f2 I7.os I7.bare I7.base I7.hok hCs I7.free sb, rfl, qn⟩⟩
    · refine thn (T.item (X.block scope cl H3.objs.size Nc s2 H2 fp pins) rfl rfl rfl hc i [] s6 σ6 H6 _ I6 (stat fr6) st6 go) fun r s7 ⟨u, hr, h7⟩ => ?_
      subst hr
      refine thn h7 fun _ s8 ⟨x, H8, I8, r8, y8, st8, fr8⟩ => ?_
      have I8' := I8.pinned (stat fr8) (T.obj _ _ st8)
      refine thn (hg _ _ _ _ _ _ s8 σ6 H8 x u _ I8' r8 (step x H8 y8)) fun _ s9 ⟨σ9, H9, I9, q9⟩ => ?_
      refine thn (ht _ _ _ _ _ _ s9 σ9 H9 _ I9 q9) fun bb s9' ⟨H9', I9', q9'⟩ => ?_
      cases bb with
      | false =>
        rw [if_neg (by decide)] at q9' ⊢
        obtain ⟨m', hm', w'⟩ := q9'
        refine ⟨m', hm', i + 1, σ9, H9', I9'.unpinned, T.keep _ _ _ st8 fun b hb o e => (I9'.pin (b, o) (List.mem_append_right _ (List.mem_append_right _ (B5 hb e)))).1, fun b hb => ?_, w'⟩
        obtain ⟨o, e, d⟩ := T.obj _ _ st8 b hb
        exact (I9'.pin (b, o) (List.mem_append_right _ (List.mem_append_right _ (B5 hb e)))).2.1
      | true =>
        rw [if_pos rfl] at q9' ⊢
        refine thn (he _ _ _ _ _ _ s9' σ9 H9' _ I9' q9') fun u10 s10 ⟨v10, H10, I10, r10, ys, hys, hlen, m', hm', w'⟩ => ?_
        refine thn (F5 _ s10 σ9 H10 (.ref s2.heap.objs.size) [v10] (.ref s2.heap.objs.size) [u10] (fun _ H11 => H11 = upd H10 s2.heap.objs.size (.lst (ys ++ [v10]))) I10 rfl (.cons r10 .nil) ⟨_, ys, v10, rfl, rfl, hys, hlen, rfl⟩) fun _ s11 ⟨_, H11, I11, _, hH11⟩ => ?_
        subst hH11
        refine ⟨m', hm', i + 1, σ9, _, I11.unpinned, T.keep _ _ _ st8 fun b hb o e => (I11.pin (b, o) (List.mem_append_right _ (List.mem_append_right _ (B5 hb e)))).1, fun b hb => ?_, w'⟩
        obtain ⟨o, e, d⟩ := T.obj _ _ st8 b hb
        exact (I11.pin (b, o) (List.mem_append_right _ (List.mem_append_right _ (B5 hb e)))).2.1
  exact codeAny_compStart_list (loop _ rfl) (T.self _ 0 _ _ _ (T.keep _ _ _ st2 fun b hb o e => old b o e) (loop _ rfl))
end
open PySem PySem.Spec PyProof.Rows
section
variable {X : Cx}
theorem at8 (bs : List Bool) : (List.range bs.length).all (fun i => (bs[i]?).getD true) = bs.all id := by
  induction bs with
  | nil => rfl
  | cons b bs ih =>
    rw [List.length_cons, aa0, List.all_cons, ← ih]
    rfl
theorem aG1 (hc : X.calm = true) : aa5 X (.builtin "all") (fun xs H Q => ∃ (p : Addr) (bs : List Bool), xs = [.ref p] ∧ SqL X.K H p (bs.map V.bl) ∧ Q (.bl (bs.all id)) H) := by
  intro pins s σ H xs us Q I r h
  obtain ⟨p, bs, rfl, hq, q⟩ := h
  obtain ⟨u, rfl, rx⟩ := af1 r
  cases rx
  obtain ⟨its, r', pl, hz⟩ := I.list hq
  have hlen : its.length = bs.length := by rw [← r'.length, List.length_map]
  have hp : p ≠ s.heap.objs.size := by
    obtain ⟨o, ho, _⟩ := pl.isList
    exact Nat.ne_of_lt (Heap.lt_size ho)
  refine call_all_walk (wpAny_pyIter_list pl.isList ?_)
  refine ⟨s.heap.objs.size, _, _, _, _, _, fun i => (bs[i]?).getD true, rfl, Walks.list (A := X.A.in1) (I.ok.hd hc) _ p hp its.toArray, ⟨⟨_, Heap.get?_push_size _ rfl, rfl, rfl⟩, pl.isList.at fun o e => Heap.get?_push_of_some _ e⟩, ?_, ?_⟩
  · intro i v s' Q' E' hv hQ
    have hv' : its[i]? = some v := by simpa using hv
    have hi : i < bs.length := by rw [← hlen]; exact (List.getElem?_eq_some_iff.mp hv').1
    obtain ⟨u, hu, ru⟩ := r'.get (i := i) (x := .bl bs[i]) (by rw [List.getElem?_map, List.getElem?_eq_getElem hi]; rfl)
    rw [hv'] at hu
    cases hu
    cases ru
    simp only [List.getElem?_eq_getElem hi] at hQ
    exact wpAny_truthy_bool hQ
  · intro h' tk kk
    have e : (List.range its.toArray.size).all (fun i => (bs[i]?).getD true) = bs.all id := by rw [List.size_toArray, hlen, at8]
    rw [e]
    refine ⟨.bl _, H, I.kept (t' := tk) fun b o e => kk b o ?_ (Heap.get?_push_of_some _ e), rfl, q⟩
    intro z
    have : b = s.heap.objs.size := by simpa using z
    exact absurd (Heap.lt_size e) (by rw [this]; exact Nat.lt_irrefl _)
def bn9 (K : PySem.W.Frag) : R2 := fun x y H Q => ∃ d d', d.isV = false ∧ IsD K H x d ∧ IsD K H y d' ∧ okD d d' = true ∧ dpD d ≤ 60 ∧ Q (.bl (!eqD d d')) H
theorem ai9 (hu : X.A.units + 64 < cLine) : OpR X (compareOp .NotEq) (bn9 X.K) := by
  intro pins s σ H x y v u Q I rx ry h
  obtain ⟨d, d', nf, h1, h2, ok, dp, q⟩ := h
  have fin : EP X pins σ Q (.bool (!eqD d d')) s := ⟨.bl _, H, I, rfl, q⟩
  cases h1 with
  | v f =>
    cases h2 with
    | v f' => exact absurd (show true = false from nf) (by decide)
    | tup _ _ => simp [okD] at ok
    | lst _ _ => simp [okD] at ok
  | @tup p xs ds h t =>
    cases h2 with
    | v f' => simp [okD] at ok
    | @tup p' ys ds' h' t' =>
      cases (show v = Value.ref p from rx)
      cases (show u = Value.ref p' from ry)
      rw [okD] at ok
      rw [dpD] at dp
      rw [eqD] at fin
      obtain ⟨its, r1, i1, _⟩ := I.tuple h
      obtain ⟨its', r2, i2, _⟩ := I.tuple h'
      have q' : ∀ (j : Nat) (h1 : j < its.length) (h2 : j < its'.length), SeqAt.EqAt X.A.in1 s its[j] its'[j] (Z5 ds ds' j) := fun j h1 h2 => W6 (A := X.A.in1) I t t' ok r1 r2 (by show X.A.units + 1 + _ < _; omega) j h1 h2
      have z := SeqAt.RcNeAt.tuples (A := X.A) (items := its.toArray) (items2 := its'.toArray) (e := Z5 ds ds') i1 i2 (by omega) (fun j h1 h2 => q' j (by simpa using h1) (by simpa using h2))
      have e1 : its.toArray.size = ds.length := by rw [List.size_toArray, ← r1.length, t.length]
      have e2 : its'.toArray.size = ds'.length := by rw [List.size_toArray, ← r2.length, t'.length]
      rw [e1, e2, ab6] at z
      exact PySem.EqBoolInt.of_rcne z fin
    | lst _ _ => simp [okD] at ok
  | @lst p xs ds h t =>
    cases h2 with
    | v f' => simp [okD] at ok
    | tup _ _ => simp [okD] at ok
    | @lst p' ys ds' h' t' =>
      cases (show v = Value.ref p from rx)
      cases (show u = Value.ref p' from ry)
      rw [okD] at ok
      rw [dpD] at dp
      rw [eqD] at fin
      obtain ⟨its, r1, i1, _⟩ := I.list h
      obtain ⟨its', r2, i2, _⟩ := I.list h'
      have q' : ∀ (j : Nat) (h1 : j < its.length) (h2 : j < its'.length), SeqAt.EqAt X.A.in1 s its[j] its'[j] (Z5 ds ds' j) := fun j h1 h2 => W6 (A := X.A.in1) I t t' ok r1 r2 (by show X.A.units + 1 + _ < _; omega) j h1 h2
      have e1 : its.toArray.size = ds.length := by rw [List.size_toArray, ← r1.length, t.length]
      have e2 : its'.toArray.size = ds'.length := by rw [List.size_toArray, ← r2.length, t'.length]
      by_cases hl : ds.length = ds'.length
      · have z := SeqAt.RcNeAt.lists (A := X.A) (items := its.toArray) (items2 := its'.toArray) (e := Z5 ds ds') i1.isList i2.isList (by rw [e1, e2, hl]) (by omega) (fun j h1 h2 => q' j (by simpa using h1) (by simpa using h2))
        rw [e1, ac9 ds ds' hl] at z
        exact PySem.EqBoolInt.of_rcne z fin
      · rw [aq5 ds ds' hl] at fin
        exact PySem.EqBoolInt.of_rcne (SeqAt.RcNeAt.lists_lengths (A := X.A) i1.isList i2.isList (by rw [e1, e2]; simpa using hl) (by omega)) fin
def bl8 (xs : List V) (lo hi st : Option Int) : List V :=
  (sliceRange (sliceBounds lo hi st xs.length).1 (sliceBounds lo hi st xs.length).2.1 (sliceBounds lo hi st xs.length).2.2).filterMap (xs[·]?)
def bn6 (K : PySem.W.Frag) (te : TE) (tl th tk : TO) : TE := fun σ H Q => te σ H fun x H1 => tl σ H1 fun l H2 => th σ H2 fun u H3 => tk σ H3 fun k H4 =>
  ∃ a xs, x = .ref a ∧ SqL K H4 a xs ∧ k ≠ some 0 ∧ ∀ p, H4 p = none → Q (.ref p) (upd H4 p (.lst (bl8 xs l u k)))
end
def J1 (D : Addr) (n : Nat) (Pv : Nat → St → Hp → Prop) (i : Nat) (σ4 : St) (y : V) (H5 : Hp) : Prop :=
  ∃ ys, H5 D = some (.lst ys) ∧ ys.length < sizeLine ∧ ∃ m', m' < n - i ∧ (m' = n - (i + 1) ∧ i + 1 ≤ n ∧ Pv (i + 1) σ4 (upd H5 D (.lst (ys ++ [y]))))
theorem J1.mk {D : Addr} {n : Nat} {Pv : Nat → St → Hp → Prop} {i : Nat} {σ4 : St} {y : V} {H5 : Hp} {ys : List V} (hi : i < n) (h : H5 D = some (.lst ys)) (hl : ys.length < sizeLine) (p : Pv (i + 1) σ4 (upd H5 D (.lst (ys ++ [y])))) : J1 D n Pv i σ4 y H5 :=
  ⟨ys, h, hl, _, by omega, rfl, hi, p⟩
def aG2 (n : Nat) (Pv : Nat → St → Hp → Prop) (i : Nat) (σ4 : St) (H5 : Hp) : Prop := ∃ m', m' < n - i ∧ (m' = n - (i + 1) ∧ i + 1 ≤ n ∧ Pv (i + 1) σ4 H5)
theorem aG2.mk {n : Nat} {Pv : Nat → St → Hp → Prop} {i : Nat} {σ4 : St} {H5 : Hp} (hi : i < n) (p : Pv (i + 1) σ4 H5) : aG2 n Pv i σ4 H5 := ⟨_, by omega, rfl, hi, p⟩
section
variable {K : PySem.W.Frag} {a D : Addr} {xs : List V} {g : TG} {te : TE} {σ0 : St} {H0 : Hp} {Q : VK}
theorem aP7 (Pv : Nat → St → Hp → Prop) (h0 : Pv 0 σ0 H0) (hl : ∀ i σ H, i ≤ xs.length → Pv i σ H → SqL K H a xs)
    (hs : ∀ i x σ H, xs[i]? = some x → Pv i σ H → g x σ H fun σ4 H4 => te σ4 H4 fun y H5 => J1 D xs.length Pv i σ4 y H5) (hd : ∀ σ H, Pv xs.length σ H → Q (.ref D) H) :
    ∃ W : Nat → Nat → St → Hp → Prop, (∃ m, W 0 m σ0 H0) ∧ ∀ i m σc H2, W i m σc H2 → ((Itl K a).stop i H2 ∧ Q (.ref D) H2) ∨
      ((Itl K a).go i H2 ∧ ∀ x H3, (Itl K a).yld i H2 x H3 → g x σc H3 fun σ4 H4 => te σ4 H4 fun y H5 => ∃ ys, H5 D = some (.lst ys) ∧ ys.length < sizeLine ∧ ∃ m', m' < m ∧ W (i + 1) m' σ4 (upd H5 D (.lst (ys ++ [y])))) := by
  refine ⟨fun i m σ H => m = xs.length - i ∧ i ≤ xs.length ∧ Pv i σ H, ⟨xs.length, by simp, Nat.zero_le _, h0⟩, ?_⟩
  rintro i m σ H ⟨rfl, hi, p⟩
  have q := hl i σ H hi p
  by_cases hlt : i < xs.length
  · refine .inr ⟨⟨xs, xs[i], q, List.getElem?_eq_getElem hlt⟩, ?_⟩
    rintro x H3 ⟨rfl, hx⟩
    exact hs i x σ _ (hx xs q) p
  · have e : i = xs.length := by omega
    subst e
    exact .inl ⟨⟨xs, q, Nat.le_refl _⟩, hd σ H p⟩
theorem aJ0 {lo : Int} {n : Nat} (Pv : Nat → St → Hp → Prop) (h0 : Pv 0 σ0 H0)
    (hs : ∀ i σ H, i < n → Pv i σ H → g (.int (lo + i)) σ H fun σ4 H4 => te σ4 H4 fun y H5 => J1 D n Pv i σ4 y H5) (hd : ∀ σ H, Pv n σ H → Q (.ref D) H) :
    ∃ W : Nat → Nat → St → Hp → Prop, (∃ m, W 0 m σ0 H0) ∧ ∀ i m σc H2, W i m σc H2 → ((Itr lo n).stop i H2 ∧ Q (.ref D) H2) ∨
      ((Itr lo n).go i H2 ∧ ∀ x H3, (Itr lo n).yld i H2 x H3 → g x σc H3 fun σ4 H4 => te σ4 H4 fun y H5 => ∃ ys, H5 D = some (.lst ys) ∧ ys.length < sizeLine ∧ ∃ m', m' < m ∧ W (i + 1) m' σ4 (upd H5 D (.lst (ys ++ [y])))) := by
  refine ⟨fun i m σ H => m = n - i ∧ i ≤ n ∧ Pv i σ H, ⟨n, by simp, Nat.zero_le _, h0⟩, ?_⟩
  rintro i m σ H ⟨rfl, hi, p⟩
  by_cases hlt : i < n
  · refine .inr ⟨hlt, ?_⟩
    rintro x H3 ⟨rfl, rfl⟩
    exact hs i σ _ hlt p
  · have e : i = n := by omega
    subst e
    exact .inl ⟨Nat.le_refl _, hd σ H p⟩
theorem aF9 {tt : TT} (Pv : Nat → St → Hp → Prop) (h0 : Pv 0 σ0 H0) (hl : ∀ i σ H, i ≤ xs.length → Pv i σ H → SqL K H a xs)
    (hs : ∀ i x σ H p, xs[i]? = some x → Pv i σ H → H p = none → g (.ref p) σ (upd H p (.tup [.int i, x])) fun σ4 H4 => tt σ4 H4 fun b H4' => if b = true then te σ4 H4' fun y H5 => J1 D xs.length Pv i σ4 y H5 else aG2 xs.length Pv i σ4 H4')
    (hd : ∀ σ H, Pv xs.length σ H → Q (.ref D) H) :
    ∃ W : Nat → Nat → St → Hp → Prop, (∃ m, W 0 m σ0 H0) ∧ ∀ i m σc H2, W i m σc H2 → ((Ite K a).stop i H2 ∧ Q (.ref D) H2) ∨
      ((Ite K a).go i H2 ∧ ∀ x H3, (Ite K a).yld i H2 x H3 → g x σc H3 fun σ4 H4 => tt σ4 H4 fun b H4' => if b = true then te σ4 H4' fun y H5 => ∃ ys, H5 D = some (.lst ys) ∧ ys.length < sizeLine ∧ ∃ m', m' < m ∧ W (i + 1) m' σ4 (upd H5 D (.lst (ys ++ [y])))
        else ∃ m', m' < m ∧ W (i + 1) m' σ4 H4') := by
  refine ⟨fun i m σ H => m = xs.length - i ∧ i ≤ xs.length ∧ Pv i σ H, ⟨xs.length, by simp, Nat.zero_le _, h0⟩, ?_⟩
  rintro i m σ H ⟨rfl, hi, p⟩
  have q := hl i σ H hi p
  by_cases hlt : i < xs.length
  · refine .inr ⟨⟨xs, xs[i], q, List.getElem?_eq_getElem hlt⟩, ?_⟩
    intro x H3 hy
    obtain ⟨y, r, hy1, hr, rfl, rfl⟩ := hy xs q
    exact hs i y σ _ r hy1 p hr
  · have e : i = xs.length := by omega
    subst e
    exact .inl ⟨⟨xs, q, Nat.le_refl _⟩, hd σ H p⟩
end
end L2
namespace R
theorem ae2 {n d : Int} (hd : 0 < d) (hc : Int.gcd n d = 1) : (Rat.divInt n d).num = n ∧ ((Rat.divInt n d).den : Int) = d := by
  obtain ⟨k, rfl⟩ : ∃ k : Nat, d = k := ⟨d.toNat, by omega⟩
  have hk : k ≠ 0 := by omega
  have hc' : n.natAbs.Coprime k := by
    rw [Int.gcd_eq_natAbs_gcd_natAbs] at hc
    simpa [Nat.Coprime] using hc
  have e : (⟨n, k, hk, hc'⟩ : Rat) = Rat.divInt n k := Rat.mk_eq_divInt
  rw [← e]
  exact ⟨rfl, rfl⟩
theorem J4 {n d t b : Int} (hd : 0 < d) (hc : Int.gcd n d = 1) (hb : b ≠ 0) (h : n * b = t * d) : n = (Rat.divInt t b).num ∧ d = ((Rat.divInt t b).den : Int) := by
  have e : Rat.divInt n d = Rat.divInt t b := (Rat.divInt_eq_divInt_iff (by omega) hb).mpr h
  obtain ⟨h1, h2⟩ := ae2 hd hc
  rw [e] at h1 h2
  exact ⟨h1.symm, h2.symm⟩
theorem i9 {g n : Int} (hg : g ≠ 0) : (g * n).fdiv g = n := by
  rw [Int.mul_comm]; exact Int.mul_fdiv_cancel n hg
theorem J3 {t b : Int} (hb : b ≠ 0) : 0 < Int.gcd t b := Int.gcd_pos_of_ne_zero_right t hb
theorem N7 {t b n d : Int} (hb : b ≠ 0) (h1 : t = (Int.gcd t b : Int) * n) (h2 : b = (Int.gcd t b : Int) * d) : Int.gcd n d = 1 := by
  have hg := J3 (t := t) hb
  have e : Int.gcd ((Int.gcd t b : Int) * n) ((Int.gcd t b : Int) * d) = Int.gcd t b * Int.gcd n d := by
    rw [Int.gcd_mul_left]; simp
  rw [← h1, ← h2] at e
  exact Nat.eq_of_mul_eq_mul_left hg (by rw [← e, Nat.mul_one])
theorem aA3 {t b g : Int} (hb : b ≠ 0) (hg : g = if b < 0 then -(Int.gcd t b : Int) else (Int.gcd t b : Int)) : t.fdiv g = (Rat.divInt t b).num ∧ b.fdiv g = ((Rat.divInt t b).den : Int) := by
  have hp : (0 : Int) < Int.gcd t b := by have := J3 (t := t) hb; omega
  obtain ⟨n, hn⟩ := Int.gcd_dvd_left t b
  obtain ⟨d, hd⟩ := Int.gcd_dvd_right t b
  have hc := N7 hb hn hd
  by_cases hs : b < 0
  · rw [if_pos hs] at hg
    subst hg
    have hg0 : (-(Int.gcd t b : Int)) ≠ 0 := by omega
    have e1 : t = -(Int.gcd t b : Int) * (-n) := by rw [Int.neg_mul_neg]; exact hn
    have e2 : b = -(Int.gcd t b : Int) * (-d) := by rw [Int.neg_mul_neg]; exact hd
    have f1 : t.fdiv (-(Int.gcd t b : Int)) = -n := by conv => lhs; arg 1; rw [e1]
                                                       exact i9 hg0
    have f2 : b.fdiv (-(Int.gcd t b : Int)) = -d := by conv => lhs; arg 1; rw [e2]
                                                       exact i9 hg0
    rw [f1, f2]
    have hd0 : 0 < -d := by
      rcases Int.lt_or_le d 0 with z | z
      · omega
      · have := Int.mul_nonneg (Int.le_of_lt hp) z; omega
    refine J4 hd0 (by rw [Int.gcd_neg, Int.neg_gcd]; exact hc) hb ?_
    conv => lhs; rw [hd]
    conv => rhs; rw [hn]
    generalize (Int.gcd t b : Int) = g
    grind
  · rw [if_neg hs] at hg
    subst hg
    have hg0 : ((Int.gcd t b : Int)) ≠ 0 := by omega
    have f1 : t.fdiv (Int.gcd t b : Int) = n := by conv => lhs; arg 1; rw [hn]
                                                   exact i9 hg0
    have f2 : b.fdiv (Int.gcd t b : Int) = d := by conv => lhs; arg 1; rw [hd]
                                                   exact i9 hg0
    rw [f1, f2]
    have hd0 : 0 < d := by
      rcases Int.lt_or_le 0 d with z | z
      · exact z
      · have := Int.mul_nonneg (Int.le_of_lt hp) (show 0 ≤ -d by omega); rw [Int.mul_neg] at this; omega
    refine J4 hd0 hc hb ?_
    conv => lhs; rw [hd]
    conv => rhs; rw [hn]
    generalize (Int.gcd t b : Int) = g
    grind
theorem ak2 {x y : Int} (h : ∀ k : Int, k ∣ x → k ∣ y → k ∣ 1) : Int.gcd x y = 1 := by
  have := h (Int.gcd x y : Int) (Int.gcd_dvd_left x y) (Int.gcd_dvd_right x y)
  have h2 := Int.natAbs_dvd_natAbs.mpr this
  simpa using h2
theorem aq7 {x y k : Int} (h : Int.gcd x y = 1) (h1 : k ∣ x) (h2 : k ∣ y) : k ∣ 1 := by
  have := Int.dvd_coe_gcd h1 h2
  rw [h] at this
  simpa using this
theorem N8 {k m n : Int} (h1 : Int.gcd k m = 1) (h2 : Int.gcd k n = 1) : Int.gcd k (m * n) = 1 := by
  rw [Int.gcd_eq_natAbs_gcd_natAbs] at *
  rw [Int.natAbs_mul]
  exact Nat.Coprime.mul_right h1 h2
theorem Z9 {k m : Int} (h1 : Int.gcd k m = 1) : Int.gcd m k = 1 := by rw [Int.gcd_comm]; exact h1
theorem aB0 {k m n : Int} (h1 : Int.gcd k m = 1) (h : n ∣ m) : Int.gcd k n = 1 := ak2 fun j a b => aq7 h1 a (Int.dvd_trans b h)
theorem ai0 {k m n : Int} (h1 : Int.gcd k m = 1) (h : n ∣ k) : Int.gcd n m = 1 := ak2 fun j a b => aq7 h1 (Int.dvd_trans a h) b
theorem aR7 {a b c d g1 g2 : Int} (hb : 0 < b) (hd : 0 < d) (h1 : Int.gcd a b = 1) (h2 : Int.gcd c d = 1) (hg1 : g1 = (Int.gcd a d : Int)) (hg2 : g2 = (Int.gcd c b : Int)) :
    0 < b.fdiv g2 * d.fdiv g1 ∧ Int.gcd (a.fdiv g1 * c.fdiv g2) (b.fdiv g2 * d.fdiv g1) = 1 ∧ (a.fdiv g1 * c.fdiv g2) * (b * d) = (a * c) * (b.fdiv g2 * d.fdiv g1) := by
  have p1 : 0 < g1 := by rw [hg1]; have := J3 (t := a) (b := d) (by omega); omega
  have p2 : 0 < g2 := by rw [hg2]; have := J3 (t := c) (b := b) (by omega); omega
  obtain ⟨a', ha'⟩ : g1 ∣ a := hg1 ▸ Int.gcd_dvd_left a d
  obtain ⟨d', hd'⟩ : g1 ∣ d := hg1 ▸ Int.gcd_dvd_right a d
  obtain ⟨c', hc'⟩ : g2 ∣ c := hg2 ▸ Int.gcd_dvd_left c b
  obtain ⟨b', hb'⟩ : g2 ∣ b := hg2 ▸ Int.gcd_dvd_right c b
  have c1 : Int.gcd a' d' = 1 := N7 (t := a) (b := d) (by omega) (by rw [← hg1]; exact ha') (by rw [← hg1]; exact hd')
  have c2 : Int.gcd c' b' = 1 := N7 (t := c) (b := b) (by omega) (by rw [← hg2]; exact hc') (by rw [← hg2]; exact hb')
  have ea : a.fdiv g1 = a' := by rw [ha']; exact i9 (by omega)
  have ed : d.fdiv g1 = d' := by rw [hd']; exact i9 (by omega)
  have ec : c.fdiv g2 = c' := by rw [hc']; exact i9 (by omega)
  have eb : b.fdiv g2 = b' := by rw [hb']; exact i9 (by omega)
  rw [ea, ed, ec, eb]
  have bp : 0 < b' := by
    rcases Int.lt_or_le 0 b' with z | z
    · exact z
    · have := Int.mul_nonneg (Int.le_of_lt p2) (show 0 ≤ -b' by omega); rw [Int.mul_neg] at this; omega
  have dp : 0 < d' := by
    rcases Int.lt_or_le 0 d' with z | z
    · exact z
    · have := Int.mul_nonneg (Int.le_of_lt p1) (show 0 ≤ -d' by omega); rw [Int.mul_neg] at this; omega
  have x1 : Int.gcd a' b' = 1 := aB0 (ai0 h1 (ha' ▸ Int.dvd_mul_left _ _)) (hb' ▸ Int.dvd_mul_left _ _)
  have x2 : Int.gcd c' d' = 1 := aB0 (ai0 h2 (hc' ▸ Int.dvd_mul_left _ _)) (hd' ▸ Int.dvd_mul_left _ _)
  refine ⟨Int.mul_pos bp dp, Z9 (N8 (Z9 (N8 x1 c1)) (Z9 (N8 c2 x2))), ?_⟩
  rw [ha', hb', hc', hd']
  grind
theorem ag4 (q : Rat) : Int.gcd q.num q.den = 1 := by
  rw [Int.gcd_eq_natAbs_gcd_natAbs]
  simpa using q.reduced
theorem t7 (q : Rat) : (0 : Int) < q.den := by have := q.den_nz; omega
theorem aJ1 (p q : Rat) : p + q = Rat.divInt (p.num * q.den + q.num * p.den) (p.den * q.den) := by
  have h1 := t7 p
  have h2 := t7 q
  conv => lhs; rw [← Rat.num_divInt_den p, ← Rat.num_divInt_den q]
  exact Rat.divInt_add_divInt _ _ (by omega) (by omega)
theorem ae3 (p q : Rat) : p * q = Rat.divInt (p.num * q.num) (p.den * q.den) := by
  conv => lhs; rw [← Rat.num_divInt_den p, ← Rat.num_divInt_den q]
  exact Rat.divInt_mul_divInt _ _
theorem aF4 (a b : Int) : Int.gcd b (a.fmod b) = Int.gcd a b := by
  have e := Int.mul_fdiv_add_fmod a b
  rw [Int.gcd_comm a b]
  conv => rhs; rw [← e]
  rw [show b * a.fdiv b + a.fmod b = a.fmod b + a.fdiv b * b by rw [Int.mul_comm, Int.add_comm]]
  simp
theorem Y9 (a : Int) {b : Int} (hb : b ≠ 0) : (a.fmod b).natAbs < b.natAbs := by
  rcases Int.lt_or_le b 0 with h | h
  · have e := Int.neg_fmod_neg a b
    have h1 := Int.fmod_nonneg_of_pos (-a) (show 0 < -b by omega)
    have h2 := Int.fmod_lt_of_pos (-a) (show 0 < -b by omega)
    omega
  · have h1 := Int.fmod_nonneg_of_pos a (show 0 < b by omega)
    have h2 := Int.fmod_lt_of_pos a (show 0 < b by omega)
    omega
open PySem L2 PyProof.Rows
section
variable {P : Program} {w : World} {K : PySem.W.Frag} {mg : Str → Option Value} {base : Heap}
theorem N3 {a : Int} {m : Nat} (h : a.natAbs < 2 ^ m) : Builtin.Int.intBits a ≤ m := by
  unfold Builtin.Int.intBits
  split
  · exact Nat.zero_le _
  · rename_i hz
    have h0 : a.natAbs ≠ 0 := by
      intro z
      have : a = 0 := by omega
      simp [this] at hz
    have := (Nat.log2_lt h0).mpr h
    omega
theorem R1 {a b : Int} {m n : Nat} (ha : a.natAbs < 2 ^ m) (hb : b.natAbs < 2 ^ n) (h : m + n ≤ 134217728 := by decide) : IntMulOk a b := IntMulOk.of_le (N3 ha) (N3 hb) h
theorem P1 {j : Int} (h0 : j ≠ 0) (h : j.natAbs < 2 ^ 9000) : as1 i j := ⟨h0, (Nat.log2_lt (by omega)).mpr h⟩
theorem d4 {m n : Nat} (h : m ≤ n) : 2 ^ m ≤ 2 ^ n := Nat.pow_le_pow_right (by decide) h
theorem M0 {a : Nat} {m n : Nat} (h : a < 2 ^ m) (hm : m ≤ n := by decide) : a < 2 ^ n := Nat.lt_of_lt_of_le h (d4 hm)
def w9 (q : Rat) : List V := [.int q.num, .int (q.den : Int)]
structure Bd (q : Rat) : Prop where
  n : q.num.natAbs < 2 ^ 3000
  d : q.den < 2 ^ 3000
def Num (K : PySem.W.Frag) (H : Hp) (v : V) (q : Rat) : Prop := ∃ p, v = .ref p ∧ SqT K H p (w9 q)
def aB4 (H : Hp) (Q : VK) (q : Rat) : Prop := ∀ r H', d5 H H' → H' r = some (.tup (w9 q)) → Q (.ref r) H'
theorem Num.same {K : PySem.W.Frag} {H H' : Hp} {v : V} {q : Rat} (n : Num K H v q) (e : d5 H H') : Num K H' v q := let ⟨p, h1, h2⟩ := n; ⟨p, h1, e.tup h2⟩
theorem v8 : (2 : Nat) ≤ sizeLine := by decide
theorem aT0 : (1 : Nat) ≤ sizeLine := by decide
theorem aq1 {a b : Int} {n : Nat} (hb : b ≠ 0) (h : b.natAbs < n) : ((Int.gcd a b : Nat) : Int).natAbs < n := by
  have h1 : Int.gcd a b ∣ b.natAbs := by
    have := Int.natAbs_dvd_natAbs.mpr (Int.gcd_dvd_right a b)
    simpa using this
  have h2 := Nat.le_of_dvd (by omega) h1
  simp only [Int.natAbs_natCast]
  omega
theorem aF3 {a b : Int} {n : Nat} (hb : a ≠ 0) (h : a.natAbs < n) : ((Int.gcd a b : Nat) : Int).natAbs < n := by
  rw [Int.gcd_comm]; exact aq1 hb h
theorem W5 {a g : Int} (hg : 0 < g) (hd : g ∣ a) : (a.fdiv g).natAbs ≤ a.natAbs := by
  obtain ⟨n, rfl⟩ := hd
  rw [i9 (by omega), Int.natAbs_mul]
  exact Nat.le_mul_of_pos_left _ (by omega)
theorem Q8 {q : Rat} : q.num = 0 ↔ q = 0 := by
  constructor
  · intro h; exact Rat.num_eq_zero.mp h
  · intro h; rw [h]; rfl
theorem at0 (q : Rat) : atI (w9 q) 0 = some (.int q.num) := rfl
theorem at1 (q : Rat) : atI (w9 q) 1 = some (.int (q.den : Int)) := rfl
theorem bi6 {a b : Int} (h : a.natAbs < 2 ^ 64) : IntMulOk a b := IntMulOk.of_left (N3 h)
theorem aw0 {a b : Int} (h : b.natAbs < 2 ^ 64) : IntMulOk a b := IntMulOk.of_right (N3 h)
def au6 : Sp := fun vs H Q _ => ∃ t b : Int, vs = [.int t, .int b] ∧ b ≠ 0 ∧ b.natAbs < 2 ^ 6000 ∧ aB4 H Q (Rat.divInt t b)
def j8 (H : Hp) (u : Addr) : Prop := ∃ g m p : Int, H u = some (.lst [.int g, .int m, .int p]) ∧ 0 ≤ g ∧ 0 ≤ m ∧ m < 2 ^ 40 ∧ 0 < p ∧ p < 2 ^ 40
def o0 (u : Addr) (H H' : Hp) : Prop := ∀ b o, H b = some o → b ≠ u → H' b = some o
theorem d5.x {H H' : Hp} (s : d5 H H') (u : Addr) : o0 u H H' := fun b o h _ => s b o h
theorem o0.trans {u : Addr} {H H1 H2 : Hp} (a : o0 u H H1) (b : o0 u H1 H2) : o0 u H H2 := fun c o h n => b c o (a c o h n) n
theorem o0.upd (u : Addr) (H : Hp) (o : HO) : o0 u H (upd H u o) := fun b p h n => by rw [e9 n]; exact h
theorem d5.urn {H H' : Hp} {u : Addr} (s : d5 H H') (h : j8 H u) : j8 H' u := let ⟨g, m, p, h1, r⟩ := h; ⟨g, m, p, s _ _ h1, r⟩
def bf1 (K : PySem.W.Frag) : Sp := fun vs H Q _ => ∃ (a : Addr) (ns : List Int) (k : Int), vs = [.ref a, .int k] ∧ SqL K H a (ns.map V.int) ∧ 0 ≤ k ∧ k < 64 ∧ ∀ r H', d5 H H' → H r = none → j8 H' r → Q (.ref r) H'
def bh4 : List V := [.int 1899999979, .int 1899998977, .int 1899997949, .int 1899996929, .int 1899995927, .int 1899994903, .int 1899993877, .int 1899992839]
theorem aU2 {k : Int} (h0 : 0 ≤ k) : ∃ p : Int, atI bh4 (k.fmod 8) = some (.int p) ∧ 1899992839 ≤ p ∧ p ≤ 1899999979 := by
  have h1 := Int.fmod_nonneg_of_pos k (show (0 : Int) < 8 by decide)
  have h2 := Int.fmod_lt_of_pos k (show (0 : Int) < 8 by decide)
  have h3 : k.fmod 8 = 0 ∨ k.fmod 8 = 1 ∨ k.fmod 8 = 2 ∨ k.fmod 8 = 3 ∨ k.fmod 8 = 4 ∨ k.fmod 8 = 5 ∨ k.fmod 8 = 6 ∨ k.fmod 8 = 7 := by omega
  rcases h3 with h | h | h | h | h | h | h | h <;> rw [h] <;> exact ⟨_, rfl, by decide, by decide⟩
theorem aQ2 {ns : List Int} {k : Int} (h0 : 0 ≤ k) (h : k < (ns.length : Int)) : ∃ v : Int, atI (ns.map V.int) k = some (.int v) := by
  have hk : k.toNat < ns.length := by omega
  have ek : k = ((k.toNat : Nat) : Int) := by omega
  have q : atI (ns.map V.int) ((k.toNat : Nat) : Int) = some (.int ns[k.toNat]) := S9 (by rw [List.getElem?_map, List.getElem?_eq_getElem hk] <;> rfl)
  rw [← ek] at q
  exact ⟨_, q⟩
def D7 : Sp := fun vs H Q _ => ∃ (u : Addr) (n : Int), vs = [.ref u, .int n] ∧ j8 H u ∧ 0 < n ∧ n < 2 ^ 40 ∧ ∀ r H', 0 ≤ r → r < n → o0 u H H' → j8 H' u → Q (.int r) H'
structure Sm (q : Rat) : Prop where
  n : q.num.natAbs ≤ 10 ^ 12
  d : q.den ≤ 10 ^ 12
theorem M1 {t b : Int} (hb : b ≠ 0) : (Rat.divInt t b).num.natAbs ≤ t.natAbs ∧ (Rat.divInt t b).den ≤ b.natAbs := by
  have hp := J3 (t := t) hb
  obtain ⟨e1, e2⟩ := aA3 (t := t) (b := b) (g := if b < 0 then -(Int.gcd t b : Int) else (Int.gcd t b : Int)) hb rfl
  have key : ∀ x : Int, (Int.gcd t b : Int) ∣ x → (x.fdiv (if b < 0 then -(Int.gcd t b : Int) else (Int.gcd t b : Int))).natAbs ≤ x.natAbs := by
    rintro x ⟨n, hn⟩
    split
    · have : x = -(Int.gcd t b : Int) * (-n) := by rw [Int.neg_mul_neg]; exact hn
      rw [this, i9 (by omega), Int.natAbs_mul]
      exact Nat.le_mul_of_pos_left _ (by omega)
    · rw [hn, i9 (by omega), Int.natAbs_mul]
      exact Nat.le_mul_of_pos_left _ (by omega)
  have k1 := key t (Int.gcd_dvd_left t b)
  have k2 := key b (Int.gcd_dvd_right t b)
  rw [e1] at k1
  rw [e2] at k2
  exact ⟨k1, by omega⟩
theorem bl6 {t b : Int} (hb : b ≠ 0) (h1 : t.natAbs ≤ 10 ^ 12) (h2 : b.natAbs ≤ 10 ^ 12) : Sm (Rat.divInt t b) := by
  obtain ⟨e1, e2⟩ := M1 (t := t) hb
  exact ⟨by omega, by omega⟩
def aG6 : Sp := fun vs H Q _ => ∃ u, vs = [.ref u] ∧ j8 H u ∧ ∀ r H', r = 0 ∨ r = 1 ∨ r = 2 → o0 u H H' → j8 H' u → Q (.int r) H'
theorem A6 {H : Hp} {u l : Addr} (hu : j8 H u) (hl : H l = none) : l ≠ u := by
  obtain ⟨g, m, p, h, r⟩ := hu
  exact (d8 h hl).symm
theorem A9 {H : Hp} {u l : Addr} {o : HO} (hu : j8 H u) (hl : H l = none) : j8 (upd H l o) u := by
  obtain ⟨g, m, p, h, r⟩ := hu
  exact ⟨g, m, p, by rw [e9 (d8 h hl)]; exact h, r⟩
def spNumber : Sp := fun vs H Q _ => ∃ u kd, vs = [.ref u, .int kd] ∧ j8 H u ∧ ∀ r q H', Sm q → o0 u H H' → j8 H' u → H' r = some (.tup (w9 q)) → Q (.ref r) H'
def af4 : Sp := fun vs H Q _ => ∃ i : Int, vs = [.int i] ∧ Q (.bl true) H
theorem aE8 : PySem.W.kitOne K (.type "int") (.type "int") = some true := by unfold PySem.W.kitOne; rw [if_pos (by decide)]
theorem aA4 : PySem.W.kitOne K (.type "int") (.type "bool") = some false := by kernel_rfl
theorem ak5 : PySem.W.kitOne K (.type "tuple") (.type "tuple") = some true := by unfold PySem.W.kitOne; rw [if_pos (by decide)]
def O8 (q : Rat) : D := .tup [.v (.int q.num), .v (.int (q.den : Int))]
theorem ah5 {H : Hp} {a : Addr} {q : Rat} (h : SqT K H a (w9 q)) : IsD K H (.ref a) (O8 q) := .tup h (.cons (.v rfl) (.cons (.v rfl) .nil))
theorem aL3 (q : Rat) : eqD (O8 q) (O8 q) = true := by simp [O8, eqD, F7, eqV]
theorem aA1 (p q : Rat) : okD (O8 p) (O8 q) = true := by simp [O8, okD, R8]
theorem aX9 (q : Rat) : dpD (O8 q) ≤ 60 := by simp [O8, dpD, Z6]
def aK1 (K : PySem.W.Frag) : Sp := fun vs H Q _ => ∃ x q, vs = [x] ∧ (∃ p, x = .ref p ∧ SqT K H p (w9 q)) ∧ (q.den : Int).natAbs < 2 ^ 6000 ∧ ∀ H', d5 H H' → Q (.bl true) H'
end
open PySem L2 PyProof.Rows
inductive m6 (H : Hp) : List V → List Rat → Prop where
  | nil : m6 H [] []
  | cons {p : Addr} {q : Rat} {vs : List V} {qs : List Rat} (h : H p = some (.tup (w9 q))) (t : m6 H vs qs) : m6 H (.ref p :: vs) (q :: qs)
def K9 (H H' : Hp) : Prop := ∀ b xs, H b = some (.tup xs) → H' b = some (.tup xs)
theorem K9.trans {H H1 H2 : Hp} (a : K9 H H1) (b : K9 H1 H2) : K9 H H2 := fun c xs h => b c xs (a c xs h)
theorem _root_.L2.d5.tups {H H' : Hp} (s : d5 H H') : K9 H H' := fun b xs h => s b _ h
theorem o0.tups {u : Addr} {H H' : Hp} (s : o0 u H H') (hu : j8 H u) : K9 H H' := fun b xs h => by
  obtain ⟨g, m, p, e, _⟩ := hu
  exact s b _ h (bf7 h e (by intro z; cases z))
theorem K9.lst {H : Hp} {a : Addr} {xs : List V} {o : HO} (h : H a = some (.lst xs)) : K9 H (upd H a o) := fun b ys e => by
  rw [e9 (bf7 e h (by intro z; cases z))]; exact e
theorem K9.new {H : Hp} {a : Addr} {o : HO} (h : H a = none) : K9 H (upd H a o) := (d5.new h o).tups
theorem m6.mono {H H' : Hp} (e : K9 H H') : ∀ {vs : List V} {qs : List Rat}, m6 H vs qs → m6 H' vs qs
  | _, _, .nil => .nil
  | _, _, .cons h t => .cons (e _ _ h) (t.mono e)
theorem m6.length {H : Hp} : ∀ {vs : List V} {qs : List Rat}, m6 H vs qs → vs.length = qs.length
  | _, _, .nil => rfl
  | _, _, .cons _ t => congrArg (· + 1) t.length
theorem m6.take {H : Hp} : ∀ {vs : List V} {qs : List Rat} (m : Nat), m6 H vs qs → m6 H (vs.take m) (qs.take m)
  | _, _, 0, _ => by simp; exact .nil
  | _, _, _ + 1, .nil => .nil
  | _, _, m + 1, .cons h t => .cons h (t.take m)
theorem m6.drop {H : Hp} : ∀ {vs : List V} {qs : List Rat} (m : Nat), m6 H vs qs → m6 H (vs.drop m) (qs.drop m)
  | _, _, 0, h => h
  | _, _, _ + 1, .nil => .nil
  | _, _, m + 1, .cons h t => t.drop m
theorem m6.append {H : Hp} : ∀ {vs ws : List V} {qs rs : List Rat}, m6 H vs qs → m6 H ws rs → m6 H (vs ++ ws) (qs ++ rs)
  | _, _, _, _, .nil, b => b
  | _, _, _, _, .cons h t, b => .cons h (t.append b)
theorem m6.get {H : Hp} : ∀ {vs : List V} {qs : List Rat} {i : Nat} {q : Rat}, m6 H vs qs → qs[i]? = some q → ∃ p, vs[i]? = some (.ref p) ∧ H p = some (.tup (w9 q))
  | _, _, _, _, .nil, e => by simp at e
  | _, _, 0, _, .cons h t, e => by
    have := Option.some.inj e
    subst this
    exact ⟨_, rfl, h⟩
  | _, _, i + 1, _, .cons h t, e => by
    obtain ⟨p, e1, e2⟩ := t.get (i := i) (by simpa using e)
    exact ⟨p, by simpa using e1, e2⟩
theorem m6.getV {H : Hp} : ∀ {vs : List V} {qs : List Rat} {i : Nat} {v : V}, m6 H vs qs → vs[i]? = some v → ∃ p q, v = .ref p ∧ qs[i]? = some q ∧ H p = some (.tup (w9 q))
  | _, _, _, _, .nil, e => by simp at e
  | _, _, 0, _, .cons h t, e => by
    have := Option.some.inj e
    subst this
    exact ⟨_, _, rfl, rfl, h⟩
  | _, _, i + 1, _, .cons h t, e => by
    obtain ⟨p, q, e0, e1, e2⟩ := t.getV (i := i) (by simpa using e)
    exact ⟨p, q, e0, by simpa using e1, e2⟩
theorem m6.isDs {K : PySem.W.Frag} {H : Hp} : ∀ {vs : List V} {qs : List Rat}, m6 H vs qs → aa3 K H vs (qs.map O8)
  | _, _, .nil => .nil
  | _, _, .cons h t => .cons (ah5 (SqT.of h)) t.isDs
theorem ba2 {p q : Rat} (h1 : p.num = q.num) (h2 : p.den = q.den) : p = q := by
  cases p; cases q; simp at h1 h2; subst h1 h2; rfl
theorem aF5 (p q : Rat) : eqD (O8 p) (O8 q) = decide (p = q) := by
  by_cases h : p = q
  · subst h; rw [aL3]; simp
  · rw [decide_eq_false h]
    simp only [O8, eqD, F7, eqV, Bool.and_true]
    by_cases h1 : p.num = q.num
    · have h2 : p.den ≠ q.den := fun z => h (ba2 h1 z)
      have : ((p.den : Int) == (q.den : Int)) = false := by
        rw [beq_eq_false_iff_ne]; intro z; exact h2 (by omega)
      rw [this, Bool.and_false]
    · have : (p.num == q.num) = false := by rw [beq_eq_false_iff_ne]; exact h1
      rw [this, Bool.false_and]
theorem aw6 : ∀ ps qs : List Rat, F7 (ps.map O8) (qs.map O8) = decide (ps = qs)
  | [], [] => by simp [F7]
  | [], _ :: _ => by simp [F7]
  | _ :: _, [] => by simp [F7]
  | p :: ps, q :: qs => by
    rw [List.map_cons, List.map_cons, F7, aF5, aw6 ps qs]
    by_cases h1 : p = q <;> by_cases h2 : ps = qs <;> simp [h1, h2]
theorem av8 : ∀ ps qs : List Rat, R8 (ps.map O8) (qs.map O8) = true
  | [], [] => by simp [R8]
  | [], _ :: _ => by simp [R8]
  | _ :: _, [] => by simp [R8]
  | p :: ps, q :: qs => by rw [List.map_cons, List.map_cons, R8, aA1, av8 ps qs]; rfl
theorem aw9 : ∀ qs : List Rat, Z6 (qs.map O8) ≤ 1
  | [] => by simp [Z6]
  | q :: qs => by
    have h1 : dpD (O8 q) ≤ 1 := by simp [O8, dpD, Z6]
    have h2 := aw9 qs
    rw [List.map_cons, Z6]
    omega
def A5 (qs : List Rat) : D := .lst (qs.map O8)
theorem A8 {K : PySem.W.Frag} {H : Hp} {a : Addr} {vs : List V} {qs : List Rat} (h : SqL K H a vs) (n : m6 H vs qs) : IsD K H (.ref a) (A5 qs) := .lst h n.isDs
theorem G9 (ps qs : List Rat) : eqD (A5 ps) (A5 qs) = decide (ps = qs) := by unfold A5; rw [eqD, aw6]
theorem K2 (ps qs : List Rat) : okD (A5 ps) (A5 qs) = true := by unfold A5; rw [okD, av8]
theorem N6 (qs : List Rat) : dpD (A5 qs) ≤ 2 := by unfold A5; rw [dpD]; have := aw9 qs; omega
structure v3 (qs : List Rat) (m : Nat) : Prop where
  le : m ≤ qs.length
  zero : ∀ (i : Nat) (q : Rat), m ≤ i → qs[i]? = some q → q = 0
  last : m ≠ 0 → ∀ q, qs[m - 1]? = some q → q ≠ 0
theorem v3.uniq {qs : List Rat} {m n : Nat} (a : v3 qs m) (b : v3 qs n) : m = n := by
  have key : ∀ {m n : Nat}, v3 qs m → v3 qs n → ¬ m < n := by
    intro m n a b h
    have hn : n - 1 < qs.length := by have := b.le; omega
    exact b.last (by omega) _ (List.getElem?_eq_getElem hn) (a.zero (n - 1) _ (by omega) (List.getElem?_eq_getElem hn))
  have := key a b
  have := key b a
  omega
theorem v3.self {qs : List Rat} {m : Nat} (a : v3 qs m) : v3 (qs.take m) m := by
  have hl : (qs.take m).length = m := by rw [List.length_take]; have := a.le; omega
  refine ⟨by omega, fun i q hi e => ?_, fun h q e => ?_⟩
  · rw [List.getElem?_eq_none (by omega)] at e; cases e
  · rw [List.getElem?_take_of_lt (by omega)] at e
    exact a.last h q e
def evs {α : Type} : List α → List α
  | [] => []
  | [x] => [x]
  | x :: _ :: r => x :: evs r
def ods {α : Type} (xs : List α) : List α := evs xs.tail
theorem aq4 {α : Type} (x : α) : ∀ ys : List α, evs (ys ++ [x]) = if ys.length % 2 = 0 then evs ys ++ [x] else evs ys
  | [] => rfl
  | [y] => rfl
  | y :: z :: r => by
    have ih := aq4 x r
    show y :: evs (r ++ [x]) = _
    rw [ih]
    have : (y :: z :: r).length % 2 = r.length % 2 := by simp only [List.length_cons]; omega
    rw [this]
    split <;> rfl
theorem aV6 {α : Type} (x : α) (ys : List α) : ods (ys ++ [x]) = if ys.length % 2 = 1 then ods ys ++ [x] else ods ys := by
  cases ys with
  | nil => rfl
  | cons y r =>
    show evs (r ++ [x]) = _
    rw [aq4]
    have : ((y :: r).length % 2 = 1) ↔ (r.length % 2 = 0) := by simp only [List.length_cons]; omega
    by_cases h : r.length % 2 = 0
    · rw [if_pos h, if_pos (this.mpr h)]; rfl
    · rw [if_neg h, if_neg (fun z => h (this.mp z))]; rfl
theorem aA7 {α : Type} : ∀ xs : List α, (evs xs).length ≤ xs.length
  | [] => Nat.le_refl _
  | [_] => Nat.le_refl _
  | _ :: _ :: r => by have := aA7 r; simp only [evs, List.length_cons]; omega
theorem bb2 {α : Type} (xs : List α) : (ods xs).length ≤ xs.length := by
  have := aA7 xs.tail
  rw [List.length_tail] at this
  unfold ods; omega
theorem ar4 (vs : List V) {m : Nat} (h : m ≤ vs.length) : Z8 vs none (some (m : Int)) = vs.take m := by
  unfold Z8
  have e1 : HT.sIx vs.length 0 none = 0 := by simp [HT.sIx]
  have e2 : HT.sIx vs.length vs.length (some (m : Int)) = m := by
    simp only [HT.sIx]
    split <;> omega
  rw [e1, e2]; simp
end R
set_option maxRecDepth 100000
namespace L2
open PySem PySem.Spec PyProof.Rows
def WhN (Pv : St → Hp → Prop) (μ : St → Hp → Nat) (m : Nat) : St → Hp → Prop := fun σ' H' => ∃ m', m' < m ∧ (m' = μ σ' H' ∧ Pv σ' H')
theorem WhN.mk {Pv : St → Hp → Prop} {μ : St → Hp → Nat} {m : Nat} {σ' : St} {H' : Hp} (h : Pv σ' H') (l : μ σ' H' < m) : WhN Pv μ m σ' H' := ⟨_, l, rfl, h⟩
def WhB (tb : TS) (D : ab8) (Pv : St → Hp → Prop) (μ : St → Hp → Nat) (m : Nat) (σ : St) (H1 : Hp) : Prop :=
  ∃ N : St → Hp → Prop, (∀ σ' H', N σ' H' → ∃ m', m' < m ∧ (m' = μ σ' H' ∧ Pv σ' H')) ∧ tb { D with nx := N, ct := N, bk := D.nx } σ H1
theorem WhB.mk {tb : TS} {D : ab8} {Pv : St → Hp → Prop} {μ : St → Hp → Nat} {m : Nat} {σ : St} {H1 : Hp} (h : tb { D with nx := WhN Pv μ m, ct := WhN Pv μ m, bk := D.nx } σ H1) : WhB tb D Pv μ m σ H1 := ⟨_, fun _ _ n => n, h⟩
theorem T9 {c : TT} {tb : TS} {D : ab8} {σ : St} {H : Hp} (Pv : St → Hp → Prop) (μ : St → Hp → Nat) (h0 : Pv σ H)
    (hs : ∀ σ H, Pv σ H → c σ H fun b H1 => if b = true then WhB tb D Pv μ (μ σ H) σ H1 else D.nx σ H1) : ai2 c tb D σ H := by
  refine ⟨fun m σ H => m = μ σ H ∧ Pv σ H, ⟨_, rfl, h0⟩, ?_⟩
  rintro m σ H ⟨rfl, p⟩
  exact hs σ H p
theorem d5.over {H H1 : Hp} {l : Addr} (s : d5 H H1) (hl : H l = none) (o : HO) : d5 H (upd H1 l o) := fun b u h => by
  rw [e9 (d8 h hl)]; exact s b u h
def ai1 (J : It) (D : Addr) (σ0 : St) (H0 : Hp) (g : TG) (te : TE) (Q : VK) : Prop := ∃ W : Nat → Nat → St → Hp → Prop, (∃ m, W 0 m σ0 H0) ∧
  ∀ i m σc H2, W i m σc H2 → (J.stop i H2 ∧ Q (.ref D) H2) ∨
    (J.go i H2 ∧ ∀ x H3, J.yld i H2 x H3 → g x σc H3 fun σ4 H4 => te σ4 H4 fun y H5 => ∃ ys, H5 D = some (.lst ys) ∧ ys.length < sizeLine ∧ ∃ m', m' < m ∧ W (i + 1) m' σ4 (upd H5 D (.lst (ys ++ [y]))))
theorem af3 (wi : TI) (caps : List (Option Nat)) (g : TG) (te : TE) : aS2 wi caps g te = fun σ H Q => wi σ H fun J H1 => ∀ D, H1 D = none → ai1 J D (M2 caps σ) (upd H1 D (.lst [])) g te Q := rfl
def aZ1 (J : It) (D : Addr) (σ0 : St) (H0 : Hp) (g : TG) (tt : TT) (te : TE) (Q : VK) : Prop := ∃ W : Nat → Nat → St → Hp → Prop, (∃ m, W 0 m σ0 H0) ∧
  ∀ i m σc H2, W i m σc H2 → (J.stop i H2 ∧ Q (.ref D) H2) ∨
    (J.go i H2 ∧ ∀ x H3, J.yld i H2 x H3 → g x σc H3 fun σ4 H4 => tt σ4 H4 fun b H4' => if b = true then te σ4 H4' fun y H5 => ∃ ys, H5 D = some (.lst ys) ∧ ys.length < sizeLine ∧ ∃ m', m' < m ∧ W (i + 1) m' σ4 (upd H5 D (.lst (ys ++ [y])))
      else ∃ m', m' < m ∧ W (i + 1) m' σ4 H4')
theorem V4 (wi : TI) (caps : List (Option Nat)) (g : TG) (tt : TT) (te : TE) : aJ8 wi caps g tt te = fun σ H Q => wi σ H fun J H1 => ∀ D, H1 D = none → aZ1 J D (M2 caps σ) (upd H1 D (.lst [])) g tt te Q := rfl
section
variable {K : PySem.W.Frag} {a D : Addr} {xs : List V} {g : TG} {te : TE} {σ0 : St} {H0 : Hp} {Q : VK}
theorem P8 (xs : List V) (Pv : Nat → St → Hp → Prop) (h0 : Pv 0 σ0 H0) (hl : ∀ i σ H, i ≤ xs.length → Pv i σ H → SqL K H a xs)
    (hs : ∀ i x σ H, xs[i]? = some x → Pv i σ H → g x σ H fun σ4 H4 => te σ4 H4 fun y H5 => J1 D xs.length Pv i σ4 y H5) (hd : ∀ σ H, Pv xs.length σ H → Q (.ref D) H) : ai1 (Itl K a) D σ0 H0 g te Q := aP7 Pv h0 hl hs hd
theorem aY2 {lo : Int} {n : Nat} (Pv : Nat → St → Hp → Prop) (h0 : Pv 0 σ0 H0)
    (hs : ∀ i σ H, i < n → Pv i σ H → g (.int (lo + i)) σ H fun σ4 H4 => te σ4 H4 fun y H5 => J1 D n Pv i σ4 y H5) (hd : ∀ σ H, Pv n σ H → Q (.ref D) H) : ai1 (Itr lo n) D σ0 H0 g te Q := aJ0 Pv h0 hs hd
theorem aP6 {tt : TT} (xs : List V) (Pv : Nat → St → Hp → Prop) (h0 : Pv 0 σ0 H0) (hl : ∀ i σ H, i ≤ xs.length → Pv i σ H → SqL K H a xs)
    (hs : ∀ i x σ H p, xs[i]? = some x → Pv i σ H → H p = none → g (.ref p) σ (upd H p (.tup [.int i, x])) fun σ4 H4 => tt σ4 H4 fun b H4' => if b = true then te σ4 H4' fun y H5 => J1 D xs.length Pv i σ4 y H5 else aG2 xs.length Pv i σ4 H4')
    (hd : ∀ σ H, Pv xs.length σ H → Q (.ref D) H) : aZ1 (Ite K a) D σ0 H0 g tt te Q := aF9 Pv h0 hl hs hd
end
theorem F8 {cells : List (Str × Addr)} : ∀ (x : Str) (c : Addr), ([] : List (Str × Addr)).lookup x = some c → cells.lookup x = some c := fun x c h => by cases h
theorem G0 {cells cl : List (Str × Addr)} {k : Str} {a : Addr} (h : cells.lookup k = some a) (r : ∀ (x : Str) (c : Addr), cl.lookup x = some c → cells.lookup x = some c) : ∀ (x : Str) (c : Addr), ((k, a) :: cl).lookup x = some c → cells.lookup x = some c := fun x c e => by
  rw [List.lookup_cons] at e
  split at e
  · rename_i q
    have := eq_of_beq q
    subst this
    cases e
    exact h
  · exact r x c e
end L2
namespace R
open PySem L2 PyProof.Rows
theorem o0.over {u : Addr} {H H1 : Hp} {l : Addr} (s : o0 u H H1) (hl : H l = none) (o : HO) : o0 u H (L2.upd H1 l o) := fun b x h n => by
  rw [e9 (d8 h hl)]; exact s b x h n
theorem o0.free {u : Addr} {H H' : Hp} {l : Addr} (s : o0 u H H') (hu : j8 H' u) (h : H' l = none) : H l = none := by
  cases e : H l with
  | none => rfl
  | some o =>
    by_cases q : l = u
    · subst q
      obtain ⟨_, _, _, z, _⟩ := hu
      rw [z] at h; cases h
    · rw [s l o e q] at h; cases h
theorem j8.other {H : Hp} {u l : Addr} {o : HO} (h : j8 H u) (ne : l ≠ u) : j8 (upd H l o) u := by
  obtain ⟨g, m, p, e, r⟩ := h
  exact ⟨g, m, p, by rw [e9 ne.symm]; exact e, r⟩
theorem aE4 {H : Hp} {p l : Addr} {o : HO} (h : upd H p o l = none) : H l = none := by
  by_cases q : l = p
  · subst q; rw [b7] at h; cases h
  · rw [e9 q] at h; exact h
theorem bi5 {H : Hp} {p l : Addr} {o : HO} (h : upd H p o l = none) : l ≠ p := fun q => by
  subst q; rw [b7] at h; cases h
theorem ac7 {K : PySem.W.Frag} : PySem.W.kitOne K (.type "list") (.type "list") = some true := by unfold PySem.W.kitOne; rw [if_pos (by decide)]
end R
set_option maxRecDepth 100000
namespace L2
open PySem PySem.Spec PyProof.Rows
def Itz (K : PySem.W.Frag) (a b : Addr) : It :=
  ⟨fun i H => ∃ xs ys x y, SqL K H a xs ∧ SqL K H b ys ∧ xs[i]? = some x ∧ ys[i]? = some y,
   fun i H v H' => ∀ xs ys, SqL K H a xs → SqL K H b ys → ∃ x y p, xs[i]? = some x ∧ ys[i]? = some y ∧ H p = none ∧ v = .ref p ∧ H' = upd H p (.tup [x, y]),
   fun i H => ∃ xs ys, SqL K H a xs ∧ SqL K H b ys ∧ (xs.length ≤ i ∨ ys.length ≤ i)⟩
section
variable {X : Cx}
def bo5 (K : PySem.W.Frag) (ta : TA) : TI := fun σ H R => ta σ H fun vs H1 => ∃ a b, vs = [.ref a, .ref b] ∧ (∃ xs, SqL K H1 a xs) ∧ (∃ ys, SqL K H1 b ys) ∧ R (Itz K a b) H1
end
section
variable {prog : Program} {w : World} {A : Around} {E : Value → Shared → Prop} {s : Shared}
theorem bc1 {a b : Int} {t u : Tok} {Q : Value → Shared → Prop} (h : Q (.bool (decide (a > b))) s) : wpAny (model prog w) A (richCompare .Gt (.int a t) (.int b u)) Q E s :=
  richCompare_gives (op := .Gt) (typeIs_int s _ t) (typeIs_int s _ u) F.slot_int_gt F.entry_int_gt (F.args_int_gt_2 _ _) (gives_int_gt _ _ t u) (fun x => nomatch x) h
theorem aB2 {id : String} {b : Builtin} {args : List Value} {kw : List (Str × Value)} {Q : Value → Shared → Prop} (hk : builtinKind id = none) (hp : plainId id = true)
    (hb : entryFor table id = some b) (ha : argsOk id ⟨args, kw⟩)
    (hc : wpAny (model prog w) A.in1 (b ⟨args, kw⟩) (fun fin s' => match fin with
      | .done f => (match (Except.ok f : Result) with | .ok (.ret v) => Q v s' | .ok _ => False | .error e => E e s')
      | .again c' => c'.quiet = true ∧ codeAny (model prog w) A c' (fun r s' => match r with | .ok (.ret v) => Q v s' | .ok _ => False | .error e => E e s') s') E s) :
    wpAny (model prog w) A (call (.builtin id) args kw) Q E s := by
  refine wpAny_call (codeAny_call_builtin hp hb ?_)
  simp only [checkBuiltinCall, hk]
  cases hsig : Manifest.signature? id with
  | none => exact wpAny_pure hc
  | some sig =>
    have ha' : Bind.checkArgs id sig ⟨args, kw⟩ = pure () := by simpa only [argsOk, hsig] using ha
    simp only [ha']
    exact wpAny_pure hc
variable {R : Result → Shared → Prop} {I : Addr} {fp wr : List Addr} {n : Nat} {P : Nat → Value → Prop} {St : Nat → Heap → Prop}
theorem aO5 (W : Walks prog w A.in1 I fp wr n P St) (hint : ∀ i v, P i v → ∃ x t, v = .int x t) (S : Addr) (hSf : S ∉ fp) (d : Value) :
    ∀ (k j : Nat) (s : Shared) (x0 : Int) (t0 : Tok) (c : Nat), n - (j + 1) = k → j + 1 ≤ n → St (j + 1) s.heap →
    s.heap.get? S = some { cls := .type "list", dict := none, data := .seq #[.int x0 t0, .int x0 t0] c, slots := #[] } →
    (∀ x t h' tk, (∀ b o, b ∉ wr → b ≠ S → s.heap.get? b = some o → h'.get? b = some o) → R (.ok (.ret (.int x t))) { s with heap := h', toks := tk }) →
    codeAny (model prog w) A (.builtin "max.loop" ⟨[.ref I, .none, .ref S], [("default", d)]⟩) R s := by
  have hSw : S ∉ wr := fun h => hSf (W.sub _ h)
  have hname : (toString "max" ++ toString ".loop" : String) = "max.loop" := by decide
  intro k
  induction k with
  | zero =>
    intro j s x0 t0 c hk hj hst hS hR
    have hin : j + 1 = n := by omega
    refine codeAny_builtin F.entry_max_loop ?_
    rw [Around.under_plainId F.plain_max_loop _]
    show wpAny _ A.in1 (seqItems? (.ref S) >>= _) _ _ s
    refine wpAny_bind (wpAny_seqItems hS rfl ?_)
    show wpAny _ A.in1 (tryCatch (pyNext (.ref I)) _ >>= _) _ _ s
    refine wpAny_bind (wpAny_tryCatch (W.done s _ _ (hin ▸ hst) fun h' tk hk' => ?_))
    have hS' := hk' S _ hSw hS
    show wpAny _ A.in1 (updateSeq S (fun _ => #[]) >>= _) _ _ _
    refine wpAny_bind ?_
    refine wpAny_updateSeq hS' rfl (wpAny_bind (wpAny_letGo (wpAny_pure ?_)))
    exact hR x0 t0 _ tk fun b o hbw hbS e => (Heap.get?_update_other _ _ (Ne.symm hbS)).trans (hk' b o hbw e)
  | succ k ih =>
    intro j s x0 t0 c hk hj hst hS hR
    have hlt : j + 1 < n := by omega
    refine codeAny_builtin F.entry_max_loop ?_
    rw [Around.under_plainId F.plain_max_loop _]
    show wpAny _ A.in1 (seqItems? (.ref S) >>= _) _ _ s
    refine wpAny_bind (wpAny_seqItems hS rfl ?_)
    show wpAny _ A.in1 (tryCatch (pyNext (.ref I)) _ >>= _) _ _ s
    refine wpAny_bind (wpAny_tryCatch (W.item (j + 1) s _ _ hlt hst fun v h' tk hP hst' hk' => ?_))
    obtain ⟨x1, t1, rfl⟩ := hint _ _ hP
    have hS' := hk' S _ hSw hS
    show wpAny _ A.in1 (tryCatch (holding [.int x1 t1, .int x1 t1] (richCompare .Gt (.int x1 t1) (.int x0 t0) >>= _)) _ >>= _) _ _ _
    refine wpAny_bind (wpAny_tryCatch (wpAny_holding (wpAny_bind (bc1 ?_))))
    refine wpAny_bind (wpAny_holding (wpAny_truthy_bool ?_))
    refine wpAny_bind (wpAny_letGo (wpAny_pure ?_))
    cases hb : decide (x1 > x0) with
    | true =>
      simp only [if_true]
      refine wpAny_bind ?_
      refine wpAny_updateSeq hS' rfl (wpAny_bind (wpAny_letGo ?_))
      rw [hname]
      refine wpAny_pure ⟨plainId_quiet F.plain_max_loop _, ih (j + 1) _ x1 t1 _ (by omega) hlt (W.frame _ _ _ hst' fun b hbf o e => ?_) (Heap.get?_update_self _ hS' rfl)
        fun x t h'' tk'' hk'' => ?_⟩
      · exact (Heap.get?_update_other _ _ (fun h : S = b => hSf (by rw [h]; exact hbf))).trans e
      · exact hR x t h'' tk'' fun b o hbw hbS e => hk'' b o hbw hbS ((Heap.get?_update_other _ _ (Ne.symm hbS)).trans (hk' b o hbw e))
    | false =>
      simp only [Bool.false_eq_true, if_false]
      refine wpAny_bind (wpAny_letGo ?_)
      rw [hname]
      refine wpAny_pure ⟨plainId_quiet F.plain_max_loop _, ih (j + 1) _ x0 t0 c (by omega) hlt hst' hS' fun x t h'' tk'' hk'' => ?_⟩
      exact hR x t h'' tk'' fun b o hbw hbS e => hk'' b o hbw hbS (hk' b o hbw e)
theorem aH9 (W : Walks prog w A.in1 I fp wr n P St) (hint : ∀ i v, P i v → ∃ x t, v = .int x t) (S : Addr) (hSf : S ∉ fp) {x0 : Int} {t0 : Tok} {c : Nat} (hst : St 0 s.heap)
    (hS : s.heap.get? S = some { cls := .type "list", dict := none, data := .seq #[] c, slots := #[] })
    (hR : ∀ x t h' tk, (∀ b o, b ∉ wr → b ≠ S → s.heap.get? b = some o → h'.get? b = some o) → R (.ok (.ret (.int x t))) { s with heap := h', toks := tk }) :
    codeAny (model prog w) A (.builtin "max.loop" ⟨[.ref I, .none, .ref S], [("default", .int x0 t0)]⟩) R s := by
  have hSw : S ∉ wr := fun h => hSf (W.sub _ h)
  have hname : (toString "max" ++ toString ".loop" : String) = "max.loop" := by decide
  refine codeAny_builtin F.entry_max_loop ?_
  rw [Around.under_plainId F.plain_max_loop _]
  show wpAny _ A.in1 (seqItems? (.ref S) >>= _) _ _ s
  refine wpAny_bind (wpAny_seqItems hS rfl ?_)
  show wpAny _ A.in1 (tryCatch (pyNext (.ref I)) _ >>= _) _ _ s
  by_cases hn : 0 < n
  · refine wpAny_bind (wpAny_tryCatch (W.item 0 s _ _ hn hst fun v h' tk hP hst' hk' => ?_))
    obtain ⟨x1, t1, rfl⟩ := hint _ _ hP
    have hS' := hk' S _ hSw hS
    show wpAny _ A.in1 (updateSeq S (fun _ => #[.int x1 t1, .int x1 t1]) >>= _) _ _ _
    refine wpAny_bind ?_
    refine wpAny_updateSeq hS' rfl ?_
    rw [hname]
    refine wpAny_pure ⟨plainId_quiet F.plain_max_loop _, aO5 W hint S hSf _ _ 0 _ x1 t1 _ rfl hn (W.frame _ _ _ hst' fun b hbf o e => ?_) (Heap.get?_update_self _ hS' rfl) fun x t h'' tk'' hk'' => ?_⟩
    · exact (Heap.get?_update_other _ _ (fun h : S = b => hSf (by rw [h]; exact hbf))).trans e
    · exact hR x t h'' tk'' fun b o hbw hbS e => hk'' b o hbw hbS ((Heap.get?_update_other _ _ (Ne.symm hbS)).trans (hk' b o hbw e))
  · have h0 : n = 0 := by omega
    refine wpAny_bind (wpAny_tryCatch (W.done s _ _ (by rw [h0]; exact hst) fun h' tk hk' => ?_))
    show wpAny _ A.in1 (rule _ >>= _) _ _ _
    refine wpAny_bind (wpAny_rule (wpAny_pure ?_))
    exact hR x0 t0 _ tk fun b o hbw hbS e => hk' b o hbw e
theorem aQ3 (a d : Value) : argsOk "max" ⟨[a], [("default", d)]⟩ := by unfold argsOk; kernel_rfl
end
section
variable {X : Cx}
def aC0 (K : PySem.W.Frag) (ta : TA) : TE := fun σ H Q => ta σ H fun vs H1 => ∃ (a : Addr) (ns : List Int), vs = [.ref a] ∧ SqL K H1 a (ns.map V.int) ∧ ∀ i : Int, Q (.int i) H1
theorem aQ0 (hc : X.calm = true) {pins : List (Addr × Obj)} {s : Shared} {σ : St} {H : Hp} {a : Addr} {ns : List Int} {Q : VK} {x0 : Int} {t0 : Tok} (I : Inv X pins σ H s) (hq : SqL X.K H a (ns.map V.int)) (q : ∀ i : Int, Q (.int i) H) :
    wpAny (model X.prog X.w) X.A (call (.builtin "max") [.ref a] [("default", .int x0 t0)]) (EP X pins σ Q) X.xe s := by
  have hname : (toString "max" ++ toString ".loop" : String) = "max.loop" := by decide
  obtain ⟨its, r', pl, hz⟩ := I.list hq
  have hp : a ≠ s.heap.objs.size := by
    obtain ⟨o, ho, _⟩ := pl.isList
    exact Nat.ne_of_lt (Heap.lt_size ho)
  refine aB2 F.kind_max F.plain_max F.entry_max (aQ3 _ _) ?_
  show wpAny _ X.A.in1 (Builtin.Builtins.bindParams "max" ["key", "default"] 0 ⟨[], [("default", .int x0 t0)]⟩ >>= _) _ _ s
  refine wpAny_bind (wpAny_of_eq (show Builtin.Builtins.bindParams "max" ["key", "default"] 0 ⟨[], [("default", .int x0 t0)]⟩ = pure [none, some (.int x0 t0)] from by with_unfolding_all rfl) ?_)
  refine wpAny_bind (wpAny_pure ?_)
  refine wpAny_bind (wpAny_pyIter_list pl.isList ?_)
  refine wpAny_bind (wpAny_newObj_type ?_)
  have a1 : a < s.heap.objs.size := by obtain ⟨o, ho, _⟩ := pl.isList; exact Heap.lt_size ho
  rw [hname]
  refine wpAny_pure ⟨plainId_quiet F.plain_max_loop _, ?_⟩
  refine aH9 (Walks.list (A := X.A.in1) (I.ok.hd hc) s.heap.objs.size a hp its.toArray) ?_ _ ?_ ⟨⟨_, Heap.get?_push_of_some _ (Heap.get?_push_size _ rfl), rfl, rfl⟩, pl.isList.at fun o e => Heap.get?_push_of_some _ (Heap.get?_push_of_some _ e)⟩ (Heap.get?_push_size _ rfl) ?_
  · intro i v hv
    have hv' : its[i]? = some v := by simpa using hv
    have hi : i < ns.length := by
      have := (List.getElem?_eq_some_iff.mp hv').1
      rw [← r'.length, List.length_map] at this; exact this
    obtain ⟨u, hu, ru⟩ := r'.get (i := i) (x := .int ns[i]) (by rw [List.getElem?_map, List.getElem?_eq_getElem hi]; rfl)
    rw [hv'] at hu
    cases hu
    obtain ⟨t, rfl⟩ := ru
    exact ⟨_, _, rfl⟩
  · rw [Heap.size_push]
    intro z
    rcases (by simpa using z : s.heap.objs.size + 1 = s.heap.objs.size ∨ s.heap.objs.size + 1 = a) with e | e
    · exact absurd e (Nat.succ_ne_self _)
    · exact absurd a1 (by rw [← e]; exact Nat.not_lt.mpr (Nat.le_succ _))
  · intro x t h' tk kk
    refine ⟨.int x, H, I.kept (t' := tk) fun b o e => kk b o ?_ ?_ (Heap.get?_push_of_some _ (Heap.get?_push_of_some _ e)), ⟨t, rfl⟩, q x⟩
    · intro z
      have : b = s.heap.objs.size := by simpa using z
      exact absurd (Heap.lt_size e) (by rw [this]; exact Nat.lt_irrefl _)
    · rw [Heap.size_push]
      intro z
      exact absurd (Heap.lt_size e) (by rw [z]; exact Nat.not_lt.mpr (Nat.le_succ _))
theorem ba4 {l : Expr} {ta : TA} {p pos p1 p2 : Pos} {x0 : Int} {j : Nat} (hc : X.calm = true) (hg : Gl X "max") (hm : X.mg "max" = none) (ha : PA X [l] ta) (hs : starEach [l] X.env = [(false, eval l X.env)] := by rfl) :
    PE X (.Call (.Name "max" p) [l] [⟨some "default", .Constant (.int x0) j p1, p2⟩] pos) (aC0 X.K ta) := by
  intro pins s σ H Q I h
  refine wpAny_Call_Name_kw (Z3 I hg hm (u := .builtin "max") (by decide +kernel) ?_ (by decide) (by decide))
  refine callWith_kw (thn (ha pos pins s σ H _ I h) fun us s1 ⟨vs, H1, I1, r1, q1⟩ => ?_) (by rw [hs]; rfl) (by rw [hs]; rfl) rfl rfl
  obtain ⟨a, ns, e, hq, q⟩ := q1
  subst e
  obtain ⟨u, rfl, rx⟩ := af1 r1
  cases rx
  show wpAny _ _ (evalAll [do let v ← eval (.Constant (.int x0) j p1) X.env; standAt pos; pure v]) _ _ _
  unfold evalAll
  refine wpAny_bind (wpAny_bind (wpAny_Constant_int (wpAny_bind (wpAny_standAt (wpAny_pure ?_)))))
  unfold evalAll
  refine wpAny_bind (wpAny_holding (wpAny_pure (wpAny_pure ?_)))
  exact aQ0 hc (I1.tok _) hq q
end
end L2
set_option maxRecDepth 100000
namespace R
open PySem L2 PyProof.Rows
structure BdN (k : Nat) (q : Rat) : Prop where
  n : q.num.natAbs < 2 ^ k
  d : q.den < 2 ^ k
theorem BdN.mono {m n : Nat} {q : Rat} (h : BdN m q) (l : m ≤ n) : BdN n q := ⟨Nat.lt_of_lt_of_le h.n (d4 l), Nat.lt_of_lt_of_le h.d (d4 l)⟩
theorem Sm.bdN {q : Rat} (s : Sm q) : BdN 40 q := ⟨Nat.lt_of_le_of_lt s.n (by decide), Nat.lt_of_le_of_lt s.d (by decide)⟩
theorem BdN.mul {m n : Nat} {p q : Rat} (a : BdN m p) (b : BdN n q) : BdN (m + n) (p * q) := by
  rw [ae3]
  have hb : (p.den : Int) * q.den ≠ 0 := Int.ne_of_gt (Int.mul_pos (t7 p) (t7 q))
  obtain ⟨e1, e2⟩ := M1 (t := p.num * q.num) hb
  rw [Int.natAbs_mul] at e1 e2
  refine ⟨Nat.lt_of_le_of_lt e1 ?_, Nat.lt_of_le_of_lt e2 ?_⟩
  · rw [Nat.pow_add]; exact Nat.mul_lt_mul'' a.n b.n
  · rw [Nat.pow_add, Int.natAbs_natCast, Int.natAbs_natCast]; exact Nat.mul_lt_mul'' a.d b.d
structure SmW (q : Rat) : Prop where
  n : q.num.natAbs < 2 ^ 42
  d : q.den < 2 ^ 40
def W7 : List Rat → List Rat → List Rat
  | [], q => q
  | x :: p, [] => x :: p
  | x :: p, y :: q => (x + y) :: W7 p q
theorem ar6 : ∀ p q : List Rat, (W7 p q).length = max p.length q.length
  | [], q => by simp [W7]
  | x :: p, [] => by simp [W7]
  | x :: p, y :: q => by simp only [W7, List.length_cons, ar6 p q]; omega
theorem ar7 : ∀ (p q : List Rat) (i : Nat), i < max p.length q.length → (W7 p q)[i]? = some ((p[i]?).getD 0 + (q[i]?).getD 0)
  | [], q, i, h => by
    have : i < q.length := by simpa using h
    simp only [W7, List.getElem?_nil, Option.getD_none, List.getElem?_eq_getElem this, Option.getD_some]
    congr 1; grind
  | x :: p, [], i, h => by
    have : i < (x :: p).length := by simpa using h
    simp only [W7, List.getElem?_nil, Option.getD_none, List.getElem?_eq_getElem this, Option.getD_some]
    congr 1; grind
  | x :: p, y :: q, 0, h => rfl
  | x :: p, y :: q, i + 1, h => by
    simp only [W7, List.getElem?_cons_succ]
    exact ar7 p q i (by simp only [List.length_cons] at h; omega)
section
variable {α β : Type}
def V0 [Add α] : List α → Nat → α → List α
  | [], _, _ => []
  | y :: r, 0, x => (y + x) :: r
  | y :: r, k + 1, x => y :: V0 r k x
theorem ax8 [Add α] : ∀ (f : List α) (k : Nat) (x : α), (V0 f k x).length = f.length
  | [], _, _ => rfl
  | _ :: _, 0, _ => rfl
  | _ :: r, k + 1, x => by simp [V0, ax8 r k x]
theorem aj6 [Add α] : ∀ (f : List α) (k : Nat) (x y : α), f[k]? = some y → f.set k (y + x) = V0 f k x
  | [], _, _, _, h => by simp at h
  | z :: r, 0, x, y, h => by cases h; rfl
  | z :: r, k + 1, x, y, h => by
    rw [List.set_cons_succ, V0, aj6 r k x y (by simpa using h)]
theorem aa1 [Add α] : ∀ (f : List α) (k i : Nat) (x : α), i ≠ k → (V0 f k x)[i]? = f[i]?
  | [], _, _, _, _ => rfl
  | _ :: _, 0, 0, _, h => absurd rfl h
  | _ :: _, 0, i + 1, _, _ => rfl
  | _ :: _, k + 1, 0, _, _ => rfl
  | _ :: r, k + 1, i + 1, x, h => by
    simp only [V0, List.getElem?_cons_succ]; exact aa1 r k i x (by omega)
theorem af0 [Add α] : ∀ (f : List α) (k : Nat) (x y : α), f[k]? = some y → (V0 f k x)[k]? = some (y + x)
  | [], _, _, _, h => by simp at h
  | z :: r, 0, x, y, h => by cases h; rfl
  | z :: r, k + 1, x, y, h => by simp only [V0, List.getElem?_cons_succ]; exact af0 r k x y (by simpa using h)
def B6 [Add α] [Mul α] (z : α) (f : List α) (i : Nat) (x : α) (q : List α) : Nat → List α
  | 0 => f
  | j + 1 => V0 (B6 z f i x q j) (i + j) (x * (q[j]?).getD z)
def F6 [Add α] [Mul α] (z : α) (f p q : List α) : Nat → List α
  | 0 => f
  | i + 1 => B6 z (F6 z f p q i) i ((p[i]?).getD z) q q.length
theorem U5 [Add α] [Mul α] (z : α) (f : List α) (i : Nat) (x : α) (q : List α) : ∀ j, (B6 z f i x q j).length = f.length
  | 0 => rfl
  | j + 1 => by rw [B6, ax8, U5 z f i x q j]
theorem ai8 [Add α] [Mul α] (z : α) (f p q : List α) : ∀ n, (F6 z f p q n).length = f.length
  | 0 => rfl
  | n + 1 => by rw [F6, U5, ai8 z f p q n]
end
def Q9 (p q : List Rat) : List Rat := if p = [] ∨ q = [] then [] else F6 0 (List.replicate (p.length + q.length - 1) 0) p q p.length
def scl (s : Rat) (ws : List Int) : List Rat := ws.map fun w : Int => s * (w : Rat)
theorem R9 (s : Rat) (ws : List Int) : (scl s ws).length = ws.length := by simp [scl]
theorem aE5 {p q : List Rat} (hp : p ≠ []) (hq : q ≠ []) : (Q9 p q).length = p.length + q.length - 1 := by
  unfold Q9
  rw [if_neg (by simp [hp, hq]), ai8, List.length_replicate]
def j3 (qs : List Rat) : Nat := qs.foldl (fun b q => Nat.lcm b q.den) 1
theorem aO7 (qs : List Rat) (q : Rat) : j3 (qs ++ [q]) = Nat.lcm (j3 qs) q.den := by simp [j3]
theorem ak9 : ∀ (qs : List Rat) (b m : Nat), b ∣ m → (∀ q ∈ qs, q.den ∣ m) → qs.foldl (fun b q => Nat.lcm b q.den) b ∣ m
  | [], _, _, h, _ => h
  | q :: qs, b, m, h, k => ak9 qs _ m (Nat.lcm_dvd h (k q List.mem_cons_self)) fun r hr => k r (List.mem_cons_of_mem _ hr)
theorem ah4 {qs : List Rat} {m : Nat} (h : ∀ q ∈ qs, q.den ∣ m) : j3 qs ∣ m := ak9 qs 1 m (Nat.one_dvd _) h
theorem ah8 : ∀ (qs : List Rat) (b : Nat), b ∣ qs.foldl (fun b q => Nat.lcm b q.den) b
  | [], _ => Nat.dvd_refl _
  | q :: qs, b => Nat.dvd_trans (Nat.dvd_lcm_left _ _) (ah8 qs _)
theorem ak7 : ∀ (qs : List Rat) (b : Nat) (q : Rat), q ∈ qs → q.den ∣ qs.foldl (fun b q => Nat.lcm b q.den) b
  | r :: qs, b, q, h => by
    rcases List.mem_cons.mp h with e | e
    · subst e; exact Nat.dvd_trans (Nat.dvd_lcm_right _ _) (ah8 qs _)
    · exact ak7 qs _ q e
theorem F9 {qs : List Rat} {q : Rat} (h : q ∈ qs) : q.den ∣ j3 qs := ak7 qs 1 q h
def q8 (ws : List Int) : Nat := ws.foldl (fun c w => Int.gcd w c) 0
theorem aP0 (ws : List Int) (w : Int) : q8 (ws ++ [w]) = Int.gcd w (q8 ws) := by simp [q8]
theorem al1 : ∀ (ws : List Int) (c : Nat), (ws.foldl (fun c w => Int.gcd w c) c ∣ c) ∧ ∀ w ∈ ws, ((ws.foldl (fun c w => Int.gcd w c) c : Nat) : Int) ∣ w
  | [], c => ⟨Nat.dvd_refl _, by simp⟩
  | w :: ws, c => by
    obtain ⟨h1, h2⟩ := al1 ws (Int.gcd w c)
    have a1 : Int.gcd w c ∣ c := by have := Int.gcd_dvd_right w (c : Int); exact Int.natCast_dvd_natCast.mp this
    refine ⟨Nat.dvd_trans h1 a1, fun v hv => ?_⟩
    rcases List.mem_cons.mp hv with e | e
    · subst e
      exact Int.dvd_trans (Int.natCast_dvd_natCast.mpr h1) (Int.gcd_dvd_left v (c : Int))
    · exact h2 v e
theorem K3 {ws : List Int} {w : Int} (h : w ∈ ws) : ((q8 ws : Nat) : Int) ∣ w := (al1 ws 0).2 w h
theorem al0 : ∀ (ws : List Int), ws.foldl (fun c w => Int.gcd w c) 1 = 1
  | [] => rfl
  | w :: ws => by
    rw [List.foldl_cons]
    have : Int.gcd w ((1 : Nat) : Int) = 1 := by simp
    rw [this, al0 ws]
theorem aX2 {ws : List Int} (i : Nat) (h : q8 (ws.take i) = 1) : q8 ws = 1 := by
  have e : ws = ws.take i ++ ws.drop i := (List.take_append_drop i ws).symm
  rw [e]
  unfold q8 at h ⊢
  rw [List.foldl_append, h, al0]
def i0 (B : Nat) (qs : List Rat) : List Int := qs.map fun q => q.num * (B : Int).fdiv (q.den : Int)
theorem am5 {B : Nat} {q : Rat} (hB : 0 < B) (h : q.den ∣ B) : q = Rat.divInt (q.num * (B : Int).fdiv (q.den : Int)) B := by
  obtain ⟨e, he⟩ := h
  have hd : (q.den : Int) ≠ 0 := by have := q.den_nz; omega
  have e1 : (B : Int).fdiv (q.den : Int) = (e : Int) := by
    rw [he, Int.natCast_mul]; exact i9 hd
  rw [e1]
  conv => lhs; rw [← Rat.num_divInt_den q]
  rw [Rat.divInt_eq_divInt_iff hd (by omega), he, Int.natCast_mul]
  grind
end R
namespace L2
open PySem PySem.Spec PyProof.Rows
section
variable {K : PySem.W.Frag} {a b D : Addr} {xs ys : List V} {g : TG} {te : TE} {σ0 : St} {H0 : Hp} {Q : VK}
theorem bd3 (xs : List V) (Pv : Nat → St → Hp → Prop) (h0 : Pv 0 σ0 H0) (hl : ∀ i σ H, Pv i σ H → SqL K H a xs)
    (hs : ∀ i x σ H p, xs[i]? = some x → Pv i σ H → H p = none → g (.ref p) σ (upd H p (.tup [.int i, x])) fun σ4 H4 => te σ4 H4 fun v H5 => J1 D xs.length Pv i σ4 v H5)
    (hd : ∀ σ H, Pv xs.length σ H → Q (.ref D) H) : ai1 (Ite K a) D σ0 H0 g te Q := by
  refine ⟨fun i m σ H => m = xs.length - i ∧ i ≤ xs.length ∧ Pv i σ H, ⟨_, rfl, Nat.zero_le _, h0⟩, ?_⟩
  rintro i m σ H ⟨rfl, hi, p⟩
  have q := hl i σ H p
  by_cases hlt : i < xs.length
  · refine .inr ⟨⟨xs, xs[i], q, List.getElem?_eq_getElem hlt⟩, ?_⟩
    intro x H3 hy
    obtain ⟨y, r, hy1, hr, rfl, rfl⟩ := hy xs q
    exact hs i y σ _ r hy1 p hr
  · have e : i = xs.length := by omega
    subst e
    exact .inl ⟨⟨xs, q, Nat.le_refl _⟩, hd σ H p⟩
theorem aq2 {tb : TS} {E : ab8} {σ : St} {H : Hp} (xs : List V) (Pv : Nat → St → Hp → Prop) (h0 : Pv 0 σ H) (hl : ∀ i σ H, Pv i σ H → SqL K H a xs)
    (hs : ∀ i x σ H p, xs[i]? = some x → Pv i σ H → H p = none → g (.ref p) σ (upd H p (.tup [.int i, x])) fun σ2 H2 => tb { E with nx := Pv (i + 1), ct := Pv (i + 1), bk := E.nx } σ2 H2) (hd : ∀ σ H, Pv xs.length σ H → E.nx σ H) :
    ∃ W : Nat → Nat → St → Hp → Prop, (∃ m, W 0 m σ H) ∧ ∀ i m σ H, W i m σ H →
      ((Ite K a).stop i H ∧ E.nx σ H) ∨ ((Ite K a).go i H ∧ ∃ N : St → Hp → Prop, (∀ σ' H', N σ' H' → ∃ m', m' < m ∧ W (i + 1) m' σ' H') ∧ ∀ x H', (Ite K a).yld i H x H' → g x σ H' fun σ2 H2 => tb { E with nx := N, ct := N, bk := E.nx } σ2 H2) := by
  refine ⟨fun i m σ H => m = xs.length - i ∧ i ≤ xs.length ∧ Pv i σ H, ⟨_, rfl, Nat.zero_le _, h0⟩, ?_⟩
  rintro i m σ H ⟨rfl, hi, p⟩
  have q := hl i σ H p
  by_cases hlt : i < xs.length
  · refine .inr ⟨⟨xs, xs[i], q, List.getElem?_eq_getElem hlt⟩, Pv (i + 1), fun σ' H' n => ⟨_, by omega, rfl, hlt, n⟩, ?_⟩
    intro x H3 hy
    obtain ⟨y, r, hy1, hr, rfl, rfl⟩ := hy xs q
    exact hs i y σ _ r hy1 p hr
  · have e : i = xs.length := by omega
    subst e
    exact .inl ⟨⟨xs, q, Nat.le_refl _⟩, hd σ H p⟩
end
section
variable {X : Cx}
theorem aX0 : bn3 X (aD3 X.K) := by
  intro pins s σ H x y v u Q I rx ry h
  obtain ⟨p, xs, i, z, rfl, rfl, hq, he, q⟩ := h
  cases rx
  obtain ⟨t, rfl⟩ := ry
  obtain ⟨its, r, pl, hz⟩ := I.list hq
  obtain ⟨j, h1, h2, h3, h4, h5⟩ := aB3 he
  obtain ⟨w, ew, rw'⟩ := r.get h2
  have hl := r.length
  have hn := ae4
  have fin : EP X pins σ Q w s := ⟨z, H, I, rw', q⟩
  by_cases h0 : 0 ≤ i
  · have hj : i.toNat = j := by
      rw [seqIndex_of h0 h5] at h1
      exact Option.some.inj h1
    exact wpAny_getItem_list pl.isList h0 (by omega) (by rw [hj]; simpa using ew) fin
  · have hj : (i + (its.toArray.size : Int)).toNat = j := by
      rw [seqIndex_neg (by omega) h4] at h1
      rw [List.size_toArray, ← hl]
      exact Option.some.inj h1
    exact wpAny_getItem_list_neg pl.isList (by omega) (by rw [List.size_toArray] <;> omega) (by omega) (by rw [hj]; simpa using ew) fin
end
end L2
set_option maxRecDepth 100000
namespace R
open PySem L2 PyProof.Rows
def m8 (f : Nat → Rat) : Nat → Rat
  | 0 => 0
  | n + 1 => m8 f n + f n
theorem X5 (f : Nat → Rat) : ∀ n, m8 f (n + 1) = f 0 + m8 (fun i => f (i + 1)) n
  | 0 => by simp only [m8]; grind
  | n + 1 => by
    rw [m8, X5 f n, m8]; grind
theorem v4 {f g : Nat → Rat} : ∀ {n}, (∀ i, i < n → f i = g i) → m8 f n = m8 g n
  | 0, _ => rfl
  | n + 1, h => by rw [m8, m8, v4 fun i hi => h i (by omega), h n (by omega)]
theorem ac0 : ∀ (n : Nat) (f : Nat → Rat), m8 f n = m8 (fun i => f (n - 1 - i)) n
  | 0, _ => rfl
  | n + 1, f => by
    rw [X5 (fun i => f (n + 1 - 1 - i)) n, m8, ac0 n f]
    have : m8 (fun i => f (n - 1 - i)) n = m8 (fun i => f (n + 1 - 1 - (i + 1))) n := v4 fun i hi => by congr 1; omega
    rw [this]
    show _ = f (n + 1 - 1 - 0) + _
    rw [show n + 1 - 1 - 0 = n by omega]
    grind
theorem Q4 {f : Nat → Rat} {m : Nat} : ∀ {n}, m ≤ n → (∀ i, m ≤ i → i < n → f i = 0) → m8 f n = m8 f m
  | 0, h, _ => by rw [show m = 0 by omega]
  | n + 1, h, z => by
    by_cases e : m = n + 1
    · rw [e]
    · rw [m8, z n (by omega) (by omega), Q4 (n := n) (by omega) fun i a b => z i a (by omega)]
      grind
theorem aw2 (f : List Rat) (i : Nat) (x : Rat) (q : List Rat) {k : Nat} (y : Rat) (hy : f[k]? = some y) : ∀ j, (B6 0 f i x q j)[k]? = some (y + if i ≤ k ∧ k < i + j then x * (q[k - i]?).getD 0 else 0)
  | 0 => by
    rw [B6, hy, if_neg (by omega)]; congr 1; grind
  | j + 1 => by
    have ih := aw2 f i x q y hy j
    rw [B6]
    by_cases e : k = i + j
    · subst e
      rw [af0 _ _ _ _ ih, if_neg (by omega), if_pos (by omega), show i + j - i = j by omega]
      congr 1; grind
    · rw [aa1 _ _ _ _ e, ih]
      by_cases h : i ≤ k ∧ k < i + j
      · rw [if_pos h, if_pos (by omega)]
      · rw [if_neg h, if_neg (by omega)]
def ay0 (p q : List Rat) (k i : Nat) : Rat := if i ≤ k then (p[i]?).getD 0 * (q[k - i]?).getD 0 else 0
theorem av7 (f p q : List Rat) {k : Nat} (hy : f[k]? = some 0) : ∀ n, (F6 0 f p q n)[k]? = some (m8 (ay0 p q k) n)
  | 0 => hy
  | n + 1 => by
    rw [F6, aw2 _ _ _ _ _ (av7 f p q hy n), m8]
    congr 2
    unfold ay0
    by_cases h : n ≤ k
    · rw [if_pos h]
      by_cases h2 : k < n + q.length
      · rw [if_pos ⟨h, h2⟩]
      · rw [if_neg (by omega), List.getElem?_eq_none (l := q) (by omega)]
        show (0 : Rat) = _ * 0
        grind
    · rw [if_neg h, if_neg (by omega)]
theorem aV8 {p q : List Rat} (hp : p ≠ []) (hq : q ≠ []) {k : Nat} (hk : k < p.length + q.length - 1) : (Q9 p q)[k]? = some (m8 (fun i => (p[i]?).getD 0 * (q[k - i]?).getD 0) (k + 1)) := by
  unfold Q9
  rw [if_neg (by simp [hp, hq]), av7 _ _ _ (by rw [List.getElem?_replicate, if_pos hk])]
  congr 1
  have h1 : m8 (ay0 p q k) (max p.length (k + 1)) = m8 (ay0 p q k) p.length := Q4 (by omega) fun i a _ => by
    unfold ay0
    rw [List.getElem?_eq_none a]
    split
    · show (0 : Rat) * _ = 0; grind
    · rfl
  have h2 : m8 (ay0 p q k) (max p.length (k + 1)) = m8 (ay0 p q k) (k + 1) := Q4 (by omega) fun i a _ => by
    unfold ay0
    rw [if_neg (by omega)]
  rw [← h1, h2]
  exact v4 fun i hi => by unfold ay0; rw [if_pos (by omega)]
end R
namespace L2
theorem j0 {t R : TS} {D : ab8} {σ : St} {H : Hp} (P : St → Hp → Prop) (first : ∀ N : St → Hp → Prop, (∀ σ H, P σ H → N σ H) → t { D with nx := N } σ H) (ag2 : ∀ σ H, P σ H → R D σ H) : aM6 t R D σ H := first _ ag2
end L2
set_option maxRecDepth 100000
namespace R
section
variable {α : Type} [Lean.Grind.CommRing α]
def syn (c : α) : List α → List α
  | [] => []
  | a :: p => match syn c p with
    | [] => [a]
    | h :: t => (a + c * h) :: h :: t
def pass (c : α) (k : Nat) (l : List α) : List α := l.take k ++ syn c (l.drop k)
end
open PySem L2 PyProof.Rows
structure Bd6 (q : Rat) : Prop where
  n : q.num.natAbs < 2 ^ 6000
  d : q.den < 2 ^ 6000
theorem BdN.bd6 {n : Nat} {q : Rat} (h : BdN n q) (l : n ≤ 6000) : Bd6 q := ⟨Nat.lt_of_lt_of_le h.n (d4 l), Nat.lt_of_lt_of_le h.d (d4 l)⟩
theorem ak6 : ∀ (qs : List Rat) (b : Nat), 0 < b → 0 < qs.foldl (fun b q => Nat.lcm b q.den) b
  | [], b, h => h
  | q :: qs, b, h => ak6 qs _ (Nat.lcm_pos h (by have := q.den_nz; omega))
theorem z7 (qs : List Rat) : 0 < j3 qs := ak6 qs 1 (by decide)
theorem ak8 (m : Nat) : ∀ (qs : List Rat) (b n : Nat), 0 < b → b < 2 ^ n → (∀ q ∈ qs, q.den < 2 ^ m) → qs.foldl (fun b q => Nat.lcm b q.den) b < 2 ^ (n + m * qs.length)
  | [], b, n, h0, h, _ => by simpa using h
  | q :: qs, b, n, h0, h, k => by
    have hd : 0 < q.den := by have := q.den_nz; omega
    have h1 : 0 < Nat.lcm b q.den := Nat.lcm_pos h0 hd
    have h2 : Nat.lcm b q.den ≤ b * q.den := Nat.le_of_dvd (Nat.mul_pos h0 hd) (Nat.lcm_dvd (Nat.dvd_mul_right _ _) (Nat.dvd_mul_left _ _))
    have h3 : b * q.den < 2 ^ (n + m) := by rw [Nat.pow_add]; exact Nat.mul_lt_mul'' h (k q List.mem_cons_self)
    have ih := ak8 m qs (Nat.lcm b q.den) (n + m) h1 (by omega) fun r hr => k r (List.mem_cons_of_mem _ hr)
    have e : n + m + m * qs.length = n + m * (q :: qs).length := by rw [List.length_cons, Nat.mul_succ]; omega
    rw [e] at ih
    exact ih
theorem aE7 {m : Nat} {qs : List Rat} (h : ∀ q ∈ qs, q.den < 2 ^ m) : j3 qs < 2 ^ (1 + m * qs.length) := ak8 m qs 1 1 (by decide) (by decide) h
theorem aB1 (qs : List Rat) : Int.gcd (q8 (i0 (j3 qs) qs) : Int) (j3 qs : Int) = 1 := by
  have hB := z7 qs
  have key : ∀ c : Nat, c ∣ q8 (i0 (j3 qs) qs) → c ∣ j3 qs → c = 1 := by
    intro c h1 h2
    have hc : 0 < c := Nat.pos_of_dvd_of_pos h2 hB
    have h3 : j3 qs ∣ j3 qs / c := by
      refine ah4 fun q hq => ?_
      obtain ⟨e, he⟩ := F9 hq
      have hd : (q.den : Int) ≠ 0 := by have := q.den_nz; omega
      have e1 : (j3 qs : Int).fdiv (q.den : Int) = (e : Int) := by
        rw [he, Int.natCast_mul]; exact i9 hd
      have m1 : (c : Int) ∣ q.num * (e : Int) := by
        have := Int.dvd_trans (Int.natCast_dvd_natCast.mpr h1) (K3 (List.mem_map.mpr ⟨q, hq, rfl⟩))
        rw [e1] at this; exact this
      have m2 : c ∣ q.num.natAbs * e := by
        have := Int.natAbs_dvd_natAbs.mpr m1
        rw [Int.natAbs_mul] at this
        simpa using this
      have m3 : c ∣ q.den * e := by rw [← he]; exact h2
      have m4 : c ∣ e := by
        have := Nat.dvd_gcd m2 m3
        rw [Nat.gcd_mul_right] at this
        have hg : Nat.gcd q.num.natAbs q.den = 1 := q.reduced
        rw [hg, Nat.one_mul] at this
        exact this
      obtain ⟨f, hf⟩ := m4
      rw [he, hf]
      refine ⟨f, ?_⟩
      rw [show q.den * (c * f) = c * (q.den * f) by grind, Nat.mul_div_cancel_left _ hc]
    have h4 := Nat.le_of_dvd (Nat.div_pos (Nat.le_of_dvd hB h2) hc) h3
    have h5 := Nat.div_mul_cancel h2
    by_cases hc1 : c = 1
    · exact hc1
    · have : j3 qs / c * 2 ≤ j3 qs / c * c := Nat.mul_le_mul_left _ (by omega)
      omega
  have z := key (Int.gcd (q8 (i0 (j3 qs) qs) : Int) (j3 qs : Int))
  refine z ?_ ?_
  · exact Int.natCast_dvd_natCast.mp (Int.gcd_dvd_left _ _)
  · exact Int.natCast_dvd_natCast.mp (Int.gcd_dvd_right _ _)
def ak0 (ws : List Int) : Int := ws.foldl (fun p v => if v = 0 then p else p * v) 1
theorem ao8 (ws : List Int) (v : Int) : ak0 (ws ++ [v]) = if v = 0 then ak0 ws else ak0 ws * v := by simp [ak0]
theorem W4 : ∀ (ws : List Int) (p : Int), p ∣ ws.foldl (fun p v => if v = 0 then p else p * v) p
  | [], p => Int.dvd_refl _
  | v :: ws, p => by
    simp only [List.foldl_cons]
    by_cases h : v = 0
    · rw [if_pos h]; exact W4 ws p
    · rw [if_neg h]; exact Int.dvd_trans ⟨v, rfl⟩ (W4 ws _)
theorem ah7 : ∀ (ws : List Int) (p v : Int), v ∈ ws → v ≠ 0 → v ∣ ws.foldl (fun p v => if v = 0 then p else p * v) p
  | [], p, v, h, _ => by cases h
  | u :: ws, p, v, h, hv => by
    simp only [List.foldl_cons]
    rcases List.mem_cons.mp h with e | e
    · subst e
      rw [if_neg hv]
      exact Int.dvd_trans ⟨p, Int.mul_comm _ _⟩ (W4 ws _)
    · exact ah7 ws _ v e hv
theorem aN8 {ws : List Int} {v : Int} (h : v ∈ ws) (hv : v ≠ 0) : v ∣ ak0 ws := ah7 ws 1 v h hv
theorem aX1 {b p v : Int} (h : v ∣ p) : Int.gcd (Int.gcd b p : Nat) v = Int.gcd b v := by
  refine Nat.dvd_antisymm ?_ ?_
  · refine Int.dvd_gcd ?_ ?_
    · exact Int.dvd_trans (Int.gcd_dvd_left _ _) (Int.gcd_dvd_left _ _)
    · exact Int.gcd_dvd_right _ _
  · refine Int.dvd_gcd ?_ (Int.gcd_dvd_right _ _)
    exact Int.natCast_dvd_natCast.mpr (Int.dvd_gcd (Int.gcd_dvd_left _ _) (Int.dvd_trans (Int.gcd_dvd_right _ _) h))
end R
set_option maxRecDepth 100000
namespace L2
open PySem PySem.Spec PyProof.Rows
theorem aO4 {h : Heap} {a : Addr} {m : Str → Option Value} {o : Obj} (n : h.Ns a m) (e : h.get? a = some o) (v : Option Value) (z : o.data = .cell v) : False := by
  obtain ⟨o', es, ep, e', r⟩ := n
  rw [e] at e'
  cases e'
  have d := r.1
  rw [d] at z; cases z
section
variable {X : Cx}
theorem V7 {elt tg iter : Expr} {scope : Scope} {pos spos py : Pos} {y : Str} {i₀ : Nat} {cl : List (Str × Addr)} {Nc : List Str} {caps : List (Option Nat)} {wi : TI} {g : TG} {te : TE} (hN : X.N.Nodup) (hi₀ : X.N[i₀]? = some y) (hx : Loc X.env.scope y) (hc : X.calm = true) (cp : W8 X scope cl Nc caps) (hi : PI X tg iter wi)
    (hg : ∀ C s₂ H₂ fp pins, PG (X.block scope cl C Nc s₂ H₂ fp pins) tg g) (he : ∀ C s₂ H₂ fp pins, PE (X.block scope cl C Nc s₂ H₂ fp pins) elt te) (hs : ∀ x, foldedSetIterable iter X.env x = pure x := by intro _; rfl) (hsw : swapsWith (.ListComp elt [⟨tg, iter, [], 0⟩] scope pos) (some (.Name y py)) spos.line X.env = pure true := by rfl)
    (hf : X.fn y = true ∨ X.env.scope.names.lookup y = some .local := by first | exact .inl rfl | exact .inr rfl | assumption) :
    PS X (.Assign [.Name y py] (.ListComp elt [⟨tg, iter, [], 0⟩] scope pos) spos) (aG5 (aS2 wi caps g te) (p7 i₀)) := by
  intro pins s σ H DD I h
  rw [exec_Assign_Name_used _ _ _ _ hsw]
  refine wpAny_bind (wpAny_standAt (wpAny_bind ?_))
  show wpAny _ X.A (do let _ ← comprehension (.ListComp elt [⟨tg, iter, [], 0⟩] scope pos) scope X.env _ (newList []) false (eval iter X.env) (some (assign (.Name y py) X.env))) _ _ s
  refine wpAny_bind (wpAny_mono (wpAny_comprehension_free (use := some (assign (.Name y py) X.env)) (Q := fun _ s' => SP X pins DD .next s') rfl hs cp.clos cp.kind cp.names ?_) (fun _ s' hq => wpAny_pure (wpAny_pure hq)) fun _ _ e => e)
  refine thn (hi pins s σ H _ I h) fun v s1 h1 => thn h1 fun itv s2 h2 => ?_
  obtain ⟨it, fp, tn, J, H2, e, I2, T, st2, f2, hW⟩ := h2
  subst e
  refine wpAny_newObj_type ?_ (by show 0 ≤ sizeLine; exact Nat.zero_le _)
  refine wpAny_newFunctionEnv cp.nocell (by intro y hy; simp at hy) (fun h4 hns hsb => ?_) cp.kind
  dsimp only at hns hsb ⊢
  generalize hH3 : s2.heap.push { cls := .type "list", dict := none, data := .seq ([] : List Value).toArray } = H3 at hns hsb ⊢
  have hCe : H3.objs.size = s2.heap.objs.size + 1 := by rw [← hH3, Heap.size_push]
  have U9 : ∀ b o, s2.heap.get? b = some o → b ≠ H3.objs.size := fun b o e => by rw [hCe]; exact Nat.ne_of_lt (Nat.lt_succ_of_lt (Heap.lt_size e))
  have old : ∀ b o, s2.heap.get? b = some o → h4.get? b = some o := fun b o e => hsb.extBut b o (U9 b o e) (Heap.get?_push_of_some _ (hH3 ▸ Heap.get?_push_of_some _ e))
  have hD : h4.get? s2.heap.objs.size = some { cls := .type "list", dict := none, data := .seq ([] : List Value).toArray } :=
    hsb.extBut _ _ (by rw [hCe]; exact Nat.ne_of_lt (Nat.lt_succ_self _)) (Heap.get?_push_of_some _ (hH3 ▸ Heap.get?_push_size _ rfl))
  have hDn : H2 s2.heap.objs.size = none := I2.fresh
  have hCn : H2 H3.objs.size = none := I2.hok.fresh (by rw [hCe]; exact Nat.le_succ _)
  have hCs : s2.heap.objs.size ≤ H3.objs.size := by rw [hCe]; exact Nat.le_succ _
  have hDC : s2.heap.objs.size ≠ H3.objs.size := by rw [hCe]; exact Nat.ne_of_lt (Nat.lt_succ_self _)
  have fpl : ∀ b ∈ fp, ∃ o, s2.heap.get? b = some o := fun b hb => let ⟨o, e, _⟩ := T.obj _ _ st2 b hb; ⟨o, e⟩
  have fpC : ∀ b ∈ fp, b ≠ H3.objs.size := fun b hb => let ⟨o, e⟩ := fpl b hb; U9 b o e
  have fpD : ∀ b ∈ fp, b ≠ s2.heap.objs.size := fun b hb => let ⟨o, e⟩ := fpl b hb; Nat.ne_of_lt (Heap.lt_size e)
  have stkN : ∀ b, b ≠ X.env.locals → b ∉ X.fs → b ∉ frs X.stack := fun b h1 h2 z => (List.mem_cons.mp (I2.stkSub b z)).elim h1 h2
  obtain ⟨W, ⟨m0, w0⟩, turn⟩ := hW s2.heap.objs.size hDn
  have okB : (X.block scope cl H3.objs.size Nc s2 H2 fp pins).Ok := by
    refine ⟨I2.ok.mod, ?_, I2.ok.glob, I2.ok.blt, hCs, fun x y c h1 h2 => I2.ok.inj x y c (cp.sub x c h1) (cp.sub y c h2), fun x hx => cp.has x hx, fun x c h => (by cases h), I2.ok.hd, I2.ok.frames, .inl rfl, fun b hb => ⟨fpC b hb, fun x c h => (f2 b hb).2.2.2.2.1 x c (cp.sub x c h)⟩, I2.bs, Nat.le_trans I2.ok.bsz I2.sz, fun b o e hb => ?_, fun b hb => stkN b (f2 b hb).2.1 (f2 b hb).2.2.1, I2.stack, I2.stkFree⟩
    · exact cp.kind
    · rcases (f2 b hb).2.2.2.1 with z | z
      · exact I2.ok.noex b o e z
      · exact absurd (Nat.lt_of_lt_of_le (Heap.lt_size e) (Nat.le_trans I2.ok.bsz z)) (Nat.lt_irrefl _)
  have hokB : HOk X.prog X.w (upd H2 s2.heap.objs.size (.lst [])) h4 := I2.hok.laid old (Nat.le_refl _) ⟨Nat.zero_le _, [], _, .nil, hD⟩
  have IB : Inv (X.block scope cl H3.objs.size Nc s2 H2 fp pins) [] (M2 caps σ) (upd H2 s2.heap.objs.size (.lst [])) { s2 with heap := h4, toks := s2.toks + ([] : List (Str × Value)).length } := by
    refine ⟨okB, rfl, I2.bare, Un.laid old (Nat.le_refl _) hDn, ⟨_, hns, fun i x v e1 e2 e3 => ?_⟩, fun x c e => ?_, (show upd H2 s2.heap.objs.size (.lst []) H3.objs.size = none by rw [e9 (Ne.symm hDC)]; exact hCn), fun x c e => ?_, fun p hp => ?_, hokB, ?_⟩
    · unfold M2 at e2
      rw [List.getElem?_map] at e2
      cases hcap : caps[i]? with
      | none => rw [hcap] at e2; cases e2
      | some o =>
        rw [hcap] at e2
        cases o with
        | none => cases e2
        | some j =>
          have hj : σ[j]? = some (some v) := by
            have e2' : (σ[j]?).join = some v := Option.some.inj e2
            cases q : σ[j]? with
            | none => rw [q] at e2'; cases e2'
            | some z => rw [q] at e2'; exact congrArg some e2'
          obtain ⟨n1, n2, n3, n4⟩ := cp.cap i j x hcap e1
          obtain ⟨m, hm, hl⟩ := I2.loc
          obtain ⟨u, r, q⟩ := hl j x v n1 hj n2
          rcases q with ⟨k, _⟩ | ⟨k, c, ec, z⟩
          · exact absurd k n3
          · obtain ⟨c', ec'⟩ := cp.has x n4
            have := cp.sub x c' ec'
            rw [ec] at this; cases this
            obtain ⟨oc, ho, hd⟩ := z
            exact ⟨u, r, .inr ⟨n4, c, ec', oc, old _ _ ho, hd⟩⟩
    · obtain ⟨v, oc, ho, hd⟩ := I2.cell x c (cp.sub x c e)
      exact ⟨v, oc, old _ _ ho, hd⟩
    · obtain ⟨v, oc, ho, hd⟩ := I2.cell x c (cp.sub x c e)
      rw [e9 (Nat.ne_of_lt (Heap.lt_size ho))]
      exact I2.freeC x c (cp.sub x c e)
    · have hp' : p ∈ X.pn ++ pins := by simpa using hp
      obtain ⟨e1, e2, e3, e4, e5⟩ := I2.pin p hp'
      exact ⟨old _ _ e1, by rw [e9 (Nat.ne_of_lt (Heap.lt_size e1))]; exact e2, U9 _ _ e1, stkN _ e3 e4, e5⟩
    · show (M2 caps σ).length = Nc.length
      unfold M2
      rw [List.length_map]; exact cp.len
  have stat : ∀ {H' : Hp}, (∀ b ∈ fp, H' b = none) → ∀ b ∈ fp, aj8 (X.block scope cl H3.objs.size Nc s2 H2 fp pins) [] H' b := fun hn b hb =>
    ⟨hn b hb, fpC b hb, stkN b (f2 b hb).2.1 (f2 b hb).2.2.1, .inl hb, fun x c h => (f2 b hb).2.2.2.2.1 x c (cp.sub x c h), fun p hp => (f2 b hb).2.2.2.2.2 p (by simpa using hp)⟩
  have loop : ∀ s5 : Shared, s5 = { s2 with heap := h4, toks := s2.toks + ([] : List (Str × Value)).length } →
      codeAny (model X.prog X.w) X.A (.compLoop (.ListComp elt [⟨tg, iter, [], 0⟩] scope pos) 0 (.ref it) (.ref s2.heap.objs.size) (compEnvC scope cl H3.objs.size X.env))
        (compPost (model X.prog X.w) X.A X.xe (some (assign (.Name y py) X.env)) (fun _ s' => SP X pins DD .next s') (.ref s2.heap.objs.size) H3.objs.size) s5 := by
    rintro s5 rfl
    refine ax2 (fun n s' => ∃ i σ' H', Inv (X.block scope cl H3.objs.size Nc s2 H2 fp pins) [] σ' H' s' ∧ tn i s'.heap ∧ (∀ b ∈ fp, H' b = none) ∧ W i n σ' H') ?_ m0 ⟨0, _, _, IB, T.keep _ _ _ st2 fun b hb o e => old b o e, fun b hb => by rw [e9 (fpD b hb)]; exact (f2 b hb).1, w0⟩
    rintro n s6 ⟨i, σ6, H6, I6, st6, fr6, w6⟩
    rcases turn i n σ6 H6 w6 with ⟨stop, qn⟩ | ⟨go, step⟩
    · refine thn (T.done (X.block scope cl H3.objs.size Nc s2 H2 fp pins) rfl rfl rfl hc i [] s6 σ6 H6 _ I6 (stat fr6) st6 stop) fun r s7 ⟨hr, I7⟩ => ?_
      subst hr
      obtain ⟨m7, hn7, _⟩ := id I7.loc
      have Io : Inv X pins σ H6 s7 := I2.sameC (h'' := s7.heap) f2 I7.os I7.bare I7.base I7.hok hCs I7.free ⟨rfl, fun _ _ => rfl⟩
      have fC : aj8 X pins H6 H3.objs.size := I2.fpOk hCs I7.free
      have fC' : ∀ b ∈ [H3.objs.size], aj8 X pins H6 b := fun b hb => by rw [List.mem_singleton.mp hb]; exact fC
      obtain ⟨oC, esC, epC, hoC, restC⟩ := id hn7
      have obC : ∀ b ∈ [H3.objs.size], ∃ o, s7.heap.get? b = some o ∧ ∀ v, o.data ≠ .cell v := fun b hb => by
        rw [List.mem_singleton.mp hb]
        exact ⟨oC, hoC, fun v z => aO4 hn7 hoC v z⟩
      have Ip := Io.pinned fC' obC
      show wpAny (model X.prog X.w) X.A (assign (.Name y py) X.env (.ref s2.heap.objs.size)) _ _ s7
      refine thn (g6 (pos := py) hN hi₀ hx hf _ s7 σ H6 (.ref s2.heap.objs.size) (.ref s2.heap.objs.size) DD.nx Ip rfl qn) fun _ s9 ⟨σ9, H9, I9, q9⟩ => ?_
      have keepC := (I9.pin (H3.objs.size, oC) (List.mem_append_right _ (List.mem_append_right _ (B5 (by simp) hoC)))).1
      have H9C := (I9.pin (H3.objs.size, oC) (List.mem_append_right _ (List.mem_append_right _ (B5 (by simp) hoC)))).2.1
      refine ⟨m7, hn7.at' fun o e => by rw [hoC] at e; cases e; exact keepC, fun h' sb => ?_⟩
      obtain ⟨_, g1, g2, g3, g4, g5⟩ := fC
      exact ⟨σ9, H9, I9.unpinned.turned (t' := s9.toks) (fun b o hb e => (sb.2 b hb).trans e) H9C g1 g3 g4 g5, q9⟩
    · refine thn (T.item (X.block scope cl H3.objs.size Nc s2 H2 fp pins) rfl rfl rfl hc i [] s6 σ6 H6 _ I6 (stat fr6) st6 go) fun r s7 ⟨u, hr, h7⟩ => ?_
      subst hr
      refine thn h7 fun _ s8 ⟨x, H8, I8, r8, y8, st8, fr8⟩ => ?_
      have I8' := I8.pinned (stat fr8) (T.obj _ _ st8)
      refine thn (hg _ _ _ _ _ _ s8 σ6 H8 x u _ I8' r8 (step x H8 y8)) fun _ s9 ⟨σ9, H9, I9, q9⟩ => ?_
      refine thn (he _ _ _ _ _ _ s9 σ9 H9 _ I9 q9) fun u10 s10 ⟨v10, H10, I10, r10, ys, hys, hlen, m', hm', w'⟩ => ?_
      refine thn (F5 _ s10 σ9 H10 (.ref s2.heap.objs.size) [v10] (.ref s2.heap.objs.size) [u10] (fun _ H11 => H11 = upd H10 s2.heap.objs.size (.lst (ys ++ [v10]))) I10 rfl (.cons r10 .nil) ⟨_, ys, v10, rfl, rfl, hys, hlen, rfl⟩) fun _ s11 ⟨_, H11, I11, _, hH11⟩ => ?_
      subst hH11
      refine ⟨m', hm', i + 1, σ9, _, I11.unpinned, T.keep _ _ _ st8 fun b hb o e => (I11.pin (b, o) (List.mem_append_right _ (List.mem_append_right _ (B5 hb e)))).1, fun b hb => ?_, w'⟩
      obtain ⟨o, e, d⟩ := T.obj _ _ st8 b hb
      exact (I11.pin (b, o) (List.mem_append_right _ (List.mem_append_right _ (B5 hb e)))).2.1
  exact codeAny_compStart_list (loop _ rfl) (T.self _ 0 _ _ _ (T.keep _ _ _ st2 fun b hb o e => old b o e) (loop _ rfl))
end
def Itv (K : PySem.W.Frag) (a : Addr) (n : Nat) : It :=
  ⟨fun i H => i < n ∧ ∃ xs x, SqL K H a xs ∧ xs[n - 1 - i]? = some x, fun i H x H' => H' = H ∧ ∀ xs, SqL K H a xs → xs[n - 1 - i]? = some x, fun i H => i = n⟩
theorem aR2 {P : Program} {w : World} {K : PySem.W.Frag} {tg : Expr} (a it : Addr) (n : Nat) : aQ5 P w K tg (Itv K a n) [it] it (fun i h => h.IsRevIter it a ((n : Int) - 1 - (i : Int))) where
  mem := by simp
  obj := fun i h st b hb => by
    have e : b = it := by simpa using hb
    subst e
    obtain ⟨o, e, c, d⟩ := st
    exact ⟨o, e, fun v z => by rw [d] at z; cases z⟩
  keep := fun i h h' st k => st.at fun o e => k it (by simp) o e
  item := by
    intro X hP hw hK hc i pins s σ H E I hf st hg
    subst hP hw hK
    obtain ⟨hi, xs, x, hq, hx⟩ := hg
    obtain ⟨its, rv, p, hz⟩ := I.list hq
    obtain ⟨u, hu, ru⟩ := rv.get hx
    obtain ⟨f0, f1, f2, f3, f4, f5⟩ := hf it (by simp)
    have e : (n : Int) - 1 - (i : Int) = ((n - 1 - i : Nat) : Int) := by omega
    rw [e] at st
    refine wpAny_pyNext_rev_item st p.isList (x := u) (by simpa using hu) fun h' st' sb => ?_
    have I1 : Inv X pins σ H { s with heap := h' } := I.turned (t' := s.toks) (fun b o hb e => (sb.2 b hb).trans e) f0 f1 f3 f4 f5
    have e2 : ((n - 1 - i : Nat) : Int) - 1 = (n : Int) - 1 - ((i + 1 : Nat) : Int) := by omega
    rw [e2] at st'
    obtain ⟨o, e, c, d⟩ := id st'
    exact ⟨u, rfl, aK9 (s := { s with heap := h' }) e c d (by decide) ⟨x, H, I1, ru, ⟨rfl, fun ys hy => by rw [I.list_inj hy hq]; exact hx⟩, st', fun b hb => (hf b hb).1⟩⟩
  done := by
    intro X hP hw hK hc i pins s σ H E I hf st hg
    subst hP hw hK
    have e : i = n := hg
    subst e
    have e : (i : Int) - 1 - (i : Int) = -1 := by omega
    rw [e] at st
    obtain ⟨f0, f1, f2, f3, f4, f5⟩ := hf it (by simp)
    exact wpAny_pyNext_rev_end (I.ok.hd hc) st fun h' eb => ⟨rfl, I.turned (t' := s.toks) (fun b o hb e => eb b o hb e) f0 f1 f3 f4 f5⟩
  self := fun _ _ _ _ _ st h => wpAny_pyIter_revIter st h
section
variable {X : Cx}
def aW8 (K : PySem.W.Frag) (ta : TA) : TI := fun σ H R => ta σ H fun vs H1 => ∃ a xs, vs = [.ref a] ∧ SqL K H1 a xs ∧ R (Itv K a xs.length) H1
theorem bh5 {tg l : Expr} {ta : TA} {p pos : Pos} (hg : Gl X "reversed") (hm : X.mg "reversed" = none) (ha : PA X [l] ta) (hs : starEach [l] X.env = [(false, eval l X.env)] := by rfl) :
    PI X tg (.Call (.Name "reversed" p) [l] [] pos) (aW8 X.K ta) := by
  intro pins s σ H R I h
  refine Call_ (Z3 I hg hm (u := .type "reversed") (by decide +kernel) (PyProof.Rows.callWith_type1 (thn (ha pos pins s σ H _ I h) fun us s1 ⟨vs, H1, I1, r1, q1⟩ => ?_) hs rfl))
  obtain ⟨a, xs, e, hq, q⟩ := q1
  subst e
  obtain ⟨u, rfl, rx⟩ := af1 r1
  cases rx
  obtain ⟨its, rv, p, hz⟩ := I1.list hq
  refine call_reversed_list p.isList ?_
  have hl := rv.length
  have e : ((its.toArray.size : Nat) : Int) - 1 = (xs.length : Int) - 1 - ((0 : Nat) : Int) := by simp; omega
  rw [e]
  have I2 : Inv X pins σ H1 { s1 with heap := s1.heap.push (revObj a ((xs.length : Int) - 1 - ((0 : Nat) : Int))) } := I1.kept (t' := s1.toks) fun b o e => Heap.get?_push_of_some _ e
  refine wpAny_pyIter_revIter (it := s1.heap.objs.size) (l := a) (i := (xs.length : Int) - 1 - ((0 : Nat) : Int)) ⟨_, Heap.get?_push_size _ rfl, rfl, rfl⟩ ?_
  refine ⟨s1.heap.objs.size, [s1.heap.objs.size], _, _, H1, rfl, I2, aR2 a _ xs.length, ⟨_, Heap.get?_push_size _ rfl, rfl, rfl⟩, fun b hb => ?_, q⟩
  have e : b = s1.heap.objs.size := by simpa using hb
  subst e
  exact I1.fpOk (Nat.le_refl _) (I1.hok.fresh (Nat.le_refl _))
end
section
variable {X : Cx}
def ipM (c : Int → Int → Prop) (f : Int → Int → Int) : TIp := fun x y H Q => ∃ i j, x = .int i ∧ y = .int j ∧ c i j ∧ Q (.int (f i j)) H
theorem bj3 : PIp X .Mult (ipM IntMulOk fun i j => i * j) := by
  intro pins s σ H x y v u Q I r1 r2 h
  obtain ⟨i, j, e1, e2, hc, q⟩ := h
  subst e1; subst e2
  obtain ⟨t, rfl⟩ := r1
  obtain ⟨t', rfl⟩ := r2
  exact imul_int ⟨.int _, H, I.tok _, ⟨_, rfl⟩, q⟩ hc
end
section
variable {X : Cx}
def ad0 (K : PySem.W.Frag) (te : TE) : TT := fun σ H Q => te σ H fun x H' => ∃ k, aa2 K x H' k ∧ Q k H'
theorem av6 {e : Expr} {te : TE} (h : PE X e te) (he : ∀ whole, isTrue e X.env whole = (do let v ← whole; standAt e.pos; holding [v] (truthy v))) : PT X e (ad0 X.K te) := G7 h he
end
def Itd (hi : Int) (n : Nat) : It := ⟨fun i _ => i < n, fun i H x H' => H' = H ∧ x = .int (hi - i), fun i _ => n ≤ i⟩
section
variable {X : Cx} {tg : Expr}
def bm6 (ta : TA) : TI := fun σ H R => ta σ H fun vs H1 => ∃ i j : Int, vs = [.int i, .int j, .int (-1)] ∧ (-(2 ^ 62) ≤ i ∧ i < 2 ^ 62 ∧ -(2 ^ 62) ≤ j ∧ j < 2 ^ 62) ∧ R (Itd i (i - j).toNat) H1
end
theorem bc3 {K : PySem.W.Frag} {a : Addr} {xs : List V} {g : TG} {tb : TS} {D : ab8} {σ : St} {H : Hp} (Pv : Nat → St → Hp → Prop) (h0 : Pv 0 σ H) (hl : ∀ i σ H, i ≤ xs.length → Pv i σ H → SqL K H a xs)
    (hs : ∀ i x σ H, i < xs.length → xs[xs.length - 1 - i]? = some x → Pv i σ H → g x σ H fun σ2 H2 => tb { D with nx := Pv (i + 1), ct := Pv (i + 1), bk := D.nx } σ2 H2) (hd : ∀ σ H, Pv xs.length σ H → D.nx σ H) :
    ∃ W : Nat → Nat → St → Hp → Prop, (∃ m, W 0 m σ H) ∧ ∀ i m σ H, W i m σ H →
      ((Itv K a xs.length).stop i H ∧ D.nx σ H) ∨ ((Itv K a xs.length).go i H ∧ ∃ N : St → Hp → Prop, (∀ σ' H', N σ' H' → ∃ m', m' < m ∧ W (i + 1) m' σ' H') ∧ ∀ x H', (Itv K a xs.length).yld i H x H' → g x σ H' fun σ2 H2 => tb { D with nx := N, ct := N, bk := D.nx } σ2 H2) := by
  refine ⟨fun i m σ H => m = xs.length - i ∧ i ≤ xs.length ∧ Pv i σ H, ⟨xs.length, by simp, Nat.zero_le _, h0⟩, ?_⟩
  rintro i m σ H ⟨rfl, hi, p⟩
  have q := hl i σ H hi p
  by_cases hlt : i < xs.length
  · refine .inr ⟨⟨hlt, xs, xs[xs.length - 1 - i], q, List.getElem?_eq_getElem (by omega)⟩, Pv (i + 1), fun σ' H' p' => ⟨xs.length - (i + 1), by omega, rfl, hlt, p'⟩, fun x H' y => ?_⟩
    obtain ⟨e, y⟩ := y
    subst e
    exact hs i x σ _ hlt (y xs q) p
  · have e : i = xs.length := by omega
    subst e
    exact .inl ⟨rfl, hd σ H p⟩
def bo0 (K : PySem.W.Frag) : List V → Hp → VK → Prop := fun xs H Q => ∃ p ys, xs = [.ref p] ∧ (SqL K H p ys ∨ SqT K H p ys) ∧ Q (.int ys.length) H
def bl0 (K : PySem.W.Frag) (n C i : Nat) (tb : XK → TS) (th : Addr → TS) : TS := fun D σ H =>
  tb (fun cls _ H' => PySem.W.exmOne K cls (.ref C) = some true ∧ ∀ a, H' a = none → th a { nx := fun σ H' => D.nx (σ.set i none) H', rt := D.rt } ((List.replicate n none).set i (some (.ref a))) (upd H' a (Exc cls a))) D σ H
def smZ : List Int → Int
  | [] => 0
  | a :: l => a + smZ l
def bn8 (K : PySem.W.Frag) : List V → Hp → VK → Prop := fun xs H Q => ∃ (p : Addr) (ns : List Int), xs = [.ref p] ∧ SqL K H p (ns.map V.int) ∧ Q (.int (smZ ns)) H
def aN6 (K : PySem.W.Frag) : List V → Hp → VK → Prop := fun xs H Q => ∃ p ys, xs = [.ref p] ∧ (SqL K H p ys ∨ SqT K H p ys) ∧ ∀ l, H l = none → Q (.ref l) (upd H l (.lst ys))
structure OwnCells (h h' : Heap) (names : List (Str × NameKind)) (acc cs : List (Str × Addr)) : Prop where
  cell : ∀ x c, cs.lookup x = some c → ∃ v, h'.IsCell c v
  inj : ∀ x y c, cs.lookup x = some c → cs.lookup y = some c → x = y
  old : ∀ x c, cs.lookup x = some c → acc.lookup x = some c ∨ h.objs.size ≤ c
  fresh : ∀ x, (x, NameKind.cell) ∈ names → ∀ c, cs.lookup x = some c → h.objs.size ≤ c
structure CapsC (X : Cx) (scope : Scope) (cl : List (Str × Addr)) (Nc : List Str) (caps : List (Option Nat)) : Prop where
  clos : closureFor scope X.env = pure cl
  sub : ∀ x c, cl.lookup x = some c → X.env.cells.lookup x = some c
  has : ∀ n x, (relabel scope X.env).names.lookup x = some .cell ∨ (relabel scope X.env).names.lookup x = some .free → ∃ c, (cellsFrom n scope.names cl).lookup x = some c
  kind : scope.kind = .function
  names : ∀ x ∈ scope.names, x.2 = .local → scope.names.lookup x.1 = some .local
  len : caps.length = Nc.length
  cap : ∀ (i j : Nat) (x : Str), caps[i]? = some (some j) → Nc[i]? = some x → X.N[j]? = some x ∧ Vis X.env.scope x ∧ X.env.kindOf x ≠ some .local ∧ ((relabel scope X.env).names.lookup x = some .cell ∨ (relabel scope X.env).names.lookup x = some .free) ∧
    (∃ c, cl.lookup x = some c) ∧ ∀ n c, cl.lookup x = some c → (cellsFrom n scope.names cl).lookup x = some c
section
variable {X : Cx}
def bo1 : R2 := fun x y H Q => ∃ c d, x = .bl c ∧ y = .bl d ∧ Q (.bl (c == d)) H
def bl7 : R2 := fun x y H Q => ∃ c d, x = .bl c ∧ y = .bl d ∧ Q (.bl (!(c == d))) H
end
structure Stp (prog : Program) (w : World) (it src : Addr) (ar : Array Value) (st : Nat → Heap → Prop) : Prop where
  stay : ∀ {k : Nat} {h h' : Heap}, st k h → (∀ o, h.get? it = some o → h'.get? it = some o) → (∀ o, h.get? src = some o → h'.get? src = some o) → st k h'
  item : ∀ {A : Around} {E : Value → Shared → Prop} {s : Shared} {k : Nat} {v : Value} {Q : Value → Shared → Prop}, st k s.heap → ar[k]? = some v → (∀ h', st (k + 1) h' → Heap.SameBut it s.heap h' → Q v { s with heap := h' }) → wpAny (model prog w) A (Builtin.SmallTypes.nextOf (.ref it)) Q E s
  fin : ∀ {A : Around} {E : Value → Shared → Prop} {s : Shared} {k : Nat} {Q : Value → Shared → Prop}, A.handled = none → st k s.heap → ar[k]? = none → (∀ h' e, Heap.ExtBut it s.heap h' → (∃ o, h'.get? e = some o ∧ o.cls = .type "StopIteration") → E (.ref e) { s with heap := h' }) → wpAny (model prog w) A (Builtin.SmallTypes.nextOf (.ref it)) Q E s
def bp2 (K : PySem.W.Frag) (a b : Addr) : It :=
  ⟨fun i H => ∃ xs ys x y, SqT K H a xs ∧ SqT K H b ys ∧ xs[i]? = some x ∧ ys[i]? = some y,
   fun i H v H' => ∀ xs ys, SqT K H a xs → SqT K H b ys → ∃ x y p, xs[i]? = some x ∧ ys[i]? = some y ∧ H p = none ∧ v = .ref p ∧ H' = upd H p (.tup [x, y]),
   fun i H => ∃ xs ys, SqT K H a xs ∧ SqT K H b ys ∧ (xs.length ≤ i ∨ ys.length ≤ i)⟩
section
variable {X : Cx}
def bm4 (K : PySem.W.Frag) (ta : TA) : TI := fun σ H R => ta σ H fun vs H1 => ∃ a b, vs = [.ref a, .ref b] ∧ (∃ xs, SqT K H1 a xs) ∧ (∃ ys, SqT K H1 b ys) ∧ R (bp2 K a b) H1
end
section
variable {X : Cx} {pos : Pos}
def bl3 (i j l : Nat) (ta : TA) : TS := fun D σ H => ta σ H fun vs H1 => ∃ v w x, vs = [v, w, x] ∧ D.nx (((σ.set i (some v)).set j (some w)).set l (some x)) H1
end
end L2
set_option maxRecDepth 100000
namespace R
theorem K5 {f : Nat → Rat} : ∀ n, (∀ i, i < n → f i = 0) → m8 f n = 0
  | 0, _ => rfl
  | n + 1, h => by
    rw [m8, K5 n (fun i hi => h i (by omega)), h n (by omega)]
    grind
open PySem L2 PyProof.Rows
theorem aj9 {qs : List Rat} {B m n : Nat} (hs : ∀ q ∈ qs, BdN m q) (hB : B < 2 ^ n) (hd : ∀ q ∈ qs, q.den ∣ B) : ∀ v ∈ i0 B qs, Int.natAbs v < 2 ^ (m + n) := by
  intro v hv
  obtain ⟨q, hq, rfl⟩ := List.mem_map.mp hv
  obtain ⟨e, he⟩ := hd q hq
  have h0 : (q.den : Int) ≠ 0 := by have := q.den_nz; omega
  have e1 : (B : Int).fdiv (q.den : Int) = (e : Int) := by
    rw [he, Int.natCast_mul]; exact i9 h0
  have h1 : e ≤ B := by rw [he]; exact Nat.le_mul_of_pos_left _ (by have := q.den_nz; omega)
  rw [e1, Int.natAbs_mul, Int.natAbs_natCast, Nat.pow_add]
  exact Nat.mul_lt_mul'' (hs q hq).n (by omega)
structure ClN (W : Nat) (qs : List Rat) : Prop where
  l : j3 qs < 2 ^ W
  w : ∀ v ∈ i0 (j3 qs) qs, Int.natAbs v < 2 ^ W
theorem ClN.den {W : Nat} {qs : List Rat} (h : ClN W qs) {q : Rat} (hq : q ∈ qs) : q.den < 2 ^ W := Nat.lt_of_le_of_lt (Nat.le_of_dvd (z7 qs) (F9 hq)) h.l
theorem ClN.num {W : Nat} {qs : List Rat} (h : ClN W qs) {q : Rat} (hq : q ∈ qs) : q.num.natAbs < 2 ^ W := by
  have h1 := h.w _ (List.mem_map.mpr ⟨q, hq, rfl⟩)
  obtain ⟨e, he⟩ := F9 hq
  have hp := z7 qs
  have h0 : (q.den : Int) ≠ 0 := by have := q.den_nz; omega
  have e1 : (j3 qs : Int).fdiv (q.den : Int) = (e : Int) := by
    rw [he, Int.natCast_mul]; exact i9 h0
  rw [e1, Int.natAbs_mul, Int.natAbs_natCast] at h1
  refine Nat.lt_of_le_of_lt (Nat.le_mul_of_pos_right _ ?_) h1
  rcases Nat.eq_zero_or_pos e with z | z
  · rw [z] at he; omega
  · exact z
theorem ClN.take {W : Nat} {qs : List Rat} (h : ClN W qs) (i : Nat) : j3 (qs.take i) < 2 ^ W :=
  Nat.lt_of_le_of_lt (Nat.le_of_dvd (z7 qs) (ah4 fun q hq => F9 (List.mem_of_mem_take hq))) h.l
theorem ClN.mono {V W : Nat} {qs : List Rat} (h : ClN V qs) (l : V ≤ W) : ClN W qs := ⟨Nat.lt_of_lt_of_le h.l (d4 l), fun v hv => Nat.lt_of_lt_of_le (h.w v hv) (d4 l)⟩
theorem ar5 {m : Nat} {qs : List Rat} (hs : ∀ q ∈ qs, BdN m q) : ClN (1 + m * qs.length + m) qs := by
  have hB1 := aE7 (m := m) fun q hq => (hs q hq).d
  have wl := aj9 hs hB1 (fun q hq => F9 hq)
  rw [show m + (1 + m * qs.length) = 1 + m * qs.length + m by omega] at wl
  exact ⟨Nat.lt_of_lt_of_le hB1 (d4 (by omega)), wl⟩
theorem ag7 (v : Int) (L : Nat) : Rat.divInt 1 L * (v : Rat) = Rat.divInt v L := by
  have h1 := Rat.num_divInt_den (v : Rat)
  rw [Rat.num_intCast, Rat.den_intCast] at h1
  conv => lhs; rw [← h1]
  rw [Rat.divInt_mul_divInt]
  simp
theorem ar0 (v : Int) {L : Nat} (h : 0 < L) : (Rat.divInt v L).den ∣ L := by
  have hL : (L : Int) ≠ 0 := by omega
  obtain ⟨_, e2⟩ := aA3 (t := v) (b := (L : Int)) (g := (Int.gcd v L : Int)) hL (by rw [if_neg (by omega)])
  obtain ⟨k, hk⟩ := Int.gcd_dvd_right v (L : Int)
  have hg := J3 (t := v) hL
  have e3 : (L : Int).fdiv (Int.gcd v L : Int) = k := by
    conv => lhs; arg 1; rw [hk]
    exact i9 (by omega)
  rw [e3] at e2
  have : ((Rat.divInt v L).den : Int) ∣ (L : Int) := ⟨_, by rw [Int.mul_comm, ← e2]; exact hk⟩
  exact Int.natCast_dvd_natCast.mp this
theorem aA9 (v : Int) {L : Nat} (h : 0 < L) : (Rat.divInt v L).num * L = v * ((Rat.divInt v L).den : Int) := by
  have hL : (L : Int) ≠ 0 := by omega
  have hd : ((Rat.divInt v L).den : Int) ≠ 0 := by have := (Rat.divInt v L).den_nz; omega
  exact (Rat.divInt_eq_divInt_iff hd hL).mp (Rat.num_divInt_den _)
theorem aP8 {L W : Nat} {vs : List Int} (hL0 : 0 < L) (hL : L < 2 ^ W) (hv : ∀ v ∈ vs, Int.natAbs v < 2 ^ W) : ClN W (scl (Rat.divInt 1 L) vs) := by
  have hd : j3 (scl (Rat.divInt 1 L) vs) ∣ L := ah4 fun q hq => by
    obtain ⟨v, _, rfl⟩ := List.mem_map.mp hq
    rw [ag7]
    exact ar0 v hL0
  have hle := Nat.le_of_dvd hL0 hd
  refine ⟨Nat.lt_of_le_of_lt hle hL, fun u hu => ?_⟩
  obtain ⟨q, hq, rfl⟩ := List.mem_map.mp hu
  obtain ⟨e, he⟩ := F9 hq
  have h0 : (q.den : Int) ≠ 0 := by have := q.den_nz; omega
  have e1 : (j3 (scl (Rat.divInt 1 L) vs) : Int).fdiv (q.den : Int) = (e : Int) := by
    rw [he, Int.natCast_mul]; exact i9 h0
  obtain ⟨v, hvm, hvq⟩ := List.mem_map.mp hq
  rw [ag7] at hvq
  have hc := aA9 v hL0
  rw [hvq] at hc
  have hc' : q.num.natAbs * L = v.natAbs * q.den := by
    have := congrArg Int.natAbs hc
    rwa [Int.natAbs_mul, Int.natAbs_mul, Int.natAbs_natCast, Int.natAbs_natCast] at this
  rw [e1, Int.natAbs_mul, Int.natAbs_natCast]
  refine Nat.lt_of_le_of_lt ?_ (hv v hvm)
  have h2 : (q.num.natAbs * e) * L ≤ v.natAbs * L := by
    calc (q.num.natAbs * e) * L = (q.num.natAbs * L) * e := by rw [Nat.mul_right_comm]
      _ = v.natAbs * (q.den * e) := by rw [hc', Nat.mul_assoc]
      _ ≤ v.natAbs * L := Nat.mul_le_mul_left _ (by rw [← he]; exact hle)
  exact Nat.le_of_mul_le_mul_right h2 hL0
theorem aZ7 (qs : List Rat) : scl (Rat.divInt 1 (j3 qs)) (i0 (j3 qs) qs) = qs := by
  unfold scl i0
  rw [List.map_map]
  conv => rhs; rw [← List.map_id qs]
  refine List.map_congr_left fun q hq => ?_
  show Rat.divInt 1 (j3 qs) * ((q.num * (j3 qs : Int).fdiv (q.den : Int) : Int) : Rat) = q
  rw [ag7]
  exact (am5 (z7 qs) (F9 hq)).symm
open PySem L2 PyProof.Rows
structure bk2 (H : Hp) (p : Addr) (qs : List Rat) : Prop where
  ex : ∃ xs, H p = some (.lst xs) ∧ m6 H xs qs
  bd : ∀ q ∈ qs, q.den < 2 ^ 6000
  len : qs.length < 900
  tl : v3 qs qs.length
inductive aY9 (H : Hp) : List Addr → List (List Rat) → Prop where
  | nil : aY9 H [] []
  | cons {p : Addr} {ps : List Addr} {L : List Rat} {Ls : List (List Rat)} (h : bk2 H p L) (t : aY9 H ps Ls) : aY9 H (p :: ps) (L :: Ls)
theorem aI7 : ∀ Ls : List (List Rat), F7 (Ls.map A5) (Ls.map A5) = true
  | [] => by simp [F7]
  | L :: Ls => by rw [List.map_cons, F7, G9, aI7 Ls]; simp
theorem ae8 : ∀ Ls : List (List Rat), Z6 (Ls.map A5) ≤ 2
  | [] => by simp [Z6]
  | L :: Ls => by
    have h1 := N6 L
    have h2 := ae8 Ls
    rw [List.map_cons, Z6]; omega
theorem ao4 {ts : List Addr} {i : Nat} {x : V} (h : (ts.map V.ref)[i]? = some x) : ∃ p, ts[i]? = some p ∧ x = .ref p := by
  rw [List.getElem?_map] at h
  cases hw : ts[i]? with
  | none => rw [hw] at h; cases h
  | some v => rw [hw] at h; cases h; exact ⟨v, rfl, rfl⟩
theorem al3 : ∀ Ls Ms : List (List Rat), F7 (Ls.map A5) (Ms.map A5) = decide (Ls = Ms)
  | [], [] => by simp [F7]
  | [], _ :: _ => by simp [F7]
  | _ :: _, [] => by simp [F7]
  | p :: ps, q :: qs => by
    rw [List.map_cons, List.map_cons, F7, G9, al3 ps qs]
    by_cases h1 : p = q <;> by_cases h2 : ps = qs <;> simp [h1, h2]
theorem ak3 : ∀ Ls Ms : List (List Rat), R8 (Ls.map A5) (Ms.map A5) = true
  | [], [] => by simp [R8]
  | [], _ :: _ => by simp [R8]
  | _ :: _, [] => by simp [R8]
  | p :: ps, q :: qs => by rw [List.map_cons, List.map_cons, R8, K2, ak3 ps qs]; rfl
def O9 (Ls : List (List Rat)) : D := .lst (Ls.map A5)
theorem aw7 (Ls Ms : List (List Rat)) : eqD (O9 Ls) (O9 Ms) = decide (Ls = Ms) := by unfold O9; rw [eqD, al3]
theorem av9 (Ls Ms : List (List Rat)) : okD (O9 Ls) (O9 Ms) = true := by unfold O9; rw [okD, ak3]
theorem aY0 (Ls : List (List Rat)) : dpD (O9 Ls) ≤ 60 := by unfold O9; rw [dpD]; have := ae8 Ls; omega
open PySem L2 PyProof.Rows
theorem aY4 (xs : List V) {n : Nat} (h : n ≤ xs.length) : Z8 xs (some (n : Int)) none = xs.drop n := by
  unfold Z8
  have e1 : HT.sIx xs.length 0 (some (n : Int)) = n := by
    simp only [HT.sIx]
    rw [if_neg (by omega)]; omega
  have e2 : HT.sIx xs.length xs.length none = xs.length := rfl
  rw [e1, e2, List.take_of_length_le (by rw [List.length_drop]; omega)]
theorem V3 {qs : List Rat} (h : ∀ x, qs[qs.length - 1]? = some x → x ≠ 0) : v3 qs qs.length :=
  ⟨Nat.le_refl _, fun i q hi e => (by rw [List.getElem?_eq_none hi] at e; cases e), fun _ q e => h q e⟩
theorem o0.seq {K : PySem.W.Frag} {u : Addr} {H H' : Hp} {b : Addr} {xs : List V} (s : o0 u H H') (hu : H u = none) (h : SqL K H b xs) : SqL K H' b xs := by
  rcases h with h | h
  · rcases h with h | ⟨o, h⟩
    · exact .inl (.inl (s _ _ h (d8 h hu)))
    · exact .inl (.inr ⟨o, s _ _ h (d8 h hu)⟩)
  · exact .inr h
theorem V2 {qs : List Rat} {m : Nat} (h : v3 qs m) : v3 (qs.take m) (qs.take m).length := by
  have := h.self
  rw [List.length_take, Nat.min_eq_left h.le]; exact this
def aJ9 (K : PySem.W.Frag) : Sp := fun vs H Q _ => ∃ (a : Addr) (ns : List Int), vs = [.ref a] ∧ SqL K H a (ns.map V.int) ∧ ns.length ≤ 63 ∧ ∀ H', Q (.bl true) H'
structure ExT (K : PySem.W.Frag) (mg : Str → Option Value) (x : Str) (C : Addr) : Prop where
  m : mg x = some (.ref C)
  ox : be4 K C [.type "ValueError", .type "Exception", .type "BaseException", .type "object"] "ValueError.__new__"
  ec : D6 K C
structure CAd where
  c_NoFraction : Addr
  c_NoPolynomial : Addr
  c_NoStretch : Addr
  c_NoRow : Addr
  c_NoPair : Addr
  c_NoBack : Addr
  c_NoForm : Addr
  c_NoParts : Addr
  c_NoDegree : Addr
  c_NoSteps : Addr
  c_NoBox : Addr
  c_NoGain : Addr
  c_NoText : Addr
  c_NoLine : Addr
  c_NoName : Addr
  c_NoDeed : Addr
  c_RestError : Addr
structure XTx (K : PySem.W.Frag) (mg : Str → Option Value) (a : CAd) : Prop where
  x_NoFraction : ExT K mg "NoFraction" a.c_NoFraction
  x_NoPolynomial : ExT K mg "NoPolynomial" a.c_NoPolynomial
  x_NoStretch : ExT K mg "NoStretch" a.c_NoStretch
  x_NoRow : ExT K mg "NoRow" a.c_NoRow
  x_NoPair : ExT K mg "NoPair" a.c_NoPair
  x_NoBack : ExT K mg "NoBack" a.c_NoBack
  x_NoForm : ExT K mg "NoForm" a.c_NoForm
  x_NoParts : ExT K mg "NoParts" a.c_NoParts
  x_NoDegree : ExT K mg "NoDegree" a.c_NoDegree
  x_NoSteps : ExT K mg "NoSteps" a.c_NoSteps
  x_NoBox : ExT K mg "NoBox" a.c_NoBox
  x_NoGain : ExT K mg "NoGain" a.c_NoGain
  x_NoText : ExT K mg "NoText" a.c_NoText
  x_NoLine : ExT K mg "NoLine" a.c_NoLine
  x_NoName : ExT K mg "NoName" a.c_NoName
  x_NoDeed : ExT K mg "NoDeed" a.c_NoDeed
structure bk7 (K : PySem.W.Frag) (a : CAd) (C : Addr) (j : Nat) : Prop where
  k_NoFraction : PySem.W.kitOne K (.ref C) (.ref a.c_NoFraction) = some (decide (j = 0))
  k_NoPolynomial : PySem.W.kitOne K (.ref C) (.ref a.c_NoPolynomial) = some (decide (j = 1))
  k_NoStretch : PySem.W.kitOne K (.ref C) (.ref a.c_NoStretch) = some (decide (j = 2))
  k_NoRow : PySem.W.kitOne K (.ref C) (.ref a.c_NoRow) = some (decide (j = 3))
  k_NoPair : PySem.W.kitOne K (.ref C) (.ref a.c_NoPair) = some (decide (j = 4))
  k_NoBack : PySem.W.kitOne K (.ref C) (.ref a.c_NoBack) = some (decide (j = 5))
  k_NoForm : PySem.W.kitOne K (.ref C) (.ref a.c_NoForm) = some (decide (j = 6))
  k_NoParts : PySem.W.kitOne K (.ref C) (.ref a.c_NoParts) = some (decide (j = 7))
  k_NoDegree : PySem.W.kitOne K (.ref C) (.ref a.c_NoDegree) = some (decide (j = 8))
  k_NoSteps : PySem.W.kitOne K (.ref C) (.ref a.c_NoSteps) = some (decide (j = 9))
  k_NoBox : PySem.W.kitOne K (.ref C) (.ref a.c_NoBox) = some (decide (j = 10))
  k_NoGain : PySem.W.kitOne K (.ref C) (.ref a.c_NoGain) = some (decide (j = 11))
  k_NoText : PySem.W.kitOne K (.ref C) (.ref a.c_NoText) = some (decide (j = 12))
  k_NoLine : PySem.W.kitOne K (.ref C) (.ref a.c_NoLine) = some (decide (j = 13))
  k_NoName : PySem.W.kitOne K (.ref C) (.ref a.c_NoName) = some (decide (j = 14))
  k_NoDeed : PySem.W.kitOne K (.ref C) (.ref a.c_NoDeed) = some (decide (j = 15))
  kV : PySem.W.kitOne K (.ref C) (.type "ValueError") = some true
  ec : D6 K C
  ex : PySem.W.exmOne K (.ref C) (.ref a.c_RestError) = some true
def aH8 (j : Nat) : Str := [("fraction" : Str), "polynomial", "stretch", "row", "pair", "back", "form", "parts", "degree", "steps", "box", "gain", "text", "line", "name", "deed"].getD j ""
def ay1 (K : PySem.W.Frag) (a : CAd) : Sp := fun vs H Q _ => ∃ e C j, vs = [.ref e] ∧ bk7 K a C j ∧ j < 16 ∧ H e = some (Exc (.ref C) e) ∧ ∀ H', d5 H H' → Q (.str (aH8 j)) H'
def told (j : Nat) : List V := [V.bl (decide (j = 0)), V.bl (decide (j = 1)), V.bl (decide (j = 2)), V.bl (decide (j = 3))] ++ [V.bl (decide (j = 4)), V.bl (decide (j = 5)), V.bl (decide (j = 6)), V.bl (decide (j = 7))] ++ [V.bl (decide (j = 8)), V.bl (decide (j = 9)), V.bl (decide (j = 10)), V.bl (decide (j = 11))] ++ [V.bl (decide (j = 12)), V.bl (decide (j = 13)), V.bl (decide (j = 14)), V.bl (decide (j = 15))]
theorem aG4 : ∀ j, j < 16 → (told j).countP (fun z => eqV z (V.bl true)) = 1 := by decide
theorem aR4 : ∀ j, j < 16 → (told j).findIdx? (fun z => eqV z (V.bl true)) = some j := by decide
theorem au1 : ∀ j, j < 16 → (told j).all R6 = true := by decide
theorem ak1 : ab4 "fraction polynomial stretch row pair back form parts degree steps box gain text line name deed" " " = [("fraction" : Str), "polynomial", "stretch", "row", "pair", "back", "form", "parts", "degree", "steps", "box", "gain", "text", "line", "name", "deed"] := by decide +kernel
theorem bb4 {j : Nat} (hj : j < 16) : atI ((ab4 "fraction polynomial stretch row pair back form parts degree steps box gain text line name deed" " ").map V.str) (j : Int) = some (.str (aH8 j)) := by
  rw [ak1]
  refine S9 ?_
  have : ∀ j, j < 16 → ((["fraction", "polynomial", "stretch", "row", "pair", "back", "form", "parts", "degree", "steps", "box", "gain", "text", "line", "name", "deed"] : List Str).map V.str)[j]? = some (.str (aH8 j)) := by decide
  exact this j hj
theorem U4 {ws : List Int} {i : Nat} {x : V} (h : (ws.map V.int)[i]? = some x) : ∃ v, ws[i]? = some v ∧ x = .int v := by
  rw [List.getElem?_map] at h
  cases hw : ws[i]? with
  | none => rw [hw] at h; cases h
  | some v => rw [hw] at h; cases h; exact ⟨v, rfl, rfl⟩
open PySem L2 PyProof.Rows
def top (i : Nat) : Stmt := PySem.Challenge.pw_restward_k13_divisions_told.main.body.getD i (.Pass ⟨0, 0, 0, 0⟩)
end R
set_option maxRecDepth 100000
local macro_rules | `(tactic| subst_eqs) => `(tactic| simp only [L2.aW8, L2.ipM, L2.ad0, L2.aN6, L2.af3, L2.V4, L2.aC0, L2.aT5, L2.aC2, L2.tSl, L2.aB7, L2.af2, L2.aT4, L2.aT6, L2.ag6, L2.aF2, L2.M2, List.map_cons, List.map_nil, Option.bind_none, Option.bind_some, Option.join_some, L2.aM6, L2.aS1, L2.aS4, L2.tOr, L2.aR9, L2.am7, L2.tB, L2.tOp, L2.tUn, L2.aN0, L2.tBM, L2.Q3, L2.tC, L2.tCB, L2.aM7, L2.aG5, L2.p7, L2.aX3, L2.O5, L2.t5, L2.O6, L2.U0, L2.am9, L2.aM8, L2.aM5, L2.aS0, L2.tIf, L2.aC3, L2.aR8, L2.aB8, L2.aM9, L2.ai3, L2.aC1, L2.aB9, L2.ao0, L2.am8, L2.aS3, L2.ipI, L2.rI, L2.rI0, L2.rU, L2.ag5, L2.aD3, L2.aN7, L2.aD2, L2.rEq, L2.rNe, L2.ao7, L2.ao6, L2.ao5, L2.aT7, L2.aT9, L2.aF0, L2.aF1, L2.ae9, L2.cxR, L2.cxX, L2.Cx.nox, L2.Cx.wish, L2.Cx.body, L2.Cx.suite, List.getElem?_cons_zero, List.getElem?_cons_succ, List.set_cons_zero, List.set_cons_succ, Option.some.injEq, L2.V.int.injEq, L2.V.bl.injEq, L2.V.ref.injEq, L2.V.str.injEq, exists_eq_left', exists_eq_left, exists_and_left, true_and, and_true, List.cons.injEq, reduceCtorEq, Bool.false_eq_true, if_false, if_true, exists_const, ↓reduceIte, L2.tyV, List.length_cons, List.length_nil, exists_eq, List.append_nil, List.cons_append, List.nil_append, decide_eq_true_eq, not_true_eq_false, not_false_eq_true, Bool.not_eq_true', decide_eq_false_iff_not, Bool.not_true, Bool.not_false, and_assoc, false_and, false_or, or_false])
local macro_rules | `(tactic| simp! [$ls,*]) => `(tactic| simp only [L2.aW8, L2.ipM, L2.ad0, L2.aN6, L2.af3, L2.V4, L2.aC0, L2.aT5, L2.aC2, L2.tSl, L2.aB7, L2.af2, L2.aT4, L2.aT6, L2.ag6, L2.aF2, L2.M2, List.map_cons, List.map_nil, Option.bind_none, Option.bind_some, Option.join_some, L2.aM6, L2.aS1, L2.aS4, L2.tOr, L2.aR9, L2.am7, L2.tB, L2.tOp, L2.tUn, L2.aN0, L2.tBM, L2.Q3, L2.tC, L2.tCB, L2.aM7, L2.aG5, L2.p7, L2.aX3, L2.O5, L2.t5, L2.O6, L2.U0, L2.am9, L2.aM8, L2.aM5, L2.aS0, L2.tIf, L2.aC3, L2.aR8, L2.aB8, L2.aM9, L2.ai3, L2.aC1, L2.aB9, L2.ao0, L2.am8, L2.aS3, L2.ipI, L2.rI, L2.rI0, L2.rU, L2.ag5, L2.aD3, L2.aN7, L2.aD2, L2.rEq, L2.rNe, L2.ao7, L2.ao6, L2.ao5, L2.aT7, L2.aT9, L2.aF0, L2.aF1, L2.ae9, L2.cxR, L2.cxX, L2.Cx.nox, L2.Cx.wish, L2.Cx.body, L2.Cx.suite, List.getElem?_cons_zero, List.getElem?_cons_succ, List.set_cons_zero, List.set_cons_succ, Option.some.injEq, L2.V.int.injEq, L2.V.bl.injEq, L2.V.ref.injEq, L2.V.str.injEq, exists_eq_left', exists_eq_left, exists_and_left, true_and, and_true, List.cons.injEq, reduceCtorEq, Bool.false_eq_true, if_false, if_true, exists_const, ↓reduceIte, L2.tyV, List.length_cons, List.length_nil, exists_eq, List.append_nil, List.cons_append, List.nil_append, decide_eq_true_eq, not_true_eq_false, not_false_eq_true, Bool.not_eq_true', decide_eq_false_iff_not, Bool.not_true, Bool.not_false, and_assoc, false_and, false_or, or_false, $ls,*])
local macro_rules | `(tactic| clean_wf) => `(tactic| exact ⟨rfl, rfl, rfl, by decide +kernel, rfl, by decide +kernel, by decide +kernel⟩)
namespace R
open PySem L2 PyProof.Rows
section
variable {P : Program} {w : World} {K : PySem.W.Frag} {mg : Str → Option Value} {base : Heap}
def af7 : Sp := fun vs H Q _ => ∃ a b : Int, vs = [.int a, .int b] ∧ (a.natAbs < 2 ^ 6000 ∨ b.natAbs < 2 ^ 6000) ∧ Q (.int (Int.gcd a b)) H
abbrev A0 : Stmt := top 25
theorem S7 : i5 ["one", "other"] ["one", "other"] (d3 A0) := by clean_wf
theorem ag9 {f : Addr} (d : Df K mg "common_divisor" A0 ["one", "other"] f) (c_SHORT : ∃ t, mg "SHORT" = some (.int 6000 t)) (n_abs : mg "abs" = none) : Def P w K mg base CX0 1 "common_divisor" f ["one", "other"] af7 := by
  obtain ⟨tS, c_SHORT⟩ := c_SHORT
  refine d.ok (N := ["one", "other"]) S7 (fun vs H Q E ⟨a, b, h, _⟩ => by rw [h]; rfl) (fun cdv A outer s H vs Q E hr h => ?_)
  obtain ⟨a, b, rfl, hab, q⟩ := h
  refine ⟨_, (b8 (C2 (PW.pt (az1 (j5 ap2 (ad8 PySem.F.plainAttrs_int PySem.F.slot_int_bit_length PySem.F.type_int_bit_length U3 (pv 1)) (v9 (v := .int 6000) rfl c_SHORT ⟨_, rfl⟩) (j7 _)) (am2 (j5 ap2 (ad8 PySem.F.plainAttrs_int PySem.F.slot_int_bit_length PySem.F.type_int_bit_length U3 (pv 0)) (v9 (v := .int 6000) rfl c_SHORT ⟨_, rfl⟩) (j7 _))))) (d6 aD4) t3)
      (b8 (O4 PassesOwn.never (G7 (pv 1) (fun _ => rfl)) (d6 (X8 (i := 0) (j := 1) rfl S7.nd rfl rfl (by decide) rfl rfl (b0 (pv 1) (b0 (e8 J2 (pv 0) (pv 1)) b6)) rfl)))
      (d6 (i3 (d9 U8 rfl n_abs (by decide +kernel) (b0 (pv 0) b6)))))), ?_⟩
  rw [show start ["one", "other"] [.int a, .int b] = [some (.int a), some (.int b)] from rfl]
  have hno : ¬ ((6000 : Int) < Builtin.Int.intBits b ∧ (6000 : Int) < Builtin.Int.intBits a) := by
    rintro ⟨h1, h2⟩
    rcases hab with z | z
    · have := N3 z; omega
    · have := N3 z; omega
  have main : ∀ {D : ab8} , (∀ x : Int, ∀ y : Int, y = 0 → Int.gcd x y = Int.gcd a b → D.nx [some (.int x), some (.int y)] H) → ai2 (fun σ H_1 Q => Q3 1 σ H_1 fun x H' => ∃ k, aa2 K x H' k ∧ Q k H')
      (aM8 0 1 (U0 (Q3 1) (U0 (tOp (rI (fun x j => j ≠ 0) fun i j => V.int (i.fmod j)) (Q3 0) (Q3 1)) am9))) D [some (.int a), some (.int b)] H := by
    intro D hD
    refine aB5 (fun σ H1 => H1 = H ∧ ∃ x y : Int, σ = [some (.int x), some (.int y)] ∧ Int.gcd x y = Int.gcd a b) (fun σ _ => match σ with | [_, some (.int y)] => y.natAbs | _ => 0) ⟨rfl, a, b, rfl, rfl⟩ ?_ ?_
    · rintro σ H1 ⟨rfl, x, y, rfl, hg⟩
      simp! [aa2]
      split
      · rename_i hy
        have hy' : y ≠ 0 := by simpa using hy
        exact ⟨hy', by rw [aF4]; exact hg, Y9 x hy'⟩
      · rename_i hy
        have hy' : y = 0 := by simpa using hy
        exact hD x y hy' hg
    · intro σ H1 Q Q' hQ h
      obtain ⟨v, e1, k, e2, e3⟩ := h
      exact ⟨v, e1, k, e2, hQ _ _ e3⟩
  have fin : ∀ x y : Int, y = 0 → Int.gcd x y = Int.gcd a b → Q (.int (if x < 0 then -x else x)) H := fun x y hy hg => by
    subst hy
    have e : (if x < 0 then -x else x) = (Int.gcd a b : Int) := by
      rw [← hg, Int.gcd_zero_right]
      split <;> omega
    rw [e]; exact q
  have nxt : ∀ x y : Int, y = 0 → Int.gcd x y = Int.gcd a b → (aM7 (tCB (fun xs H Q => ∃ i, xs = [V.int i] ∧ Q (V.int (if i < 0 then -i else i)) H) (U0 (Q3 0) am9)) { nx := fun x H' => Q V.non H', rt := Q }) [some (.int x), some (.int y)] H := fun x y hy hg => by
    subst_eqs
    exact fin x y hy hg
  subst_eqs
  split
  · split
    · exact hno ⟨‹_›, ‹_›⟩
    · exact main nxt
  · exact main nxt
def aS9 (K : PySem.W.Frag) (op : Rat → Rat → Rat) : Sp := fun vs H Q _ => ∃ (x y : V) (p q : Rat), vs = [x, y] ∧ Num K H x p ∧ Num K H y q ∧ Bd6 p ∧ Bd6 q ∧ aB4 H Q (op p q)
abbrev V6 : Stmt := top 26
theorem O0 : i5 ["one", "other", "first", "second", "top", "one_top", "one_bottom", "other_top", "other_bottom"] ["one", "other"] (d3 V6) := by clean_wf
theorem aV3 {f fc : Addr} (d : Df K mg "times" V6 ["one", "other"] f) (G_common_divisor : Def P w K mg base CX0 1 "common_divisor" fc ["one", "other"] af7) : Def P w K mg base CX0 2 "times" f ["one", "other"] (aS9 K (· * ·)) := by
  refine d.ok (N := ["one", "other", "first", "second", "top", "one_top", "one_bottom", "other_top", "other_bottom"]) O0 (fun vs H Q E ⟨x, y, p, q, h, _⟩ => by rw [h]; rfl) (fun cdv A outer s H vs Q E hr h => ?_)
  obtain ⟨x, y, p, q, rfl, ⟨ap, rfl, hp⟩, ⟨aq, rfl, hq⟩, bp, bq, k⟩ := h
  refine ⟨_, (b8 (G8 (pv 0) (show PG _ _ (O5 K 2 (t5 (p7 5) (t5 (p7 6) O6))) from by (refine D8 (n := 2) ?_ ?_ ?_ ?_; rfl; (refine i4 ?_ ?_ ?_; (exact (g6 (i := 5) O0.nd rfl (Or.inl rfl))); (refine i4 ?_ ?_ ?_; (exact (g6 (i := 6) O0.nd rfl (Or.inl rfl))); (exact B3); rfl); rfl); rfl; rfl)))
      (b8 (G8 (pv 1) (show PG _ _ (O5 K 2 (t5 (p7 7) (t5 (p7 8) O6))) from by (refine D8 (n := 2) ?_ ?_ ?_ ?_; rfl; (refine i4 ?_ ?_ ?_; (exact (g6 (i := 7) O0.nd rfl (Or.inl rfl))); (refine i4 ?_ ?_ ?_; (exact (g6 (i := 8) O0.nd rfl (Or.inl rfl))); (exact B3); rfl); rfl); rfl; rfl)))
      (b8 (g7 (i := 2) O0.nd rfl (Or.inl rfl) (d7 G_common_divisor hr (b0 (pv 5) (b0 (pv 8) b6)) g8))
      (b8 (g7 (i := 3) O0.nd rfl (Or.inl rfl) (d7 G_common_divisor hr (b0 (pv 7) (b0 (pv 6) b6)) g8))
      (b8 (g7 (i := 4) O0.nd rfl (Or.inl rfl) (e8 y9 (e8 B8 (pv 5) (pv 2)) (e8 B8 (pv 7) (pv 3))))
      (d6 (i3 (v7 (b0 (pv 4) (b0 (e8 y9 (e8 B8 (pv 6) (pv 3)) (e8 B8 (pv 8) (pv 2))) b6)))))))))), ?_⟩
  rw [show start ["one", "other", "first", "second", "top", "one_top", "one_bottom", "other_top", "other_bottom"] [.ref ap, .ref aq] = [some (.ref ap), some (.ref aq), none, none, none, none, none, none, none] from rfl]
  simp! [af7]
  refine ⟨_, hp, rfl, ?_⟩
  simp! [w9, af7]
  refine ⟨_, hq, rfl, ?_⟩
  simp! [w9, af7]
  have dp := t7 p
  have dq := t7 q
  have bdp : ((p.den : Int)).natAbs < 2 ^ 6000 := by rw [Int.natAbs_natCast]; exact bp.d
  have bdq : ((q.den : Int)).natAbs < 2 ^ 6000 := by rw [Int.natAbs_natCast]; exact bq.d
  have p1 := J3 (t := p.num) (b := (q.den : Int)) (by omega)
  have p2 := J3 (t := q.num) (b := (p.den : Int)) (by omega)
  have l1 : ((Int.gcd p.num q.den : Nat) : Int).natAbs < 2 ^ 6000 := aq1 (by omega) bdq
  have l2 : ((Int.gcd q.num p.den : Nat) : Int).natAbs < 2 ^ 6000 := aq1 (by omega) bdp
  have v1 : ∀ i, as1 i ((Int.gcd p.num q.den : Nat) : Int) := fun i => P1 (by omega) (M0 l1)
  have v2 : ∀ i, as1 i ((Int.gcd q.num p.den : Nat) : Int) := fun i => P1 (by omega) (M0 l2)
  have f1 := W5 (a := p.num) (g := ((Int.gcd p.num q.den : Nat) : Int)) (by omega) (Int.gcd_dvd_left _ _)
  have f2 := W5 (a := q.num) (g := ((Int.gcd q.num p.den : Nat) : Int)) (by omega) (Int.gcd_dvd_left _ _)
  have f3 := W5 (a := p.den) (g := ((Int.gcd q.num p.den : Nat) : Int)) (by omega) (Int.gcd_dvd_right _ _)
  have f4 := W5 (a := q.den) (g := ((Int.gcd p.num q.den : Nat) : Int)) (by omega) (Int.gcd_dvd_right _ _)
  have R := aR7 (a := p.num) (b := p.den) (c := q.num) (d := q.den) dp dq (ag4 p) (ag4 q) rfl rfl
  refine ⟨.inr (M0 bdq), .inr (M0 bdp), v1 _, v2 _, R1 (Nat.lt_of_le_of_lt f1 bp.n) (Nat.lt_of_le_of_lt f2 bq.n), v2 _, v1 _, R1 (Nat.lt_of_le_of_lt f3 bdp) (Nat.lt_of_le_of_lt f4 bdq), v8, fun r hr' => ?_⟩
  obtain ⟨e1, e2⟩ := J4 R.1 R.2.1 (show (p.den : Int) * q.den ≠ 0 from Int.ne_of_gt (Int.mul_pos dp dq)) R.2.2
  rw [← ae3] at e1 e2
  exact k r _ (d5.new hr' _) (by rw [b7]; unfold w9; rw [e1, e2])
def aS6 (K : PySem.W.Frag) : Sp := fun vs H Q _ => ∃ (x y : V) (p q : Rat), vs = [x, y] ∧ Num K H x p ∧ Num K H y q ∧ Bd6 p ∧ Bd6 q ∧ q ≠ 0 ∧ aB4 H Q (p / q)
theorem aj2 (q : Rat) (h : q.num ≠ 0) : (q⁻¹).num = (if q.num < 0 then -(q.den : Int) else q.den) ∧ ((q⁻¹).den : Int) = (if q.num < 0 then -q.num else q.num) := by
  have dq := t7 q
  rw [Rat.inv_def]
  by_cases hs : q.num < 0
  · rw [if_pos hs, if_pos hs]
    have := J4 (n := -(q.den : Int)) (d := -q.num) (t := (q.den : Int)) (b := q.num) (by omega) (by rw [Int.gcd_neg, Int.neg_gcd, Int.gcd_comm]; exact ag4 q) h (by rw [Int.neg_mul, Int.mul_neg])
    exact ⟨this.1.symm, this.2.symm⟩
  · rw [if_neg hs, if_neg hs]
    have := J4 (n := (q.den : Int)) (d := q.num) (t := (q.den : Int)) (b := q.num) (by omega) (by rw [Int.gcd_comm]; exact ag4 q) h rfl
    exact ⟨this.1.symm, this.2.symm⟩
theorem aW6 {q : Rat} (h : q.num ≠ 0) (b : Bd6 q) : Bd6 q⁻¹ := by
  obtain ⟨e1, e2⟩ := aj2 q h
  constructor
  · rw [e1]
    split
    · rw [Int.natAbs_neg, Int.natAbs_natCast]; exact b.d
    · rw [Int.natAbs_natCast]; exact b.d
  · have : (q⁻¹).den = q.num.natAbs := by split at e2 <;> omega
    rw [this]; exact b.n
abbrev ad4 : Stmt := top 27
theorem ay7 : i5 ["one", "other", "top", "bottom"] ["one", "other"] (d3 ad4) := by clean_wf
theorem bb0 {f ft : Addr} (d : Df K mg "over" ad4 ["one", "other"] f) (G_times : Def P w K mg base CX0 2 "times" ft ["one", "other"] (aS9 K (· * ·))) : Def P w K mg base CX0 3 "over" f ["one", "other"] (aS6 K) := by
  refine d.ok (N := ["one", "other", "top", "bottom"]) ay7 (by rintro vs H Q E ⟨x, y, p, q, h, _⟩; rw [h]; rfl) (fun cdv A outer s H vs Q E hr h => ?_)
  obtain ⟨x, y, p, q, rfl, ⟨ap, rfl, hp⟩, ⟨aq, rfl, hq⟩, bp, bq, hq0, k⟩ := h
  refine ⟨_, (b8 (G8 (pv 1) (show PG _ _ (O5 K 2 (t5 (p7 2) (t5 (p7 3) O6))) from by (refine D8 (n := 2) ?_ ?_ ?_ ?_; rfl; (refine i4 ?_ ?_ ?_; (exact (g6 (i := 2) ay7.nd rfl (Or.inl rfl))); (refine i4 ?_ ?_ ?_; (exact (g6 (i := 3) ay7.nd rfl (Or.inl rfl))); (exact B3); rfl); rfl); rfl; rfl)))
      (b8 (C2 (j5 X0 (pv 2) b9 (j7 _)) (d6 aD4) t3)
      (b8 (C2 (j5 ap1 (pv 2) b9 (j7 _)) (d6 (i3 (d7 G_times hr (b0 (pv 0) (b0 (v7 (b0 (X9 P9 (pv 3)) (b0 (X9 P9 (pv 2)) b6))) b6)) g8))) t3)
      (d6 (i3 (d7 G_times hr (b0 (pv 0) (b0 (v7 (b0 (pv 3) (b0 (pv 2) b6))) b6)) g8)))))), ?_⟩
  rw [show start ["one", "other", "top", "bottom"] [.ref ap, .ref aq] = [some (.ref ap), some (.ref aq), none, none] from rfl]
  simp! [aD1]
  refine ⟨_, hq, rfl, ?_⟩
  simp! [w9, aD1]
  have h0 : q.num ≠ 0 := fun z => hq0 (Q8.mp z)
  rw [if_neg h0]
  obtain ⟨i1, i2⟩ := aj2 q h0
  rw [Rat.div_def] at k
  by_cases hs : q.num < 0
  · rw [if_pos hs] at i1 i2 ⊢
    refine ⟨v8, fun r hr' => ⟨.ref ap, .ref r, p, q⁻¹, rfl, ⟨ap, rfl, (d5.new hr' _).tup hp⟩, ⟨r, rfl, SqT.of (by rw [b7]; unfold w9; rw [i1, i2])⟩, bp, aW6 h0 bq, fun r2 H2 s2 h2 => ?_⟩⟩
    exact k r2 H2 ((d5.new hr' _).trans s2) h2
  · rw [if_neg hs] at i1 i2 ⊢
    refine ⟨v8, fun r hr' => ⟨.ref ap, .ref r, p, q⁻¹, rfl, ⟨ap, rfl, (d5.new hr' _).tup hp⟩, ⟨r, rfl, SqT.of (by rw [b7]; unfold w9; rw [i1, i2])⟩, bp, aW6 h0 bq, fun r2 H2 s2 h2 => ?_⟩⟩
    exact k r2 H2 ((d5.new hr' _).trans s2) h2
end
end R
namespace L2
open PySem PyProof.Rows
end L2
set_option maxRecDepth 100000
namespace R
open PySem L2 PyProof.Rows
mutual
def noU : D → Bool
  | .v _ => true
  | .tup ds => bi4 ds
  | .lst ds => (ds.length != 3) && bi4 ds
def bi4 : List D → Bool
  | [] => true
  | d :: ds => noU d && bi4 ds
end
end R
set_option maxRecDepth 100000
namespace L2
open PySem PyProof.Rows
end L2
namespace R
open PySem L2 PyProof.Rows
inductive Rws (H : Hp) : List Addr → List (List Rat) → Prop where
  | nil : Rws H [] []
  | cons {p : Addr} {xs : List V} {ps : List Addr} {L : List Rat} {Ls : List (List Rat)} (h : H p = some (.lst xs)) (n : m6 H xs L) (t : Rws H ps Ls) : Rws H (p :: ps) (L :: Ls)
theorem Rws.length {H : Hp} : ∀ {ts : List Addr} {M : List (List Rat)}, Rws H ts M → ts.length = M.length
  | _, _, .nil => rfl
  | _, _, .cons _ _ t => congrArg (· + 1) t.length
theorem Rws.same {H H' : Hp} (s : d5 H H') : ∀ {ts : List Addr} {M : List (List Rat)}, Rws H ts M → Rws H' ts M
  | _, _, .nil => .nil
  | _, _, .cons h n t => .cons (s _ _ h) (n.mono s.tups) (t.same s)
theorem Rws.samex {u : Addr} {H H' : Hp} (s : o0 u H H') (hu : j8 H u) : ∀ {ts : List Addr} {M : List (List Rat)}, (∀ t ∈ ts, t ≠ u) → Rws H ts M → Rws H' ts M
  | _, _, _, .nil => .nil
  | _, _, hn, .cons h n t => .cons (s _ _ h (hn _ List.mem_cons_self)) (n.mono (s.tups hu)) (t.samex s hu fun x hx => hn x (List.mem_cons_of_mem _ hx))
theorem Rws.over {H : Hp} {l : Addr} {xs : List V} {o : HO} (hl : H l = some (.lst xs)) : ∀ {ts : List Addr} {M : List (List Rat)}, l ∉ ts → Rws H ts M → Rws (upd H l o) ts M
  | _, _, _, .nil => .nil
  | _, _, hn, .cons h n t => .cons (by rw [e9 (fun z => hn (by rw [← z]; exact List.mem_cons_self))]; exact h) (n.mono (K9.lst hl)) (t.over hl fun z => hn (List.mem_cons_of_mem _ z))
theorem Rws.append {H : Hp} : ∀ {ts us : List Addr} {M N : List (List Rat)}, Rws H ts M → Rws H us N → Rws H (ts ++ us) (M ++ N)
  | _, _, _, _, .nil, h => h
  | _, _, _, _, .cons h n t, k => .cons h n (t.append k)
theorem Rws.get {H : Hp} : ∀ {ts : List Addr} {M : List (List Rat)} {i : Nat} {p : Addr}, Rws H ts M → ts[i]? = some p → ∃ xs L, M[i]? = some L ∧ H p = some (.lst xs) ∧ m6 H xs L
  | _, _, _, _, .nil, e => by simp at e
  | _, _, 0, _, .cons h n _, e => by cases e; exact ⟨_, _, rfl, h, n⟩
  | _, _, i + 1, _, .cons _ _ t, e => t.get (i := i) (by simpa using e)
theorem Rws.isDs {K : PySem.W.Frag} {H : Hp} : ∀ {ts : List Addr} {M : List (List Rat)}, Rws H ts M → aa3 K H (ts.map V.ref) (M.map A5)
  | _, _, .nil => .nil
  | _, _, .cons h n t => .cons (A8 (SqL.of h) n) t.isDs
structure ar9 (H : Hp) (D : Addr) (M : List (List Rat)) (H2 : Hp) : Prop where
  same : d5 H H2
  at' : ∃ ts : List Addr, H2 D = some (.lst (ts.map V.ref)) ∧ (∀ t ∈ ts, H t = none ∧ t ≠ D) ∧ ts.Nodup ∧ Rws H2 ts M
structure bn2 (H : Hp) (D : Addr) (L : List Rat) (H2 : Hp) : Prop where
  same : d5 H H2
  at' : ∃ xs : List V, H2 D = some (.lst xs) ∧ m6 H2 xs L
theorem ar9.start {H : Hp} {D : Addr} (h : H D = none) : ar9 H D [] (upd H D (.lst [])) := ⟨d5.new h _, [], b7, by simp, .nil, .nil⟩
theorem ar9.add {H H2 H3 : Hp} {D D2 : Addr} {M : List (List Rat)} {L : List Rat} (t : ar9 H D M H2) (h : H D = none) (h2 : H2 D2 = none) (r : bn2 H2 D2 L H3) :
    ∃ ys, H3 D = some (.lst ys) ∧ ys.length = M.length ∧ ar9 H D (M ++ [L]) (upd H3 D (.lst (ys ++ [.ref D2]))) := by
  obtain ⟨s2, ts, e2, hn, nd, n2⟩ := t
  obtain ⟨s, xs, e3, n3⟩ := r
  have eD := s _ _ e2
  have hD2 : D2 ≠ D := (d8 e2 h2).symm
  have hnt : D2 ∉ ts := fun z => by
    obtain ⟨i, hi⟩ := List.mem_iff_getElem?.mp z
    obtain ⟨_, _, _, e, _⟩ := n2.get hi
    rw [h2] at e; cases e
  refine ⟨_, eD, by rw [List.length_map, n2.length], (s2.trans s).over h _, ts ++ [D2], by rw [b7, List.map_append]; rfl, ?_, ?_, ?_⟩
  · intro t ht
    rcases List.mem_append.mp ht with z | z
    · exact hn t z
    · rw [List.mem_singleton.mp z]
      refine ⟨?_, hD2⟩
      cases q : H D2 with
      | none => rfl
      | some o => rw [s2 _ _ q] at h2; cases h2
  · rw [List.nodup_append]
    refine ⟨nd, by simp, fun a ha b hb => ?_⟩
    rw [List.mem_singleton.mp hb]
    rintro rfl
    exact hnt ha
  · refine ((n2.same s).append (.cons e3 n3 .nil)).over eD fun z => ?_
    rcases List.mem_append.mp z with z | z
    · exact (hn D z).2 rfl
    · exact hD2 (List.mem_singleton.mp z).symm
def NmC (K : PySem.W.Frag) (H : Hp) (p : Addr) (q : Rat) : Prop := H p = some (.tup (w9 q)) ∨ ∀ H', SqT K H' p (w9 q)
theorem NmC.sqt {K : PySem.W.Frag} {H : Hp} {p : Addr} {q : Rat} : NmC K H p q → SqT K H p (w9 q)
  | .inl h => SqT.of h
  | .inr h => h H
theorem NmC.mono {K : PySem.W.Frag} {H H' : Hp} {p : Addr} {q : Rat} (e : K9 H H') : NmC K H p q → NmC K H' p q
  | .inl h => .inl (e _ _ h)
  | .inr h => .inr h
inductive B4 (K : PySem.W.Frag) (H : Hp) : List V → List Rat → Prop where
  | nil : B4 K H [] []
  | cons {p : Addr} {q : Rat} {vs : List V} {qs : List Rat} (h : NmC K H p q) (t : B4 K H vs qs) : B4 K H (.ref p :: vs) (q :: qs)
theorem B4.mono {K : PySem.W.Frag} {H H' : Hp} (e : K9 H H') : ∀ {vs : List V} {qs : List Rat}, B4 K H vs qs → B4 K H' vs qs
  | _, _, .nil => .nil
  | _, _, .cons h t => .cons (h.mono e) (t.mono e)
theorem B4.length {K : PySem.W.Frag} {H : Hp} : ∀ {vs : List V} {qs : List Rat}, B4 K H vs qs → vs.length = qs.length
  | _, _, .nil => rfl
  | _, _, .cons _ t => congrArg (· + 1) t.length
theorem B4.append {K : PySem.W.Frag} {H : Hp} : ∀ {vs ws : List V} {qs rs : List Rat}, B4 K H vs qs → B4 K H ws rs → B4 K H (vs ++ ws) (qs ++ rs)
  | _, _, _, _, .nil, b => b
  | _, _, _, _, .cons h t, b => .cons h (t.append b)
theorem B4.getV {K : PySem.W.Frag} {H : Hp} : ∀ {vs : List V} {qs : List Rat} {i : Nat} {v : V}, B4 K H vs qs → vs[i]? = some v → ∃ p q, v = .ref p ∧ qs[i]? = some q ∧ NmC K H p q
  | _, _, _, _, .nil, e => by simp at e
  | _, _, 0, _, .cons h t, e => by cases e; exact ⟨_, _, rfl, rfl, h⟩
  | _, _, i + 1, _, .cons _ t, e => t.getV (i := i) (by simpa using e)
inductive be2 (K : PySem.W.Frag) (H : Hp) : List Addr → List (List Rat) → Prop where
  | nil : be2 K H [] []
  | cons {p : Addr} {xs : List V} {ps : List Addr} {L : List Rat} {Ls : List (List Rat)} (h : H p = some (.lst xs)) (n : B4 K H xs L) (t : be2 K H ps Ls) : be2 K H (p :: ps) (L :: Ls)
structure TabC (K : PySem.W.Frag) (H : Hp) (D : Addr) (M : List (List Rat)) (H2 : Hp) : Prop where
  same : d5 H H2
  at' : ∃ ts : List Addr, H2 D = some (.lst (ts.map V.ref)) ∧ (∀ t ∈ ts, H t = none ∧ t ≠ D) ∧ ts.Nodup ∧ be2 K H2 ts M
structure RowC (K : PySem.W.Frag) (H : Hp) (D : Addr) (L : List Rat) (H2 : Hp) : Prop where
  same : d5 H H2
  at' : ∃ xs : List V, H2 D = some (.lst xs) ∧ B4 K H2 xs L
def ClA (D : Addr) (H : Hp) (v : V) (p : List Rat) : Prop := ∃ r l, v = .ref r ∧ H r = some (.tup [.ref l, .int (j3 p)]) ∧ H l = some (.lst ((i0 (j3 p) p).map V.int)) ∧ l ≠ D
inductive ClL (D : Addr) (H : Hp) : List V → List (List Rat) → Prop where
  | nil : ClL D H [] []
  | cons {v : V} {p : List Rat} {vs : List V} {ps : List (List Rat)} (h : ClA D H v p) (t : ClL D H vs ps) : ClL D H (v :: vs) (p :: ps)
structure ClR (H : Hp) (D : Addr) (M : List (List Rat)) (H2 : Hp) : Prop where
  same : d5 H H2
  at' : ∃ vs : List V, H2 D = some (.lst vs) ∧ ClL D H2 vs M
theorem B4.get {K : PySem.W.Frag} {H : Hp} : ∀ {vs : List V} {qs : List Rat} {i : Nat} {q : Rat}, B4 K H vs qs → qs[i]? = some q → ∃ p, vs[i]? = some (.ref p) ∧ NmC K H p q
  | _, _, _, _, .nil, e => by simp at e
  | _, _, 0, _, .cons h _, e => by cases e; exact ⟨_, rfl, h⟩
  | _, _, i + 1, _, .cons _ t, e => t.get (i := i) (by simpa using e)
theorem B4.take {K : PySem.W.Frag} {H : Hp} : ∀ {vs : List V} {qs : List Rat} (m : Nat), B4 K H vs qs → B4 K H (vs.take m) (qs.take m)
  | _, _, 0, _ => by simp only [List.take_zero]; exact .nil
  | _, _, m + 1, .nil => by simp only [List.take_nil]; exact .nil
  | _, _, m + 1, .cons h t => by simp only [List.take_succ_cons]; exact .cons h (t.take m)
section
variable {P : Program} {w : World} {K : PySem.W.Frag} {mg : Str → Option Value} {base : Heap}
def ai5 (K : PySem.W.Frag) : Sp := fun vs H Q _ => ∃ a ws, vs = [.ref a] ∧ SqL K H a (ws.map V.int) ∧ (∀ w ∈ ws, Int.natAbs w < 2 ^ 6000) ∧ Q (.int (q8 ws)) H
abbrev E1 : Stmt := top 30
theorem N5 : i5 ["wholes", "content", "whole"] ["wholes"] (d3 E1) := by clean_wf
set_option maxHeartbeats 0 in
theorem as6 {f fc : Addr} (d : Df K mg "content_of" E1 ["wholes"] f) (G_common_divisor : Def P w K mg base CX0 1 "common_divisor" fc ["one", "other"] af7) : Def P w K mg base CX0 2 "content_of" f ["wholes"] (ai5 K) := by
  refine d.ok (N := ["wholes", "content", "whole"]) N5 (by rintro vs H Q E ⟨a, b, h, _⟩; rw [h]; rfl) (fun cdv A outer s H vs Q E hr h => ?_)
  obtain ⟨a, ws, rfl, hS, hb, k⟩ := h
  refine ⟨_, (b8 (g7 (i := 1) N5.nd rfl (Or.inl rfl) b9)
      (b8 (N1 PassesOwn.never rfl (E8 (pv 0)) (g6 (i := 2) N5.nd rfl (Or.inl rfl)) (b8 (g7 (i := 1) N5.nd rfl (Or.inl rfl) (d7 G_common_divisor hr (b0 (pv 2) (b0 (pv 1) b6)) g8))
      (d6 (C2 (j5 X0 (pv 1) b9 (j7 _)) (d6 (i3 b9)) t3))))
      (d6 (i3 (pv 1))))), ?_⟩
  rw [show start ["wholes", "content", "whole"] [.ref a] = [some (.ref a), none, none] from rfl]
  subst_eqs
  refine ⟨_, rfl, a, rfl, ⟨_, hS⟩, Z4 (xs := ws.map V.int) (fun i σ H1 => H1 = H ∧ ∃ o, σ = [some (.ref a), some (.int (q8 (ws.take i) : Nat)), o]) ⟨rfl, _, rfl⟩ (fun i σ H1 _ ⟨e, _⟩ => e ▸ hS) ?_ ?_⟩
  · rintro i x σ H1 hx ⟨rfl, o, rfl⟩
    rw [List.getElem?_map] at hx
    cases hw : ws[i]? with
    | none => rw [hw] at hx; cases hx
    | some v =>
      rw [hw] at hx
      cases hx
      have hm := List.mem_of_getElem? hw
      simp! [af7]
      have es : ws.take (i + 1) = ws.take i ++ [v] := by rw [List.take_succ, hw]; rfl
      have eg : Int.gcd v (q8 (ws.take i) : Int) = q8 (ws.take (i + 1)) := by rw [es, aP0]
      refine ⟨.inl (Nat.lt_of_lt_of_le (hb v hm) (d4 (by decide))), ?_⟩
      rw [eg]
      refine ⟨rfl, z8 (fun h1 => ?_) (fun _ => ?_)⟩
      · have : q8 (ws.take (i + 1)) = 1 := by omega
        have e1 := aX2 _ this
        rw [e1] at k
        exact k
      · exact ⟨rfl, _, rfl⟩
  · rintro σ H1 ⟨rfl, o, rfl⟩
    rw [List.length_map, List.take_length]
    exact ⟨_, rfl, k⟩
def av0 (K : PySem.W.Frag) : Sp := fun vs H Q _ => ∃ a xs qs, vs = [.ref a] ∧ SqL K H a xs ∧ B4 K H xs qs ∧ (∃ W : Nat, ClN W qs ∧ W ≤ 6000) ∧ qs.length ≤ 100 ∧
  ∀ r l H', d5 H H' → H l = none → H' r = some (.tup [.ref l, .int (j3 qs)]) → H' l = some (.lst ((i0 (j3 qs) qs).map V.int)) → Q (.ref r) H'
abbrev L9 : Stmt := top 32
theorem V5 : i5 ["numbers", "bottom", "number"] ["numbers"] (d3 L9) := by clean_wf
set_option maxHeartbeats 0 in
theorem aH5 {f fc : Addr} (d : Df K mg "cleared" L9 ["numbers"] f) (G_common_divisor : Def P w K mg base CX0 1 "common_divisor" fc ["one", "other"] af7) : Def P w K mg base CX0 2 "cleared" f ["numbers"] (av0 K) := by
  refine d.ok (N := ["numbers", "bottom", "number"]) V5 (by rintro vs H Q E ⟨a, b, c, h, _⟩; rw [h]; rfl) (fun cdv A outer s H vs Q E hr h => ?_)
  obtain ⟨a, xs, qs, rfl, hS, hN, ⟨W, hs, hm⟩, hl, k⟩ := h
  refine ⟨_, (b8 (g7 (i := 1) V5.nd rfl (Or.inr rfl) b9)
      (b8 (N1 PassesOwn.never rfl (E8 (pv 0)) (g6 (i := 2) V5.nd rfl (Or.inl rfl)) (d6 (g7 (i := 1) V5.nd rfl (Or.inr rfl) (e8 y9 (e8 B8 (pv 1) (d7 G_common_divisor hr (b0 (pv 1) (b0 (j6 p9 (pv 2) b9 (fun _ _ => rfl)) b6)) g8)) (j6 p9 (pv 2) b9 (fun _ _ => rfl))))))
      (d6 (i3 (v7 (b0 (P7 (Nc := ["bottom", "top", "under"]) (caps := [some 1, none, none]) rfl (W8.of (osc := d3 L9) (N := ["numbers", "bottom", "number"]) (ks := ["bottom"]) rfl rfl rfl rfl (G0 rfl F8) (by decide +kernel)) (E8 (pv 0)) (fun C s₂ H₂ fp pins => (show PG _ _ (O5 K 2 (t5 (p7 1) (t5 (p7 2) O6))) from by (refine D8 (n := 2) ?_ ?_ ?_ ?_; rfl; (refine i4 ?_ ?_ ?_; (exact (g6 (i := 1) (show List.Nodup (["bottom", "top", "under"] : List Str) by decide +kernel) rfl (Or.inl rfl) (Or.inr rfl))); (refine i4 ?_ ?_ ?_; (exact (g6 (i := 2) (show List.Nodup (["bottom", "top", "under"] : List Str) by decide +kernel) rfl (Or.inl rfl) (Or.inr rfl))); (exact B3); rfl); rfl); rfl; rfl))) (fun C s₂ H₂ fp pins => (e8 y9 (pv 1) (e8 B8 (pv 0) (pv 2))))) (b0 (pv 1) b6))))))), ?_⟩
  rw [show start ["numbers", "bottom", "number"] [.ref a] = [some (.ref a), none, none] from rfl]
  subst_eqs
  have small : ∀ q ∈ qs, q.den < 2 ^ 6000 := fun q hq => Nat.lt_of_lt_of_le (hs.den hq) (d4 hm)
  have hB : ∀ i, 0 < j3 (qs.take i) ∧ j3 (qs.take i) < 2 ^ 6000 := fun i => by
    exact ⟨z7 _, Nat.lt_of_lt_of_le (hs.take i) (d4 hm)⟩
  refine ⟨_, rfl, a, rfl, ⟨_, hS⟩, Z4 (xs := xs) (fun i σ H1 => H1 = H ∧ ∃ o, σ = [some (.ref a), some (.int (j3 (qs.take i) : Nat)), o]) ⟨rfl, _, rfl⟩ (fun i σ H1 _ ⟨e, _⟩ => e ▸ hS) ?_ ?_⟩
  · rintro i x σ H1 hx ⟨rfl, o, rfl⟩
    obtain ⟨p, q, rfl, hq, hp⟩ := hN.getV hx
    obtain ⟨b1, b2⟩ := hB i
    have hd := small q (List.mem_of_getElem? hq)
    have hd0 := t7 q
    have es : qs.take (i + 1) = qs.take i ++ [q] := by rw [List.take_succ, hq]; rfl
    have gp : (0 : Int) < (Int.gcd (j3 (qs.take i) : Int) (q.den : Int) : Nat) := by
      have := J3 (t := (j3 (qs.take i) : Int)) (b := (q.den : Int)) (by omega); omega
    have el : (j3 (qs.take i) : Int).fdiv (Int.gcd (j3 (qs.take i) : Int) (q.den : Int) : Nat) * (q.den : Int) = (j3 (qs.take (i + 1)) : Nat) := by
      rw [es, aO7]
      obtain ⟨e, he⟩ := Int.gcd_dvd_left (j3 (qs.take i) : Int) (q.den : Int)
      have hg : Int.gcd (j3 (qs.take i) : Int) (q.den : Int) = Nat.gcd (j3 (qs.take i)) q.den := by simp [Int.gcd]
      have h1 : (j3 (qs.take i) : Int).fdiv (Int.gcd (j3 (qs.take i) : Int) (q.den : Int) : Nat) = e := by
        conv => lhs; arg 1; rw [he]
        exact i9 (by omega)
      rw [h1]
      have h2 : Nat.gcd (j3 (qs.take i)) q.den * Nat.lcm (j3 (qs.take i)) q.den = j3 (qs.take i) * q.den := Nat.gcd_mul_lcm _ _
      have h3 : ((Nat.gcd (j3 (qs.take i)) q.den : Nat) : Int) * (Nat.lcm (j3 (qs.take i)) q.den : Nat) = (j3 (qs.take i) : Int) * (q.den : Int) := by
        rw [← Int.natCast_mul, h2, Int.natCast_mul]
      rw [← hg] at h3
      have h4 : ((Int.gcd (j3 (qs.take i) : Int) (q.den : Int) : Nat) : Int) * (e * q.den) = ((Int.gcd (j3 (qs.take i) : Int) (q.den : Int) : Nat) : Int) * (Nat.lcm (j3 (qs.take i)) q.den : Nat) := by
        rw [h3, ← Int.mul_assoc, ← he]
      exact Int.eq_of_mul_eq_mul_left (by omega) h4
    simp! [af7]
    have hd9 : (q.den : Int).natAbs < 2 ^ 6000 := by rw [Int.natAbs_natCast]; exact hd
    exact ⟨_, hp.sqt, _, at1 q, _, rfl, .inr (M0 hd9), P1 (by omega) (aq1 (by omega) (M0 hd9)), _, hp.sqt, _, at1 q, _, rfl, R1 (m := 6000) (n := 6000) (Nat.lt_of_le_of_lt (W5 (by omega) (Int.gcd_dvd_left _ _)) (by rw [Int.natAbs_natCast]; exact b2)) hd9, el, _, rfl⟩
  · rintro σ H1 ⟨rfl, o, rfl⟩
    rw [← hN.length] at hl
    have e1 : qs.take xs.length = qs := by rw [hN.length, List.take_length]
    rw [e1]
    simp! [af7]
    refine ⟨⟨_, hS⟩, fun D hD => ?_⟩
    refine P8 xs (fun i σ H2 => ∃ o1 o2, σ = [some (.int (j3 qs)), o1, o2] ∧ d5 H1 H2 ∧ H2 D = some (.lst ((i0 (j3 qs) (qs.take i)).map V.int))) ⟨_, _, rfl, d5.new hD _, b7⟩ (fun i σ H2 _ ⟨_, _, _, s2, _⟩ => s2.seq hS) ?_ ?_
    · rintro i x σ H2 hx ⟨o1, o2, rfl, s2, e2⟩
      have hi := (List.getElem?_eq_some_iff.mp hx).1
      obtain ⟨p, q, rfl, hq, hp⟩ := hN.getV hx
      have hd := small q (List.mem_of_getElem? hq)
      have hd0 := t7 q
      have hd9 : (q.den : Int).natAbs < 2 ^ 6000 := by rw [Int.natAbs_natCast]; exact hd
      have hn9 := hs.num (List.mem_of_getElem? hq)
      have es : qs.take (i + 1) = qs.take i ++ [q] := by rw [List.take_succ, hq]; rfl
      subst_eqs
      refine ⟨_, s2.tup hp.sqt, rfl, _, _, rfl, _, _, rfl, rfl, ?_⟩
      refine ⟨_, rfl, P1 (by omega) (M0 hd9), _, rfl, R1 (m := 6000) (n := 6000) (Nat.lt_of_lt_of_le hn9 (d4 (by omega))) (Nat.lt_of_le_of_lt (W5 (by omega) (Int.natCast_dvd_natCast.mpr (F9 (List.mem_of_getElem? hq)))) (by rw [Int.natAbs_natCast]; have := (hB qs.length).2; rwa [List.take_length] at this)), ?_⟩
      refine J1.mk hi e2 ?_ ⟨_, _, rfl, (s2.trans (d5.refl _)).over hD _, ?_⟩
      · simp only [List.length_map, i0, List.length_take]
        exact Nat.lt_of_le_of_lt (show _ ≤ 100 by omega) (by decide)
      · rw [b7, es]
        simp [i0]
    · rintro σ H2 ⟨o1, o2, rfl, s2, e2⟩
      rw [e1] at e2
      refine ⟨v8, fun p hp => k p D _ (s2.trans (d5.new hp _)) hD b7 ?_⟩
      rw [e9 (d8 e2 hp)]; exact e2
end
theorem bb6 {qs : List Rat} (hc : q8 (i0 (j3 qs) qs) ≠ 0) :
    let c : Int := q8 (i0 (j3 qs) qs)
    (Rat.divInt c (j3 qs)).num = c ∧ ((Rat.divInt c (j3 qs)).den : Int) = j3 qs ∧ qs = scl (Rat.divInt c (j3 qs)) ((i0 (j3 qs) qs).map fun v => v.fdiv c) := by
  intro c
  have hB := z7 qs
  obtain ⟨h1, h2⟩ := ae2 (n := c) (d := (j3 qs : Int)) (by omega) (aB1 qs)
  refine ⟨h1, h2, ?_⟩
  unfold scl i0
  rw [List.map_map, List.map_map]
  conv => lhs; rw [← List.map_id qs]
  refine List.map_congr_left fun q hq => ?_
  show q = Rat.divInt c (j3 qs) * (((q.num * (j3 qs : Int).fdiv (q.den : Int)).fdiv c : Int) : Rat)
  obtain ⟨e, he⟩ := K3 (ws := i0 (j3 qs) qs) (List.mem_map.mpr ⟨q, hq, rfl⟩)
  have hc' : c ≠ 0 := by show ((q8 (i0 (j3 qs) qs) : Nat) : Int) ≠ 0; omega
  have e1 : (q.num * (j3 qs : Int).fdiv (q.den : Int)).fdiv c = e := by
    conv => lhs; arg 1; rw [he]
    exact i9 hc'
  rw [e1]
  conv => lhs; rw [am5 hB (F9 hq)]
  rw [he]
  have e2 : (e : Rat) = Rat.divInt e 1 := by
    have := Rat.num_divInt_den (e : Rat)
    rw [Rat.num_intCast, Rat.den_intCast] at this
    exact this.symm
  rw [e2, Rat.divInt_mul_divInt, Int.mul_one]
theorem aL0 {ws : List Int} {v : Int} (h : v ∈ ws) (hv : v ≠ 0) : q8 ws ≠ 0 := fun z => by
  obtain ⟨e, he⟩ := K3 h
  rw [z] at he
  simp at he
  exact hv he
theorem ae7 {a g : Int} {n : Nat} (hg : 0 < g) (hd : g ∣ a) (h : a.natAbs < n) : (a.fdiv g).natAbs < n := Nat.lt_of_le_of_lt (W5 hg hd) h
section
variable {P : Program} {w : World} {K : PySem.W.Frag} {mg : Str → Option Value} {base : Heap}
theorem aw8 {d : Nat} : ∀ (ws : List Int) (c : Nat), d ∣ c → (∀ w ∈ ws, (d : Int) ∣ w) → d ∣ ws.foldl (fun c w => Int.gcd w c) c
  | [], c, h, _ => h
  | w :: r, c, h, hw => aw8 r _ (Int.dvd_gcd (hw w List.mem_cons_self) (Int.natCast_dvd_natCast.mpr h)) fun x hx => hw x (List.mem_cons_of_mem _ hx)
theorem aw4 {ws : List Int} (hc : q8 ws ≠ 0) : q8 (ws.map fun v => v.fdiv ((q8 ws : Nat) : Int)) = 1 := by
  obtain ⟨g, hg⟩ : ∃ g, g = q8 ws := ⟨_, rfl⟩
  obtain ⟨e, he⟩ : ∃ e, e = q8 (ws.map fun v => v.fdiv ((q8 ws : Nat) : Int)) := ⟨_, rfl⟩
  have hd : (g * e) ∣ q8 ws := aw8 ws 0 (Nat.dvd_zero _) fun w hw => by
    obtain ⟨y, hy⟩ := K3 hw
    have h1 : w.fdiv ((q8 ws : Nat) : Int) = y := by
      conv => lhs; arg 1; rw [hy]
      exact i9 (by omega)
    obtain ⟨z, hz⟩ := K3 (List.mem_map.mpr ⟨w, hw, rfl⟩ : w.fdiv ((q8 ws : Nat) : Int) ∈ ws.map fun v => v.fdiv ((q8 ws : Nat) : Int))
    rw [h1, ← he] at hz
    exact ⟨z, by rw [hy, ← hg, hz, Int.natCast_mul, Int.mul_assoc]⟩
  rw [← hg] at hd
  obtain ⟨z, hz⟩ := hd
  have h2 : g * 1 = g * (e * z) := by rw [Nat.mul_one, ← Nat.mul_assoc]; exact hz
  have h3 := Nat.eq_of_mul_eq_mul_left (show 0 < g by omega) h2
  rw [← he]
  exact Nat.dvd_one.mp ⟨z, h3⟩
def aa8 (K : PySem.W.Frag) : Sp := fun vs H Q _ => ∃ a xs qs, vs = [.ref a] ∧ SqL K H a xs ∧ B4 K H xs qs ∧ ∃ W : Nat, ClN W qs ∧ W ≤ 6000 ∧ 1 ≤ W ∧ qs.length ≤ 100 ∧ v3 qs qs.length ∧
  ∀ r rs l s ws H', d5 H H' → H l = none → H' r = some (.tup [.ref rs, .ref l]) → SqT K H' rs (w9 s) → H' l = some (.lst (ws.map V.int)) → BdN W s → s ≠ 0 → (∀ v ∈ ws, Int.natAbs v < 2 ^ W) → ws.length = qs.length → qs = scl s ws → (ws ≠ [] → q8 ws = 1) → Q (.ref r) H'
abbrev O2 : Stmt := top 33
theorem aa9 : i5 ["p", "content", "wholes", "bottom"] ["p"] (d3 O2) := by clean_wf
set_option maxHeartbeats 0 in
theorem aH6 {f fc fk aN : Addr} (d : Df K mg "lifted" O2 ["p"] f) (G_cleared : Def P w K mg base CX0 2 "cleared" fc ["numbers"] (av0 K)) (G_content_of : Def P w K mg base CX0 2 "content_of" fk ["wholes"] (ai5 K)) (c_ONE : mg "ONE" = some (.ref aN)) (tN : ∀ H, SqT K H aN (w9 1)) : Def P w K mg base CX0 3 "lifted" f ["p"] (aa8 K) := by
  refine d.ok (N := ["p", "content", "wholes", "bottom"]) aa9 (by rintro vs H Q E ⟨a, b, c, h, _⟩; rw [h]; rfl) (fun cdv A outer s H vs Q E hr h => ?_)
  obtain ⟨a, xs, qs, rfl, hS, hN, m, hs, hm, hm1, hl, ht, k⟩ := h
  refine ⟨_, (b8 (G8 (d7 G_cleared hr (b0 (pv 0) b6) g8) (show PG _ _ (O5 K 2 (t5 (p7 2) (t5 (p7 3) O6))) from by (refine D8 (n := 2) ?_ ?_ ?_ ?_; rfl; (refine i4 ?_ ?_ ?_; (exact (g6 (i := 2) aa9.nd rfl (Or.inl rfl))); (refine i4 ?_ ?_ ?_; (exact (g6 (i := 3) aa9.nd rfl (Or.inl rfl))); (exact B3); rfl); rfl); rfl; rfl)))
      (b8 (C2 (N0 (G7 (pv 2) (fun _ => rfl))) (d6 (i3 (v7 (b0 (v9 (v := .ref _) rfl c_ONE rfl) (b0 (u0 b6) b6))))) t3)
      (b8 (g7 (i := 1) aa9.nd rfl (Or.inr rfl) (d7 G_content_of hr (b0 (pv 2) b6) g8))
      (d6 (i3 (v7 (b0 (v7 (b0 (pv 1) (b0 (pv 3) b6))) (b0 (P7 (Nc := ["content", "whole"]) (caps := [some 1, none]) rfl (W8.of (osc := d3 O2) (N := ["p", "content", "wholes", "bottom"]) (ks := ["content"]) rfl rfl rfl rfl (G0 rfl F8) (by decide +kernel)) (E8 (pv 2)) (fun C s₂ H₂ fp pins => (g6 (i := 1) (show List.Nodup (["content", "whole"] : List Str) by decide +kernel) rfl (Or.inl rfl) (Or.inr rfl))) (fun C s₂ H₂ fp pins => (e8 B8 (pv 1) (pv 0)))) b6)))))))), ?_⟩
  rw [show start ["p", "content", "wholes", "bottom"] [.ref a] = [some (.ref a), none, none, none] from rfl]
  simp! [aa2]
  refine ⟨a, xs, qs, rfl, hS, hN, ⟨m, hs, hm⟩, hl, fun r l H1 s1 hl1 er el => ?_⟩
  have hB := z7 qs
  have hB1 := hs.l
  have wl := hs.w
  refine ⟨r, rfl, _, SqT.of er, rfl, _, _, rfl, _, _, rfl, rfl, _, .inl ⟨_, SqL.of el, rfl⟩, z8 (fun h0 => ?_) (fun h0 => ?_)⟩
  · have hq : qs = [] := by
      cases qs with
      | nil => rfl
      | cons q r => simp [i0] at h0
    subst hq
    refine ⟨by decide, fun p hp => ⟨v8, fun p1 hp1 => ?_⟩⟩
    refine k p1 aN p 1 [] _ (s1.trans ((d5.new hp _).trans (d5.new hp1 _))) (s1.free hp) b7 (tN _) (by rw [e9 (bi5 hp1).symm]; exact b7) ⟨Nat.lt_of_lt_of_le (show _ < 2 ^ 1 by decide) (d4 (by omega)), Nat.lt_of_lt_of_le (show _ < 2 ^ 1 by decide) (d4 (by omega))⟩ (by decide) (by simp) (by simp) rfl (fun z => absurd rfl z)
  · have hq : qs ≠ [] := fun z => h0 (by rw [z]; rfl)
    have lp : 0 < qs.length := List.length_pos_iff.mpr hq
    have hlast : qs.length - 1 < qs.length := by omega
    have hne : qs[qs.length - 1] ≠ 0 := ht.last (by omega) _ (List.getElem?_eq_getElem hlast)
    have hmem : qs[qs.length - 1] ∈ qs := List.getElem_mem hlast
    have hc : q8 (i0 (j3 qs) qs) ≠ 0 := by
      refine aL0 (List.mem_map.mpr ⟨_, hmem, rfl⟩) ?_
      obtain ⟨e, he⟩ := F9 hmem
      have h0 : (qs[qs.length - 1].den : Int) ≠ 0 := by have := qs[qs.length - 1].den_nz; omega
      have e1 : (j3 qs : Int).fdiv (qs[qs.length - 1].den : Int) = (e : Int) := by
        rw [he, Int.natCast_mul]; exact i9 h0
      rw [e1]
      refine Int.mul_ne_zero (fun z => hne (Q8.mp z)) ?_
      intro z
      have : e = 0 := by omega
      rw [this] at he; omega
    obtain ⟨f1, f2, f3⟩ := bb6 hc
    have cpos : (0 : Int) < (q8 (i0 (j3 qs) qs) : Nat) := by omega
    have cle : q8 (i0 (j3 qs) qs) < 2 ^ m := by
      have hm : qs[qs.length - 1].num * (j3 qs : Int).fdiv (qs[qs.length - 1].den : Int) ∈ i0 (j3 qs) qs := List.mem_map.mpr ⟨_, hmem, rfl⟩
      obtain ⟨e, he⟩ := K3 hm
      have w1 := wl _ hm
      rw [he, Int.natAbs_mul, Int.natAbs_natCast] at w1
      have e0 : e.natAbs ≠ 0 := fun z => by
        have hz : e = 0 := by omega
        rw [hz, Int.mul_zero] at he
        rcases Int.mul_eq_zero.mp he with q1 | q1
        · exact hne (Q8.mp q1)
        · obtain ⟨e', he'⟩ := F9 hmem
          have h0 : (qs[qs.length - 1].den : Int) ≠ 0 := by have := qs[qs.length - 1].den_nz; omega
          have e1 : (j3 qs : Int).fdiv (qs[qs.length - 1].den : Int) = (e' : Int) := by
            rw [he', Int.natCast_mul]; exact i9 h0
          rw [e1] at q1
          have : e' = 0 := by omega
          rw [this] at he'; omega
      exact Nat.lt_of_le_of_lt (Nat.le_mul_of_pos_right _ (by omega)) w1
    refine ⟨l, _, rfl, SqL.of el, fun v hv => Nat.lt_of_lt_of_le (wl v hv) (d4 hm), v8, fun p hp => ⟨l, rfl, ⟨_, SqL.of (d5.new hp _ _ _ el)⟩, fun D hD => ?_⟩⟩
    have sp := d5.new hp (.tup [.int (q8 (i0 (j3 qs) qs) : Nat), .int (j3 qs)])
    refine P8 ((i0 (j3 qs) qs).map V.int) (fun i σ H2 => ∃ o, σ = [some (.int (q8 (i0 (j3 qs) qs) : Nat)), o] ∧ d5 (upd H1 p (.tup [.int (q8 (i0 (j3 qs) qs) : Nat), .int (j3 qs)])) H2 ∧ H2 D = some (.lst ((((i0 (j3 qs) qs).take i).map fun v => v.fdiv (q8 (i0 (j3 qs) qs) : Nat)).map V.int)))
      ⟨_, rfl, d5.new hD _, b7⟩ (fun i σ H2 _ ⟨_, _, s2, _⟩ => SqL.of (s2 _ _ (sp _ _ el))) ?_ ?_
    · rintro i x σ H2 hx ⟨o, rfl, s2, e2⟩
      have hi := (List.getElem?_eq_some_iff.mp hx).1
      rw [List.getElem?_map] at hx
      cases hw : (i0 (j3 qs) qs)[i]? with
      | none => rw [hw] at hx; cases hx
      | some v =>
        rw [hw] at hx
        cases hx
        subst_eqs
        refine ⟨P1 (by omega) (by rw [Int.natAbs_natCast]; exact M0 cle (by omega)), J1.mk hi e2 ?_ ⟨_, rfl, s2.over hD _, ?_⟩⟩
        · simp only [List.length_map, List.length_take, i0]
          exact Nat.lt_of_le_of_lt (show _ ≤ 100 by omega) (by decide)
        · rw [b7, List.take_succ, hw]
          simp
    · rintro σ H2 ⟨o, rfl, s2, e2⟩
      rw [List.length_map, List.take_length] at e2
      refine ⟨v8, fun p1 hp1 => ?_⟩
      have S := (s1.trans sp).trans (s2.trans (d5.new hp1 (.tup [.ref p, .ref D])))
      have ep : SqT K (upd H2 p1 (.tup [.ref p, .ref D])) p (w9 (Rat.divInt (q8 (i0 (j3 qs) qs) : Nat) (j3 qs))) := by
        refine SqT.of ?_
        rw [e9 (d8 (s2 _ _ b7) hp1), s2 _ _ b7]
        unfold w9
        rw [f1, f2]
      refine k p1 p D _ ((i0 (j3 qs) qs).map fun v => v.fdiv (q8 (i0 (j3 qs) qs) : Nat)) _ S (s1.free (aE4 hD)) b7 ep (by rw [e9 (d8 e2 hp1)]; exact e2) ⟨?_, ?_⟩ ?_ ?_ ?_ f3 (fun _ => aw4 hc)
      · rw [f1, Int.natAbs_natCast]; exact cle
      · have : (Rat.divInt (q8 (i0 (j3 qs) qs) : Nat) (j3 qs)).den = j3 qs := by omega
        rw [this]; exact hB1
      · intro z
        rw [z] at f1
        have : (0 : Rat).num = 0 := rfl
        omega
      · intro v hv
        obtain ⟨v', hv', rfl⟩ := List.mem_map.mp hv
        exact ae7 cpos (K3 hv') (wl v' hv')
      · simp only [List.length_map, i0]
end
theorem bb5 (s : Rat) {v : Int} (hv : v ≠ 0) : v.fdiv (Int.gcd (s.den : Int) v : Nat) * s.num = (s * (v : Rat)).num ∧ (s.den : Int).fdiv (Int.gcd (s.den : Int) v : Nat) = ((s * (v : Rat)).den : Int) := by
  have dp := t7 s
  have hg := J3 (t := (s.den : Int)) hv
  obtain ⟨d', hd⟩ := Int.gcd_dvd_left (s.den : Int) v
  obtain ⟨v', hv'⟩ := Int.gcd_dvd_right (s.den : Int) v
  have hc : Int.gcd d' v' = 1 := N7 hv hd hv'
  have e1 : v.fdiv (Int.gcd (s.den : Int) v : Nat) = v' := by
    conv => lhs; arg 1; rw [hv']
    exact i9 (by omega)
  have e2 : (s.den : Int).fdiv (Int.gcd (s.den : Int) v : Nat) = d' := by
    conv => lhs; arg 1; rw [hd]
    exact i9 (by omega)
  rw [e1, e2]
  have ev : s * (v : Rat) = Rat.divInt (s.num * v) s.den := by
    have h1 := Rat.num_divInt_den (v : Rat)
    rw [Rat.num_intCast, Rat.den_intCast] at h1
    conv => lhs; rw [← Rat.num_divInt_den s, ← h1]
    rw [Rat.divInt_mul_divInt]
    simp
  rw [ev]
  have hd0 : 0 < d' := by
    rcases Int.lt_or_le 0 d' with z | z
    · exact z
    · have := Int.mul_nonneg (show (0 : Int) ≤ (Int.gcd (s.den : Int) v : Nat) by omega) (show 0 ≤ -d' by omega)
      rw [Int.mul_neg] at this; omega
  have c1 : Int.gcd d' s.num = 1 := by
    have := aB0 (k := s.num) (m := (s.den : Int)) (n := d') (ag4 s) ⟨_, by rw [Int.mul_comm]; exact hd⟩
    exact Z9 this
  refine J4 hd0 (Z9 (N8 hc c1)) (by omega) ?_
  generalize (Int.gcd (s.den : Int) v : Int) = g at *
  rw [hd, hv']
  grind
section
variable {P : Program} {w : World} {K : PySem.W.Frag} {mg : Str → Option Value} {base : Heap}
def bg1 (b : Int) (ws : List Int) (d : Int) : Prop := 0 < d ∧ d ∣ b ∧ ∀ v ∈ ws, v ≠ 0 → Int.gcd d v = Int.gcd b v
def bf3 (K : PySem.W.Frag) : Sp := fun vs H Q _ => ∃ (a : Addr) (ws : List Int) (b : Int), vs = [.ref a, .int b] ∧ SqL K H a (ws.map V.int) ∧ ws.length ≤ 100 ∧ 0 < b ∧ b.natAbs < 2 ^ 6000 ∧ (∀ v ∈ ws, Int.natAbs v < 2 ^ 20000) ∧ ∀ H' d, d5 H H' → bg1 b ws d → Q (.int d) H'
abbrev v5 : Stmt := top 34
theorem B9 : i5 ["wholes", "bottom", "longest", "product", "whole"] ["wholes", "bottom"] (d3 v5) := by clean_wf
set_option maxHeartbeats 0 in
theorem ae0 {f fc : Addr} {tL : Tok} (d : Df K mg "divisor_for_all" v5 ["wholes", "bottom"] f) (G_common_divisor : Def P w K mg base CX0 1 "common_divisor" fc ["one", "other"] af7) (c_LONG : mg "LONG" = some (.int 1000 tL)) (n_max : mg "max" = none) : Def P w K mg base CX0 2 "divisor_for_all" f ["wholes", "bottom"] (bf3 K) := by
  refine d.ok (N := ["wholes", "bottom", "longest", "product", "whole"]) B9 (by rintro vs H Q E ⟨a, b, c, h, _⟩; rw [h]; rfl) (fun cdv A outer s H vs Q E hr h => ?_)
  obtain ⟨a, ws, b, rfl, hS, hl, hb0, hb, hws, k⟩ := h
  refine ⟨_, (b8 (g7 (i := 2) B9.nd rfl (Or.inl rfl) (ba4 rfl rfl n_max (b0 (P7 (Nc := ["whole"]) (caps := [none]) rfl (W8.of (osc := d3 v5) (N := ["wholes", "bottom", "longest", "product", "whole"]) (ks := []) rfl rfl rfl rfl F8 (by decide +kernel)) (E8 (pv 0)) (fun C s₂ H₂ fp pins => (g6 (i := 0) (show List.Nodup (["whole"] : List Str) by decide +kernel) rfl (Or.inl rfl) (Or.inr rfl))) (fun C s₂ H₂ fp pins => (show PE _ _ (aN0 K "int" _ _) from by exact (ad8 PySem.F.plainAttrs_int PySem.F.slot_int_bit_length PySem.F.type_int_bit_length U3 (pv 0))))) b6)))
      (b8 (C2 (PW.pt (W9 (j5 ap1 (ad8 PySem.F.plainAttrs_int PySem.F.slot_int_bit_length PySem.F.type_int_bit_length U3 (pv 1)) (v9 (v := .int 1000) rfl c_LONG ⟨_, rfl⟩) (j7 _)) (ad5 (j5 ap2 (ad8 PySem.F.plainAttrs_int PySem.F.slot_int_bit_length PySem.F.type_int_bit_length U3 (pv 1)) (e8 y9 b9 (pv 2)) (j7 _))))) (d6 (i3 (pv 1))) t3)
      (b8 (g7 (i := 3) B9.nd rfl (Or.inl rfl) b9)
      (b8 (N1 PassesOwn.never rfl (E8 (pv 0)) (g6 (i := 4) B9.nd rfl (Or.inl rfl)) (d6 (C2 (G7 (pv 4) (fun _ => rfl)) (d6 (g7 (i := 3) B9.nd rfl (Or.inl rfl) (e8 J2 (e8 y9 (pv 3) (pv 4)) (pv 1)))) t3)))
      (d6 (i3 (d7 G_common_divisor hr (b0 (pv 1) (b0 (pv 3) b6)) g8))))))), ?_⟩
  rw [show start ["wholes", "bottom", "longest", "product", "whole"] [.ref a, .int b] = [some (.ref a), some (.int b), none, none, none] from rfl]
  subst_eqs
  have triv : bg1 b ws b := ⟨hb0, Int.dvd_refl _, fun _ _ _ => rfl⟩
  refine ⟨⟨_, hS⟩, fun D hD => ?_⟩
  refine P8 (ws.map V.int) (fun i σ H2 => ∃ o, σ = [o] ∧ d5 H H2 ∧ ∃ ns : List Int, ns.length = i ∧ H2 D = some (.lst (ns.map V.int))) ⟨_, rfl, d5.new hD _, [], rfl, b7⟩ (by rintro i σ H2 _ ⟨_, _, s2, _⟩; exact s2.seq hS) ?_ ?_
  · rintro i x σ H2 hx ⟨o, rfl, s2, ns, hn, e2⟩
    have hi := (List.getElem?_eq_some_iff.mp hx).1
    obtain ⟨v, hw, rfl⟩ := U4 hx
    subst_eqs
    refine J1.mk hi e2 ?_ ⟨_, rfl, s2.over hD _, ?_⟩
    · rw [List.length_map] at hi ⊢
      exact Nat.lt_of_lt_of_le (show ns.length < 101 by omega) (by decide)
    · refine ⟨ns ++ [(Builtin.Int.intBits v : Int)], by simp [hn], ?_⟩
      rw [b7, List.map_append]; rfl
  · rintro σ H2 ⟨o, rfl, s2, ns, hn, e2⟩
    refine ⟨D, rfl, ns, SqL.of e2, fun i => ?_⟩
    refine z8 (fun _ => k H2 b s2 triv) (fun _ => ?_)
    refine ⟨bi6 (by decide), z8 (fun _ => k H2 b s2 triv) (fun _ => ?_)⟩
    refine ⟨_, rfl, a, rfl, ⟨_, s2.seq hS⟩, Z4 (xs := ws.map V.int) (fun i' σ H3 => H3 = H2 ∧ ∃ p o, σ = [some (.ref a), some (.int b), some (.int i), some (.int p), o] ∧ p.natAbs < 2 ^ 6000 ∧ ∃ e, ak0 (ws.take i') = p + b * e) ⟨rfl, 1, _, rfl, Nat.lt_of_lt_of_le (show _ < 2 ^ 1 by decide) (d4 (by decide)), 0, by simp [ak0]⟩ (by rintro i' σ H3 _ ⟨rfl, _⟩; exact s2.seq hS) ?_ ?_⟩
    · rintro i' x σ H3 hx ⟨rfl, p, o, rfl, hp, e, he⟩
      obtain ⟨v, hv, rfl⟩ := U4 hx
      have hvm := hws v (List.mem_of_getElem? hv)
      have es : ws.take (i' + 1) = ws.take i' ++ [v] := by rw [List.take_succ, hv]; rfl
      simp! [aa2]
      refine z8 (fun h => ?_) (fun h => ?_)
      · have hv0 : v ≠ 0 := by simpa using h
        refine ⟨R1 hp hvm, by omega, ?_, (p * v).fdiv b + e * v, ?_⟩
        · have h1 := Int.fmod_nonneg_of_pos (p * v) hb0
          have h2 := Int.fmod_lt_of_pos (p * v) hb0
          omega
        · rw [es, ao8, if_neg hv0, he]
          have := Int.fmod_add_mul_fdiv (p * v) b
          grind
      · have hv0 : v = 0 := by simpa using h
        refine ⟨hp, e, ?_⟩
        rw [es, ao8, if_pos hv0, he]
    · rintro σ H3 ⟨rfl, p, o, rfl, hp, e, he⟩
      rw [List.length_map, List.take_length] at he
      simp! [af7]
      refine ⟨.inl hb, k _ _ s2 ⟨?_, Int.gcd_dvd_left _ _, fun v hv hv0 => ?_⟩⟩
      · have := J3 (t := p) (b := b) (by omega)
        rw [Int.gcd_comm] at this; omega
      · have e1 : Int.gcd b p = Int.gcd b (ak0 ws) := by
          rw [he]
          refine Nat.dvd_antisymm ?_ ?_
          · exact Int.dvd_gcd (Int.gcd_dvd_left _ _) (Int.dvd_add (Int.gcd_dvd_right _ _) (Int.dvd_trans (Int.gcd_dvd_left _ _) ⟨e, rfl⟩))
          · refine Int.dvd_gcd (Int.gcd_dvd_left _ _) ?_
            have h1 := Int.gcd_dvd_right b (p + b * e)
            have h2 : ((Int.gcd b (p + b * e) : Nat) : Int) ∣ b * e := Int.dvd_trans (Int.gcd_dvd_left _ _) ⟨e, rfl⟩
            have := Int.dvd_sub h1 h2
            rwa [Int.add_sub_cancel] at this
        rw [e1]
        exact aX1 (aN8 hv hv0)
def au5 (K : PySem.W.Frag) : Sp := fun vs H Q _ => ∃ (x : V) (s : Rat) (a : Addr) (ws : List Int), vs = [x, .ref a] ∧ Num K H x s ∧ SqL K H a (ws.map V.int) ∧ s.den < 2 ^ 6000 ∧ s.num.natAbs < 2 ^ 6000 ∧ (∀ v ∈ ws, Int.natAbs v < 2 ^ 20000) ∧ ws.length ≤ 100 ∧
  ∀ r xs H', d5 H H' → H r = none → H' r = some (.lst xs) → m6 H' xs (scl s ws) → Q (.ref r) H'
abbrev M9 : Stmt := top 35
theorem K6 : i5 ["scale", "wholes", "divisor", "numbers", "whole", "top", "bottom", "shared"] ["scale", "wholes"] (d3 M9) := by clean_wf
set_option maxHeartbeats 0 in
theorem aH4 {f fd fc : Addr} (d : Df K mg "lowered" M9 ["scale", "wholes"] f) (G_divisor_for_all : Def P w K mg base CX0 2 "divisor_for_all" fd ["wholes", "bottom"] (bf3 K)) (G_common_divisor : Def P w K mg base CX0 1 "common_divisor" fc ["one", "other"] af7) : Def P w K mg base CX0 3 "lowered" f ["scale", "wholes"] (au5 K) := by
  refine d.ok (N := ["scale", "wholes", "divisor", "numbers", "whole", "top", "bottom", "shared"]) K6 (by rintro vs H Q E ⟨a, b, c, e, h, _⟩; rw [h]; rfl) (fun cdv A outer s H vs Q E hr h => ?_)
  obtain ⟨x, sc, a, ws, rfl, ⟨px, rfl, hx⟩, hS, hd, hn, hw, hl, k⟩ := h
  refine ⟨_, (b8 (G8 (pv 0) (show PG _ _ (O5 K 2 (t5 (p7 5) (t5 (p7 6) O6))) from by (refine D8 (n := 2) ?_ ?_ ?_ ?_; rfl; (refine i4 ?_ ?_ ?_; (exact (g6 (i := 5) K6.nd rfl (Or.inl rfl))); (refine i4 ?_ ?_ ?_; (exact (g6 (i := 6) K6.nd rfl (Or.inl rfl))); (exact B3); rfl); rfl); rfl; rfl)))
      (b8 (g7 (i := 2) K6.nd rfl (Or.inl rfl) (d7 G_divisor_for_all hr (b0 (pv 1) (b0 (pv 6) b6)) g8))
      (b8 (g7 (i := 3) K6.nd rfl (Or.inl rfl) (u0 b6))
      (b8 (N1 PassesOwn.never rfl (E8 (pv 1)) (g6 (i := 4) K6.nd rfl (Or.inl rfl)) (b8 (g7 (i := 7) K6.nd rfl (Or.inl rfl) (U2 (G7 (pv 4) (fun _ => rfl)) (d7 G_common_divisor hr (b0 (pv 2) (b0 (pv 4) b6)) g8) (pv 6)))
      (d6 (P4 (ac4 PySem.F.plainAttrs_list PySem.F.slot_list_append PySem.F.type_list_append F5 (pv 3) (b0 (v7 (b0 (e8 y9 (e8 B8 (pv 4) (pv 7)) (pv 5)) (b0 (e8 B8 (pv 6) (pv 7)) b6))) b6))))))
      (d6 (i3 (pv 3))))))), ?_⟩
  rw [show start ["scale", "wholes", "divisor", "numbers", "whole", "top", "bottom", "shared"] [.ref px, .ref a] = [some (.ref px), some (.ref a), none, none, none, none, none, none] from rfl]
  simp! [aa2]
  refine ⟨_, hx, rfl, _, _, rfl, _, _, rfl, rfl, a, ws, _, rfl, hS, hl, by have := t7 sc; omega, by rw [Int.natAbs_natCast]; exact hd, hw, fun H1 dv s1 ⟨dv0, dv1, dv2⟩ => ⟨by decide, fun p hp => ?_⟩⟩
  refine ⟨_, rfl, a, rfl, ⟨_, (s1.trans (d5.new hp _)).seq hS⟩, Z4 (xs := ws.map V.int) (fun i σ H2 => ∃ o1 o2, σ = [some (.ref px), some (.ref a), some (.int dv), some (.ref p), o1, some (.int sc.num), some (.int sc.den), o2] ∧ d5 H1 H2 ∧ ∃ xs, H2 p = some (.lst xs) ∧ m6 H2 xs (scl sc (ws.take i))) ⟨_, _, rfl, d5.new hp _, [], b7, .nil⟩ (fun i σ H2 _ ⟨_, _, _, s2, _⟩ => s2.seq (s1.seq hS)) ?_ ?_⟩
  · rintro i x σ H2 hx' ⟨o1, o2, rfl, s2, xs, e2, n2⟩
    have hi := (List.getElem?_eq_some_iff.mp hx').1
    obtain ⟨v, hv, rfl⟩ := U4 hx'
    have dp := t7 sc
    have es : ws.take (i + 1) = ws.take i ++ [v] := by rw [List.take_succ, hv]; rfl
    have hvb := hw v (List.mem_of_getElem? hv)
    have hdb : (sc.den : Int).natAbs < 2 ^ 6000 := by rw [Int.natAbs_natCast]; exact hd
    simp! [aa2, af7]
    have fin : ∀ (A B : Int), A = (sc * (v : Rat)).num → B = ((sc * (v : Rat)).den : Int) → ∀ p1, H2 p1 = none → ∃ x, upd H2 p1 (.tup [.int A, .int B]) p = some (.lst x) ∧ x.length < sizeLine ∧ d5 H1 (upd (upd H2 p1 (.tup [.int A, .int B])) p (.lst (x ++ [.ref p1]))) ∧
        ∃ xs, upd (upd H2 p1 (.tup [.int A, .int B])) p (.lst (x ++ [.ref p1])) p = some (.lst xs) ∧ m6 (upd (upd H2 p1 (.tup [.int A, .int B])) p (.lst (x ++ [.ref p1]))) xs (scl sc (ws.take (i + 1))) := by
      intro A B hA hB p1 hp1
      have e := d5.new hp1 (.tup [.int A, .int B]) _ _ e2
      refine ⟨xs, e, ?_, (s2.trans (d5.new hp1 _)).over hp _, _, b7, ?_⟩
      · rw [n2.length, R9, List.length_take]
        exact Nat.lt_of_le_of_lt (show _ ≤ 100 by omega) (by decide)
      · have e3 : scl sc (ws.take (i + 1)) = scl sc (ws.take i) ++ [sc * (v : Rat)] := by rw [es]; simp [scl]
        rw [e3]
        exact ((n2.mono (K9.new hp1)).append (.cons (by rw [b7]; unfold w9; rw [hA, hB]) .nil)).mono (K9.lst e)
    refine z8 (fun h => ?_) (fun h => ?_)
    · have hv0 : v ≠ 0 := by simpa using h
      obtain ⟨q1, q2⟩ := bb5 sc hv0
      have gp := J3 (t := (sc.den : Int)) hv0
      have gl := aF3 (b := v) (show (sc.den : Int) ≠ 0 by omega) hdb
      have hdvb : dv.natAbs < 2 ^ 6000 := by
        have := Int.le_of_dvd (by omega) dv1
        omega
      rw [dv2 v (List.mem_of_getElem? hv) hv0]
      refine ⟨.inl hdvb, .inl ⟨_, SqL.of e2⟩, P1 (by omega) (M0 gl), R1 (ae7 (by omega) (Int.gcd_dvd_right _ _) hvb) hn, P1 (by omega) (M0 gl), v8, fin _ _ q1 q2⟩
    · have hv0 : v = 0 := by simpa using h
      subst hv0
      have z1 : sc * ((0 : Int) : Rat) = 0 := by rw [Rat.intCast_zero]; grind
      refine ⟨.inl ⟨_, SqL.of e2⟩, P1 (by omega) (M0 hdb), R1 (m := 1) (by rw [Int.zero_fdiv]; decide) hn, P1 (by omega) (M0 hdb), v8, fin _ _ ?_ ?_⟩
      · rw [z1, Int.zero_fdiv, Int.zero_mul]; rfl
      · rw [z1, Int.fdiv_self (by omega)]; rfl
  · rintro σ H2 ⟨o1, o2, rfl, s2, xs, e2, n2⟩
    rw [List.length_map, List.take_length] at n2
    exact ⟨_, rfl, k p xs H2 (s1.trans s2) (s1.free hp) e2 n2⟩
end
def bg4 : List D → Bool
  | [.v (.int _), .v (.int _), .v (.int _)] => true
  | _ => false
mutual
def noW : D → Bool
  | .v _ => true
  | .tup ds => bi3 ds
  | .lst ds => !bg4 ds && bi3 ds
def bi3 : List D → Bool
  | [] => true
  | d :: ds => noW d && bi3 ds
end
mutual
def smD (m : Nat) : D → Prop
  | .v (.int i) => i.natAbs < 2 ^ m
  | .v _ => True
  | .tup ds => bg8 m ds
  | .lst ds => bg8 m ds
def bg8 (m : Nat) : List D → Prop
  | [] => True
  | d :: ds => smD m d ∧ bg8 m ds
end
def U9 (p q : Rat) : Bool := decide (p.num * (q.den : Int) < q.num * (p.den : Int))
structure IsBox (B : List (Rat × Rat)) : Prop where
  l2 : 2 ≤ B.length
  l8 : B.length ≤ 8
  le : ∀ s ∈ B, s.1 ≤ s.2
  last : ∀ s, B[B.length - 1]? = some s → 0 < s.1
def zs (t b a : Int) : List Int → List Int
  | [] => [b * a]
  | x :: r => (b * a + t * x) :: zs t b x r
structure MidN (n : Nat) (R : List Rat) : Prop where
  ex : ∃ (B : Nat) (ws : List Int), 0 < B ∧ B < 2 ^ (40 * n + 1) ∧ R = scl (Rat.divInt 1 B) ws ∧ ∀ v ∈ ws, Int.natAbs v < 2 ^ (41 * n + 1)
  len : R.length = n + 1
  last : R[n]? = some 1
theorem aL8 (xs : List V) : Z8 xs none (some (-1)) = xs.take (xs.length - 1) := by
  unfold Z8
  have e1 : HT.sIx xs.length 0 none = 0 := by simp [HT.sIx]
  have e2 : HT.sIx xs.length xs.length (some (-1)) = xs.length - 1 := by
    simp only [HT.sIx]
    split <;> omega
  rw [e1, e2, List.drop_zero, Nat.sub_zero]
inductive aY7 (H : Hp) : List V → List (Rat × Rat) → Prop where
  | nil : aY7 H [] []
  | cons {p a b : Addr} {s : Rat × Rat} {vs : List V} {B : List (Rat × Rat)} (h : H p = some (.tup [.ref a, .ref b])) (ha : H a = some (.tup (w9 s.1))) (hb : H b = some (.tup (w9 s.2))) (t : aY7 H vs B) : aY7 H (.ref p :: vs) (s :: B)
def Z7 (a b : Str) : D := .tup [.v (.str a), .v (.str b)]
theorem aX6 (a b : Str) : eqD (Z7 a b) (Z7 a b) = true := by simp [Z7, eqD, F7, eqV]
theorem aV4 (a b c d : Str) : okD (Z7 a b) (Z7 c d) = true := by simp [Z7, okD, R8]
theorem bc7 (a b : Str) : dpD (Z7 a b) ≤ 60 := by simp [Z7, dpD, Z6]
theorem aE9 {K : PySem.W.Frag} {H : Hp} {p : Addr} {a b : Str} (h : SqT K H p [.str a, .str b]) : IsD K H (.ref p) (Z7 a b) := .tup h (.cons (.v rfl) (.cons (.v rfl) .nil))
structure TbX (u : Addr) (H : Hp) (a : Addr) (ts : List Addr) (M : List (List Rat)) : Prop where
  au : a ≠ u
  tu : ∀ t ∈ ts, t ≠ u
  at' : H a = some (.lst (ts.map V.ref))
  rws : Rws H ts M
theorem TbX.samex {u a : Addr} {H H' : Hp} {ts : List Addr} {M : List (List Rat)} (t : TbX u H a ts M) (s : o0 u H H') (hu : j8 H u) : TbX u H' a ts M := ⟨t.au, t.tu, s _ _ t.at' t.au, t.rws.samex s hu t.tu⟩
theorem TbX.same {u a : Addr} {H H' : Hp} {ts : List Addr} {M : List (List Rat)} (t : TbX u H a ts M) (s : d5 H H') : TbX u H' a ts M := ⟨t.au, t.tu, s _ _ t.at', t.rws.same s⟩
structure LsX (u : Addr) (H : Hp) (a : Addr) (xs : List V) (qs : List Rat) : Prop where
  au : a ≠ u
  at' : H a = some (.lst xs)
  nums : m6 H xs qs
theorem LsX.samex {u a : Addr} {H H' : Hp} {xs : List V} {qs : List Rat} (t : LsX u H a xs qs) (s : o0 u H H') (hu : j8 H u) : LsX u H' a xs qs := ⟨t.au, s _ _ t.at' t.au, t.nums.mono (s.tups hu)⟩
theorem LsX.same {u a : Addr} {H H' : Hp} {xs : List V} {qs : List Rat} (t : LsX u H a xs qs) (s : d5 H H') : LsX u H' a xs qs := ⟨t.au, s _ _ t.at', t.nums.mono s.tups⟩
theorem LsX.isD {K : PySem.W.Frag} {u a : Addr} {H : Hp} {xs : List V} {qs : List Rat} (t : LsX u H a xs qs) : IsD K H (.ref a) (A5 qs) := A8 (SqL.of t.at') t.nums
def hc (a : Nat → Rat) (i j : Nat) : Rat := if (i + j) % 2 = 1 then a i * a j else 0
def hf (a : Nat → Rat) : Nat → Nat → Rat
  | 0, j => hc a 0 (j + 1)
  | i + 1, j => hc a (i + 1) (j + 1) - hf a i (j + 1)
def pw (x : Rat) : Nat → Rat
  | 0 => 1
  | i + 1 => pw x i * x
theorem au2 (c : Rat) (f : Nat → Rat) : ∀ n, c * m8 f n = m8 (fun i => c * f i) n
  | 0 => by simp [m8]
  | n + 1 => by rw [m8, m8, ← au2 c f n]; grind
theorem au3 (f g : Nat → Rat) : ∀ n, m8 f n + m8 g n = m8 (fun i => f i + g i) n
  | 0 => by simp [m8]; grind
  | n + 1 => by rw [m8, m8, m8, ← au3 f g n]; grind
def hR (a : Nat → Rat) (n i : Nat) (y : Rat) : Rat := m8 (fun j => hf a i j * pw y j) n
def hC (a : Nat → Rat) (n i : Nat) (y : Rat) : Rat := m8 (fun j => hc a i j * pw y j) (n + 1)
def sg (i : Nat) : Rat := if i % 2 = 0 then 1 else -1
def OvB (B W : Nat) (q : Rat) : Prop := ∃ v : Int, q = Rat.divInt v B ∧ v.natAbs < 2 ^ W
theorem OvB.mono {B V W : Nat} {q : Rat} (h : OvB B V q) (l : V ≤ W) : OvB B W q := let ⟨v, e, b⟩ := h; ⟨v, e, Nat.lt_of_lt_of_le b (d4 l)⟩
theorem OvB.zero (B W : Nat) : OvB B W 0 := ⟨0, by rw [Rat.zero_divInt], Nat.two_pow_pos _⟩
theorem az4 {W : Nat} {qs : List Rat} (h : ClN W qs) {q : Rat} (hq : q ∈ qs) : OvB (j3 qs) W q :=
  ⟨_, am5 (z7 qs) (F9 hq), h.w _ (List.mem_map.mpr ⟨q, hq, rfl⟩)⟩
theorem OvB.mul {B C V W : Nat} {p q : Rat} (h : OvB B V p) (k : OvB C W q) : OvB (B * C) (V + W) (p * q) := by
  obtain ⟨v, rfl, b⟩ := h
  obtain ⟨u, rfl, c⟩ := k
  refine ⟨v * u, by rw [Rat.divInt_mul_divInt, Int.natCast_mul], ?_⟩
  rw [Int.natAbs_mul, Nat.pow_add]
  exact Nat.mul_lt_mul'' b c
theorem OvB.add {B W : Nat} (hB : 0 < B) {p q : Rat} (h : OvB B W p) (k : OvB B W q) : OvB B (W + 1) (p + q) := by
  obtain ⟨v, rfl, b⟩ := h
  obtain ⟨u, rfl, c⟩ := k
  refine ⟨v + u, ?_, ?_⟩
  · have hz : (B : Int) ≠ 0 := by omega
    rw [Rat.divInt_add_divInt _ _ hz hz]
    refine (Rat.divInt_eq_divInt_iff (Int.mul_ne_zero hz hz) hz).mpr ?_
    grind
  · have := Int.natAbs_add_le v u
    rw [Nat.pow_succ]; omega
theorem aI1 {α : Type} {xs : List α} {x : α} (h : xs[xs.length - 1]? = some x) : atI xs (-1) = some x := by
  have hp : xs.length - 1 < xs.length := (List.getElem?_eq_some_iff.mp h).1
  have e : ixN xs.length (-1) = some (xs.length - 1) := by
    unfold ixN
    rw [if_neg (by decide)]
    rw [if_pos (by omega)]
    congr 1
    omega
  unfold atI
  rw [e]
  exact h
def aQ (qs : List Rat) (k : Nat) : Rat := (qs[k]?).getD 0
def aZ (ws : List Int) (k : Nat) : Int := (ws[k]?).getD 0
theorem ar8 (s : Rat) (ws : List Int) : aQ (scl s ws) = fun k => s * (aZ ws k : Rat) := by
  funext k
  unfold aQ aZ scl
  rw [List.getElem?_map]
  cases ws[k]? with
  | none => simp [Rat.intCast_zero]
  | some v => simp
theorem aM0 {ws : List Int} {W : Nat} (h : ∀ v ∈ ws, Int.natAbs v < 2 ^ W) : ∀ k, (aZ ws k).natAbs < 2 ^ W := fun k => by
  unfold aZ
  cases q : ws[k]? with
  | none => exact Nat.two_pow_pos _
  | some v => exact h v (List.mem_of_getElem? q)
theorem ax7 {α : Type} [Add α] : ∀ (f : List α) (k : Nat) (x v : α), v ∈ V0 f k x → v ∈ f ∨ ∃ y ∈ f, v = y + x
  | [], _, _, _, h => by cases h
  | y :: r, 0, x, v, h => by
    rcases List.mem_cons.mp h with z | z
    · exact .inr ⟨y, List.mem_cons_self, z⟩
    · exact .inl (List.mem_cons_of_mem _ z)
  | y :: r, k + 1, x, v, h => by
    rcases List.mem_cons.mp h with z | z
    · exact .inl (by rw [z]; exact List.mem_cons_self)
    · rcases ax7 r k x v z with w | ⟨u, hu, e⟩
      · exact .inl (List.mem_cons_of_mem _ w)
      · exact .inr ⟨u, List.mem_cons_of_mem _ hu, e⟩
theorem aQ4 {B W : Nat} (hB : 0 < B) {f : List Rat} {k : Nat} {x : Rat} (hf : ∀ v ∈ f, OvB B W v) (hx : OvB B W x) : ∀ v ∈ V0 f k x, OvB B (W + 1) v := fun v hv => by
  rcases ax7 f k x v hv with h | ⟨y, hy, rfl⟩
  · exact (hf v h).mono (by omega)
  · exact (hf y hy).add hB hx
def cv (f g : Nat → Rat) (k : Nat) : Rat := m8 (fun i => f i * g (k - i)) (k + 1)
theorem be1 (p q : List Rat) (k : Nat) : aQ (W7 p q) k = aQ p k + aQ q k := by
  unfold aQ
  by_cases h : k < max p.length q.length
  · rw [ar7 p q k h]; rfl
  · rw [List.getElem?_eq_none (by rw [ar6]; omega), List.getElem?_eq_none (by omega), List.getElem?_eq_none (by omega)]; grind
theorem be0 (p q : List Rat) (k : Nat) : aQ (Q9 p q) k = cv (aQ p) (aQ q) k := by
  by_cases hp : p = []
  · subst hp
    have : Q9 [] q = [] := by unfold Q9; rw [if_pos (.inl rfl)]
    rw [this]
    symm
    exact K5 _ fun i _ => by show (0 : Rat) * _ = 0; grind
  by_cases hq : q = []
  · subst hq
    have : Q9 p [] = [] := by unfold Q9; rw [if_pos (.inr rfl)]
    rw [this]
    symm
    exact K5 _ fun i _ => by show _ * (0 : Rat) = 0; grind
  by_cases hk : k < p.length + q.length - 1
  · have := aV8 hp hq hk
    unfold aQ
    rw [this]; rfl
  · have h1 : aQ (Q9 p q) k = 0 := by
      unfold aQ
      rw [List.getElem?_eq_none (by rw [aE5 hp hq]; omega)]; rfl
    rw [h1]
    symm
    refine K5 _ fun i hi => ?_
    by_cases h2 : i < p.length
    · have : aQ q (k - i) = 0 := by unfold aQ; rw [List.getElem?_eq_none (by omega)]; rfl
      rw [this]; grind
    · have : aQ p i = 0 := by unfold aQ; rw [List.getElem?_eq_none (by omega)]; rfl
      rw [this]; grind
theorem bd9 {qs : List Rat} {m : Nat} (t : v3 qs m) (k : Nat) : aQ (qs.take m) k = aQ qs k := by
  unfold aQ
  rw [List.getElem?_take]
  split
  · rfl
  · cases h : qs[k]? with
    | none => rfl
    | some v => rw [t.zero k v (by omega) h]; rfl
theorem aR6 {p q : List Rat} (tp : v3 p p.length) (tq : v3 q q.length) (h : ∀ k, aQ p k = aQ q k) : p = q := by
  have key : ∀ {p q : List Rat}, v3 p p.length → (∀ k, aQ p k = aQ q k) → p.length ≤ q.length := fun {p q} tp h => by
    by_cases z : p.length = 0
    · omega
    · have hl : p.length - 1 < p.length := by omega
      have := tp.last z _ (List.getElem?_eq_getElem hl)
      have e := h (p.length - 1)
      refine Classical.byContradiction fun w => this ?_
      unfold aQ at e
      rw [List.getElem?_eq_getElem hl, List.getElem?_eq_none (by omega)] at e
      exact e
  have hl : p.length = q.length := by
    have h1 := key tp h
    have h2 := key tq fun k => (h k).symm
    omega
  refine List.ext_getElem? fun k => ?_
  by_cases hk : k < p.length
  · have e := h k
    unfold aQ at e
    rw [List.getElem?_eq_getElem hk, List.getElem?_eq_getElem (by omega)] at e ⊢
    exact congrArg some e
  · rw [List.getElem?_eq_none (by omega), List.getElem?_eq_none (by omega)]
theorem ar3 (f g h : Nat → Rat) (k : Nat) : cv (fun i => f i + g i) h k = cv f h k + cv g h k := by
  unfold cv
  rw [au3]
  exact v4 fun i _ => by grind
theorem aI9 (c : Rat) (f h : Nat → Rat) (k : Nat) : cv (fun i => c * f i) h k = c * cv f h k := by
  unfold cv
  rw [au2]
  exact v4 fun i _ => by grind
theorem M3 (g : Nat → Rat) (t : Nat) : ∀ n, m8 (fun i => if i = t then g i else 0) n = if t < n then g t else 0
  | 0 => by rw [if_neg (by omega)]; rfl
  | n + 1 => by
    rw [m8, M3 g t n]
    by_cases h : t < n
    · rw [if_pos h, if_neg (by omega), if_pos (by omega)]; grind
    · by_cases h2 : n = t
      · rw [if_neg h, if_pos h2, if_pos (by omega), h2]; grind
      · rw [if_neg h, if_neg h2, if_neg (by omega)]; grind
theorem ax0 (d : Rat) (t : Nat) (h : Nat → Rat) (k : Nat) : cv (fun i => if i = t then d else 0) h k = if t ≤ k then d * h (k - t) else 0 := by
  unfold cv
  have : m8 (fun i => (if i = t then d else 0) * h (k - i)) (k + 1) = m8 (fun i => if i = t then d * h (k - i) else 0) (k + 1) := v4 fun i _ => by split <;> grind
  rw [this, M3]
  by_cases e : t ≤ k
  · rw [if_pos (by omega), if_pos e]
  · rw [if_neg (by omega), if_neg e]
theorem aq9 {O f0 f1 g0 g1 : Nat → Rat} {n m : Nat} (hn : O n ≠ 0) (hO : ∀ k, n < k → O k = 0) (hf : ∀ k, n ≤ k → f1 k = 0) (hg : ∀ k, n ≤ k → g1 k = 0) (f0m : ∀ k, m ≤ k → f0 k = 0) (g0m : ∀ k, m ≤ k → g0 k = 0)
    (e : ∀ k, cv f0 O k + f1 k = cv g0 O k + g1 k) : (∀ k, f0 k = g0 k) ∧ ∀ k, f1 k = g1 k := by
  have key : ∀ j, j ≤ m → ∀ k, m - j ≤ k → f0 k = g0 k := by
    intro j
    induction j with
    | zero => intro _ k hk; rw [f0m k (by omega), g0m k (by omega)]
    | succ j ih =>
      intro hj k hk
      by_cases h1 : m - j ≤ k
      · exact ih (by omega) k h1
      have ek := e (k + n)
      rw [hf _ (by omega), hg _ (by omega)] at ek
      have one : ∀ f : Nat → Rat, (∀ i, m - j ≤ i → f i = 0) → cv f O (k + n) = f k * O n := fun f hf0 => by
        unfold cv
        have : m8 (fun i => f i * O (k + n - i)) (k + n + 1) = m8 (fun i => if i = k then f k * O n else 0) (k + n + 1) := v4 fun i _ => by
          by_cases z : i = k
          · rw [if_pos z, z, Nat.add_sub_cancel_left]
          · rw [if_neg z]
            by_cases y : i < k
            · rw [hO _ (by omega)]; grind
            · rw [hf0 i (by omega)]; grind
        rw [this, M3, if_pos (by omega)]
      have e2 : cv (fun i => f0 i + -1 * g0 i) O (k + n) = (f0 k + -1 * g0 k) * O n := one _ fun i hi => by
        rw [ih (by omega) i hi]; grind
      rw [ar3 f0 (fun i => -1 * g0 i), aI9] at e2
      have e3 : (f0 k + -1 * g0 k) * O n = 0 := by rw [← e2]; grind
      have : f0 k + -1 * g0 k = 0 := by
        have := Rat.mul_inv_cancel _ hn
        generalize (O n)⁻¹ = u at this
        generalize O n = y at *
        grind
      grind
  have h0 : ∀ k, f0 k = g0 k := fun k => key m (Nat.le_refl _) k (by omega)
  refine ⟨h0, fun k => ?_⟩
  have := e k
  rw [show f0 = g0 from funext h0] at this
  grind
def zc (ws : List Int) (k : Nat) : Rat := (aZ ws k : Rat)
theorem aq0 (f : List Int) (i : Nat) (x : Int) (q : List Int) {k : Nat} (y : Int) (hy : f[k]? = some y) : ∀ j, (B6 0 f i x q j)[k]? = some (y + if i ≤ k ∧ k < i + j then x * (q[k - i]?).getD 0 else 0)
  | 0 => by
    rw [B6, hy, if_neg (by omega)]; congr 1; omega
  | j + 1 => by
    have ih := aq0 f i x q y hy j
    rw [B6]
    by_cases e : k = i + j
    · subst e
      rw [af0 _ _ _ _ ih, if_neg (by omega), if_pos (by omega), show i + j - i = j by omega]
      congr 1; omega
    · rw [aa1 _ _ _ _ e, ih]
      by_cases h : i ≤ k ∧ k < i + j
      · rw [if_pos h, if_pos (by omega)]
      · rw [if_neg h, if_neg (by omega)]
structure B7 (ws : List Int) (m : Nat) : Prop where
  le : m ≤ ws.length
  zero : ∀ i v, m ≤ i → ws[i]? = some v → v = 0
  last : m ≠ 0 → ∀ v, ws[m - 1]? = some v → v ≠ 0
theorem bd8 {ws : List Int} {m : Nat} (t : B7 ws m) (k : Nat) : aZ (ws.take m) k = aZ ws k := by
  unfold aZ
  rw [List.getElem?_take]
  split
  · rfl
  · cases h : ws[k]? with
    | none => rfl
    | some v => rw [t.zero k v (by omega) h]; rfl
theorem B7.self {ws : List Int} {m : Nat} (t : B7 ws m) : B7 (ws.take m) (ws.take m).length := by
  have hm : (ws.take m).length = m := by rw [List.length_take]; have := t.le; omega
  refine ⟨Nat.le_refl _, fun i v hi h => ?_, fun hn v h => ?_⟩
  · rw [List.getElem?_eq_none hi] at h; cases h
  · rw [hm] at hn h
    rw [List.getElem?_take, if_pos (by omega)] at h
    exact t.last hn v h
def Dv (one other Q R : List Int) (many : Int) : Prop := ∀ k, (many : Rat) * zc one k = cv (zc Q) (zc other) k + zc R k
theorem bc6 {one other Q R R' : List Int} {many c d : Int} {t : Nat} (h : Dv one other Q R many) (ht : t < Q.length) (hQ : aZ Q t = 0) (hR : ∀ k, aZ R' k = c * aZ R k - if t ≤ k then d * aZ other (k - t) else 0) :
    Dv one other ((Q.map (c * ·)).set t d) R' (many * c) := by
  intro k
  have e1 : zc ((Q.map (c * ·)).set t d) = fun i => (c : Rat) * zc Q i + if i = t then (d : Rat) else 0 := by
    funext i
    unfold zc aZ
    rw [List.getElem?_set]
    by_cases z : t = i
    · subst z
      rw [if_pos rfl, if_pos (by rw [List.length_map]; exact ht), if_pos rfl]
      unfold aZ at hQ
      rw [hQ, Rat.intCast_zero]
      simp only [Option.getD_some]
      grind
    · rw [if_neg z, if_neg (fun w => z w.symm), List.getElem?_map]
      cases Q[i]? with
      | none => simp [Rat.intCast_zero]; grind
      | some v => simp [Rat.intCast_mul]; grind
  have e2 : zc R' k = (c : Rat) * zc R k - if t ≤ k then (d : Rat) * zc other (k - t) else 0 := by
    unfold zc
    rw [hR k, Rat.intCast_sub, Rat.intCast_mul]
    split
    · rw [Rat.intCast_mul]
    · rw [Rat.intCast_zero]
  rw [e1, ar3 (fun i => (c : Rat) * zc Q i) (fun i => if i = t then (d : Rat) else 0), aI9, ax0, e2, Rat.intCast_mul]
  have := h k
  have e3 : (many : Rat) * (c : Rat) * zc one k = (c : Rat) * ((many : Rat) * zc one k) := by grind
  rw [e3, this]
  grind
theorem OvB.up {B W : Nat} {q : Rat} (h : OvB B W q) (hB : 0 < B) {C c : Nat} (hC : 0 < C) (hc : C < 2 ^ c) : OvB (B * C) (W + c) q := by
  obtain ⟨v, rfl, b⟩ := h
  refine ⟨v * C, ?_, ?_⟩
  · rw [Int.natCast_mul]
    refine (Rat.divInt_eq_divInt_iff (by omega) (Int.mul_ne_zero (by omega) (by omega))).mpr ?_
    grind
  · rw [Int.natAbs_mul, Int.natAbs_natCast, Nat.pow_add]
    exact Nat.mul_lt_mul'' b hc
theorem U7 {B W : Nat} (hB : 0 < B) (hW : B < 2 ^ W) {qs : List Rat} (h : ∀ x ∈ qs, OvB B W x) : ClN W qs := by
  have : ∃ vs : List Int, qs = scl (Rat.divInt 1 B) vs ∧ ∀ v ∈ vs, Int.natAbs v < 2 ^ W := by
    induction qs with
    | nil => exact ⟨[], rfl, by simp⟩
    | cons q qs ih =>
      obtain ⟨vs, e, hv⟩ := ih fun x hx => h x (List.mem_cons_of_mem _ hx)
      obtain ⟨v, e2, b⟩ := h q List.mem_cons_self
      refine ⟨v :: vs, ?_, fun u hu => ?_⟩
      · rw [e]
        show q :: _ = (Rat.divInt 1 B * (v : Rat)) :: _
        rw [ag7, ← e2]; rfl
      · rcases List.mem_cons.mp hu with z | z
        · rw [z]; exact b
        · exact hv u z
  obtain ⟨vs, rfl, hv⟩ := this
  exact aP8 hB hW hv
theorem aR5 : v3 ([] : List Rat) 0 := ⟨Nat.le_refl _, (fun i q _ e => by simp at e), fun h => absurd rfl h⟩
def bn4 (u : Addr) (H : Hp) (v : V) (ps qs : List Rat) : Prop := v = .non ∨ ∃ td l1 l2 zs1 zs2 g0 g1, v = .ref td ∧ td ≠ u ∧ H td = some (.tup [.ref l1, .ref l2]) ∧ LsX u H l1 zs1 g0 ∧ LsX u H l2 zs2 g1 ∧ v3 g0 g0.length ∧ v3 g1 g1.length ∧ g1.length < qs.length ∧ ∀ k, aQ ps k = cv (aQ qs) (aQ g0) k + aQ g1 k
structure PairOk (u : Addr) (H : Hp) (ap aq : Addr) (due : V) (xs ys : List V) (ps qs : List Rat) (S W1 W2 : Nat) : Prop where
  lp : LsX u H ap xs ps
  lq : LsX u H aq ys qs
  tp : v3 ps ps.length
  tq : v3 qs qs.length
  q0 : qs ≠ []
  c1 : ClN W1 ps
  c2 : ClN W2 qs
  w1 : 1 ≤ W1
  w2 : 1 ≤ W2
  w3 : W2 ≤ 690
  t : W1 + S * (W2 + 1) + W2 ≤ 2300
  s : ps.length + 1 ≤ qs.length + S
  pl : ps.length ≤ 16
  ql : qs.length ≤ 16
  due : bn4 u H due ps qs
theorem aK5 {B W : Nat} (hB : 0 < B) {f : Nat → Rat} (h : ∀ i, OvB B W (f i)) : ∀ n, OvB B (W + n) (m8 f n)
  | 0 => OvB.zero _ _
  | n + 1 => ((aK5 hB h n).add hB ((h n).mono (by omega))).mono (by omega)
theorem ah9 (f g : Nat → Rat) (k : Nat) : cv f g (k + 1) = f 0 * g (k + 1) + cv (fun i => f (i + 1)) g k := by
  unfold cv
  rw [X5]
  congr 1
  exact v4 fun i _ => by rw [show k + 1 - (i + 1) = k - i by omega]
theorem U6 (f g : Nat → Rat) (k : Nat) : cv f g k = cv g f k := by
  unfold cv
  rw [ac0]
  exact v4 fun i hi => by
    rw [show k + 1 - 1 - i = k - i by omega, show k - (k - i) = i by omega]; grind
theorem aY3 {f g h l : Nat → Rat} {k : Nat} (a : ∀ i, i ≤ k → f i = g i) (b : ∀ i, i ≤ k → h i = l i) : cv f h k = cv g l k :=
  v4 fun i hi => by rw [a i (by omega), b (k - i) (by omega)]
theorem ar2 (f g : Nat → Rat) : cv f g 0 = f 0 * g 0 := by
  show (0 : Rat) + f 0 * g 0 = _
  grind
theorem aF6 : ∀ (k : Nat) (f g h : Nat → Rat), cv (cv f g) h k = cv f (cv g h) k
  | 0, f, g, h => by rw [ar2, ar2, ar2, ar2]; grind
  | k + 1, f, g, h => by
    rw [ah9, ah9 f]
    have e1 : cv (fun i => cv f g (i + 1)) h k = cv (fun i => f 0 * g (i + 1) + cv (fun i => f (i + 1)) g i) h k := aY3 (fun i _ => ah9 f g i) fun _ _ => rfl
    rw [e1, ar3 (fun i => f 0 * g (i + 1)) (cv (fun i => f (i + 1)) g), aI9 (f 0) (fun i => g (i + 1)), aF6 k, ah9 g]
    rw [ar2]; grind
def Dg (f : Nat → Rat) (n : Nat) : Prop := ∀ k, n ≤ k → f k = 0
theorem Dg.cv {f g : Nat → Rat} {m n : Nat} (hf : Dg f m) (hg : Dg g n) : Dg (cv f g) (m + n - 1) := fun k hk => K5 _ fun i hi => by
  by_cases h : m ≤ i
  · rw [hf i h]; grind
  · rw [hg (k - i) (by omega)]; grind
theorem bd1 {f B : Nat → Rat} {nf n N : Nat} (hf : Dg f nf) (hB : Dg B (n + 1)) (hn : B n ≠ 0) (h : Dg (cv f B) N) : Dg f (N - n) := by
  have key : ∀ j, ∀ k, nf - j ≤ k → N - n ≤ k → f k = 0 := by
    intro j
    induction j with
    | zero => intro k hk _; exact hf k (by omega)
    | succ j ih =>
      intro k hk hN
      by_cases h1 : nf - j ≤ k
      · exact ih k h1 hN
      have e := h (k + n) (by omega)
      have one : cv f B (k + n) = f k * B n := by
        unfold R.cv
        have : m8 (fun i => f i * B (k + n - i)) (k + n + 1) = m8 (fun i => if i = k then f k * B n else 0) (k + n + 1) := v4 fun i _ => by
          by_cases z : i = k
          · rw [if_pos z, z, Nat.add_sub_cancel_left]
          · rw [if_neg z]
            by_cases y : i < k
            · rw [hB _ (by omega)]; grind
            · rw [ih i (by omega) (by omega)]; grind
        rw [this, M3, if_pos (by omega)]
      rw [one] at e
      have := Rat.mul_inv_cancel _ hn
      generalize (B n)⁻¹ = u at this
      generalize B n = y at *
      grind
  exact fun k hk => key nf k (by omega) hk
structure Eu (p q A B : Nat → Rat) (lp lq la lb : Nat) : Prop where
  inv : ∀ m, m < la → ∀ u v, Dg u (lq - m) → Dg v (lp - m) → Dg (fun k => cv u p k + cv v q k) m →
    ∃ a b, (∀ k, cv u p k + cv v q k = cv a A k + cv b B k) ∧ Dg a (lb - m) ∧ Dg b (la - m) ∧ ((∀ k, a k = 0) → (∀ k, b k = 0) → ∀ k, u k = 0 ∧ v k = 0)
  le : la ≤ max lp lq
theorem bd4 {u : Nat → Rat} {n : Nat} (hu : Dg u n) (p : Nat → Rat) (k : Nat) : cv u p k = m8 (fun i => u i * if i ≤ k then p (k - i) else 0) n := by
  unfold cv
  rw [← Q4 (f := fun i => u i * if i ≤ k then p (k - i) else 0) (m := n) (n := max n (k + 1)) (by omega) (fun i hi _ => by rw [hu i hi]; grind),
    Q4 (f := fun i => u i * if i ≤ k then p (k - i) else 0) (m := k + 1) (n := max n (k + 1)) (by omega) (fun i hi _ => by rw [if_neg (by omega)]; grind)]
  exact v4 fun i hi => by rw [if_pos (by omega)]
theorem aq8 {d : Nat} : ∀ (ws : List Int) (c : Nat), d ∣ c → (∀ w ∈ ws, (d : Int) ∣ w) → d ∣ ws.foldl (fun c w => Int.gcd w c) c
  | [], c, h, _ => h
  | w :: r, c, h, hw => aq8 r _ (Int.dvd_gcd (hw w List.mem_cons_self) (by exact Int.natCast_dvd_natCast.mpr h)) fun x hx => hw x (List.mem_cons_of_mem _ hx)
def bF (c x : Nat) : Nat := (c + 1) * (x * (x + 1))
structure SgS (c d0 L K : Nat) (P0 Q0 : List Int) (s t : Rat) (A B : List Int) : Prop where
  tA : B7 A A.length
  tB : B7 B B.length
  lA : A.length ≤ L
  lB : B.length < A.length
  gB : B ≠ [] → q8 B = 1
  eu : Eu (zc P0) (zc Q0) (zc A) (zc B) P0.length Q0.length A.length B.length
  s0 : s ≠ 0
  t0 : t ≠ 0
  wA : ∀ k, (aZ A k).natAbs < 2 ^ (c * (2 * (L - A.length) + 1))
  wB : ∀ k, (aZ B k).natAbs < 2 ^ (c * (2 * (L - A.length) + 1))
  sd : s.den < 2 ^ (d0 + bF c (L - A.length - 1))
  sn : s.num.natAbs < 2 ^ (d0 + 2 * bF c (L - A.length - 1))
  td : t.den < 2 ^ (d0 + bF c (L - A.length))
  tn : t.num.natAbs < 2 ^ (d0 + 2 * bF c (L - A.length))
theorem V1 {B : List Int} (t : B7 B B.length) (h : 0 < B.length) : aZ B (B.length - 1) ≠ 0 := by
  have := t.last (by omega) _ (List.getElem?_eq_getElem (by omega))
  unfold aZ
  rw [List.getElem?_eq_getElem (by omega)]
  exact this
theorem ab9 (B : List Int) : Dg (zc B) B.length := fun k hk => by
  unfold zc aZ
  rw [List.getElem?_eq_none hk]
  exact Rat.intCast_zero
theorem aJ4 {B : List Int} {k : Nat} (h : aZ B k ≠ 0) : zc B k ≠ 0 := fun w => h (Rat.intCast_inj.mp (by unfold zc at w; rw [w, Rat.intCast_zero]))
theorem av4 {s : Rat} {g many : Int} (hm : many ≠ 0) : ∃ t : Rat, t = s * (g : Rat) * (many : Rat)⁻¹ ∧ t.num.natAbs ≤ s.num.natAbs * g.natAbs ∧ t.den ≤ s.den * many.natAbs := by
  refine ⟨Rat.divInt (s.num * g) (s.den * many), ?_, ?_⟩
  · have h1 : s = (s.num : Rat) * (s.den : Rat)⁻¹ := by
      have := Rat.num_divInt_den s
      rw [Rat.divInt_eq_div, Rat.div_def] at this
      exact this.symm
    rw [Rat.divInt_eq_div, Rat.div_def, Rat.intCast_mul, Rat.intCast_mul, Rat.inv_mul_rev]
    conv => rhs; rw [h1]
    have : ((s.den : Int) : Rat) = (s.den : Rat) := Rat.intCast_natCast _
    rw [this]
    grind
  · have hb : (s.den : Int) * many ≠ 0 := Int.mul_ne_zero (by have := s.den_nz; omega) hm
    have := M1 (t := s.num * g) hb
    rw [Int.natAbs_mul, Int.natAbs_mul, Int.natAbs_natCast] at this
    exact this
theorem aC5 {K : PySem.W.Frag} {H : Hp} {D a : Addr} {ys xs : List V} {o : HO} (hD : H D = some (.lst ys)) (h : SqT K H a xs) : SqT K (upd H D o) a xs := by
  rcases h with h | h
  · rcases h with h | ⟨o', h⟩
    · have : a ≠ D := by rintro rfl; rw [h] at hD; cases hD
      exact .inl (.inl (by rw [e9 this]; exact h))
    · have : a ≠ D := by rintro rfl; rw [h] at hD; cases hD
      exact .inl (.inr ⟨o', by rw [e9 this]; exact h⟩)
  · exact .inr h
def FmX (K : PySem.W.Frag) (D : Addr) (H : Hp) (r : Addr) (s : Rat) (ws : List Int) : Prop := ∃ rs l, SqT K H r [.ref rs, .ref l] ∧ SqT K H rs (w9 s) ∧ H l = some (.lst (ws.map V.int)) ∧ l ≠ D
theorem FmX.same {K : PySem.W.Frag} {D : Addr} {H H' : Hp} {r : Addr} {s : Rat} {ws : List Int} (e : d5 H H') : FmX K D H r s ws → FmX K D H' r s ws
  | ⟨rs, l, h1, h2, h3, h4⟩ => ⟨rs, l, e.tup h1, e.tup h2, e _ _ h3, h4⟩
theorem FmX.over {K : PySem.W.Frag} {D : Addr} {H : Hp} {r : Addr} {s : Rat} {ws : List Int} {ys : List V} {o : HO} (hD : H D = some (.lst ys)) : FmX K D H r s ws → FmX K D (upd H D o) r s ws
  | ⟨rs, l, h1, h2, h3, h4⟩ => ⟨rs, l, aC5 hD h1, aC5 hD h2, by rw [e9 h4]; exact h3, h4⟩
inductive Fms (K : PySem.W.Frag) (D : Addr) (H : Hp) : List V → List (Rat × List Int) → Prop where
  | nil : Fms K D H [] []
  | cons {r : Addr} {s : Rat} {ws : List Int} {xs : List V} {fs : List (Rat × List Int)} (h : FmX K D H r s ws) (t : Fms K D H xs fs) : Fms K D H (.ref r :: xs) ((s, ws) :: fs)
theorem Fms.same {K : PySem.W.Frag} {D : Addr} {H H' : Hp} (e : d5 H H') : ∀ {xs : List V} {fs : List (Rat × List Int)}, Fms K D H xs fs → Fms K D H' xs fs
  | _, _, .nil => .nil
  | _, _, .cons h t => .cons (h.same e) (t.same e)
theorem Fms.over {K : PySem.W.Frag} {D : Addr} {H : Hp} {ys : List V} {o : HO} (hD : H D = some (.lst ys)) : ∀ {xs : List V} {fs : List (Rat × List Int)}, Fms K D H xs fs → Fms K D (upd H D o) xs fs
  | _, _, .nil => .nil
  | _, _, .cons h t => .cons (h.over hD) (t.over hD)
theorem Fms.snoc {K : PySem.W.Frag} {D : Addr} {H : Hp} {r : Addr} {s : Rat} {ws : List Int} (h : FmX K D H r s ws) : ∀ {xs : List V} {fs : List (Rat × List Int)}, Fms K D H xs fs → Fms K D H (xs ++ [.ref r]) (fs ++ [(s, ws)])
  | _, _, .nil => .cons h .nil
  | _, _, .cons h' t => .cons h' (t.snoc h)
theorem Fms.length {K : PySem.W.Frag} {D : Addr} {H : Hp} : ∀ {xs : List V} {fs : List (Rat × List Int)}, Fms K D H xs fs → xs.length = fs.length
  | _, _, .nil => rfl
  | _, _, .cons _ t => congrArg (· + 1) t.length
theorem Fms.get {K : PySem.W.Frag} {D : Addr} {H : Hp} : ∀ {xs : List V} {fs : List (Rat × List Int)} {i : Nat} {x : V}, Fms K D H xs fs → xs[i]? = some x → ∃ r s ws, x = .ref r ∧ fs[i]? = some (s, ws) ∧ FmX K D H r s ws
  | _, _, _, _, .nil, e => by simp at e
  | _, _, 0, _, .cons h _, e => by cases e; exact ⟨_, _, _, rfl, rfl, h⟩
  | _, _, i + 1, _, .cons _ t, e => t.get (i := i) (by simpa using e)
theorem aD5 {b : Rat} {ws : List Int} (hg : q8 ws = 1) {s : Nat → Int} (h : ∀ k, (s k : Rat) = b * zc ws k) : ∃ g : Int, b = (g : Rat) := by
  have hb2 : (b.den : Rat) * b = (b.num : Rat) := by
    have h3 : (b.den : Rat) ≠ 0 := fun w => b.den_nz (Rat.natCast_inj.mp (by rw [w]; rfl))
    have h4 : b = (b.num : Rat) / (b.den : Rat) := by
      have := Rat.num_divInt_den b
      rw [Rat.divInt_eq_div] at this
      exact this.symm
    have h5 := Rat.mul_inv_cancel _ h3
    rw [Rat.div_def] at h4
    generalize (b.den : Rat) = y at *
    generalize y⁻¹ = z at *
    generalize (b.num : Rat) = n at *
    grind
  have e : ∀ k, (b.den : Int) * s k = b.num * aZ ws k := fun k => by
    have h1 := h k
    have h3 : (((b.den : Int) * s k : Int) : Rat) = ((b.num * aZ ws k : Int) : Rat) := by
      rw [Rat.intCast_mul, Rat.intCast_mul, h1, Rat.intCast_natCast]
      unfold zc
      grind
    exact Rat.intCast_inj.mp h3
  have d1 : b.den = 1 := by
    have : b.den ∣ q8 ws := aq8 ws 0 (Nat.dvd_zero _) fun w hw => by
      obtain ⟨k, hk, ek⟩ := List.getElem_of_mem hw
      have h1 := e k
      have h2 : aZ ws k = w := by unfold aZ; rw [List.getElem?_eq_getElem hk, ek]; rfl
      rw [h2] at h1
      have : (b.den : Int) ∣ b.num * w := ⟨s k, by rw [← h1]⟩
      have h3 : b.den ∣ b.num.natAbs * w.natAbs := by
        have := Int.natAbs_dvd_natAbs.mpr this
        rw [Int.natAbs_natCast, Int.natAbs_mul] at this
        exact this
      exact Int.natAbs_dvd_natAbs.mp (by rw [Int.natAbs_natCast]; exact Nat.Coprime.dvd_of_dvd_mul_left (Nat.Coprime.symm b.reduced) h3)
    rw [hg] at this
    exact Nat.dvd_one.mp this
  refine ⟨b.num, ?_⟩
  rw [← hb2, d1]
  show b = ((1 : Nat) : Rat) * b
  have : ((1 : Nat) : Rat) = 1 := rfl
  rw [this]; grind
theorem bj9 {ws : List Int} {X : Nat} (h : ∀ k, (aZ ws k).natAbs < X) : ∀ v ∈ ws, Int.natAbs v < X := fun v hv => by
  obtain ⟨k, hk, ek⟩ := List.getElem_of_mem hv
  have h2 : aZ ws k = v := by unfold aZ; rw [List.getElem?_eq_getElem hk, ek]; rfl
  rw [← h2]; exact h k
structure Pf where
  f : Nat → Rat
theorem Pf.ext {a b : Pf} (h : ∀ k, a.f k = b.f k) : a = b := by
  cases a; cases b; congr 1; exact funext h
def t4 (c : Rat) : Pf := ⟨fun k => if k = 0 then c else 0⟩
def aH1 (a b : Pf) : Pf := ⟨cv a.f b.f⟩
def bm0 (a : Pf) : Nat → Pf
  | 0 => t4 1
  | n + 1 => aH1 (bm0 a n) a
theorem ar1 (c : Rat) (h : Nat → Rat) (k : Nat) : cv (fun k => if k = 0 then c else 0) h k = c * h k := by
  rw [ax0, if_pos (by omega), Nat.sub_zero]
theorem ap0 (c : Rat) (a : Pf) (k : Nat) : (aH1 (t4 c) a).f k = c * a.f k := ar1 c a.f k
instance instPf : Lean.Grind.CommRing Pf where
  add a b := ⟨fun k => a.f k + b.f k⟩
  mul := aH1
  neg a := ⟨fun k => - a.f k⟩
  sub a b := ⟨fun k => a.f k - b.f k⟩
  natCast := ⟨fun n => t4 n⟩
  ofNat n := ⟨t4 n⟩
  intCast := ⟨fun n => t4 n⟩
  nsmul := ⟨fun n a => aH1 (t4 n) a⟩
  zsmul := ⟨fun n a => aH1 (t4 n) a⟩
  npow := ⟨bm0⟩
  add_zero a := Pf.ext fun k => by
    show a.f k + (if k = 0 then ((0 : Nat) : Rat) else 0) = a.f k
    have : ((0 : Nat) : Rat) = 0 := rfl
    rw [this]; split <;> grind
  add_comm a b := Pf.ext fun k => by show a.f k + b.f k = b.f k + a.f k; grind
  add_assoc a b c := Pf.ext fun k => by show a.f k + b.f k + c.f k = a.f k + (b.f k + c.f k); grind
  mul_assoc a b c := Pf.ext fun k => aF6 k a.f b.f c.f
  one_mul a := Pf.ext fun k => by
    show cv (fun k => if k = 0 then ((1 : Nat) : Rat) else 0) a.f k = a.f k
    rw [ar1]
    have : ((1 : Nat) : Rat) = 1 := rfl
    rw [this]; grind
  right_distrib a b c := Pf.ext fun k => ar3 a.f b.f c.f k
  mul_zero a := Pf.ext fun k => by
    show cv a.f (fun k => if k = 0 then ((0 : Nat) : Rat) else 0) k = (if k = 0 then ((0 : Nat) : Rat) else 0)
    rw [U6, ar1]
    have : ((0 : Nat) : Rat) = 0 := rfl
    rw [this]; split <;> grind
  mul_comm a b := Pf.ext fun k => U6 a.f b.f k
  mul_one a := Pf.ext fun k => by
    show cv a.f (fun k => if k = 0 then ((1 : Nat) : Rat) else 0) k = a.f k
    rw [U6, ar1]
    have : ((1 : Nat) : Rat) = 1 := rfl
    rw [this]; grind
  left_distrib a b c := Pf.ext fun k => by
    show cv a.f (fun k => b.f k + c.f k) k = cv a.f b.f k + cv a.f c.f k
    rw [U6, ar3, U6 b.f, U6 c.f]
  zero_mul a := Pf.ext fun k => by
    show cv (fun k => if k = 0 then ((0 : Nat) : Rat) else 0) a.f k = (if k = 0 then ((0 : Nat) : Rat) else 0)
    rw [ar1]
    have : ((0 : Nat) : Rat) = 0 := rfl
    rw [this]; split <;> grind
  pow_zero a := Pf.ext fun k => by
    show (if k = 0 then (1 : Rat) else 0) = if k = 0 then ((1 : Nat) : Rat) else 0
    rfl
  pow_succ a n := rfl
  ofNat_succ n := Pf.ext fun k => by
    show (if k = 0 then ((n + 1 : Nat) : Rat) else 0) = (if k = 0 then (n : Rat) else 0) + (if k = 0 then ((1 : Nat) : Rat) else 0)
    split
    · rw [Rat.natCast_add]
    · grind
  neg_add_cancel a := Pf.ext fun k => by
    show - a.f k + a.f k = if k = 0 then ((0 : Nat) : Rat) else 0
    have : ((0 : Nat) : Rat) = 0 := rfl
    rw [this]; split <;> grind
  sub_eq_add_neg a b := Pf.ext fun k => by show a.f k - b.f k = a.f k + - b.f k; grind
  neg_zsmul i a := Pf.ext fun k => by
    show (aH1 (t4 ((-i : Int) : Rat)) a).f k = - (aH1 (t4 (i : Rat)) a).f k
    rw [ap0, ap0, Rat.intCast_neg]; grind
  intCast_neg i := Pf.ext fun k => by
    show (if k = 0 then ((-i : Int) : Rat) else 0) = - (if k = 0 then (i : Rat) else 0)
    split
    · rw [Rat.intCast_neg]
    · grind
theorem V8 (a b : Pf) (k : Nat) : (a + b).f k = a.f k + b.f k := rfl
theorem bh6 (a b : Pf) (k : Nat) : (a - b).f k = a.f k - b.f k := rfl
theorem aU3 (a b : Pf) (k : Nat) : (a * b).f k = cv a.f b.f k := rfl
theorem ad6 (c : Rat) (a : Pf) (k : Nat) : (t4 c * a).f k = c * a.f k := ap0 c a k
theorem aU9 (c d : Rat) : t4 (c * d) = t4 c * t4 d := Pf.ext fun k => by
  rw [ad6]
  show (if k = 0 then c * d else 0) = c * (if k = 0 then d else 0)
  split <;> grind
def zp (ws : List Int) : Pf := ⟨zc ws⟩
theorem aQ7 : zp [] = 0 := Pf.ext fun k => by
  show zc [] k = (if k = 0 then ((0 : Nat) : Rat) else 0)
  cases k with
  | zero => rfl
  | succ k => rfl
theorem K4 (k : Nat) : (0 : Pf).f k = 0 := by
  show (if k = 0 then ((0 : Nat) : Rat) else 0) = 0
  have : ((0 : Nat) : Rat) = 0 := rfl
  rw [this]; split <;> rfl
structure Ev (p q A B fa ha fb hb : Pf) (lp lq la lb : Nat) : Prop where
  inv : ∀ m, m < la → ∀ u v : Pf, Dg u.f (lq - m) → Dg v.f (lp - m) → Dg (u * p + v * q).f m →
    ∃ a b : Pf, u = a * fa + b * fb ∧ v = a * ha + b * hb ∧ Dg a.f (lb - m) ∧ Dg b.f (la - m)
  idA : A = fa * p + ha * q
  idB : B = fb * p + hb * q
  cr : ∃ δ : Rat, δ ≠ 0 ∧ t4 δ * p = hb * A - ha * B ∧ t4 δ * q = fa * B - fb * A
  le : la ≤ max lp lq
theorem bj4 {g : Int} (g0 : (g : Rat) ≠ 0) {x y : Int} (h : (y : Rat) = (g : Rat) * (x : Rat)) : x.natAbs ≤ y.natAbs := by
  have e : y = g * x := Rat.intCast_inj.mp (by rw [h, Rat.intCast_mul])
  have : g ≠ 0 := fun z => g0 (by rw [z]; rfl)
  rw [e, Int.natAbs_mul]
  exact Nat.le_mul_of_pos_left _ (by omega)
theorem aI8 {f g : Nat → Rat} {a b : Nat} (hf : Dg f (a + 1)) (hg : Dg g (b + 1)) : cv f g (a + b) = f a * g b := by
  unfold cv
  have : m8 (fun i => f i * g (a + b - i)) (a + b + 1) = m8 (fun i => if i = a then f a * g b else 0) (a + b + 1) := v4 fun i _ => by
    by_cases z : i = a
    · rw [if_pos z, z, Nat.add_sub_cancel_left]
    · rw [if_neg z]
      by_cases y : i < a
      · rw [hg _ (by omega)]; grind
      · rw [hf i (by omega)]; grind
  rw [this, M3, if_pos (by omega)]
def ExZ (one other : List Int) : Prop := ∃ (V : Nat → Int) (n : Nat), (∀ k, n ≤ k → V k = 0) ∧ ∀ k, zc one k = cv (fun i => (V i : Rat)) (zc other) k
theorem aW3 {one other Qz Rz : List Int} {n t : Nat} (hx : ExZ one other) (dv : Dv one other Qz Rz 1) (ho : other.length = n + 1) (h0 : aZ other n ≠ 0) (hr : Rz.length = n + 1 + t) : aZ other n ∣ aZ Rz (t + n) := by
  obtain ⟨V, nv, hV, e⟩ := hx
  obtain ⟨D, hD⟩ : ∃ D : Pf, D = ⟨fun i => (V i : Rat)⟩ - zp Qz := ⟨_, rfl⟩
  have eD : D * zp other = zp Rz := by
    have e1 : zp one = ⟨fun i => (V i : Rat)⟩ * zp other := Pf.ext e
    have e2 : zp one = zp Qz * zp other + zp Rz := Pf.ext fun k => by
      have := dv k
      rw [show ((1 : Int) : Rat) = 1 from rfl] at this
      show zc one k = cv (zc Qz) (zc other) k + zc Rz k
      rw [← this]; grind
    rw [hD]
    generalize (⟨fun i => (V i : Rat)⟩ : Pf) = x at *
    grind
  have dD : Dg D.f (max nv Qz.length) := fun k hk => by
    rw [hD, bh6]
    show (V k : Rat) - zc Qz k = 0
    rw [hV k (by omega), ab9 Qz k (by omega), Rat.intCast_zero]; grind
  have oD : Dg (zc other) (n + 1) := by rw [← ho]; exact ab9 other
  have back : Dg D.f (t + 1) := by
    have := bd1 (f := D.f) (B := zc other) (N := n + 1 + t) dD oD (aJ4 h0) (fun k hk => by
      have : (D * zp other).f k = (zp Rz).f k := by rw [eD]
      rw [show cv D.f (zc other) k = (D * zp other).f k from rfl, this]
      exact ab9 Rz k (by omega))
    rwa [show n + 1 + t - n = t + 1 by omega] at this
  have top := aI8 back oD
  have h1 : zc Rz (t + n) = D.f t * zc other n := by
    rw [← top, show cv D.f (zc other) (t + n) = (D * zp other).f (t + n) from rfl, eD]; rfl
  refine ⟨V t - aZ Qz t, Rat.intCast_inj.mp ?_⟩
  have h2 : D.f t = (V t : Rat) - zc Qz t := by rw [hD]; rfl
  rw [h2] at h1
  unfold zc at h1
  rw [h1, Rat.intCast_mul, Rat.intCast_sub]; grind
section
variable {P : Program} {w : World} {K : PySem.W.Frag} {mg : Str → Option Value} {base : Heap}
def ay2 (K : PySem.W.Frag) : Sp := fun vs H Q _ => ∃ (a : Addr) (ws : List Int), vs = [.ref a] ∧ SqL K H a (ws.map V.int) ∧ ws.length ≤ 100 ∧ ∀ m r, B7 ws m → H r = none → Q (.ref r) (upd H r (.lst ((ws.take m).map V.int)))
abbrev M8 : Stmt := top 31
theorem ad1 : i5 ["wholes", "many"] ["wholes"] (d3 M8) := by clean_wf
set_option maxHeartbeats 0 in
theorem aH3 {f : Addr} (d : Df K mg "trimmed" M8 ["wholes"] f) (n_len : mg "len" = none) : Def P w K mg base CX0 1 "trimmed" f ["wholes"] (ay2 K) := by
  refine d.ok (N := ["wholes", "many"]) ad1 (by rintro vs H Q E ⟨_, _, h, _⟩; rw [h]; rfl) (fun cdv A outer s H vs Q E hr h => ?_)
  obtain ⟨a, ws, rfl, hS, hl, k⟩ := h
  refine ⟨_, (b8 (g7 (i := 1) ad1.nd rfl (Or.inl rfl) (d9 j2 rfl n_len (by decide +kernel) (b0 (pv 0) b6)))
      (b8 (O4 PassesOwn.never (PW.pt (az1 (G7 (pv 1) (fun _ => rfl)) (am2 (j5 X0 (j6 w5 (pv 0) (e8 O7 (pv 1) b9) (fun _ _ => rfl)) b9 (j7 _))))) (d6 (aG9 (i := 1) ad1.nd rfl (Or.inl rfl) b9 aI3)))
      (d6 (i3 (M5 P2 (pv 0) P6 (P5 (pv 1))))))), ?_⟩
  rw [show start ["wholes", "many"] [.ref a] = [some (.ref a), none] from rfl]
  refine j0 (fun σ H1 => σ = [some (.ref a), some (.int ws.length)] ∧ H = H1) (fun N hN => ?_) ?_
  · subst_eqs
    refine ⟨_, .inl hS, hN _ _ ⟨?_, rfl⟩⟩
    rw [List.length_map]
  rintro σ H1 ⟨rfl, rfl⟩
  refine j0 (fun σ H1 => ∃ m : Nat, σ = [some (.ref a), some (.int m)] ∧ H = H1 ∧ B7 ws m) (fun N hN => ?_) ?_
  · refine T9 (fun σ H1 => H = H1 ∧ ∃ m : Nat, σ = [some (.ref a), some (.int m)] ∧ m ≤ ws.length ∧ ∀ i v, m ≤ i → ws[i]? = some v → v = 0) (fun σ _ => match σ with | [_, some (.int y)] => y.toNat | _ => 0) ⟨rfl, ws.length, rfl, Nat.le_refl _, fun i v hi h => by rw [List.getElem?_eq_none hi] at h; cases h⟩ ?_
    rintro σ H1 ⟨rfl, m, rfl, hm, hz⟩
    simp! [aa2]
    refine z8 (fun h0 => ?_) (fun h0 => ?_)
    · have h0' : m ≠ 0 := fun z => by subst z; simp at h0
      have hlt : m - 1 < ws.length := by omega
      have hg : ws[m - 1]? = some ws[m - 1] := List.getElem?_eq_getElem hlt
      have ei : ((m : Int) - 1) = ((m - 1 : Nat) : Int) := by omega
      rw [ei]
      refine ⟨_, hS, .int ws[m - 1], S9 (by rw [List.getElem?_map, hg]; rfl), rfl, z8 (fun hn => ?_) (fun hn => ?_)⟩
      · have hn' : ws[m - 1] = 0 := by simpa using hn
        refine WhB.mk ?_
        subst_eqs
        refine WhN.mk ⟨rfl, m - 1, by rw [ei], by omega, fun i v hi e => ?_⟩ ?_
        · by_cases hi' : i = m - 1
          · subst hi'
            rw [hg] at e
            cases e
            exact hn'
          · exact hz i v (by omega) e
        · show ((m : Int) - 1).toNat < (m : Int).toNat
          omega
      · refine hN _ _ ⟨m, rfl, rfl, hm, hz, fun _ v e => ?_⟩
        rw [hg] at e
        cases e
        intro z
        exact hn (by rw [z])
    · have h0' : m = 0 := by
        by_cases z : m = 0
        · exact z
        · exact absurd (by simp [z]) h0
      exact hN _ _ ⟨m, rfl, rfl, hm, hz, fun h => absurd h0' h⟩
  rintro σ H1 ⟨m, rfl, rfl, t⟩
  subst_eqs
  refine ⟨_, hS, fun p hp => ?_⟩
  rw [ar4 _ (by rw [List.length_map]; exact t.le), ← List.map_take]
  exact k m p t hp
theorem am3 {n k : Nat} (h : k < n) : ixN n (k : Int) = some k := by
  unfold ixN
  rw [if_pos (by omega), if_pos (by omega)]
  simp
theorem aZ6 : (3 : Nat) ≤ sizeLine := by decide
structure WDD (H : Hp) (one other : List Int) (n W1 W2 kst : Nat) (lq lr : Addr) (many : Int) (Qz Rz : List Int) (H3 : Hp) : Prop where
  same : d5 H H3
  fq : H lq = none
  fr : H lr = none
  nqr : lq ≠ lr
  eq : H3 lq = some (.lst (Qz.map V.int))
  er : H3 lr = some (.lst (Rz.map V.int))
  m1 : 1 ≤ many
  mb : many.natAbs < 2 ^ (kst * W2 + 1)
  qb : ∀ v ∈ Qz, Int.natAbs v < 2 ^ (W1 + kst * (W2 + 1))
  rb : ∀ v ∈ Rz, Int.natAbs v < 2 ^ (W1 + kst * (W2 + 1))
  kl : kst + Rz.length ≤ one.length
  ks : kst = 0 ∨ kst + n ≤ one.length
  k0 : kst = 0 → Rz.length = one.length
  rt : B7 Rz Rz.length
  ql : Qz.length = one.length - n
  qz : ∀ i, i + n < Rz.length → aZ Qz i = 0
  qlast : kst ≠ 0 → ∀ v, Qz[Qz.length - 1]? = some v → v ≠ 0
  dv : Dv one other Qz Rz many
  ex : ExZ one other → many = 1
theorem aT2 {K : PySem.W.Frag} {l D : Addr} {ws : List Int} {f : Int} {H1 : Hp} {Q : VK} {m m2 : Nat} (e : H1 l = some (.lst (ws.map V.int))) (hD : H1 D = none) (hl : ws.length ≤ 100) (hf : f.natAbs < 2 ^ m2) (hw : ∀ v ∈ ws, Int.natAbs v < 2 ^ m) (hm : m + m2 ≤ 20000)
    (k : ∀ H2, d5 H1 H2 → H2 D = some (.lst ((ws.map (f * ·)).map V.int)) → Q (.ref D) H2) : ai1 (Itl K l) D [some (.int f), none] (upd H1 D (.lst [])) (p7 1) (tOp (rI IntMulOk fun i j => V.int (i * j)) (Q3 0) (Q3 1)) Q := by
  refine P8 (ws.map V.int) (fun i σ H3 => ∃ o, σ = [some (.int f), o] ∧ d5 H1 H3 ∧ H3 D = some (.lst (((ws.take i).map (f * ·)).map V.int))) ⟨_, rfl, d5.new hD _, b7⟩ (fun i σ H3 _ ⟨_, _, s3, _⟩ => SqL.of (s3 _ _ e)) ?_ ?_
  · rintro i y σ H3 hy ⟨o, rfl, s3, e3⟩
    have hi := (List.getElem?_eq_some_iff.mp hy).1
    obtain ⟨v, hv, rfl⟩ := U4 hy
    subst_eqs
    refine ⟨R1 hf (hw v (List.mem_of_getElem? hv)) (by omega), J1.mk hi e3 ?_ ⟨_, rfl, s3.over hD _, ?_⟩⟩
    · simp only [List.length_map, List.length_take]
      exact Nat.lt_of_le_of_lt (show _ ≤ 100 by omega) (by decide)
    · rw [b7, List.take_succ, hv]
      simp
  · rintro σ H3 ⟨o, rfl, s3, e3⟩
    rw [List.length_map, List.take_length] at e3
    exact k H3 s3 e3
def Z0 (k : Nat) (σ : L2.St) (H : Hp) : Nat := match σ[k]? with
  | some (some (.ref r)) => (match H r with
    | some (.lst xs) => xs.length
    | _ => 0)
  | _ => 0
theorem aE6 {k : Nat} {σ : L2.St} {H : Hp} {r : Addr} {xs : List V} (h : σ[k]? = some (some (.ref r))) (e : H r = some (.lst xs)) : Z0 k σ H = xs.length := by
  unfold Z0; rw [h]; simp only [e]
def bl5 (K : PySem.W.Frag) : Sp := fun vs H Q _ => ∃ (a b : Addr) (one other : List Int) (n S W1 W2 : Nat), vs = [.ref a, .ref b] ∧ SqL K H a (one.map V.int) ∧ SqL K H b (other.map V.int) ∧ one.length ≤ 30 ∧ other.length = n + 1 ∧ n ≤ 30 ∧ aZ other n ≠ 0 ∧ B7 one one.length ∧ one.length ≤ n + S ∧ (∀ v ∈ one, Int.natAbs v < 2 ^ W1) ∧ (∀ v ∈ other, Int.natAbs v < 2 ^ W2) ∧ W1 + S * (W2 + 1) ≤ 5000 ∧ W2 ≤ 5000 ∧
  ∀ r lq lr many Qz Rz H', d5 H H' → H lq = none → H lr = none → lq ≠ lr → H' r = some (.tup [.int many, .ref lq, .ref lr]) → H' lq = some (.lst (Qz.map V.int)) → H' lr = some (.lst (Rz.map V.int)) → 1 ≤ many → many.natAbs < 2 ^ (S * W2 + 1) → (∀ v ∈ Qz, Int.natAbs v < 2 ^ (W1 + S * (W2 + 1))) → (∀ v ∈ Rz, Int.natAbs v < 2 ^ (W1 + S * (W2 + 1))) → Rz.length ≤ n → B7 Rz Rz.length → Qz.length = one.length - n → B7 Qz Qz.length → Dv one other Qz Rz many → Q (.ref r) H'
def bl4 (K : PySem.W.Frag) : Sp := fun vs H Q _ => ∃ (a b : Addr) (one other : List Int) (n S W1 W2 : Nat), vs = [.ref a, .ref b] ∧ SqL K H a (one.map V.int) ∧ SqL K H b (other.map V.int) ∧ one.length ≤ 30 ∧ other.length = n + 1 ∧ n ≤ 30 ∧ aZ other n ≠ 0 ∧ B7 one one.length ∧ one.length ≤ n + S ∧ (∀ v ∈ one, Int.natAbs v < 2 ^ W1) ∧ (∀ v ∈ other, Int.natAbs v < 2 ^ W2) ∧ W1 + S * (W2 + 1) ≤ 5000 ∧ W2 ≤ 5000 ∧
  ∀ r lq lr many Qz Rz H', d5 H H' → H lq = none → H lr = none → lq ≠ lr → H' r = some (.tup [.int many, .ref lq, .ref lr]) → H' lq = some (.lst (Qz.map V.int)) → H' lr = some (.lst (Rz.map V.int)) → 1 ≤ many → many.natAbs < 2 ^ (S * W2 + 1) → (∀ v ∈ Qz, Int.natAbs v < 2 ^ (W1 + S * (W2 + 1))) → (∀ v ∈ Rz, Int.natAbs v < 2 ^ (W1 + S * (W2 + 1))) → Rz.length ≤ n → B7 Rz Rz.length → Qz.length = one.length - n → B7 Qz Qz.length → Dv one other Qz Rz many → (ExZ one other → many = 1) → Q (.ref r) H'
abbrev t8 : Stmt := top 36
theorem i7 : i5 ["one", "other", "lead", "many", "quotient", "rest", "part", "place", "factor", "further", "whole"] ["one", "other"] (d3 t8) := by clean_wf
set_option maxHeartbeats 0 in
theorem ah2 {f f1 : Addr} (d : Df K mg "whole_divided" t8 ["one", "other"] f) (G_trimmed : Def P w K mg base CX0 1 "trimmed" f1 ["wholes"] (ay2 K)) (n_len : mg "len" = none) (n_max : mg "max" = none) (n_list : mg "list" = none) (n_abs : mg "abs" = none) (n_enumerate : mg "enumerate" = none) : Def P w K mg base CX0 2 "whole_divided" f ["one", "other"] (bl4 K) := by
  refine d.ok (N := ["one", "other", "lead", "many", "quotient", "rest", "part", "place", "factor", "further", "whole"]) i7 (by rintro vs H Q E ⟨_, _, _, _, _, _, _, _, h, _⟩; rw [h]; rfl) (fun cdv A outer s H vs Q E hr h => ?_)
  obtain ⟨a, b, one, other, n, S, W1, W2, rfl, hS, hS', hl1, hl2, hn, h0, ht1, hS1, hw1, hw2, hT, hT2, k⟩ := h
  refine ⟨_, (b8 (g7 (i := 2) i7.nd rfl (Or.inl rfl) (j6 w5 (pv 1) (X9 P9 b9) (fun _ _ => rfl)))
      (b8 (g7 (i := 3) i7.nd rfl (Or.inl rfl) b9)
      (b8 (g7 (i := 4) i7.nd rfl (Or.inl rfl) (e8 aH2 (u0 (b0 b9 b6)) (d9 (aj5 rfl) rfl n_max (by decide +kernel) (b0 b9 (b0 (e8 C3 (e8 O7 (d9 j2 rfl n_len (by decide +kernel) (b0 (pv 0) b6)) (d9 j2 rfl n_len (by decide +kernel) (b0 (pv 1) b6))) b9) b6)))))
      (b8 (g7 (i := 5) i7.nd rfl (Or.inl rfl) (N2 K0 rfl n_list (by decide +kernel) (b0 (pv 0) b6)))
      (b8 (O4 PassesOwn.never (j5 bf6 (d9 j2 rfl n_len (by decide +kernel) (b0 (pv 5) b6)) (d9 j2 rfl n_len (by decide +kernel) (b0 (pv 1) b6)) (j7 _)) (b8 (g7 (i := 6) i7.nd rfl (Or.inl rfl) (j6 w5 (pv 5) (X9 P9 b9) (fun _ _ => rfl)))
      (b8 (g7 (i := 7) i7.nd rfl (Or.inl rfl) (e8 O7 (d9 j2 rfl n_len (by decide +kernel) (b0 (pv 5) b6)) (d9 j2 rfl n_len (by decide +kernel) (b0 (pv 1) b6))))
      (b8 (C2 (j5 X0 (e8 J2 (pv 6) (pv 2)) b9 (j7 _)) (d6 (g7 (i := 6) i7.nd rfl (Or.inl rfl) (e8 B8 (pv 6) (pv 2)))) (b8 (g7 (i := 8) i7.nd rfl (Or.inr rfl) (d9 U8 rfl n_abs (by decide +kernel) (b0 (pv 2) b6)))
      (b8 (g7 (i := 6) i7.nd rfl (Or.inl rfl) (U2 (j5 ap2 (pv 2) b9 (j7 _)) (pv 6) (X9 P9 (pv 6))))
      (b8 (aG9 (i := 3) i7.nd rfl (Or.inl rfl) (pv 8) bj3)
      (b8 (V7 (i₀ := 4) i7.nd rfl (Or.inl rfl) (Nc := ["factor", "whole"]) (caps := [some 8, none]) rfl (W8.of (osc := d3 t8) (N := ["one", "other", "lead", "many", "quotient", "rest", "part", "place", "factor", "further", "whole"]) (ks := ["factor"]) rfl rfl rfl rfl (G0 rfl F8) (by decide +kernel)) (E8 (pv 4)) (fun C s₂ H₂ fp pins => (g6 (i := 1) (show List.Nodup (["factor", "whole"] : List Str) by decide +kernel) rfl (Or.inl rfl) (Or.inr rfl))) (fun C s₂ H₂ fp pins => (e8 y9 (pv 0) (pv 1))))
      (d6 (V7 (i₀ := 5) i7.nd rfl (Or.inl rfl) (Nc := ["factor", "whole"]) (caps := [some 8, none]) rfl (W8.of (osc := d3 t8) (N := ["one", "other", "lead", "many", "quotient", "rest", "part", "place", "factor", "further", "whole"]) (ks := ["factor"]) rfl rfl rfl rfl (G0 rfl F8) (by decide +kernel)) (E8 (pv 5)) (fun C s₂ H₂ fp pins => (g6 (i := 1) (show List.Nodup (["factor", "whole"] : List Str) by decide +kernel) rfl (Or.inl rfl) (Or.inr rfl))) (fun C s₂ H₂ fp pins => (e8 y9 (pv 0) (pv 1))))))))))
      (b8 (G8 (pv 6) (ai6 (pv 4) (pv 7) Q5))
      (b8 (N1 PassesOwn.never rfl (ab3 rfl n_enumerate (b0 (pv 1) b6)) (show PG _ _ (O5 K 2 (t5 (p7 9) (t5 (p7 10) O6))) from by (refine D8 (n := 2) ?_ ?_ ?_ ?_; rfl; (refine i4 ?_ ?_ ?_; (exact (g6 (i := 9) i7.nd rfl (Or.inl rfl))); (refine i4 ?_ ?_ ?_; (exact (g6 (i := 10) i7.nd rfl (Or.inl rfl))); (exact B3); rfl); rfl); rfl; rfl)) (d6 (ba3 (pv 5) (e8 C3 (pv 7) (pv 9)) aX0 (e8 y9 (pv 6) (pv 10)) aI3 Q5)))
      (d6 (g7 (i := 5) i7.nd rfl (Or.inl rfl) (d7 G_trimmed hr (b0 (pv 5) b6) g8)))))))))
      (d6 (i3 (v7 (b0 (pv 3) (b0 (pv 4) (b0 (pv 5) b6))))))))))), ?_⟩
  rw [show start ["one", "other", "lead", "many", "quotient", "rest", "part", "place", "factor", "further", "whole"] [.ref a, .ref b] = [some (.ref a), some (.ref b), none, none, none, none, none, none, none, none, none] from rfl]
  obtain ⟨lead, hlead⟩ : ∃ z, z = aZ other n := ⟨_, rfl⟩
  have hg : other[n]? = some lead := by rw [hlead]; unfold aZ; rw [List.getElem?_eq_getElem (by omega)]; rfl
  have l0 : lead ≠ 0 := by rw [hlead]; exact h0
  have lb : lead.natAbs < 2 ^ W2 := hw2 _ (List.mem_of_getElem? hg)
  refine j0 (fun σ H1 => σ = [some (.ref a), some (.ref b), some (.int lead), none, none, none, none, none, none, none, none] ∧ H = H1) (fun N hN => ?_) ?_
  · subst_eqs
    refine ⟨_, hS', _, aI1 (x := .int lead) (by rw [List.length_map, hl2, List.getElem?_map, Nat.add_sub_cancel, hg]; rfl), hN _ _ ⟨rfl, rfl⟩⟩
  rintro σ H1 ⟨rfl, rfl⟩
  refine j0 (fun σ H1 => σ = [some (.ref a), some (.ref b), some (.int lead), some (.int 1), none, none, none, none, none, none, none] ∧ H = H1) (fun N hN => ?_) ?_
  · subst_eqs
    exact hN _ _ ⟨rfl, rfl⟩
  rintro σ H1 ⟨rfl, rfl⟩
  refine j0 (fun σ H1 => ∃ lq, σ = [some (.ref a), some (.ref b), some (.int lead), some (.int 1), some (.ref lq), none, none, none, none, none, none] ∧ d5 H H1 ∧ H lq = none ∧ H1 lq = some (.lst ((List.replicate (one.length - n) (0 : Int)).map V.int))) (fun N hN => ?_) ?_
  · subst_eqs
    refine ⟨by decide, fun p hp => ?_⟩
    have Sp := d5.new hp (.lst [.int 0])
    have ez : (if (((one.map V.int).length : Nat) : Int) - (((other.map V.int).length : Nat) : Int) + 1 > 0 then (((one.map V.int).length : Nat) : Int) - (((other.map V.int).length : Nat) : Int) + 1 else 0) = ((one.length - n : Nat) : Int) := by
      rw [List.length_map, List.length_map, hl2]
      split <;> omega
    refine ⟨_, .inl (Sp.seq hS), _, .inl (Sp.seq hS'), _, b7, ?_⟩
    rw [ez]
    refine ⟨by omega, by omega, ?_, fun p1 hp1 => hN _ _ ⟨p1, rfl, Sp.trans (d5.new hp1 _), Sp.free hp1, ?_⟩⟩
    · have : (([V.int 0] : List V).length * ((one.length - n : Nat) : Int).toNat) ≤ 100 := by simp; omega
      exact Nat.le_trans this (by decide)
    · rw [b7, Int.toNat_natCast, List.flatten_replicate_singleton, List.map_replicate]
  rintro σ H1 ⟨lq, rfl, s1, fq, eq⟩
  refine j0 (fun σ H2 => ∃ lr, σ = [some (.ref a), some (.ref b), some (.int lead), some (.int 1), some (.ref lq), some (.ref lr), none, none, none, none, none] ∧ d5 H1 H2 ∧ H1 lr = none ∧ H2 lr = some (.lst (one.map V.int))) (fun N hN => ?_) ?_
  · subst_eqs
    refine ⟨_, .inl (s1.seq hS), fun l hl => hN _ _ ⟨l, rfl, d5.new hl _, hl, b7⟩⟩
  rintro σ H2 ⟨lr, rfl, s2, fr, er⟩
  refine j0 (fun σ H3 => ∃ lq lr many Qz Rz o6 o7 o8 o9 o10, σ = [some (.ref a), some (.ref b), some (.int lead), some (.int many), some (.ref lq), some (.ref lr), o6, o7, o8, o9, o10] ∧ d5 H H3 ∧ H lq = none ∧ H lr = none ∧ lq ≠ lr ∧ H3 lq = some (.lst (Qz.map V.int)) ∧ H3 lr = some (.lst (Rz.map V.int)) ∧ 1 ≤ many ∧ many.natAbs < 2 ^ (S * W2 + 1) ∧ (∀ v ∈ Qz, Int.natAbs v < 2 ^ (W1 + S * (W2 + 1))) ∧ (∀ v ∈ Rz, Int.natAbs v < 2 ^ (W1 + S * (W2 + 1))) ∧ Rz.length ≤ n ∧ B7 Rz Rz.length ∧ Qz.length = one.length - n ∧ B7 Qz Qz.length ∧ Dv one other Qz Rz many ∧ (ExZ one other → many = 1)) (fun N hN => ?_) ?_
  · have w2p : 1 ≤ W2 := by
      rcases Nat.eq_zero_or_pos W2 with z | z
      · rw [z] at lb; omega
      · exact z
    refine T9 (fun σ H3 => ∃ kst lq lr many Qz Rz o6 o7 o8 o9 o10, σ = [some (.ref a), some (.ref b), some (.int lead), some (.int many), some (.ref lq), some (.ref lr), o6, o7, o8, o9, o10] ∧ WDD H one other n W1 W2 kst lq lr many Qz Rz H3) (Z0 5) ⟨0, lq, lr, 1, _, one, _, _, _, _, _, rfl, ⟨s1.trans s2, fq, s1.free fr, d8 eq fr, s2 _ _ eq, er, by decide, by simp, fun v hv => ?_, fun v hv => ?_, by omega, .inl rfl, fun _ => rfl, ht1, by rw [List.length_replicate], fun i _ => ?_, fun z => absurd rfl z, fun k => ?_, fun _ => rfl⟩⟩ ?_
    · rw [(List.mem_replicate.mp hv).2]; exact Nat.two_pow_pos _
    · have := hw1 v hv
      simpa using this
    · unfold aZ
      rw [List.getElem?_replicate]
      split <;> rfl
    · have : cv (zc (List.replicate (one.length - n) (0 : Int))) (zc other) k = 0 := K5 _ fun i _ => by
        have : zc (List.replicate (one.length - n) (0 : Int)) i = 0 := by
          unfold zc aZ
          rw [List.getElem?_replicate]
          split <;> rfl
        rw [this]; grind
      rw [this]
      show (1 : Rat) * _ = _
      grind
    clear eq er fq fr s1 s2 lq lr
    rintro σ H3 ⟨kst, lq, lr, many, Qz, Rz, o6, o7, o8, o9, o10, rfl, D⟩
    have hSb := D.same.seq hS'
    simp only [am7, tOp, tCB, U0, am9, Q3, rI0]
    refine ⟨_, rfl, lr, _, rfl, .inl (SqL.of D.er), _, rfl, b, _, rfl, .inl hSb, _, _, rfl, rfl, _, rfl, ?_⟩
    rw [List.length_map, List.length_map, hl2]
    refine z8 (fun hge => WhB.mk ?_) (fun hlt => ?_)
    · have hge' : n + 1 ≤ Rz.length := by
        have : ((n + 1 : Nat) : Int) ≤ (Rz.length : Int) := by simpa using hge
        omega
      obtain ⟨t, ht⟩ : ∃ t, Rz.length = n + 1 + t := ⟨Rz.length - (n + 1), by omega⟩
      have htq : t < Qz.length := by rw [D.ql]; have := D.kl; omega
      obtain ⟨y, hy⟩ : ∃ y, Rz[Rz.length - 1]? = some y := ⟨_, List.getElem?_eq_getElem (by omega)⟩
      have y0 : y ≠ 0 := D.rt.last (by omega) y hy
      have yb := D.rb y (List.mem_of_getElem? hy)
      refine j0 (fun σ H4 => σ = [some (.ref a), some (.ref b), some (.int lead), some (.int many), some (.ref lq), some (.ref lr), some (.int y), o7, o8, o9, o10] ∧ H3 = H4) (fun N hN => ?_) ?_
      · subst_eqs
        exact ⟨_, SqL.of D.er, _, aI1 (x := .int y) (by rw [List.length_map, List.getElem?_map, hy]; rfl), hN _ _ ⟨rfl, rfl⟩⟩
      rintro σ H4 ⟨rfl, rfl⟩
      refine j0 (fun σ H4 => σ = [some (.ref a), some (.ref b), some (.int lead), some (.int many), some (.ref lq), some (.ref lr), some (.int y), some (.int (t : Int)), o8, o9, o10] ∧ H3 = H4) (fun N hN => ?_) ?_
      · subst_eqs
        refine ⟨_, .inl (SqL.of D.er), _, .inl hSb, hN _ _ ⟨?_, rfl⟩⟩
        rw [List.length_map, List.length_map, hl2, ht, show (((n + 1 + t : Nat) : Int) - ((n + 1 : Nat) : Int)) = (t : Int) by omega]
      rintro σ H4 ⟨rfl, rfl⟩
      refine j0 (fun σ H4 => ∃ lq1 lr1 c d o8, σ = [some (.ref a), some (.ref b), some (.int lead), some (.int (many * c)), some (.ref lq1), some (.ref lr1), some (.int d), some (.int (t : Int)), o8, o9, o10] ∧ d5 H3 H4 ∧ H lq1 = none ∧ H lr1 = none ∧ lq1 ≠ lr1 ∧ H4 lq1 = some (.lst ((Qz.map (c * ·)).map V.int)) ∧ H4 lr1 = some (.lst ((Rz.map (c * ·)).map V.int)) ∧ c * y = d * lead ∧ 1 ≤ c ∧ c.natAbs < 2 ^ W2 ∧ d.natAbs ≤ y.natAbs ∧ d ≠ 0 ∧ (lead ∣ y → c = 1)) (fun N hN => ?_) ?_
      · subst_eqs
        have hks : kst ≤ S := by rcases D.ks with z | z <;> omega
        have hkm := Nat.mul_le_mul_right (W2 + 1) hks
        have hkm2 : kst * W2 ≤ kst * (W2 + 1) := Nat.mul_le_mul_left _ (by omega)
        have one2 : (1 : Nat) < 2 ^ W2 := Nat.lt_of_lt_of_le (show 1 < 2 ^ 1 by decide) (d4 w2p)
        refine ⟨l0, rfl, z8 (fun hd => ?_) (fun hd => ?_)⟩
        · refine ⟨P1 l0 (M0 lb (by omega)), hN _ _ ⟨lq, lr, 1, y.fdiv lead, o8, by rw [Int.mul_one], d5.refl _, D.fq, D.fr, D.nqr, ?_, ?_, ?_, by decide, one2, ?_, ?_, fun _ => rfl⟩⟩
          · have : Qz.map ((1 : Int) * ·) = Qz := by conv => rhs; rw [← List.map_id Qz]
                                                     exact List.map_congr_left fun v _ => Int.one_mul v
            rw [this]; exact D.eq
          · have : Rz.map ((1 : Int) * ·) = Rz := by conv => rhs; rw [← List.map_id Rz]
                                                     exact List.map_congr_left fun v _ => Int.one_mul v
            rw [this]; exact D.er
          · have := Int.fmod_add_mul_fdiv y lead
            rw [hd] at this
            rw [Int.one_mul, Int.mul_comm]; omega
          · have := Int.fmod_add_mul_fdiv y lead
            rw [hd, Int.zero_add] at this
            conv => rhs; rw [← this]
            rw [Int.natAbs_mul]
            exact Nat.le_mul_of_pos_left _ (by omega)
          · intro z
            have := Int.fmod_add_mul_fdiv y lead
            rw [hd, z] at this
            simp at this
            exact y0 this.symm
        · have hnd : ¬ lead ∣ y := fun z => hd (by simpa using Int.fmod_eq_zero_of_dvd z)
          have fin : ∀ d : Int, (if lead < 0 then -lead else lead) * y = d * lead → d.natAbs = y.natAbs → IntMulOk many (if lead < 0 then -lead else lead) ∧ (∃ xs, SqL K H3 lq xs) ∧ ∀ (D : Addr), H3 D = none → ai1 (Itl K lq) D [some (V.int (if lead < 0 then -lead else lead)), none] (upd H3 D (HO.lst [])) (p7 1) (tOp (rI IntMulOk fun i j => V.int (i * j)) (Q3 0) (Q3 1)) fun x H1 => (∃ xs, SqL K H1 lr xs) ∧ ∀ (D : Addr), H1 D = none → ai1 (Itl K lr) D [some (V.int (if lead < 0 then -lead else lead)), none] (upd H1 D (HO.lst [])) (p7 1) (tOp (rI IntMulOk fun i j => V.int (i * j)) (Q3 0) (Q3 1)) fun x_1 H1 => N [some (V.ref a), some (V.ref b), some (V.int lead), some (V.int (many * if lead < 0 then -lead else lead)), some x, some x_1, some (V.int d), some (V.int ↑t), some (V.int (if lead < 0 then -lead else lead)), o9, o10] H1 := fun d hd1 hd2 => by
            have ab : ((if lead < 0 then -lead else lead) : Int).natAbs = lead.natAbs := by split <;> omega
            have ab1 : (1 : Int) ≤ (if lead < 0 then -lead else lead) := by split <;> omega
            generalize (if lead < 0 then -lead else lead) = c at ab ab1 hd1 ⊢
            have cb : c.natAbs < 2 ^ W2 := by omega
            have hml := D.kl
            refine ⟨R1 D.mb cb (by omega), ⟨_, SqL.of D.eq⟩, fun D1 hD1 => aT2 D.eq hD1 (by rw [D.ql]; omega) cb D.qb (by omega) fun H4 s4 e4 => ?_⟩
            refine ⟨⟨_, SqL.of (s4 _ _ D.er)⟩, fun D2 hD2 => aT2 (s4 _ _ D.er) hD2 (by omega) cb D.rb (by omega) fun H5 s5 e5 => ?_⟩
            exact hN _ _ ⟨D1, D2, c, d, _, rfl, s4.trans s5, D.same.free hD1, D.same.free (s4.free hD2), d8 e4 hD2, s5 _ _ e4, e5, hd1, ab1, cb, by omega, fun z => y0 (by omega), fun z => absurd z hnd⟩
          refine z8 (fun hp => fin y ?_ rfl) (fun hp => fin (-y) ?_ (by omega))
          · rw [if_neg (by omega)]; exact Int.mul_comm _ _
          · rw [if_pos (by omega), Int.neg_mul, Int.neg_mul, Int.mul_comm]
      rintro σ H4 ⟨lq1, lr1, c, d, o8, rfl, s4, fq1, fr1, nqr1, eq1, er1, hcd, c1, cb, db, d0, cl1⟩
      refine j0 (fun σ H5 => σ = [some (.ref a), some (.ref b), some (.int lead), some (.int (many * c)), some (.ref lq1), some (.ref lr1), some (.int d), some (.int (t : Int)), o8, o9, o10] ∧ d5 H H5 ∧ H5 lq1 = some (.lst (((Qz.map (c * ·)).set t d).map V.int)) ∧ H5 lr1 = some (.lst ((Rz.map (c * ·)).map V.int))) (fun N hN => ?_) ?_
      · subst_eqs
        refine ⟨_, eq1, t, am3 (by rw [List.length_map, List.length_map]; exact htq), hN _ _ ⟨rfl, (D.same.trans s4).over fq1 _, ?_, ?_⟩⟩
        · rw [b7, List.map_set]
        · rw [e9 nqr1.symm]; exact er1
      rintro σ H5 ⟨rfl, s5, eq5, er5⟩
      refine j0 (fun σ H6 => ∃ o9 o10, σ = [some (.ref a), some (.ref b), some (.int lead), some (.int (many * c)), some (.ref lq1), some (.ref lr1), some (.int d), some (.int (t : Int)), o8, o9, o10] ∧ d5 H H6 ∧ H6 lq1 = some (.lst (((Qz.map (c * ·)).set t d).map V.int)) ∧ H6 lr1 = some (.lst ((B6 0 (Rz.map (c * ·)) t (-d) other other.length).map V.int))) (fun N hN => ?_) ?_
      · refine ⟨_, rfl, b, rfl, ⟨_, s5.seq hS'⟩, aq2 (other.map V.int) (fun j σ H6 => ∃ o9 o10, σ = [some (.ref a), some (.ref b), some (.int lead), some (.int (many * c)), some (.ref lq1), some (.ref lr1), some (.int d), some (.int (t : Int)), o8, o9, o10] ∧ d5 H H6 ∧ H6 lq1 = some (.lst (((Qz.map (c * ·)).set t d).map V.int)) ∧ H6 lr1 = some (.lst ((B6 0 (Rz.map (c * ·)) t (-d) other j).map V.int))) ⟨_, _, rfl, s5, eq5, er5⟩ (by rintro j σ H6 ⟨_, _, _, s6, _⟩; exact s6.seq hS') ?_ (by rintro σ H6 ⟨o9, o10, rfl, s6, eq6, er6⟩; rw [List.length_map] at er6; exact hN _ _ ⟨o9, o10, rfl, s6, eq6, er6⟩)⟩
        rintro j x σ H6 p hx ⟨o9, o10, rfl, s6, eq6, er6⟩ hp
        obtain ⟨v, hv, rfl⟩ := U4 hx
        have hj := (List.getElem?_eq_some_iff.mp hv).1
        have Sp := d5.new hp (.tup [.int j, .int v])
        have er7 := Sp _ _ er6
        have il : (B6 0 (Rz.map (c * ·)) t (-d) other j).length = Rz.length := by rw [U5, List.length_map]
        have hk : t + j < (B6 0 (Rz.map (c * ·)) t (-d) other j).length := by omega
        have hgk := List.getElem?_eq_getElem hk
        generalize hz : (B6 0 (Rz.map (c * ·)) t (-d) other j)[t + j] = z at hgk
        have ej : (t : Int) + (j : Int) = ((t + j : Nat) : Int) := by omega
        have dbw : d.natAbs < 2 ^ (W1 + kst * (W2 + 1)) := by omega
        have hks : kst ≤ S := by rcases D.ks with z | z <;> omega
        have hkm := Nat.mul_le_mul_right (W2 + 1) hks
        subst_eqs
        refine ⟨_, SqT.of b7, rfl, _, _, rfl, _, _, rfl, rfl, _, rfl, _, SqL.of er7, .int z, by rw [ej]; exact S9 (by rw [List.getElem?_map, hgk]; rfl), v, rfl, R1 dbw (hw2 v (List.mem_of_getElem? hv)) (by omega), z, rfl, _, er7, t + j, by rw [ej]; exact am3 (by rw [List.length_map]; exact hk), (s6.trans Sp).over fr1 _, ?_, ?_⟩
        · rw [e9 nqr1]; exact Sp _ _ eq6
        · rw [b7, B6, hv, Option.getD_some, ← aj6 _ _ _ _ hgk, List.map_set, Int.neg_mul]
          rfl
      rintro σ H6 ⟨o9, o10, rfl, s6, eq6, er6⟩
      subst_eqs
      obtain ⟨R2, hR2⟩ : ∃ R2, R2 = B6 0 (Rz.map (c * ·)) t (-d) other other.length := ⟨_, rfl⟩
      rw [← hR2] at er6
      have l2 : R2.length = Rz.length := by rw [hR2, U5, List.length_map]
      have hRk : ∀ k, aZ R2 k = c * aZ Rz k - if t ≤ k then d * aZ other (k - t) else 0 := fun k => by
        by_cases hk : k < Rz.length
        · have hy1 : (Rz.map (c * ·))[k]? = some (c * aZ Rz k) := by
            rw [List.getElem?_map]; unfold aZ
            rw [List.getElem?_eq_getElem hk]; rfl
          have := aq0 (Rz.map (c * ·)) t (-d) other _ hy1 other.length
          rw [← hR2] at this
          conv => lhs; unfold aZ
          rw [this, Option.getD_some]
          by_cases h1 : t ≤ k
          · rw [if_pos ⟨h1, by omega⟩, if_pos h1, Int.neg_mul]; rfl
          · rw [if_neg (fun z => h1 z.1), if_neg h1]; omega
        · have e1 : aZ R2 k = 0 := by unfold aZ; rw [List.getElem?_eq_none (by omega)]; rfl
          have e2 : aZ Rz k = 0 := by unfold aZ; rw [List.getElem?_eq_none (by omega)]; rfl
          have e3 : aZ other (k - t) = 0 := by unfold aZ; rw [List.getElem?_eq_none (by omega)]; rfl
          rw [e1, e2, e3]; simp
      have last0 : aZ R2 (Rz.length - 1) = 0 := by
        rw [hRk, if_pos (by omega), show Rz.length - 1 - t = n by omega, ← hlead]
        have : aZ Rz (Rz.length - 1) = y := by unfold aZ; rw [hy]; rfl
        rw [this, hcd]; omega
      have hkl := D.kl
      refine ⟨lr1, R2, rfl, SqL.of er6, by omega, fun m r tm hr' => ?_⟩
      have hmlt : m < Rz.length := by
        rcases Nat.lt_or_ge m Rz.length with z | z
        · exact z
        · have hm := tm.le
          have hm' : m = Rz.length := by omega
          have hg2 : R2[m - 1]? = some R2[m - 1] := List.getElem?_eq_getElem (by omega)
          refine absurd ?_ (tm.last (by omega) _ hg2)
          unfold aZ at last0
          rw [← hm', hg2] at last0
          exact last0
      have bits : ∀ v ∈ R2, Int.natAbs v < 2 ^ (W1 + (kst + 1) * (W2 + 1)) := fun v hv => by
        obtain ⟨k, hk⟩ := List.mem_iff_getElem?.mp hv
        have ev : v = aZ R2 k := by unfold aZ; rw [hk]; rfl
        rw [ev, hRk]
        have b1 : (c * aZ Rz k).natAbs < 2 ^ (W1 + kst * (W2 + 1) + W2) := by
          rw [Int.natAbs_mul, Nat.mul_comm, Nat.pow_add]
          exact Nat.mul_lt_mul'' (aM0 D.rb k) cb
        have b2 : (if t ≤ k then d * aZ other (k - t) else 0).natAbs < 2 ^ (W1 + kst * (W2 + 1) + W2) := by
          split
          · rw [Int.natAbs_mul, Nat.pow_add]
            exact Nat.mul_lt_mul'' (by omega) (aM0 hw2 _)
          · exact Nat.two_pow_pos _
        have e : W1 + (kst + 1) * (W2 + 1) = W1 + kst * (W2 + 1) + W2 + 1 := by rw [Nat.succ_mul]; omega
        rw [e, Nat.pow_succ]
        omega
      have Sr := d5.new hr' (.lst ((R2.take m).map V.int))
      have tml : (R2.take m).length = m := by rw [List.length_take]; have := tm.le; omega
      have bq : ∀ v ∈ (Qz.map (c * ·)).set t d, Int.natAbs v < 2 ^ (W1 + (kst + 1) * (W2 + 1)) := fun v hv => by
        have e : W1 + (kst + 1) * (W2 + 1) = W1 + kst * (W2 + 1) + (W2 + 1) := by rw [Nat.succ_mul]; omega
        rcases List.mem_or_eq_of_mem_set hv with h | h
        · obtain ⟨u, hu, rfl⟩ := List.mem_map.mp h
          rw [Int.natAbs_mul, Nat.mul_comm, e, Nat.pow_add]
          exact Nat.mul_lt_mul'' (D.qb u hu) (M0 cb (by omega))
        · rw [h]
          exact Nat.lt_of_le_of_lt db (M0 yb (by omega))
      refine WhN.mk ⟨kst + 1, lq1, r, many * c, _, R2.take m, _, _, _, _, _, rfl, ⟨s6.trans Sr, fq1, s6.free hr', d8 eq6 hr', Sr _ _ eq6, b7, ?_, ?_, bq, fun v hv => bits v (List.mem_of_mem_take hv), by omega, .inr (by omega), fun z => absurd z (by omega), tm.self, by rw [List.length_set, List.length_map]; exact D.ql, fun i hi => ?_, fun _ v hv => ?_, ?_, fun hx => ?_⟩⟩ ?_
      · exact Int.le_trans (show (1 : Int) ≤ 1 * 1 by decide) (Int.mul_le_mul D.m1 c1 (by decide) (by have := D.m1; omega))
      · rw [Int.natAbs_mul, show (kst + 1) * W2 + 1 = (kst * W2 + 1) + W2 by rw [Nat.succ_mul]; omega, Nat.pow_add]
        exact Nat.mul_lt_mul'' D.mb cb
      · rw [tml] at hi
        unfold aZ
        rw [List.getElem?_set, if_neg (by omega), List.getElem?_map]
        have := D.qz i (by omega)
        unfold aZ at this
        cases g : Qz[i]? with
        | none => rfl
        | some u =>
          rw [g] at this
          simp only [Option.getD_some] at this
          simp [this]
      · rw [List.length_set, List.length_map, List.getElem?_set] at hv
        by_cases z : t = Qz.length - 1
        · rw [if_pos z, if_pos (by rw [List.length_map]; omega)] at hv
          cases hv; exact d0
        · rw [if_neg z, List.getElem?_map] at hv
          have hk0 : kst ≠ 0 := fun w => by
            have := D.k0 w
            have := D.ql
            omega
          cases g : Qz[Qz.length - 1]? with
          | none => rw [g] at hv; cases hv
          | some u =>
            rw [g] at hv
            cases hv
            exact Int.mul_ne_zero (by omega) (D.qlast hk0 u g)
      · refine bc6 D.dv htq (D.qz t (by omega)) fun k => ?_
        rw [bd8 tm]; exact hRk k
      · have mm := D.ex hx
        have dv1 := D.dv
        rw [mm] at dv1
        have ey : y = aZ Rz (t + n) := by
          unfold aZ
          rw [show t + n = Rz.length - 1 by omega, hy]; rfl
        have cc := cl1 (by rw [hlead, ey]; exact aW3 hx dv1 hl2 h0 ht)
        rw [mm, cc]; rfl
      · rw [aE6 (r := r) rfl b7, aE6 (r := lr) rfl D.er, List.length_map, List.length_map, tml]
        exact hmlt
    · have hlt' : Rz.length ≤ n := by
        have : ¬ ((n + 1 : Nat) : Int) ≤ (Rz.length : Int) := by simpa using hlt
        omega
      have hkS : kst ≤ S := by rcases D.ks with z | z <;> omega
      refine hN _ _ ⟨lq, lr, many, Qz, Rz, o6, o7, o8, o9, o10, rfl, D.same, D.fq, D.fr, D.nqr, D.eq, D.er, D.m1, Nat.lt_of_lt_of_le D.mb (d4 (by have := Nat.mul_le_mul_right W2 hkS; omega)), fun v hv => Nat.lt_of_lt_of_le (D.qb v hv) (d4 (by have := Nat.mul_le_mul_right (W2 + 1) hkS; omega)), fun v hv => Nat.lt_of_lt_of_le (D.rb v hv) (d4 (by have := Nat.mul_le_mul_right (W2 + 1) hkS; omega)), hlt', D.rt, D.ql, ?_, D.dv, D.ex⟩
      refine ⟨Nat.le_refl _, (fun i v hi h => by rw [List.getElem?_eq_none hi] at h; cases h), fun hq v hv => ?_⟩
      by_cases z : kst = 0
      · have := D.k0 z
        rw [D.ql] at hq; omega
      · exact D.qlast z v hv
  rintro σ H3 ⟨lq, lr, many, Qz, Rz, o6, o7, o8, o9, o10, rfl, s3, fq, fr, nqr, eq, er, m1, mb, qb, rb, rl, rt, ql, qt, dv, ex⟩
  subst_eqs
  refine ⟨aZ6, fun p hp => ?_⟩
  have Sp := d5.new hp (.tup [.int many, .ref lq, .ref lr])
  exact k p lq lr many Qz Rz _ (s3.trans Sp) fq fr nqr b7 (Sp _ _ eq) (Sp _ _ er) m1 mb qb rb rl rt ql qt dv ex
theorem aj0 {f f1 : Addr} (d : Df K mg "whole_divided" t8 ["one", "other"] f) (G_trimmed : Def P w K mg base CX0 1 "trimmed" f1 ["wholes"] (ay2 K)) (n_len : mg "len" = none) (n_max : mg "max" = none) (n_list : mg "list" = none) (n_abs : mg "abs" = none) (n_enumerate : mg "enumerate" = none) : Def P w K mg base CX0 2 "whole_divided" f ["one", "other"] (bl5 K) :=
  (ah2 d G_trimmed n_len n_max n_list n_abs n_enumerate).imp (by
    rintro vs H Q E ⟨a, b, one, other, n, S, W1, W2, h1, h2, h3, h4, h5, h6, h7, h8, h9, h10, h11, h12, h13, k⟩
    exact ⟨a, b, one, other, n, S, W1, W2, h1, h2, h3, h4, h5, h6, h7, h8, h9, h10, h11, h12, h13, fun r lq lr many Qz Rz H' x1 x2 x3 x4 x5 x6 x7 x8 x9 x10 x11 x12 x13 x14 x15 x16 _ => k r lq lr many Qz Rz H' x1 x2 x3 x4 x5 x6 x7 x8 x9 x10 x11 x12 x13 x14 x15 x16⟩)
end
theorem bm3 {q : Rat} {n : Nat} (h : q ≠ 0) (b : BdN n q) : BdN n q⁻¹ := by
  obtain ⟨e1, e2⟩ := aj2 q (fun z => h (Q8.mp z))
  constructor
  · rw [e1]
    split
    · rw [Int.natAbs_neg, Int.natAbs_natCast]; exact b.d
    · rw [Int.natAbs_natCast]; exact b.d
  · have : (q⁻¹).den = q.num.natAbs := by split at e2 <;> omega
    rw [this]; exact b.n
theorem aW7 {v : Int} {n : Nat} (h : v.natAbs < 2 ^ n) (hn : 1 ≤ n) : BdN n ((v : Int) : Rat) := ⟨by rw [Rat.num_intCast]; exact h, by rw [Rat.den_intCast]; exact Nat.lt_of_lt_of_le (show 1 < 2 ^ 1 by decide) (d4 hn)⟩
theorem bi0 {n : Nat} (hn : 1 ≤ n) : BdN n (1 : Rat) := ⟨Nat.lt_of_lt_of_le (show 1 < 2 ^ 1 by decide) (d4 hn), Nat.lt_of_lt_of_le (show 1 < 2 ^ 1 by decide) (d4 hn)⟩
theorem bk9 {ws : List Int} (t : B7 ws ws.length) (h : ws ≠ []) : ∃ v ∈ ws, v ≠ 0 := by
  have hp : 0 < ws.length := List.length_pos_iff.mpr h
  have hg := List.getElem?_eq_getElem (l := ws) (show ws.length - 1 < ws.length by omega)
  exact ⟨_, List.mem_of_getElem? hg, t.last (by omega) _ hg⟩
section
variable {P : Program} {w : World} {K : PySem.W.Frag} {mg : Str → Option Value} {base : Heap}
def au7 (K : PySem.W.Frag) : Sp := fun vs H Q _ => ∃ (x : V) (s : Rat) (a : Addr) (ws : List Int) (W b : Nat), vs = [x, .ref a] ∧ Num K H x s ∧ BdN b s ∧ s ≠ 0 ∧ SqL K H a (ws.map V.int) ∧ (∀ v ∈ ws, Int.natAbs v < 2 ^ W) ∧ 1 ≤ W ∧ b + W ≤ 5999 ∧ ws.length ≤ 100 ∧ B7 ws ws.length ∧
  ∀ r rs l s' ws' H', d5 H H' → H l = none → H' r = some (.tup [.ref rs, .ref l]) → SqT K H' rs (w9 s') → H' l = some (.lst (ws'.map V.int)) → BdN (b + W + 1) s' → s' ≠ 0 → (∀ v ∈ ws', Int.natAbs v < 2 ^ W) → ws'.length = ws.length → scl s' ws' = scl s ws → (ws' ≠ [] → q8 ws' = 1) → Q (.ref r) H'
abbrev O3 : Stmt := top 37
theorem av1 : i5 ["scale", "wholes", "content"] ["scale", "wholes"] (d3 O3) := by clean_wf
set_option maxHeartbeats 0 in
theorem aH7 {f f1 f2 : Addr} (d : Df K mg "formed" O3 ["scale", "wholes"] f) (G_content_of : Def P w K mg base CX0 2 "content_of" f1 ["wholes"] (ai5 K)) (G_times : Def P w K mg base CX0 2 "times" f2 ["one", "other"] (aS9 K (· * ·))) {aN : Addr} (c_ONE : mg "ONE" = some (.ref aN)) (tN : ∀ H, SqT K H aN (w9 1)) : Def P w K mg base CX0 3 "formed" f ["scale", "wholes"] (au7 K) := by
  refine d.ok (N := ["scale", "wholes", "content"]) av1 (by rintro vs H Q E ⟨_, _, _, _, _, _, h, _⟩; rw [h]; rfl) (fun cdv A outer s H vs Q E hr h => ?_)
  obtain ⟨x, sc, a, ws, W, b, rfl, hx, bs, s0, hS, hW, hW1, hbW, hl, ht, k⟩ := h
  refine ⟨_, (b8 (C2 (N0 (G7 (pv 1) (fun _ => rfl))) (d6 (i3 (v7 (b0 (v9 (v := .ref _) rfl c_ONE rfl) (b0 (u0 b6) b6))))) t3)
      (b8 (g7 (i := 2) av1.nd rfl (Or.inr rfl) (d7 G_content_of hr (b0 (pv 1) b6) g8))
      (d6 (i3 (v7 (b0 (d7 G_times hr (b0 (pv 0) (b0 (v7 (b0 (pv 2) (b0 b9 b6))) b6)) g8) (b0 (P7 (Nc := ["content", "whole"]) (caps := [some 2, none]) rfl (W8.of (osc := d3 O3) (N := ["scale", "wholes", "content"]) (ks := ["content"]) rfl rfl rfl rfl (G0 rfl F8) (by decide +kernel)) (E8 (pv 1)) (fun C s₂ H₂ fp pins => (g6 (i := 1) (show List.Nodup (["content", "whole"] : List Str) by decide +kernel) rfl (Or.inl rfl) (Or.inr rfl))) (fun C s₂ H₂ fp pins => (e8 B8 (pv 1) (pv 0)))) b6))))))), ?_⟩
  rw [show start ["scale", "wholes", "content"] [x, .ref a] = [some (x), some (.ref a), none] from rfl]
  simp! [aa2]
  refine ⟨_, .inl ⟨_, hS, rfl⟩, z8 (fun h0 => ?_) (fun h0 => ?_)⟩
  · have hw0 : ws = [] := by
      cases ws with
      | nil => rfl
      | cons a l => simp at h0
    subst hw0
    refine ⟨by decide, fun p hp => ⟨v8, fun p1 hp1 => ?_⟩⟩
    have S1 := d5.new hp (.lst [])
    have S2 := d5.new hp1 (.tup [.ref aN, .ref p])
    exact k p1 aN p 1 [] _ (S1.trans S2) hp b7 (tN _) (S2 _ _ b7) (bi0 (by omega)) (by decide) (by simp) rfl rfl (fun z => absurd rfl z)
  have hne' : ws ≠ [] := fun z => h0 (by rw [z]; rfl)
  obtain ⟨v0, hv0, hne⟩ := bk9 ht hne'
  have hc : q8 ws ≠ 0 := aL0 hv0 hne
  have cpos : (0 : Int) < (q8 ws : Nat) := by omega
  have cle : q8 ws < 2 ^ W := by
    obtain ⟨e, he⟩ := K3 hv0
    have w1 := hW _ hv0
    rw [he, Int.natAbs_mul, Int.natAbs_natCast] at w1
    have e0 : e.natAbs ≠ 0 := fun z => hne (by rw [he, show e = 0 by omega, Int.mul_zero])
    exact Nat.lt_of_le_of_lt (Nat.le_mul_of_pos_right _ (by omega)) w1
  have bc : BdN (W + 1) (((q8 ws : Nat) : Int) : Rat) := aW7 (by rw [Int.natAbs_natCast]; exact M0 cle (by omega)) (by omega)
  refine ⟨a, ws, rfl, hS, fun v hv => M0 (hW v hv) (by omega), v8, fun p hp => ?_⟩
  have S1 := d5.new hp (.tup [.int (q8 ws : Nat), .int 1])
  have e1 : (upd H p (.tup [.int (q8 ws : Nat), .int 1])) p = some (.tup (w9 (((q8 ws : Nat) : Int) : Rat))) := by
    rw [b7]; unfold w9; rw [Rat.num_intCast, Rat.den_intCast]; rfl
  refine ⟨_, _, _, _, rfl, hx.same S1, ⟨p, rfl, SqT.of e1⟩, bs.bd6 (by omega), bc.bd6 (by omega), fun rs H2 s2 e2 => ?_⟩
  have S2 := S1.trans s2
  refine ⟨⟨_, S2.seq hS⟩, fun D hD => ?_⟩
  refine P8 (ws.map V.int) (fun i σ H3 => ∃ o, σ = [some (.int (q8 ws : Nat)), o] ∧ d5 H2 H3 ∧ H3 D = some (.lst (((ws.take i).map fun v => v.fdiv (q8 ws : Nat)).map V.int))) ⟨_, rfl, d5.new hD _, b7⟩ (fun i σ H3 _ ⟨_, _, s3, _⟩ => (S2.trans s3).seq hS) ?_ ?_
  · rintro i y σ H3 hy ⟨o, rfl, s3, e3⟩
    have hi := (List.getElem?_eq_some_iff.mp hy).1
    obtain ⟨v, hv, rfl⟩ := U4 hy
    subst_eqs
    refine ⟨P1 (by omega) (by rw [Int.natAbs_natCast]; exact M0 cle (by omega)), J1.mk hi e3 ?_ ⟨_, rfl, s3.over hD _, ?_⟩⟩
    · simp only [List.length_map, List.length_take]
      exact Nat.lt_of_le_of_lt (show _ ≤ 100 by omega) (by decide)
    · rw [b7, List.take_succ, hv]
      simp
  · rintro σ H3 ⟨o, rfl, s3, e3⟩
    rw [List.length_map, List.take_length] at e3
    refine ⟨v8, fun r hr' => ?_⟩
    have S4 := d5.new hr' (.tup [.ref rs, .ref D])
    refine k r rs D (sc * (((q8 ws : Nat) : Int) : Rat)) (ws.map fun v => v.fdiv (q8 ws : Nat)) _ (S2.trans (s3.trans S4)) (S2.free hD) b7 (SqT.of (S4 _ _ (s3 _ _ e2))) (S4 _ _ e3) ((bs.mul bc).mono (by omega)) ?_ ?_ (by simp) ?_ (fun _ => aw4 hc)
    · intro z
      have hz : (((q8 ws : Nat) : Int) : Rat) ≠ 0 := fun w => hc (by
        have := congrArg Rat.num w
        rw [Rat.num_intCast] at this
        have h00 : (0 : Rat).num = 0 := rfl
        omega)
      have := Rat.mul_inv_cancel _ hz
      generalize (((q8 ws : Nat) : Int) : Rat)⁻¹ = u at this
      generalize (((q8 ws : Nat) : Int) : Rat) = y at *
      exact s0 (by grind)
    · intro v hv
      obtain ⟨v', hv', rfl⟩ := List.mem_map.mp hv
      exact ae7 cpos (K3 hv') (hW v' hv')
    · unfold scl
      rw [List.map_map]
      refine List.map_congr_left fun v hv => ?_
      obtain ⟨e, he⟩ := K3 hv
      have e1 : v.fdiv ((q8 ws : Nat) : Int) = e := by
        conv => lhs; arg 1; rw [he]
        exact i9 (by omega)
      show sc * (((q8 ws : Nat) : Int) : Rat) * ((v.fdiv ((q8 ws : Nat) : Int) : Int) : Rat) = sc * (v : Rat)
      rw [e1]
      conv => rhs; rw [he]
      rw [Rat.intCast_mul, Rat.mul_assoc]
def be5 (K : PySem.W.Frag) (H : Hp) (r : Addr) (s : Rat) (ws : List Int) : Prop := ∃ rs l, SqT K H r [.ref rs, .ref l] ∧ SqT K H rs (w9 s) ∧ SqL K H l (ws.map V.int)
abbrev C1 : Stmt := top 38
theorem E9 : i5 ["one", "other", "scale", "many", "quotient", "rest"] ["one", "other"] (d3 C1) := by clean_wf
end
def fz (v : Nat → Int) : Pf := ⟨fun k => (v k : Rat)⟩
theorem aw3 {z : Int} (h : z ≠ 0) : (z : Rat) ≠ 0 := fun w => h (Rat.intCast_inj.mp (by rw [w, Rat.intCast_zero]))
def wL (c L la : Nat) : Nat := c * (2 * (L + 1 - la))
structure LC (P0 Q0 : List Int) (K c L : Nat) : Prop where
  tP : B7 P0 P0.length
  tQ : B7 Q0 Q0.length
  lp : P0.length ≤ L
  lq : Q0.length ≤ L
  kP : ∀ k, (aZ P0 k).natAbs ≤ K
  kQ : ∀ k, (aZ Q0 k).natAbs ≤ K
  k1 : 1 ≤ K
  l1 : 1 ≤ L
  hc : 4 * L * K ≤ 2 ^ c
structure LS (P0 Q0 : List Int) (c L w : Nat) (A Fa B Fb : List Int) (ha hb : Pf) : Prop where
  ev : Ev (zp P0) (zp Q0) (zp A) (zp B) (zp Fa) ha (zp Fb) hb P0.length Q0.length A.length B.length
  tA : B7 A A.length
  tB : B7 B B.length
  lA : A.length ≤ L
  lB : B.length ≤ L
  st : (A = P0 ∧ B = Q0 ∧ Fa = [1] ∧ Fb = [] ∧ ha = 0 ∧ hb = 1 ∧ w = c) ∨ (B.length < A.length ∧ A.length ≤ Q0.length ∧ w = wL c L A.length)
  bA : ∀ k, (aZ A k).natAbs < 2 ^ w
  bFa : ∀ k, (aZ Fa k).natAbs < 2 ^ w
  bB : B ≠ [] → ∀ k, (aZ B k).natAbs < 2 ^ w
  bFb : B ≠ [] → ∀ k, (aZ Fb k).natAbs < 2 ^ w
  hA : ∀ k (z : Int), ha.f k = (z : Rat) → z.natAbs < 2 ^ w
  hB : B ≠ [] → ∀ k (z : Int), hb.f k = (z : Rat) → z.natAbs < 2 ^ w
  dA : ∃ n, Dg ha.f n
  dB : ∃ n, Dg hb.f n
  lFa : Fa.length ≤ max 1 (Q0.length + 1 - A.length)
  lFb : Fb.length ≤ Q0.length + 1 - A.length
  tFa : B7 Fa Fa.length
  tFb : B7 Fb Fb.length
structure LRes (P0 Q0 A F : List Int) (w L c : Nat) : Prop where
  tA : B7 A A.length
  nA : A ≠ []
  lA : A.length ≤ L
  lF : F.length ≤ L
  lF2 : F.length ≤ max 1 (Q0.length + 1 - A.length)
  tF : B7 F F.length
  bA : ∀ k, (aZ A k).natAbs < 2 ^ w
  bF : ∀ k, (aZ F k).natAbs < 2 ^ w
  bA2 : ∀ k, (aZ A k).natAbs < 2 ^ wL c L A.length
  idA : ∃ h : Pf, (∃ n, Dg h.f n) ∧ zp A = zp F * zp P0 + h * zp Q0 ∧ ∀ k (z : Int), h.f k = (z : Rat) → z.natAbs < 2 ^ w
  p1 : ∃ (κ : Rat) (v : Nat → Int), (∃ n, ∀ k, n ≤ k → v k = 0) ∧ zp P0 = t4 κ * (fz v * zp A) ∧ (∀ k, (v k).natAbs < 2 ^ wL c L A.length) ∧ κ.num.natAbs < 2 ^ c ∧ κ.den < 2 ^ (wL c L A.length + wL c L A.length)
  q1 : ∃ (κ : Rat) (v : Nat → Int), (∃ n, ∀ k, n ≤ k → v k = 0) ∧ zp Q0 = t4 κ * (fz v * zp A) ∧ (∀ k, (v k).natAbs < 2 ^ wL c L A.length) ∧ κ.num.natAbs < 2 ^ c ∧ κ.den < 2 ^ (wL c L A.length + wL c L A.length)
  q0 : Q0 = [] → A = P0 ∧ F = [1]
theorem aN9 {qs : List Rat} {s : Rat} {ws : List Int} {W : Nat} (e : qs = scl s ws) (hg : q8 ws = 1) (s0 : s ≠ 0) (c : ClN W qs) : BdN W s ∧ ∀ v ∈ ws, Int.natAbs v < 2 ^ W := by
  obtain ⟨D, hD⟩ : ∃ D, D = j3 qs := ⟨_, rfl⟩
  have Dp : 0 < D := by rw [hD]; exact z7 qs
  have DR : ((D : Int) : Rat) ≠ 0 := aw3 (by omega)
  have eZ : ∀ k, ((aZ (i0 D qs) k : Int) : Rat) = (((D : Int) : Rat) * s) * zc ws k := fun k => by
    have h1 := aZ7 qs
    rw [← hD] at h1
    have h2 := congrArg (fun l => aQ l k) (h1.trans e)
    have h3 : aQ (scl (Rat.divInt 1 D) (i0 D qs)) k = aQ (scl s ws) k := h2
    rw [ar8, ar8] at h3
    have h4 : Rat.divInt 1 (D : Int) * ((D : Int) : Rat) = 1 := by
      rw [Rat.divInt_eq_div, Rat.div_def, show ((1 : Int) : Rat) = 1 from rfl]
      have := Rat.mul_inv_cancel _ DR
      generalize ((D : Int) : Rat)⁻¹ = y at *
      grind
    have h5 : Rat.divInt 1 (D : Int) * (aZ (i0 D qs) k : Rat) = s * (aZ ws k : Rat) := h3
    unfold zc
    generalize Rat.divInt 1 (D : Int) = y at *
    generalize ((D : Int) : Rat) = d at *
    grind
  obtain ⟨g, hgz⟩ := aD5 hg eZ
  have gR : (g : Rat) ≠ 0 := fun z => by
    rw [← hgz] at z
    rcases Rat.mul_eq_zero.mp z with z | z
    · exact DR z
    · exact s0 z
  have bw : ∀ k, (aZ (i0 D qs) k).natAbs < 2 ^ W := aM0 (by rw [hD]; exact c.w)
  have small : ∀ k, (aZ ws k).natAbs ≤ (aZ (i0 D qs) k).natAbs := fun k => bj4 gR (by rw [eZ k, hgz]; rfl)
  refine ⟨?_, bj9 fun k => Nat.lt_of_le_of_lt (small k) (bw k)⟩
  have es : s = Rat.divInt g D := by
    rw [Rat.divInt_eq_div, Rat.div_def, ← hgz]
    have := Rat.mul_inv_cancel _ DR
    generalize ((D : Int) : Rat)⁻¹ = y at *
    generalize ((D : Int) : Rat) = d at *
    grind
  have le := M1 (t := g) (b := (D : Int)) (by omega)
  rw [← es, Int.natAbs_natCast] at le
  refine ⟨Nat.lt_of_le_of_lt le.1 ?_, Nat.lt_of_le_of_lt le.2 (by rw [hD]; exact c.l)⟩
  obtain ⟨k, hk⟩ : ∃ k, aZ ws k ≠ 0 := by
    refine Classical.byContradiction fun z => ?_
    have all : ∀ v ∈ ws, v = 0 := fun v hv => by
      obtain ⟨k, hk, ek⟩ := List.getElem_of_mem hv
      refine Classical.byContradiction fun h => z ⟨k, ?_⟩
      unfold aZ; rw [List.getElem?_eq_getElem hk, ek]; exact h
    have : 0 ∣ q8 ws := aq8 _ 0 (Nat.dvd_zero _) fun v hv => by rw [all v hv]; exact Int.dvd_zero _
    rw [hg] at this
    exact absurd (Nat.eq_zero_of_zero_dvd this) (by decide)
  have e2 : aZ (i0 D qs) k = g * aZ ws k := Rat.intCast_inj.mp (by rw [eZ k, hgz, Rat.intCast_mul]; rfl)
  have := bw k
  rw [e2, Int.natAbs_mul] at this
  exact Nat.lt_of_le_of_lt (Nat.le_mul_of_pos_right _ (by omega)) this
def OvP (B W : Nat) (p : Pf) : Prop := ∀ k, OvB B W (p.f k)
theorem OvP.mono {B V W : Nat} {p : Pf} (h : OvP B V p) (l : V ≤ W) : OvP B W p := fun k => (h k).mono l
theorem OvP.mul {B C V W n : Nat} (hB : 0 < B) (hC : 0 < C) {p q : Pf} (hp : OvP B V p) (hq : OvP C W q) (dp : Dg p.f n) : OvP (B * C) (V + W + n) (p * q) := fun k => by
  have e : (p * q).f k = m8 (fun i => p.f i * if i ≤ k then q.f (k - i) else 0) n := bd4 dp q.f k
  rw [e]
  refine aK5 (Nat.mul_pos hB hC) (fun i => ?_) n
  split
  · exact (hp i).mul (hq _)
  · have : p.f i * 0 = 0 := by grind
    rw [this]; exact OvB.zero _ _
theorem OvP.add {B W : Nat} (hB : 0 < B) {p q : Pf} (hp : OvP B W p) (hq : OvP B W q) : OvP B (W + 1) (p + q) := fun k => (hp k).add hB (hq k)
theorem OvP.up {B W : Nat} {p : Pf} (h : OvP B W p) (hB : 0 < B) {C c : Nat} (hC : 0 < C) (hc : C < 2 ^ c) : OvP (B * C) (W + c) p := fun k => (h k).up hB hC hc
def qp (l : List Rat) : Pf := ⟨aQ l⟩
theorem G6 (s : Rat) (ws : List Int) : qp (scl s ws) = t4 s * zp ws := Pf.ext fun k => by
  rw [ad6]
  show aQ (scl s ws) k = s * zc ws k
  rw [ar8]; rfl
theorem bh1 (p q : List Rat) : qp (Q9 p q) = qp p * qp q := Pf.ext fun k => be0 p q k
theorem aU0 (p q : List Rat) : qp (W7 p q) = qp p + qp q := Pf.ext fun k => be1 p q k
theorem X7 (l : List Rat) : Dg (qp l).f l.length := fun k hk => by
  show aQ l k = 0
  unfold aQ; rw [List.getElem?_eq_none hk]; rfl
theorem bh0 : qp [] = 0 := Pf.ext fun k => by rw [K4]; rfl
theorem az0 {B W : Nat} {l : List Rat} (h : ∀ x ∈ l, OvB B W x) : OvP B W (qp l) := fun k => by
  show OvB B W (aQ l k)
  unfold aQ
  cases hk : l[k]? with
  | none => exact OvB.zero _ _
  | some x => exact h x (List.mem_of_getElem? hk)
theorem Y0 {B W : Nat} {l : List Rat} (h : OvP B W (qp l)) : ∀ x ∈ l, OvB B W x := fun x hx => by
  obtain ⟨k, hk, e⟩ := List.getElem_of_mem hx
  have := h k
  have e2 : (qp l).f k = x := by
    show aQ l k = x
    unfold aQ; rw [List.getElem?_eq_getElem hk, e]; rfl
  rw [e2] at this; exact this
def fld (M : List (List Rat)) (last : List Rat) : Nat → Pf × Pf
  | 0 => (qp last, 0)
  | n + 1 => (qp ((M[M.length - 1 - n]?).getD []) * (fld M last n).1 + (fld M last n).2, (fld M last n).1)
def Fm (K : PySem.W.Frag) (H : Hp) (v : V) (s : Rat) (ws : List Int) : Prop := ∃ r rs l, v = .ref r ∧ SqT K H r [.ref rs, .ref l] ∧ SqT K H rs (w9 s) ∧ SqL K H l (ws.map V.int)
mutual
inductive HD (H : Hp) : V → D → Prop where
  | v {x : V} (f : R6 x = true) : HD H x (.v x)
  | tup {p : Addr} {xs : List V} {ds : List D} (h : H p = some (.tup xs)) (t : HDs H xs ds) : HD H (.ref p) (.tup ds)
  | lst {p : Addr} {xs : List V} {ds : List D} (h : H p = some (.lst xs)) (t : HDs H xs ds) : HD H (.ref p) (.lst ds)
inductive HDs (H : Hp) : List V → List D → Prop where
  | nil : HDs H [] []
  | cons {x : V} {xs : List V} {d : D} {ds : List D} (h : HD H x d) (t : HDs H xs ds) : HDs H (x :: xs) (d :: ds)
end
def evZ (qs : List Rat) : Bool := (evs qs).all fun q => decide (q = 0)
def odZ (qs : List Rat) : Bool := (ods qs).all fun q => decide (q = 0)
theorem ab5 {α : Type} : ∀ (xs : List α) (k : Nat), (evs xs)[k]? = xs[2 * k]?
  | [], k => by simp [evs]
  | [x], 0 => rfl
  | [x], k + 1 => by
    show ([x] : List α)[k + 1]? = [x][2 * (k + 1)]?
    rw [List.getElem?_eq_none (by simp), List.getElem?_eq_none (by simp; omega)]
  | x :: y :: r, 0 => rfl
  | x :: y :: r, k + 1 => by
    show (x :: evs r)[k + 1]? = _
    rw [List.getElem?_cons_succ, ab5 r k, show 2 * (k + 1) = 2 * k + 1 + 1 by omega, List.getElem?_cons_succ, List.getElem?_cons_succ]
def cOk (c T : Nat) : Prop := (c = 10 ∧ T ≤ 14) ∨ (c = 40 ∧ T ≤ 5)
def Ub (c D : Nat) : Nat := 1 + 2 * c + (3 * c + 4) * D
theorem bk8 {c T D : Nat} (h : cOk c T) (l : D ≤ T) : Ub c D ≤ 701 := by
  unfold Ub
  rcases h with ⟨rfl, h⟩ | ⟨rfl, h⟩ <;> omega
theorem ax9 (c D : Nat) : 1 ≤ Ub c D := by unfold Ub; omega
theorem bg2 {c T D d : Nat} (h : cOk c T) (l : D + d ≤ T) : Ub c (D + d) + (d + 1) * (Ub c D + 1) + Ub c D ≤ 2900 := by
  unfold Ub
  rcases h with ⟨rfl, h⟩ | ⟨rfl, h⟩
  · have hd : d ≤ 14 := by omega
    have h2 : d = 0 ∨ d = 1 ∨ d = 2 ∨ d = 3 ∨ d = 4 ∨ d = 5 ∨ d = 6 ∨ d = 7 ∨ d = 8 ∨ d = 9 ∨ d = 10 ∨ d = 11 ∨ d = 12 ∨ d = 13 ∨ d = 14 := by omega
    rcases h2 with rfl | rfl | rfl | rfl | rfl | rfl | rfl | rfl | rfl | rfl | rfl | rfl | rfl | rfl | rfl <;> omega
  · have h2 : d = 0 ∨ d = 1 ∨ d = 2 ∨ d = 3 ∨ d = 4 ∨ d = 5 := by omega
    rcases h2 with rfl | rfl | rfl | rfl | rfl | rfl <;> omega
theorem aZ3 {c D d : Nat} (hd : 1 ≤ d) : Ub c D + (1 + c * (d + 1) + c) + (d + 1) + 1 ≤ Ub c (D + d) := by
  unfold Ub
  have e1 : (3 * c + 4) * (D + d) = (3 * c + 4) * D + (3 * c + 4) * d := Nat.mul_add _ _ _
  have e2 : (3 * c + 4) * d = 3 * (c * d) + 4 * d := by rw [Nat.add_mul, Nat.mul_assoc]
  have e3 : c * (d + 1) = c * d + c := Nat.mul_succ _ _
  have e4 : c ≤ c * d := Nat.le_mul_of_pos_right _ hd
  omega
structure N4 (c : Nat) (M : List (List Rat)) (last : List Rat) : Prop where
  m : ∀ L ∈ M, v3 L L.length ∧ 2 ≤ L.length ∧ evZ L = true ∧ ∀ x ∈ L, BdN c x
  t : v3 last last.length
  n : last ≠ []
  p : evZ last = true ∨ odZ last = true
  o : ∀ x ∈ last, BdN c x
  z : cOk c (last.length - 1 + (M.map fun L => L.length - 1).sum)
theorem N4.s {c : Nat} {M : List (List Rat)} {last : List Rat} (R : N4 c M last) : last.length + (M.map fun L => L.length - 1).sum ≤ 15 := by
  have := List.length_pos_iff.mpr R.n
  rcases R.z with ⟨_, h⟩ | ⟨_, h⟩ <;> omega
theorem N4.c1 {c : Nat} {M : List (List Rat)} {last : List Rat} (R : N4 c M last) : 10 ≤ c ∧ c ≤ 40 := by
  rcases R.z with ⟨h, _⟩ | ⟨h, _⟩ <;> omega
def at7 (M : List (List Rat)) : Nat → Nat
  | 0 => 0
  | n + 1 => at7 M n + (((M[M.length - 1 - n]?).getD []).length - 1)
theorem aC4 (M : List (List Rat)) : ∀ n, n ≤ M.length → at7 M n = ((M.drop (M.length - n)).map fun L => L.length - 1).sum
  | 0, _ => by rw [Nat.sub_zero, List.drop_length]; rfl
  | n + 1, h => by
    rw [at7, aC4 M n (by omega)]
    have e : M.drop (M.length - (n + 1)) = (M[M.length - 1 - n]'(by omega)) :: M.drop (M.length - n) := by
      rw [show M.length - (n + 1) = M.length - 1 - n by omega, List.drop_eq_getElem_cons (by omega), show M.length - 1 - n + 1 = M.length - n by omega]
    rw [e, List.map_cons, List.sum_cons, List.getElem?_eq_getElem (by omega), Option.getD_some]
    omega
theorem aA8 {M : List (List Rat)} {n : Nat} (h : n ≤ M.length) : at7 M n ≤ (M.map fun L => L.length - 1).sum := by
  have h2 := aC4 M n h
  have h3 : ((M.drop (M.length - n)).map fun L => L.length - 1).sum ≤ (M.map fun L => L.length - 1).sum := by
    conv => rhs; rw [← List.take_append_drop (M.length - n) M]
    rw [List.map_append, List.sum_append]
    omega
  omega
theorem N4.sum {c : Nat} {M : List (List Rat)} {last : List Rat} (R : N4 c M last) {n : Nat} (h : n ≤ M.length) : last.length + at7 M n ≤ 15 := by
  have := R.s
  have := aA8 h
  omega
def dn (M : List (List Rat)) (last : List Rat) (n : Nat) : Nat := last.length - 1 + at7 M n
theorem N4.ub {c : Nat} {M : List (List Rat)} {last : List Rat} (R : N4 c M last) {n : Nat} (h : n ≤ M.length) : Ub c (dn M last n) ≤ 701 := bk8 R.z (by
  have := aA8 h
  unfold dn
  omega)
theorem N4.len {c : Nat} {M : List (List Rat)} {last : List Rat} (R : N4 c M last) : M.length ≤ 14 := by
  have key : ∀ (N : List (List Rat)), (∀ L ∈ N, 2 ≤ L.length) → N.length ≤ (N.map fun L => L.length - 1).sum := by
    intro N
    induction N with
    | nil => intro _; simp
    | cons L N ih =>
      intro h
      have h1 := h L List.mem_cons_self
      have h2 := ih fun L hL => h L (List.mem_cons_of_mem _ hL)
      rw [List.map_cons, List.sum_cons, List.length_cons]
      omega
  have h1 := key M fun L hL => (R.m L hL).2.1
  have h2 := R.s
  have h3 := List.length_pos_iff.mpr R.n
  omega
theorem N4.at {c : Nat} {M : List (List Rat)} {last : List Rat} (R : N4 c M last) {n : Nat} (h : n < M.length) : ∃ L, M[M.length - 1 - n]? = some L ∧ L ∈ M ∧ dn M last (n + 1) = dn M last n + (L.length - 1) ∧ (fld M last (n + 1)).1 = qp L * (fld M last n).1 + (fld M last n).2 ∧ (fld M last (n + 1)).2 = (fld M last n).1 := by
  have hg : M[M.length - 1 - n]? = some (M[M.length - 1 - n]'(by omega)) := List.getElem?_eq_getElem (by omega)
  refine ⟨_, hg, List.mem_of_getElem? hg, ?_, ?_, rfl⟩
  · unfold dn
    rw [at7, hg, Option.getD_some]
    omega
  · show qp ((M[M.length - 1 - n]?).getD []) * (fld M last n).1 + (fld M last n).2 = _
    rw [hg]; rfl
theorem N4.l15 {c : Nat} {M : List (List Rat)} {last : List Rat} (R : N4 c M last) {L : List Rat} (h : L ∈ M) : L.length ≤ 15 := by
  have key : ∀ (N : List (List Rat)), L ∈ N → L.length - 1 ≤ (N.map fun L => L.length - 1).sum := by
    intro N
    induction N with
    | nil => intro h; cases h
    | cons L' N ih =>
      intro h
      rw [List.map_cons, List.sum_cons]
      rcases List.mem_cons.mp h with z | z
      · rw [z]; omega
      · have := ih z; omega
  have := key M h
  have := R.s
  have := List.length_pos_iff.mpr R.n
  omega
theorem am4 {c : Nat} {M : List (List Rat)} {last : List Rat} (R : N4 c M last) : ∀ n, n ≤ M.length → ∃ B, 0 < B ∧ B < 2 ^ Ub c (dn M last n) ∧ OvP B (Ub c (dn M last n)) (fld M last n).1 ∧ OvP B (Ub c (dn M last n)) (fld M last n).2
  | 0, _ => by
    have cl := ar5 R.o
    have hp := List.length_pos_iff.mpr R.n
    have le : 1 + c * last.length + c ≤ Ub c (dn M last 0) := by
      unfold Ub dn
      rw [at7]
      obtain ⟨e, he⟩ : ∃ e, last.length = e + 1 := ⟨last.length - 1, by omega⟩
      rw [he, Nat.mul_succ, Nat.add_sub_cancel, Nat.add_zero, Nat.add_mul, Nat.mul_assoc, Nat.add_zero]
      omega
    have cl := cl.mono le
    exact ⟨j3 last, z7 _, cl.l, az0 fun x hx => az4 cl hx, fun k => by rw [show (fld M last 0).2 = 0 from rfl, K4]; exact OvB.zero _ _⟩
  | n + 1, h => by
    obtain ⟨B, B0, hB, h1, h2⟩ := am4 R n (by omega)
    obtain ⟨L, hg, hL, hd, e1, e2⟩ := R.at (n := n) (by omega)
    obtain ⟨tL, l2, _, bL⟩ := R.m L hL
    have cl := ar5 bL
    obtain ⟨d, hd'⟩ : ∃ d, L.length = d + 1 := ⟨L.length - 1, by omega⟩
    rw [hd'] at cl hd l2
    rw [Nat.add_sub_cancel] at hd
    have st := aZ3 (c := c) (D := dn M last n) (d := d) (by omega)
    rw [← hd] at st
    generalize 1 + c * (d + 1) + c = v at *
    have m1 : OvP (j3 L * B) (v + Ub c (dn M last n) + (d + 1)) (qp L * (fld M last n).1) := OvP.mul (z7 _) B0 (az0 fun x hx => az4 cl hx) h1 (by rw [← hd']; exact X7 L)
    have m2 : OvP (B * j3 L) (Ub c (dn M last n) + v) (fld M last n).2 := h2.up B0 (z7 _) cl.l
    have u1 : OvP (B * j3 L) (Ub c (dn M last n) + v) (fld M last n).1 := h1.up B0 (z7 _) cl.l
    rw [Nat.mul_comm] at m1
    have Bp : 0 < B * j3 L := Nat.mul_pos B0 (z7 _)
    refine ⟨B * j3 L, Bp, ?_, ?_, ?_⟩
    · have : B * j3 L < 2 ^ (Ub c (dn M last n)) * 2 ^ v := Nat.mul_lt_mul'' hB cl.l
      rw [← Nat.pow_add] at this
      exact Nat.lt_of_lt_of_le this (d4 (by omega))
    · rw [e1]
      exact (OvP.add Bp (m1.mono (show _ ≤ Ub c (dn M last n) + v + (d + 1) by omega)) (m2.mono (by omega))).mono (by omega)
    · rw [e2]
      exact u1.mono (by omega)
theorem ae6 {c : Nat} {M : List (List Rat)} {last : List Rat} (R : N4 c M last) : ∀ n, n ≤ M.length → Dg (fld M last n).1.f (dn M last n + 1) ∧ Dg (fld M last n).2.f (dn M last n)
  | 0, _ => by
    have hp := List.length_pos_iff.mpr R.n
    refine ⟨?_, fun k _ => by rw [show (fld M last 0).2 = 0 from rfl]; exact K4 k⟩
    have e : dn M last 0 + 1 = last.length := by unfold dn; rw [at7]; omega
    rw [e]; exact X7 last
  | n + 1, h => by
    obtain ⟨h1, h2⟩ := ae6 R n (by omega)
    obtain ⟨L, hg, hL, hd, e1, e2⟩ := R.at (n := n) (by omega)
    obtain ⟨tL, l2, _, bL⟩ := R.m L hL
    rw [e1, e2, hd]
    refine ⟨fun k hk => ?_, fun k hk => h1 k (by omega)⟩
    rw [V8, h2 k (by omega)]
    have : (qp L * (fld M last n).1).f k = 0 := Dg.cv (X7 L) h1 k (by omega)
    rw [this]; grind
theorem am1 {L : List Rat} (t : v3 L L.length) (h : 1 ≤ L.length) : (qp L).f (L.length - 1) ≠ 0 := by
  have hq := List.getElem?_eq_getElem (l := L) (show L.length - 1 < L.length by omega)
  have := t.last (by omega) _ hq
  show aQ L (L.length - 1) ≠ 0
  unfold aQ
  rw [hq]; exact this
theorem M6 {c : Nat} {M : List (List Rat)} {last : List Rat} (R : N4 c M last) : ∀ n, n ≤ M.length → (fld M last n).1.f (dn M last n) ≠ 0
  | 0, _ => by
    have hp := List.length_pos_iff.mpr R.n
    have e : dn M last 0 = last.length - 1 := by unfold dn; rw [at7]; omega
    rw [e]
    exact am1 R.t (by omega)
  | n + 1, h => by
    have h1 := M6 R n (by omega)
    obtain ⟨d1, d2⟩ := ae6 R n (by omega)
    obtain ⟨L, hg, hL, hd, e1, e2⟩ := R.at (n := n) (by omega)
    obtain ⟨tL, l2, _, bL⟩ := R.m L hL
    have lL := am1 tL (by omega)
    rw [e1, hd, V8, d2 _ (by omega)]
    have top := aI8 (f := (qp L).f) (g := (fld M last n).1.f) (a := L.length - 1) (b := dn M last n) (by rw [Nat.sub_add_cancel (by omega)]; exact X7 L) d1
    rw [Nat.add_comm (dn M last n)]
    have e : (qp L * (fld M last n).1).f (L.length - 1 + dn M last n) = (qp L).f (L.length - 1) * (fld M last n).1.f (dn M last n) := top
    rw [e]
    intro z
    have z' : (qp L).f (L.length - 1) * (fld M last n).1.f (dn M last n) = 0 := by rw [← z]; grind
    rcases Rat.mul_eq_zero.mp z' with y | y
    · exact lL y
    · exact h1 y
def Par (b : Nat) (p : Pf) : Prop := ∀ k, k % 2 ≠ b % 2 → p.f k = 0
theorem Par.add {b : Nat} {p q : Pf} (hp : Par b p) (hq : Par b q) : Par b (p + q) := fun k hk => by rw [V8, hp k hk, hq k hk]; grind
theorem Par.mul {a b : Nat} {p q : Pf} (hp : Par a p) (hq : Par b q) : Par (a + b) (p * q) := fun k hk => by
  show cv p.f q.f k = 0
  refine K5 _ fun i hi => ?_
  by_cases z : i % 2 = a % 2
  · rw [hq (k - i) (by omega)]; grind
  · rw [hp i z]; grind
theorem Par.cong {a b : Nat} {p : Pf} (h : Par a p) (e : a % 2 = b % 2) : Par b p := fun k hk => h k (by omega)
theorem aD6 (b : Nat) : Par b 0 := fun k _ => K4 k
theorem aE0 {α : Type} (xs : List α) (k : Nat) : (ods xs)[k]? = xs[2 * k + 1]? := by
  unfold ods
  rw [ab5, List.getElem?_tail]
theorem az3 {L : List Rat} (h : evZ L = true) : Par 1 (qp L) := fun k hk => by
  show aQ L k = 0
  unfold aQ
  cases e : L[k]? with
  | none => rfl
  | some q =>
    have : q ∈ evs L := List.mem_iff_getElem?.mpr ⟨k / 2, by rw [ab5, show 2 * (k / 2) = k by omega]; exact e⟩
    exact of_decide_eq_true (List.all_eq_true.mp h q this)
theorem aU6 {L : List Rat} (h : odZ L = true) : Par 0 (qp L) := fun k hk => by
  show aQ L k = 0
  unfold aQ
  cases e : L[k]? with
  | none => rfl
  | some q =>
    have : q ∈ ods L := List.mem_iff_getElem?.mpr ⟨k / 2, by rw [aE0, show 2 * (k / 2) + 1 = k by omega]; exact e⟩
    exact of_decide_eq_true (List.all_eq_true.mp h q this)
theorem aL1 {c : Nat} {M : List (List Rat)} {last : List Rat} (R : N4 c M last) {b : Nat} (hb : Par b (qp last)) : ∀ n, n ≤ M.length → Par (b + n) (fld M last n).1 ∧ Par (b + n + 1) (fld M last n).2
  | 0, _ => ⟨hb, aD6 _⟩
  | n + 1, h => by
    obtain ⟨h1, h2⟩ := aL1 R hb n (by omega)
    obtain ⟨L, hg, hL, hd, e1, e2⟩ := R.at (n := n) (by omega)
    rw [e1, e2]
    exact ⟨(((az3 (R.m L hL).2.2.1).mul h1).cong (by omega)).add (h2.cong (by omega)), h1.cong (by omega)⟩
theorem aP1 {c : Nat} {M : List (List Rat)} {last : List Rat} (R : N4 c M last) {n : Nat} (h : n ≤ M.length) : Par (dn M last n) (fld M last n).1 ∧ Par (dn M last n + 1) (fld M last n).2 := by
  obtain ⟨b, hb⟩ : ∃ b, Par b (qp last) := by
    rcases R.p with z | z
    · exact ⟨1, az3 z⟩
    · exact ⟨0, aU6 z⟩
  obtain ⟨h1, h2⟩ := aL1 R hb n h
  have h3 := M6 R n h
  have h4 : dn M last n % 2 = (b + n) % 2 := Classical.byContradiction fun z => h3 (h1 _ z)
  exact ⟨h1.cong h4.symm, h2.cong (by omega)⟩
theorem tzB {s : Rat} (hs : s ≠ 0) {qs : List Rat} {ws : List Int} (e : qs = scl s ws) (t : v3 qs qs.length) : B7 ws ws.length := by
  refine ⟨Nat.le_refl _, (fun i v hi h => by rw [List.getElem?_eq_none hi] at h; cases h), fun hn v h z => ?_⟩
  subst e
  rw [R9] at t
  refine t.last hn _ (show (scl s ws)[ws.length - 1]? = some (s * (v : Rat)) by unfold scl; rw [List.getElem?_map, h]; rfl) ?_
  rw [z, Rat.intCast_zero]; grind
theorem tlB {s : Rat} (hs : s ≠ 0) {ws : List Int} (t : B7 ws ws.length) : v3 (scl s ws) (scl s ws).length := V3 fun x hx => by
  rw [R9] at hx
  unfold scl at hx
  rw [List.getElem?_map] at hx
  cases g : ws[ws.length - 1]? with
  | none => rw [g] at hx; cases hx
  | some v =>
    rw [g] at hx
    cases hx
    have hp := (List.getElem?_eq_some_iff.mp g).1
    have hv := t.last (by omega) v g
    exact fun z => by
      rcases Rat.mul_eq_zero.mp z with z | z
      · exact hs z
      · exact aw3 hv z
theorem aJ5 {s : Rat} {ws : List Int} {p : Pf} {k : Nat} (e : t4 s * zp ws = p) (h : p.f k ≠ 0) : ws ≠ [] := fun z => h (by
  rw [← e, z, aQ7, ad6, K4]; grind)
theorem aQ8 {s : Rat} {ws : List Int} {p : Pf} {n : Nat} (hs : s ≠ 0) (t : B7 ws ws.length) (e : t4 s * zp ws = p) (d : Dg p.f n) : ws.length ≤ n := by
  rcases Nat.lt_or_ge n ws.length with z | z
  · have h1 := V1 t (by omega)
    have h2 := d (ws.length - 1) (by omega)
    rw [← e, ad6] at h2
    rcases Rat.mul_eq_zero.mp h2 with y | y
    · exact absurd y hs
    · exact absurd y (aJ4 h1)
  · exact z
structure FS (K : PySem.W.Frag) (H : Hp) (v : V) (p : Pf) (b : Nat) (s : Rat) (ws : List Int) : Prop where
  fm : Fm K H v s ws
  s0 : s ≠ 0
  tz : B7 ws ws.length
  e : t4 s * zp ws = p
  bs : BdN b s
  bw : ∀ v ∈ ws, Int.natAbs v < 2 ^ b
def pt (b : Nat) (p : Pf) : Pf := ⟨fun k => if k % 2 = b % 2 then p.f k else 0⟩
theorem bh2 (b : Nat) (p : Pf) : Par b (pt b p) := fun k hk => if_neg hk
theorem aU5 {b : Nat} {p : Pf} (h : ∀ k, p.f k = (pt b p).f k) : Par b p := fun k hk => by rw [h]; exact if_neg hk
theorem bc9 {A B Q C : Pf} {al n m : Nat} (hA : Par al A) (hB : Par (al + 1) B) (hn : B.f n ≠ 0) (dB : Dg B.f (n + 1)) (dC : Dg C.f n) (dQ : Dg Q.f m) (e : A = Q * B + C) : Par 1 Q ∧ Par al C := by
  have key := aq9 (O := B.f) (f0 := Q.f) (g0 := (pt 1 Q).f) (f1 := C.f) (g1 := (pt al C).f) (n := n) (m := m) hn (fun k hk => dB k (by omega)) dC (fun k hk => by
    show (if _ then _ else _) = _
    split
    · exact dC k hk
    · rfl) dQ (fun k hk => by
    show (if _ then _ else _) = _
    split
    · exact dQ k hk
    · rfl) fun k => by
    have h1 : A.f k = cv Q.f B.f k + C.f k := by
      have := congrArg (fun z => Pf.f z k) e
      exact this
    by_cases z : k % 2 = al % 2
    · have h2 : (pt al C).f k = C.f k := if_pos z
      rw [h2]
      congr 1
      refine v4 fun i hi => ?_
      by_cases y : i % 2 = 1 % 2
      · show _ = (if _ then _ else _) * _
        rw [if_pos y]
      · rw [hB (k - i) (by omega)]; grind
    · have h2 : (pt al C).f k = 0 := if_neg z
      have h3 : cv (pt 1 Q).f B.f k = 0 := ((bh2 1 Q).mul hB).cong (a := 1 + (al + 1)) (b := al) (by omega) k z
      rw [h2, h3, ← h1, hA k z]; grind
  exact ⟨aU5 key.1, aU5 key.2⟩
theorem aX4 {L : List Rat} (h : Par 1 (qp L)) : evZ L = true := List.all_eq_true.mpr fun q hq => by
  obtain ⟨k, hk⟩ := List.mem_iff_getElem?.mp hq
  rw [ab5] at hk
  have := h (2 * k) (by omega)
  have h2 : aQ L (2 * k) = 0 := this
  unfold aQ at h2
  rw [hk] at h2
  exact decide_eq_true h2
theorem bi2 {L : List Rat} (h : Par 0 (qp L)) : odZ L = true := List.all_eq_true.mpr fun q hq => by
  obtain ⟨k, hk⟩ := List.mem_iff_getElem?.mp hq
  rw [aE0] at hk
  have := h (2 * k + 1) (by omega)
  have h2 : aQ L (2 * k + 1) = 0 := this
  unfold aQ at h2
  rw [hk] at h2
  exact decide_eq_true h2
theorem aU7 {L : List Rat} {b : Nat} (h : Par b (qp L)) : evZ L = true ∨ odZ L = true := by
  rcases Nat.mod_two_eq_zero_or_one b with z | z
  · exact .inr (bi2 (h.cong (by omega)))
  · exact .inl (aX4 (h.cong (by omega)))
def Un : List (List Rat) → Pf × Pf → Pf × Pf
  | [], x => x
  | L :: Ls, x => (qp L * (Un Ls x).1 + (Un Ls x).2, (Un Ls x).1)
theorem aZ2 (Ms : List (List Rat)) (L : List Rat) (x : Pf × Pf) : Un (Ms ++ [L]) x = Un Ms (qp L * x.1 + x.2, x.1) := by
  induction Ms with
  | nil => rfl
  | cons A Ms ih => rw [List.cons_append, Un, ih, Un]
theorem aq3 (M : List (List Rat)) (last : List Rat) : ∀ n, n ≤ M.length → fld M last n = Un (M.drop (M.length - n)) (qp last, 0)
  | 0, _ => by rw [Nat.sub_zero, List.drop_length]; rfl
  | n + 1, h => by
    have e : M.drop (M.length - (n + 1)) = (M[M.length - 1 - n]'(by omega)) :: M.drop (M.length - n) := by
      rw [show M.length - (n + 1) = M.length - 1 - n by omega, List.drop_eq_getElem_cons (by omega), show M.length - 1 - n + 1 = M.length - n by omega]
    rw [e, Un, ← aq3 M last n (by omega), fld, List.getElem?_eq_getElem (by omega)]; rfl
def run : Nat → Nat → Nat → Nat → Nat → Nat → Nat → Nat → Nat → Bool
  | 0, _, _, _, _, _, _, _, _ => false
  | f + 1, a, b, wa, wb, na, da, nb, db =>
    decide (na ≤ 2900 ∧ da ≤ 2900 ∧ wa ≤ 2000 ∧ na + wa ≤ 3900) &&
    (decide (b = 0) || (decide (nb ≤ 2900 ∧ db ≤ 2900 ∧ wb ≤ 2000 ∧ nb + wb ≤ 3900 ∧ wa + (a - b + 1) * (wb + 1) ≤ 2500 ∧ da + ((a - b + 1) * wb + 1) + nb + db ≤ 3000 ∧ na + db ≤ 3900 ∧ na + db + (wa + (a - b + 1) * (wb + 1)) ≤ 4000 ∧ na + (wa + (a - b + 1) * (wb + 1)) ≤ 2900 ∧ da + ((a - b + 1) * wb + 1) ≤ 2900) &&
      (List.range b).all fun c => decide (0 < c ∧ (a + c) % 2 = 1) || run f b c wb (if c ≤ 2 then 1 else wa + (a - b + 1) * (wb + 1)) nb db (na + (wa + (a - b + 1) * (wb + 1))) (da + ((a - b + 1) * wb + 1))))
theorem aZ9 : ∀ a, a ≤ 8 → ∀ b, b < a → run 10 a b 10 10 10 10 10 10 = true := by decide +kernel
theorem aZ8 : ∀ a, a ≤ 5 → ∀ b, b < a → run 10 a b 161 121 161 161 121 121 = true := by decide +kernel
def HBd (P : Program) (w : World) (K : PySem.W.Frag) (mg : Str → Option Value) (base : Heap) (k : Nat) (x : Str) (st : Stmt) (f : Addr) (N : List Str) (sp : Sp) : Prop := ∀ (cdv : Value) (A : Around) (outer : List Env) (s : Shared) (H : Hp) (vs : List V) (Q : VK) (E : XK), R7 k (A.deeper (envOfC x (d3 st) s.heap.objs.size f cdv)) → sp vs H Q E → ∃ t, PSs (ae9 CX0 P w K mg base N x (d3 st) f cdv A outer s H E).nox (g9 st) t ∧ t { nx := fun _ H' => Q .non H', rt := Q } (start N vs) H
theorem bi8 (qs : List Rat) : j3 qs ∣ j3 (qs.filter fun q => decide (q ≠ 0)) := ah4 fun q hq => by
  by_cases z : q = 0
  · rw [z]; exact Nat.one_dvd _
  · exact F9 (List.mem_filter.mpr ⟨hq, decide_eq_true z⟩)
theorem bg0 {m n : Nat} {qs : List Rat} (hs : ∀ q ∈ qs, BdN m q) (hf : (qs.filter fun q => decide (q ≠ 0)).length ≤ n) : ClN (1 + m * n + m) qs := by
  have hB0 := aE7 (m := m) (qs := qs.filter fun q => decide (q ≠ 0)) fun q hq => (hs q (List.mem_filter.mp hq).1).d
  have hB1 : j3 qs < 2 ^ (1 + m * n) := Nat.lt_of_le_of_lt (Nat.le_of_dvd (z7 _) (bi8 qs)) (Nat.lt_of_lt_of_le hB0 (d4 (by have := Nat.mul_le_mul_left m hf; omega)))
  have wl := aj9 hs hB1 (fun q hq => F9 hq)
  rw [show m + (1 + m * n) = 1 + m * n + m by omega] at wl
  exact ⟨Nat.lt_of_lt_of_le hB1 (d4 (by omega)), wl⟩
theorem ba8 {C : List Int} {al : Nat} (h : q8 C = 1) (l : C.length ≤ 2) (p : Par al (zp C)) (t : B7 C C.length) : ∀ v ∈ C, Int.natAbs v < 2 ^ 1 := by
  match C, l with
  | [], _ => simp
  | [v], _ =>
    have : q8 [v] = Int.gcd v 0 := rfl
    rw [this] at h
    have h1 : v.natAbs = 1 := by simpa using h
    intro w hw
    rw [List.mem_singleton.mp hw, h1]; decide
  | [x, v], _ =>
    have hv : v ≠ 0 := by
      have := V1 t (by simp)
      exact this
    have hx : x = 0 := by
      have e1 : (zp [x, v]).f 1 = (v : Rat) := rfl
      have e0 : (zp [x, v]).f 0 = (x : Rat) := rfl
      rcases Nat.mod_two_eq_zero_or_one al with z | z
      · have := p 1 (by omega)
        rw [e1] at this
        exact absurd (Rat.intCast_inj.mp (by rw [this, Rat.intCast_zero])) hv
      · have := p 0 (by omega)
        rw [e0] at this
        exact Rat.intCast_inj.mp (by rw [this, Rat.intCast_zero])
    subst hx
    have : q8 [0, v] = Int.gcd v (Int.gcd 0 0) := rfl
    rw [this] at h
    have h1 : v.natAbs = 1 := by simpa using h
    intro w hw
    rcases List.mem_cons.mp hw with z | z
    · rw [z]; decide
    · rw [List.mem_singleton.mp z, h1]; decide
theorem bf5 {f a b wa wb na da nb db : Nat} (h : run f a b wa wb na da nb db = true) : na ≤ 2900 ∧ da ≤ 2900 ∧ wa ≤ 2000 ∧ na + wa ≤ 3900 := by
  cases f with
  | zero => cases h
  | succ f =>
    unfold run at h
    rw [Bool.and_eq_true] at h
    exact of_decide_eq_true h.1
theorem bf4 {f a b wa wb na da nb db : Nat} (h : run f a b wa wb na da nb db = true) (hb : 0 < b) : ∃ g, f = g + 1 ∧ nb ≤ 2900 ∧ db ≤ 2900 ∧ wb ≤ 2000 ∧ nb + wb ≤ 3900 ∧ wa + (a - b + 1) * (wb + 1) ≤ 2500 ∧ da + ((a - b + 1) * wb + 1) + nb + db ≤ 3000 ∧ na + db ≤ 3900 ∧ na + db + (wa + (a - b + 1) * (wb + 1)) ≤ 4000 ∧ na + (wa + (a - b + 1) * (wb + 1)) ≤ 2900 ∧ da + ((a - b + 1) * wb + 1) ≤ 2900 ∧
    ∀ c, c < b → (0 < c → (a + c) % 2 = 0) → run g b c wb (if c ≤ 2 then 1 else wa + (a - b + 1) * (wb + 1)) nb db (na + (wa + (a - b + 1) * (wb + 1))) (da + ((a - b + 1) * wb + 1)) = true := by
  cases f with
  | zero => cases h
  | succ f =>
    unfold run at h
    rw [Bool.and_eq_true, Bool.or_eq_true, Bool.and_eq_true] at h
    obtain ⟨_, h | ⟨h1, h2⟩⟩ := h
    · have := of_decide_eq_true h
      omega
    · obtain ⟨x1, x2, x3, x4, x5, x6, x7, x8, x9, x10⟩ := of_decide_eq_true h1
      refine ⟨f, rfl, x1, x2, x3, x4, x5, x6, x7, x8, x9, x10, fun c hc hp => ?_⟩
      have := List.all_eq_true.mp h2 c (List.mem_range.mpr hc)
      rw [Bool.or_eq_true] at this
      rcases this with y | y
      · have := of_decide_eq_true y
        have := hp this.1
        omega
      · exact y
theorem aK4 {A : List Int} {al : Nat} (t : B7 A A.length) (p : Par al (zp A)) (h : 0 < A.length) : (A.length + 1) % 2 = al % 2 := by
  have h1 := V1 t h
  have h2 : (zp A).f (A.length - 1) ≠ 0 := aJ4 h1
  have h3 : (A.length - 1) % 2 = al % 2 := Classical.byContradiction fun z => h2 (p _ z)
  omega
theorem aU8 {b : Nat} {p : Pf} {c : Rat} (hc : c ≠ 0) (h : Par b (t4 c * p)) : Par b p := fun k hk => by
  have := h k hk
  rw [ad6] at this
  rcases Rat.mul_eq_zero.mp this with y | y
  · exact absurd y hc
  · exact y
theorem aH0 {b : Nat} {p : Pf} (c : Rat) (h : Par b p) : Par b (t4 c * p) := fun k hk => by
  rw [ad6, h k hk]; grind
theorem ao3 {s s4 : Rat} {many : Int} {R0 C : List Int} {W m na da : Nat} (hm : 1 ≤ many) (mb : many.natAbs < 2 ^ m) (rb : ∀ v ∈ R0, Int.natAbs v < 2 ^ W) (s0 : s ≠ 0) (s40 : s4 ≠ 0) (g : C ≠ [] → q8 C = 1) (tC : B7 C C.length) (hC : C ≠ []) (sn : s.num.natAbs < 2 ^ na) (sd : s.den < 2 ^ da) (e : scl s4 C = scl (s / (many : Rat)) R0) : s4.num.natAbs < 2 ^ (na + W) ∧ s4.den < 2 ^ (da + m) := by
  have mi : (many : Int) ≠ 0 := by omega
  have mq : (many : Rat) ≠ 0 := fun w => mi (Rat.intCast_inj.mp (by rw [w, Rat.intCast_zero]))
  have eC : ∀ k, s4 * zc C k = s * (many : Rat)⁻¹ * zc R0 k := fun k => by
    have h1 := congrFun (congrArg aQ e) k
    rw [ar8, ar8] at h1
    dsimp only at h1
    rw [Rat.div_def] at h1
    exact h1
  have mR := Rat.mul_inv_cancel _ mq
  have sR := Rat.mul_inv_cancel _ s0
  obtain ⟨gg, hg⟩ := aD5 (b := s4 * (many : Rat) * s⁻¹) (g hC) (s := fun k => aZ R0 k) fun k => by
    have h2 := eC k
    show zc R0 k = _
    generalize (many : Rat)⁻¹ = u at *
    generalize (many : Rat) = m at *
    generalize s⁻¹ = v at *
    grind
  have hRg : ∀ k, aZ R0 k = gg * aZ C k := fun k => Rat.intCast_inj.mp (by
    have h2 := eC k
    rw [Rat.intCast_mul, ← hg]
    show zc R0 k = _ * zc C k
    generalize (many : Rat)⁻¹ = u at *
    generalize (many : Rat) = m at *
    generalize s⁻¹ = v at *
    grind)
  have cpos : 0 < C.length := List.length_pos_iff.mpr hC
  have gb : gg.natAbs < 2 ^ W := by
    have h1 := aM0 rb (C.length - 1)
    rw [hRg, Int.natAbs_mul] at h1
    have h2 := V1 tC cpos
    exact Nat.lt_of_le_of_lt (Nat.le_mul_of_pos_right _ (by omega)) h1
  obtain ⟨q, hq, qn, qd⟩ := av4 (s := s) (g := gg) mi
  have e4 : s4 = q := by
    rw [hq, ← hg]
    generalize (many : Rat)⁻¹ = u at *
    generalize (many : Rat) = m at *
    generalize s⁻¹ = v at *
    grind
  rw [e4]
  refine ⟨Nat.lt_of_le_of_lt qn ?_, Nat.lt_of_le_of_lt qd ?_⟩
  · have := Nat.mul_lt_mul'' sn gb
    rw [← Nat.pow_add] at this
    exact this
  · have := Nat.mul_lt_mul'' sd mb
    rw [← Nat.pow_add] at this
    exact this
theorem av5 {s t : Rat} {many : Int} {m na da nb db : Nat} (hm : 1 ≤ many) (mb : many.natAbs < 2 ^ m) (t0 : t ≠ 0) (sn : s.num.natAbs < 2 ^ na) (sd : s.den < 2 ^ da) (tn : t.num.natAbs < 2 ^ nb) (td : t.den < 2 ^ db) : (s / (many : Rat) / t).num.natAbs < 2 ^ (na + db) ∧ (s / (many : Rat) / t).den < 2 ^ (da + m + nb) := by
  have mi : (many : Int) ≠ 0 := by omega
  have tn0 : t.num ≠ 0 := fun w => t0 (Rat.num_eq_zero.mp w)
  obtain ⟨q, hq, qn, qd⟩ := av4 (s := s) (g := (t.den : Int)) (many := many * t.num) (Int.mul_ne_zero mi tn0)
  have e : s / (many : Rat) / t = q := by
    rw [hq, Rat.div_def, Rat.div_def, Rat.intCast_mul, Rat.inv_mul_rev]
    have h4 : t⁻¹ = ((t.den : Int) : Rat) * (t.num : Rat)⁻¹ := by
      have h5 : t = (t.num : Rat) * (t.den : Rat)⁻¹ := by
        have := Rat.num_divInt_den t
        rw [Rat.divInt_eq_div, Rat.div_def] at this
        exact this.symm
      conv => lhs; rw [h5]
      rw [Rat.inv_mul_rev, Rat.inv_inv, Rat.intCast_natCast]
    rw [h4]; grind
  rw [e]
  rw [Int.natAbs_natCast] at qn
  rw [Int.natAbs_mul] at qd
  refine ⟨Nat.lt_of_le_of_lt qn ?_, Nat.lt_of_le_of_lt qd ?_⟩
  · have := Nat.mul_lt_mul'' sn td
    rw [← Nat.pow_add] at this
    exact this
  · have h1 := Nat.mul_lt_mul'' mb tn
    rw [← Nat.pow_add] at h1
    have h2 := Nat.mul_lt_mul'' sd h1
    rw [← Nat.pow_add, ← Nat.add_assoc] at h2
    exact h2
theorem aT1 {s : Rat} {ws : List Int} {n W : Nat} (sn : s.num.natAbs < 2 ^ n) (hw : ∀ v ∈ ws, Int.natAbs v < 2 ^ W) : ∀ x ∈ scl s ws, OvB s.den (n + W) x := fun x hx => by
  unfold scl at hx
  obtain ⟨v, hv, rfl⟩ := List.mem_map.mp hx
  refine ⟨s.num * v, ?_, ?_⟩
  · have h5 : s = (s.num : Rat) * (s.den : Rat)⁻¹ := by
      have := Rat.num_divInt_den s
      rw [Rat.divInt_eq_div, Rat.div_def] at this
      exact this.symm
    rw [Rat.divInt_eq_div, Rat.div_def, Rat.intCast_mul, Rat.intCast_natCast]
    conv => lhs; rw [h5]
    grind
  · rw [Int.natAbs_mul, Nat.pow_add]
    exact Nat.mul_lt_mul'' sn (hw v hv)
structure EB (f wa wb na da nb db al : Nat) (s t : Rat) (A B : List Int) : Prop where
  ok : run f A.length B.length wa wb na da nb db = true
  wA : ∀ v ∈ A, Int.natAbs v < 2 ^ wa
  wB : ∀ v ∈ B, Int.natAbs v < 2 ^ wb
  sn : s.num.natAbs < 2 ^ na
  sd : s.den < 2 ^ da
  tn : B ≠ [] → t.num.natAbs < 2 ^ nb
  td : B ≠ [] → t.den < 2 ^ db
  w1 : 1 ≤ wa ∧ 1 ≤ wb
  gB : B ≠ [] → q8 B = 1
  tA : B7 A A.length
  tB : B7 B B.length
  lB : B.length < A.length
  s0 : s ≠ 0
  t0 : t ≠ 0
  pA : Par al (zp A)
  pB : Par (al + 1) (zp B)
theorem EB.step {f wa wb na da nb db al : Nat} {s t s4 : Rat} {A B Qz R0 Rz : List Int} {many : Int} {m : Nat} (X : EB f wa wb na da nb db al s t A B) (hB : B ≠ []) (hm : 1 ≤ many) (mb : many.natAbs < 2 ^ ((A.length - B.length + 1) * wb + 1)) (rb : ∀ v ∈ R0, Int.natAbs v < 2 ^ (wa + (A.length - B.length + 1) * (wb + 1))) (rz : ∀ v ∈ Rz, Int.natAbs v < 2 ^ (wa + (A.length - B.length + 1) * (wb + 1))) (s40 : s4 ≠ 0) (tR : B7 Rz Rz.length) (lR : Rz.length < B.length) (g : Rz ≠ [] → q8 Rz = 1) (e : scl s4 Rz = scl (s / (many : Rat)) R0) (dQ : Dg (t4 (s / (many : Rat) / t) * zp Qz).f m) (id : t4 s * zp A = t4 (s / (many : Rat) / t) * zp Qz * (t4 t * zp B) + t4 s4 * zp Rz) :
    ∃ f' wc nc dc, EB f' wb wc nb db nc dc (al + 1) t s4 B Rz ∧ Par 1 (t4 (s / (many : Rat) / t) * zp Qz) := by
  have bp := List.length_pos_iff.mpr hB
  obtain ⟨f', rfl, x1, x2, x3, x4, x5, x6, x7, x8, x9, x10, nx⟩ := bf4 X.ok bp
  have hn : (t4 t * zp B).f (B.length - 1) ≠ 0 := fun z => by
    rw [ad6] at z
    rcases Rat.mul_eq_zero.mp z with y | y
    · exact X.t0 y
    · exact aJ4 (V1 X.tB bp) y
  obtain ⟨p1, p2⟩ := bc9 (al := al) (n := B.length - 1) (aH0 s X.pA) (aH0 t X.pB) hn (fun k hk => by rw [ad6, show (zp B).f k = zc B k from rfl, ab9 B k (by omega)]; grind) (fun k hk => by rw [ad6, show (zp Rz).f k = zc Rz k from rfl, ab9 Rz k (by omega)]; grind) dQ id
  have pR := aU8 s40 p2
  have la := aK4 X.tA X.pA (by have := X.lB; omega)
  refine ⟨f', _, _, _, ⟨nx Rz.length lR fun hc => ?_, X.wB, ?_, X.tn hB, X.td hB, fun h => (ao3 hm mb rb X.s0 s40 g tR h X.sn X.sd e).1, fun h => (ao3 hm mb rb X.s0 s40 g tR h X.sn X.sd e).2, ⟨X.w1.2, ?_⟩, g, X.tB, tR, lR, X.t0, s40, X.pB, pR.cong (by omega)⟩, p1⟩
  · have := aK4 tR pR hc
    omega
  · split
    · rename_i h2
      by_cases z : Rz = []
      · rw [z]; simp
      · exact ba8 (g z) h2 pR tR
    · exact rz
  · split
    · exact Nat.le_refl _
    · have := X.w1.1; omega
structure X4 (M : List (List Rat)) (last : List Rat) : Prop where
  m : ∀ L ∈ M, v3 L L.length ∧ 2 ≤ L.length ∧ evZ L = true ∧ L.length ≤ 15
  t : v3 last last.length
  n : last ≠ []
  p : evZ last = true ∨ odZ last = true
  ll : last.length ≤ 15
  lM : M.length ≤ 14
  top : ∃ B, 0 < B ∧ B < 2 ^ 3000 ∧ OvP B 4000 (fld M last M.length).1 ∧ Dg (fld M last M.length).1.f 15
  b : ∀ n, n < M.length → ∃ L B1 B2, M[M.length - 1 - n]? = some L ∧ 0 < B1 ∧ 0 < B2 ∧ B1 * B2 < 2 ^ 3000 ∧ (∀ x ∈ L, OvB B1 4000 x) ∧ OvP B2 4000 (fld M last n).1 ∧ Dg (fld M last n).1.f 15
theorem N4.told {c : Nat} {M : List (List Rat)} {last : List Rat} (R : N4 c M last) : X4 M last := by
  have lp := List.length_pos_iff.mpr R.n
  have hs := R.s
  have edn : ∀ n, n ≤ M.length → dn M last n + 1 ≤ 15 := fun n hn => by
    have := R.sum hn
    unfold dn; omega
  refine ⟨fun L hL => ⟨(R.m L hL).1, (R.m L hL).2.1, (R.m L hL).2.2.1, R.l15 hL⟩, R.t, R.n, R.p, by omega, R.len, ?_, fun n hn => ?_⟩
  · obtain ⟨B, B0, hB, o1, _⟩ := am4 R M.length (Nat.le_refl _)
    have ub := R.ub (n := M.length) (Nat.le_refl _)
    exact ⟨B, B0, Nat.lt_of_lt_of_le hB (d4 (by omega)), o1.mono (by omega), fun k hk => (ae6 R M.length (Nat.le_refl _)).1 k (by have := edn M.length (Nat.le_refl _); omega)⟩
  · obtain ⟨B, B0, hB, o1, _⟩ := am4 R n (by omega)
    have ub := R.ub (n := n) (by omega)
    obtain ⟨L, hg, hL, _⟩ := R.at hn
    obtain ⟨_, l2, _, oL⟩ := R.m L hL
    have l15 := R.l15 hL
    obtain ⟨c10, c40⟩ := R.c1
    have cl := ar5 oL
    have le : 1 + c * L.length + c ≤ 641 := by
      have := Nat.mul_le_mul c40 l15
      omega
    have cl' := cl.mono le
    refine ⟨L, j3 L, B, hg, z7 _, B0, ?_, fun x hx => (az4 cl' hx).mono (by omega), o1.mono (by omega), fun k hk => (ae6 R n (by omega)).1 k (by have := edn n (by omega); omega)⟩
    have h1 : j3 L * B < 2 ^ 641 * 2 ^ Ub c (dn M last n) := Nat.mul_lt_mul'' cl'.l hB
    rw [← Nat.pow_add] at h1
    exact Nat.lt_of_lt_of_le h1 (d4 (by omega))
theorem X4.last {M : List (List Rat)} {last : List Rat} (T : X4 M last) : ∃ B, 0 < B ∧ B < 2 ^ 3000 ∧ OvP B 4000 (qp last) := by
  rcases Nat.eq_zero_or_pos M.length with z | z
  · obtain ⟨B, B0, hB, o, _⟩ := T.top
    rw [z] at o
    exact ⟨B, B0, hB, o⟩
  · obtain ⟨L, B1, B2, _, h1, h2, h3, _, o, _⟩ := T.b 0 z
    exact ⟨B2, h2, Nat.lt_of_le_of_lt (Nat.le_mul_of_pos_left _ h1) h3, o⟩
theorem X4.row {M : List (List Rat)} {last : List Rat} (T : X4 M last) {L : List Rat} (h : L ∈ M) : ∃ B, 0 < B ∧ B < 2 ^ 3000 ∧ ∀ x ∈ L, OvB B 4000 x := by
  obtain ⟨i, hi, e⟩ := List.getElem_of_mem h
  obtain ⟨L', B1, B2, hg, h1, h2, h3, o, _⟩ := T.b (M.length - 1 - i) (by omega)
  rw [show M.length - 1 - (M.length - 1 - i) = i by omega, List.getElem?_eq_getElem hi, e] at hg
  cases hg
  exact ⟨B1, h1, Nat.lt_of_le_of_lt (Nat.le_mul_of_pos_right _ h2) h3, o⟩
section
variable {P : Program} {w : World} {K : PySem.W.Frag} {mg : Str → Option Value} {base : Heap}
def bf2 (K : PySem.W.Frag) : Sp := fun vs H Q _ => ∃ (a b : Addr) (s1 s2 : Rat) (one other : List Int) (n S W1 W2 : Nat), vs = [.ref a, .ref b] ∧ be5 K H a s1 one ∧ be5 K H b s2 other ∧ one.length ≤ 30 ∧ other.length = n + 1 ∧ n ≤ 30 ∧ aZ other n ≠ 0 ∧ B7 one one.length ∧ one.length ≤ n + S ∧ (∀ v ∈ one, Int.natAbs v < 2 ^ W1) ∧ (∀ v ∈ other, Int.natAbs v < 2 ^ W2) ∧ 1 ≤ W1 ∧ 1 ≤ W2 ∧ W1 + S * (W2 + 1) + W2 ≤ 2900 ∧ BdN W1 s1 ∧ s1 ≠ 0 ∧ BdN W2 s2 ∧ s2 ≠ 0 ∧
  ∀ r t1 t2 r1 r2 lq lr s3 s4 Qz Rz H', d5 H H' → H lq = none → H lr = none → H' r = some (.tup [.ref t1, .ref t2]) → H' t1 = some (.tup [.ref r1, .ref lq]) → H' t2 = some (.tup [.ref r2, .ref lr]) → SqT K H' r1 (w9 s3) → SqT K H' r2 (w9 s4) → H' lq = some (.lst (Qz.map V.int)) → H' lr = some (.lst (Rz.map V.int)) →
    s3 ≠ 0 → s4 ≠ 0 → BdN 2901 s3 → (∀ v ∈ Qz, Int.natAbs v < 2 ^ 2900) → Rz.length ≤ n → B7 Rz Rz.length → B7 Qz Qz.length → Qz.length ≤ one.length → (Rz ≠ [] → q8 Rz = 1) → t4 s1 * zp one = t4 s3 * zp Qz * (t4 s2 * zp other) + t4 s4 * zp Rz → Q (.ref r) H'
def aC9 (K : PySem.W.Frag) : Sp := fun vs H Q _ => ∃ (a b : Addr) (s1 s2 : Rat) (one other : List Int) (n S W1 W2 b1 b2 : Nat), vs = [.ref a, .ref b] ∧ be5 K H a s1 one ∧ be5 K H b s2 other ∧ one.length ≤ 30 ∧ other.length = n + 1 ∧ n ≤ 30 ∧ aZ other n ≠ 0 ∧ B7 one one.length ∧ one.length ≤ n + S ∧ (∀ v ∈ one, Int.natAbs v < 2 ^ W1) ∧ (∀ v ∈ other, Int.natAbs v < 2 ^ W2) ∧ 1 ≤ W1 ∧ W1 + S * (W2 + 1) ≤ 2900 ∧ W2 ≤ 2900 ∧ b1 + (S * W2 + 1) ≤ 2990 ∧ b2 ≤ 2900 ∧ BdN b1 s1 ∧ s1 ≠ 0 ∧ BdN b2 s2 ∧ s2 ≠ 0 ∧
  ∀ r t1 t2 r1 r2 lq lr s4 many Qz R0 Rz H', d5 H H' → H lq = none → H lr = none → H' r = some (.tup [.ref t1, .ref t2]) → H' t1 = some (.tup [.ref r1, .ref lq]) → H' t2 = some (.tup [.ref r2, .ref lr]) → SqT K H' r1 (w9 (s1 / ((many : Int) : Rat) / s2)) → SqT K H' r2 (w9 s4) → H' lq = some (.lst (Qz.map V.int)) → H' lr = some (.lst (Rz.map V.int)) →
    1 ≤ many → many.natAbs < 2 ^ (S * W2 + 1) → (∀ v ∈ R0, Int.natAbs v < 2 ^ (W1 + S * (W2 + 1))) → s1 / ((many : Int) : Rat) / s2 ≠ 0 → s4 ≠ 0 → (∀ v ∈ Qz, Int.natAbs v < 2 ^ (W1 + S * (W2 + 1))) → Rz.length ≤ n → B7 Rz Rz.length → B7 Qz Qz.length → Qz.length = one.length - n → (Rz ≠ [] → q8 Rz = 1) → scl s4 Rz = scl (s1 / ((many : Int) : Rat)) R0 → (∀ v ∈ Rz, Int.natAbs v < 2 ^ (W1 + S * (W2 + 1))) → t4 s1 * zp one = t4 (s1 / ((many : Int) : Rat) / s2) * zp Qz * (t4 s2 * zp other) + t4 s4 * zp Rz → Q (.ref r) H'
set_option maxHeartbeats 0 in
theorem aj1 {f f1 f2 f3 : Addr} (d : Df K mg "form_divided" C1 ["one", "other"] f) (G_whole_divided : Def P w K mg base CX0 2 "whole_divided" f1 ["one", "other"] (bl5 K)) (G_over : Def P w K mg base CX0 3 "over" f2 ["one", "other"] (aS6 K)) (GD_formed : Def P w K mg base CX0 3 "formed" f3 ["scale", "wholes"] (au7 K)) : Def P w K mg base CX0 4 "form_divided" f ["one", "other"] (aC9 K) := by
  have G_formed := GD_formed
  refine d.ok (N := ["one", "other", "scale", "many", "quotient", "rest"]) E9 (by rintro vs H Q E ⟨_, _, _, _, _, _, _, _, _, _, _, _, h, _⟩; rw [h]; rfl) (fun cdv A outer s H vs Q E hr h => ?_)
  obtain ⟨a, b, s1, s2, one, other, n, S, W1, W2, b1, b2, rfl, ⟨ra, la, ta, tsa, tla⟩, ⟨ab, lb, tb, tsb, tlb⟩, hl1, hl2, hn, h0, ht1, hS1, hw1, hw2, w11, hT, hT2, hT3, hT4, bs1, s10, bs2, s20, k⟩ := h
  refine ⟨_, (b8 (G8 (d7 G_whole_divided hr (b0 (j6 p9 (pv 0) b9 (fun _ _ => rfl)) (b0 (j6 p9 (pv 1) b9 (fun _ _ => rfl)) b6)) g8) (show PG _ _ (O5 K 3 (t5 (p7 3) (t5 (p7 4) (t5 (p7 5) O6)))) from by (refine D8 (n := 3) ?_ ?_ ?_ ?_; rfl; (refine i4 ?_ ?_ ?_; (exact (g6 (i := 3) E9.nd rfl (Or.inl rfl))); (refine i4 ?_ ?_ ?_; (exact (g6 (i := 4) E9.nd rfl (Or.inl rfl))); (refine i4 ?_ ?_ ?_; (exact (g6 (i := 5) E9.nd rfl (Or.inl rfl))); (exact B3); rfl); rfl); rfl); rfl; rfl)))
      (b8 (g7 (i := 2) E9.nd rfl (Or.inl rfl) (d7 G_over hr (b0 (j6 p9 (pv 0) b9 (fun _ _ => rfl)) (b0 (v7 (b0 (pv 3) (b0 b9 b6))) b6)) g8))
      (d6 (i3 (v7 (b0 (v7 (b0 (d7 G_over hr (b0 (pv 2) (b0 (j6 p9 (pv 1) b9 (fun _ _ => rfl)) b6)) g8) (b0 (pv 4) b6))) (b0 (d7 G_formed hr (b0 (pv 2) (b0 (pv 5) b6)) g8) b6))))))), ?_⟩
  rw [show start ["one", "other", "scale", "many", "quotient", "rest"] [.ref a, .ref b] = [some (.ref a), some (.ref b), none, none, none, none] from rfl]
  have hSW : S * (W2 + 1) = S * W2 + S := by rw [Nat.mul_succ]
  subst_eqs
  refine ⟨_, ta, _, rfl, _, tb, _, rfl, la, lb, one, other, n, S, W1, W2, rfl, tla, tlb, hl1, hl2, hn, h0, ht1, hS1, hw1, hw2, by omega, by omega, fun r lq lr many Qz Rz H1 s1' fq fr nqr er eq elr m1 mb qb rb rl rt ql qt dv => ?_⟩
  refine ⟨r, rfl, _, SqT.of er, rfl, _, _, rfl, _, _, rfl, _, _, rfl, rfl, ?_⟩
  have mq : (many : Rat) ≠ 0 := fun z => by
    have := congrArg Rat.num z
    rw [Rat.num_intCast] at this
    have h00 : (0 : Rat).num = 0 := rfl
    omega
  have bm : BdN (S * W2 + 1) ((many : Int) : Rat) := aW7 mb (by omega)
  refine ⟨_, s1'.tup ta, _, rfl, v8, fun p hp => ?_⟩
  have S1 := d5.new hp (.tup [.int many, .int 1])
  have ep : (upd H1 p (.tup [.int many, .int 1])) p = some (.tup (w9 ((many : Int) : Rat))) := by
    rw [b7]; unfold w9; rw [Rat.num_intCast, Rat.den_intCast]; rfl
  refine ⟨.ref ra, .ref p, s1, _, rfl, ⟨ra, rfl, (s1'.trans S1).tup tsa⟩, ⟨p, rfl, SqT.of ep⟩, bs1.bd6 (by omega), bm.bd6 (by omega), mq, fun p2 H2 s2' e2 => ?_⟩
  have T2 := (s1'.trans S1).trans s2'
  have b3 : BdN (b1 + (S * W2 + 1)) (s1 / ((many : Int) : Rat)) := by
    rw [Rat.div_def]
    exact (bs1.mul (bm3 mq bm)).mono (by omega)
  have z3 : s1 / ((many : Int) : Rat) ≠ 0 := fun z => by
    rw [Rat.div_def] at z
    have := Rat.mul_inv_cancel _ mq
    generalize ((many : Int) : Rat)⁻¹ = u at *
    generalize ((many : Int) : Rat) = y at *
    exact s10 (by grind)
  refine ⟨_, T2.tup tb, _, rfl, .ref p2, .ref ab, _, s2, rfl, ⟨p2, rfl, SqT.of e2⟩, ⟨ab, rfl, T2.tup tsb⟩, b3.bd6 (by omega), bs2.bd6 (by omega), s20, fun p3 H3 s3' e3 => ⟨v8, fun p4 hp4 => ?_⟩⟩
  have S4 := d5.new hp4 (.tup [.ref p3, .ref lq])
  have T4 := (S1.trans s2').trans (s3'.trans S4)
  refine ⟨.ref p2, _, lr, Rz, W1 + S * (W2 + 1), b1 + (S * W2 + 1), rfl, ⟨p2, rfl, SqT.of (S4 _ _ (s3' _ _ e2))⟩, b3, z3, SqL.of (T4 _ _ elr), rb, by omega, by omega, by omega, rt, fun r5 rs5 l5 s5 ws5 H5 s5' f5 e5 es5 el5 b5 z5 wb5 wl5 eq5 g5 => ⟨v8, fun p6 hp6 => ?_⟩⟩
  have S6 := d5.new hp6 (.tup [.ref p4, .ref r5])
  have T6 := s5'.trans S6
  have z30 : s1 / ((many : Int) : Rat) / s2 ≠ 0 := fun z => by
    rw [Rat.div_def _ s2] at z
    rcases Rat.mul_eq_zero.mp z with y | y
    · exact z3 y
    · have := Rat.mul_inv_cancel _ s20
      rw [y] at this
      have e0 : s2 * 0 = 0 := by grind
      rw [e0] at this
      exact absurd this (by decide)
  have tz5 : B7 ws5 ws5.length := tzB z5 rfl (by rw [eq5]; exact tlB z3 rt)
  have idt : t4 ((many : Int) : Rat) * zp one = zp Qz * zp other + zp Rz := Pf.ext fun k => by
    rw [ad6, V8, aU3]
    exact dv k
  have c1 : t4 (s1 / ((many : Int) : Rat)) * t4 ((many : Int) : Rat) = t4 s1 := by
    rw [← aU9, Rat.div_def]
    have := Rat.mul_inv_cancel _ mq
    congr 1
    generalize ((many : Int) : Rat)⁻¹ = y at *
    generalize ((many : Int) : Rat) = m at *
    grind
  have c2 : t4 (s1 / ((many : Int) : Rat) / s2) * t4 s2 = t4 (s1 / ((many : Int) : Rat)) := by
    rw [← aU9, Rat.div_def _ s2]
    have := Rat.mul_inv_cancel _ s20
    congr 1
    generalize s2⁻¹ = y at *
    generalize s1 / ((many : Int) : Rat) = m at *
    grind
  have c3 : t4 s5 * zp ws5 = t4 (s1 / ((many : Int) : Rat)) * zp Rz := by rw [← G6, eq5, G6]
  refine k p6 p4 r5 p3 rs5 lq l5 s5 many Qz Rz ws5 _ (s1'.trans (T4.trans T6)) fq ((s1'.trans T4).free f5) b7 (T6 _ _ b7) (S6 _ _ e5) (SqT.of (T6 _ _ (S4 _ _ e3))) (S6.tup es5) (T6 _ _ (T4 _ _ eq)) (S6 _ _ el5) m1 mb rb z30 z5 qb (by omega) tz5 qt ql g5 eq5 wb5 ?_
  rw [c3, ← c1]
  generalize t4 (s1 / ((many : Int) : Rat) / s2) = A at *
  generalize t4 (s1 / ((many : Int) : Rat)) = B at *
  generalize t4 ((many : Int) : Rat) = C at *
  grind
theorem bc5 {vs : List V} {H : Hp} {Q : VK} {E : XK} (h : bf2 K vs H Q E) : aC9 K vs H Q E := by
  obtain ⟨a, b, s1, s2, one, other, n, S, W1, W2, rfl, h1, h2, h3, h4, h5, h6, h7, h8, h9, h10, h11, h12, h13, h14, h15, h16, h17, k⟩ := h
  have hSW : S * (W2 + 1) = S * W2 + S := by rw [Nat.mul_succ]
  refine ⟨a, b, s1, s2, one, other, n, S, W1, W2, W1, W2, rfl, h1, h2, h3, h4, h5, h6, h7, h8, h9, h10, h11, by omega, by omega, by omega, by omega, h14, h15, h16, h17, fun r t1 t2 r1 r2 lq lr s4 many Qz R0 Rz H' S' fq fr er et1 et2 es1 es2 eq elr m1 mb rb s30 s40 qb rl rt qt ql g e4 _ id => ?_⟩
  have q3 := av5 (s := s1) (t := s2) m1 mb h17 h14.n h14.d h16.n h16.d
  exact k r t1 t2 r1 r2 lq lr _ s4 Qz Rz H' S' fq fr er et1 et2 es1 es2 eq elr s30 s40 ⟨Nat.lt_of_lt_of_le q3.1 (d4 (by omega)), Nat.lt_of_lt_of_le q3.2 (d4 (by omega))⟩ (fun v hv => Nat.lt_of_lt_of_le (qb v hv) (d4 (by omega))) rl rt qt (by omega) g id
end
section
variable {P : Program} {w : World} {K : PySem.W.Frag} {mg : Str → Option Value} {base : Heap}
def aS5 (K : PySem.W.Frag) : Sp := fun vs H Q _ => ∃ a xs qs, vs = [.ref a] ∧ SqL K H a xs ∧ B4 K H xs qs ∧ ∀ m r, v3 qs m → H r = none → Q (.ref r) (upd H r (.lst (xs.take m)))
abbrev ad3 : Stmt := top 40
theorem ay6 : i5 ["numbers", "many"] ["numbers"] (d3 ad3) := by clean_wf
set_option maxHeartbeats 0 in
theorem ba9 {f aN : Addr} (d : Df K mg "poly" ad3 ["numbers"] f) (c_NOUGHT : mg "NOUGHT" = some (.ref aN)) (tN : ∀ H, SqT K H aN (w9 0)) (n_len : mg "len" = none) : Def P w K mg base CX0 1 "poly" f ["numbers"] (aS5 K) := by
  refine d.ok (N := ["numbers", "many"]) ay6 (fun vs H Q E ⟨a, xs, qs, h, _⟩ => by rw [h]; rfl) (fun cdv A outer s H vs Q E hr h => ?_)
  obtain ⟨a, xs, qs, rfl, hS, hN, k⟩ := h
  have hu := hr.units
  refine ⟨_, (b8 (g7 (i := 1) ay6.nd rfl (Or.inl rfl) (d9 j2 rfl n_len (by decide +kernel) (b0 (pv 0) b6)))
      (b8 (O4 PassesOwn.never (PW.pt (az1 (G7 (pv 1) (fun _ => rfl)) (am2 (j5 (ad9 hu) (j6 w5 (pv 0) (e8 O7 (pv 1) b9) (fun _ _ => rfl)) (v9 (v := .ref _) rfl c_NOUGHT rfl) (j7 _))))) (d6 (aG9 (i := 1) ay6.nd rfl (Or.inl rfl) b9 aI3)))
      (d6 (i3 (M5 P2 (pv 0) P6 (P5 (pv 1))))))), ?_⟩
  rw [show start ["numbers", "many"] [.ref a] = [some (.ref a), none] from rfl]
  subst_eqs
  refine ⟨_, .inl hS, ?_⟩
  refine T9 (fun σ H1 => H1 = H ∧ ∃ m : Nat, σ = [some (.ref a), some (.int m)] ∧ m ≤ qs.length ∧ (∀ (i : Nat) (q : Rat), m ≤ i → qs[i]? = some q → q = 0)) (fun σ H1 => match σ with | [_, some (.int y)] => y.toNat | _ => 0)
    ⟨rfl, qs.length, by rw [hN.length], Nat.le_refl _, fun i q hi e => by rw [List.getElem?_eq_none hi] at e; cases e⟩ ?_
  rintro σ H1 ⟨rfl, m, rfl, hm, hz⟩
  simp! [aa2]
  have fin : (m ≠ 0 → ∀ q, qs[m - 1]? = some q → q ≠ 0) → ∀ p, H1 p = none → Q (.ref p) (upd H1 p (.lst (Z8 xs none (some (m : Int))))) := fun hl p hp => by
    rw [ar4 xs (by rw [hN.length]; exact hm)]
    exact k m p ⟨hm, hz, hl⟩ hp
  refine z8 (fun h0 => ?_) (fun h0 => ?_)
  · have h0' : m ≠ 0 := fun z => by subst z; simp at h0
    have hlt : m - 1 < qs.length := by omega
    obtain ⟨pv, hv, hpv⟩ := hN.get (List.getElem?_eq_getElem hlt)
    have ei : ((m : Int) - 1) = ((m - 1 : Nat) : Int) := by omega
    rw [ei]
    refine ⟨_, hS, _, S9 hv, ?_⟩
    refine ⟨O8 qs[m - 1], O8 0, rfl, ah5 hpv.sqt, ah5 (tN _), aA1 _ _, aX9 _, ?_⟩
    rw [aF5]
    refine ⟨_, rfl, z8 (fun hn => ?_) (fun hn => ?_)⟩
    · have hn' : qs[m - 1] = 0 := by simpa using hn
      refine WhB.mk ?_
      subst_eqs
      refine WhN.mk ⟨rfl, m - 1, by rw [ei], by omega, fun i q hi e => ?_⟩ ?_
      · by_cases hi' : i = m - 1
        · subst hi'
          rw [List.getElem?_eq_getElem hlt] at e
          cases e
          exact hn'
        · exact hz i q (by omega) e
      · show ((m : Int) - 1).toNat < (m : Int).toNat
        omega
    · refine ⟨_, hS, fin fun _ q e => ?_⟩
      rw [List.getElem?_eq_getElem hlt] at e
      cases e
      intro z
      exact hn (by simp [z])
  · have h0' : m = 0 := by
      by_cases z : m = 0
      · exact z
      · exact absurd (by simp [z]) h0
    exact ⟨_, hS, fin fun h => absurd h0' h⟩
end
section
variable {P : Program} {w : World} {K : PySem.W.Frag} {mg : Str → Option Value} {base : Heap}
def j1 (b : Nat) (ps : List Rat) : List Rat := ps.mapIdx fun j q => if (ps.length - 1 + j) % 2 = b then q else 0
theorem N9 (b : Nat) (ps : List Rat) (i : Nat) : (j1 b ps)[i]? = (ps[i]?).map fun q => if (ps.length - 1 + i) % 2 = b then q else 0 := by
  unfold j1
  rw [List.getElem?_mapIdx]
theorem K1 (b : Nat) (ps : List Rat) : (j1 b ps).length = ps.length := by unfold j1; rw [List.length_mapIdx]
theorem be9 {a D aO : Addr} {xs : List V} {ps : List Rat} {H1 : Hp} {Q : VK} {b : Nat} {te : TE} (hS : SqL K H1 a xs) (hN : m6 H1 xs ps) (hD : H1 D = none) (hl : ps.length ≤ 30) (tO : ∀ H, SqT K H aO (w9 0))
    (hte : ∀ (j : Nat) (p : Addr) (H2 : Hp) (Q2 : VK), j < ps.length → ((ps.length - 1 + j) % 2 = b → Q2 (.ref p) H2) → ((ps.length - 1 + j) % 2 ≠ b → Q2 (.ref aO) H2) → te [some (.int ((xs.length : Int) - 1)), some (.int j), some (.ref p)] H2 Q2)
    (k : ∀ ys H2, d5 H1 H2 → H2 D = some (.lst ys) → B4 K H2 ys (j1 b ps) → Q (.ref D) H2) : ai1 (Ite K a) D [some (V.int ((xs.length : Int) - 1)), none, none] (upd H1 D (.lst [])) (O5 K 2 (t5 (p7 1) (t5 (p7 2) O6))) te Q := by
  have lx := hN.length
  refine bd3 xs (fun i σ H2 => ∃ o1 o2, σ = [some (.int ((xs.length : Int) - 1)), o1, o2] ∧ d5 H1 H2 ∧ ∃ ys, H2 D = some (.lst ys) ∧ B4 K H2 ys ((j1 b ps).take i)) ⟨_, _, rfl, d5.new hD _, [], b7, .nil⟩ (by rintro i σ H2 ⟨_, _, _, s2, _⟩; exact s2.seq hS) ?_ ?_
  · rintro i x σ H2 p1 hx ⟨o1, o2, rfl, s2, ys, e2, n2⟩ hp1
    obtain ⟨p, q, rfl, hq, hpn⟩ := hN.getV hx
    have hi := (List.getElem?_eq_some_iff.mp hx).1
    have s3 := d5.new hp1 (.tup [.int i, .ref p])
    have hm := N9 b ps i
    rw [hq] at hm
    subst_eqs
    refine ⟨_, SqT.of b7, rfl, _, _, rfl, _, _, rfl, rfl, ?_⟩
    have fin : ∀ (p2 : Addr) q2, (j1 b ps)[i]? = some q2 → NmC K (upd H2 p1 (.tup [.int i, .ref p])) p2 q2 → J1 D xs.length (fun i σ H2 => ∃ o1 o2, σ = [some (.int ((xs.length : Int) - 1)), o1, o2] ∧ d5 H1 H2 ∧ ∃ ys, H2 D = some (.lst ys) ∧ B4 K H2 ys ((j1 b ps).take i)) i [some (.int ((xs.length : Int) - 1)), some (.int i), some (.ref p)] (.ref p2) (upd H2 p1 (.tup [.int i, .ref p])) := by
      intro p2 q2 hq2 e6
      have eD := s3 _ _ e2
      refine J1.mk hi eD ?_ ⟨_, _, rfl, (s2.trans s3).over hD _, _, b7, ?_⟩
      · rw [n2.length, List.length_take]
        exact Nat.lt_of_le_of_lt (show _ ≤ 100 by omega) (by decide)
      · rw [List.take_succ, hq2]
        exact ((n2.mono s3.tups).append (.cons e6 .nil)).mono (K9.lst eD)
    refine hte i p _ _ (by omega) (fun h => fin p q ?_ (.inl (s3 _ _ (s2 _ _ hpn)))) (fun h => fin aO 0 ?_ (.inr tO))
    · rw [hm]; show some (if _ then q else 0) = _; rw [if_pos h]
    · rw [hm]; show some (if _ then q else 0) = _; rw [if_neg h]
  · rintro σ H2 ⟨o1, o2, rfl, s2, ys, e2, n2⟩
    rw [lx, ← K1 b ps, List.take_length] at n2
    exact k ys H2 s2 e2 n2
def am0 (K : PySem.W.Frag) : Sp := fun vs H Q _ => ∃ (a : Addr) (xs : List V) (ps : List Rat), vs = [.ref a] ∧ SqL K H a xs ∧ m6 H xs ps ∧ ps.length ≤ 30 ∧
  ∀ r l1 l2 y1 y2 m H', d5 H H' → H l1 = none → H' r = some (.tup [.ref l1, .ref l2]) → H' l1 = some (.lst y1) → H' l2 = some (.lst y2) → B4 K H' y1 (j1 0 ps) → B4 K H' y2 ((j1 1 ps).take m) → v3 (j1 1 ps) m → Q (.ref r) H'
abbrev E3 : Stmt := top 42
theorem S8 : i5 ["p", "lead", "first", "second"] ["p"] (d3 E3) := by clean_wf
set_option maxHeartbeats 0 in
theorem aD7 {f f1 aO : Addr} (d : Df K mg "by_turns" E3 ["p"] f) (G_poly : Def P w K mg base CX0 1 "poly" f1 ["numbers"] (aS5 K)) (c_NOUGHT : mg "NOUGHT" = some (.ref aO)) (tO : ∀ H, SqT K H aO (w9 0)) (n_len : mg "len" = none) (n_enumerate : mg "enumerate" = none) : Def P w K mg base CX0 2 "by_turns" f ["p"] (am0 K) := by
  refine d.ok (N := ["p", "lead", "first", "second"]) S8 (by rintro vs H Q E ⟨_, _, _, h, _⟩; rw [h]; rfl) (fun cdv A outer s H vs Q E hr h => ?_)
  obtain ⟨a, xs, ps, rfl, hS, hN, hl, k⟩ := h
  have hu := hr.units
  refine ⟨_, (b8 (g7 (i := 1) S8.nd rfl (Or.inr rfl) (e8 O7 (d9 j2 rfl n_len (by decide +kernel) (b0 (pv 0) b6)) b9))
      (b8 (V7 (i₀ := 2) S8.nd rfl (Or.inl rfl) (Nc := ["lead", "place", "number"]) (caps := [some 1, none, none]) rfl (W8.of (osc := d3 E3) (N := ["p", "lead", "first", "second"]) (ks := ["lead"]) rfl rfl rfl rfl (G0 rfl F8) (by decide +kernel)) (ab3 rfl n_enumerate (b0 (pv 0) b6)) (fun C s₂ H₂ fp pins => (show PG _ _ (O5 K 2 (t5 (p7 1) (t5 (p7 2) O6))) from by (refine D8 (n := 2) ?_ ?_ ?_ ?_; rfl; (refine i4 ?_ ?_ ?_; (exact (g6 (i := 1) (show List.Nodup (["lead", "place", "number"] : List Str) by decide +kernel) rfl (Or.inl rfl) (Or.inr rfl))); (refine i4 ?_ ?_ ?_; (exact (g6 (i := 2) (show List.Nodup (["lead", "place", "number"] : List Str) by decide +kernel) rfl (Or.inl rfl) (Or.inr rfl))); (exact B3); rfl); rfl); rfl; rfl))) (fun C s₂ H₂ fp pins => (U2 (show PT _ _ (ad0 K _) from by exact (av6 (e8 aV2 (e8 O7 (pv 0) (pv 1)) b9) (fun _ => rfl))) (v9 (v := .ref _) rfl c_NOUGHT rfl) (pv 2))))
      (b8 (V7 (i₀ := 3) S8.nd rfl (Or.inl rfl) (Nc := ["lead", "place", "number"]) (caps := [some 1, none, none]) rfl (W8.of (osc := d3 E3) (N := ["p", "lead", "first", "second"]) (ks := ["lead"]) rfl rfl rfl rfl (G0 rfl F8) (by decide +kernel)) (ab3 rfl n_enumerate (b0 (pv 0) b6)) (fun C s₂ H₂ fp pins => (show PG _ _ (O5 K 2 (t5 (p7 1) (t5 (p7 2) O6))) from by (refine D8 (n := 2) ?_ ?_ ?_ ?_; rfl; (refine i4 ?_ ?_ ?_; (exact (g6 (i := 1) (show List.Nodup (["lead", "place", "number"] : List Str) by decide +kernel) rfl (Or.inl rfl) (Or.inr rfl))); (refine i4 ?_ ?_ ?_; (exact (g6 (i := 2) (show List.Nodup (["lead", "place", "number"] : List Str) by decide +kernel) rfl (Or.inl rfl) (Or.inr rfl))); (exact B3); rfl); rfl); rfl; rfl))) (fun C s₂ H₂ fp pins => (U2 (show PT _ _ (ad0 K _) from by exact (av6 (e8 aV2 (e8 O7 (pv 0) (pv 1)) b9) (fun _ => rfl))) (pv 2) (v9 (v := .ref _) rfl c_NOUGHT rfl))))
      (d6 (i3 (v7 (b0 (pv 2) (b0 (d7 G_poly hr (b0 (pv 3) b6) g8) b6)))))))), ?_⟩
  rw [show start ["p", "lead", "first", "second"] [.ref a] = [some (.ref a), none, none, none] from rfl]
  subst_eqs
  have lx := hN.length
  have par : ∀ j : Nat, j < ps.length → (((xs.length : Int) - 1 - (j : Int)) % 2 != 0) = decide ((ps.length - 1 + j) % 2 = 1) := fun j hj => by
    rw [lx]
    by_cases z : (ps.length - 1 + j) % 2 = 1
    · rw [decide_eq_true z]
      have : ((ps.length : Int) - 1 - (j : Int)) % 2 ≠ 0 := by omega
      simpa using this
    · rw [decide_eq_false z]
      have : ((ps.length : Int) - 1 - (j : Int)) % 2 = 0 := by omega
      rw [this]; rfl
  refine ⟨xs, .inl hS, ⟨_, hS⟩, fun D hD => be9 (b := 0) (aO := aO) hS hN hD hl tO (fun j p H2 Q2 hj h0 h1 => ?_) fun y1 H1 s1 e1 n1 => ?_⟩
  · simp! [aa2]
    rw [bitAnd_m1, par j hj]
    refine z8 (fun z => h1 ?_) (fun z => h0 ?_)
    · have := of_decide_eq_true z
      omega
    · have : ¬ (ps.length - 1 + j) % 2 = 1 := fun y => z (decide_eq_true y)
      omega
  refine ⟨⟨_, s1.seq hS⟩, fun D2 hD2 => be9 (b := 1) (aO := aO) (s1.seq hS) (hN.mono s1.tups) hD2 hl tO (fun j p H2 Q2 hj h0 h1 => ?_) fun y2 H2 s2 e2 n2 => ?_⟩
  · simp! [aa2]
    rw [bitAnd_m1, par j hj]
    refine z8 (fun z => h0 (of_decide_eq_true z)) (fun z => h1 fun y => z (decide_eq_true y))
  refine ⟨D2, y2, j1 1 ps, rfl, SqL.of e2, n2, fun m r tm hr' => ⟨v8, fun p hp => ?_⟩⟩
  have X1 := d5.new hr' (.lst (y2.take m))
  have X2 := d5.new hp (.tup [.ref D, .ref r])
  have X := X1.trans X2
  exact k p D r y1 (y2.take m) m _ (s1.trans (s2.trans X)) hD b7 (X _ _ (s2 _ _ e1)) (X2 _ _ b7) (n1.mono (s2.trans X).tups) ((n2.take m).mono X.tups) tm
end
section
variable {P : Program} {w : World} {K : PySem.W.Frag} {mg : Str → Option Value} {base : Heap}
abbrev K8 : Stmt := top 48
theorem O1 : i5 ["_law_top", "_law_bottom", "_law_one", "_law_other_here"] ["_law_top", "_law_bottom"] (d3 K8) := by clean_wf
theorem aD9 {f : Addr} (d : Df K mg "_law_low" K8 ["_law_top", "_law_bottom"] f) (n_abs : mg "abs" = none) : Def P w K mg base CX0 1 "_law_low" f ["_law_top", "_law_bottom"] au6 := by
  refine d.ok (N := ["_law_top", "_law_bottom", "_law_one", "_law_other_here"]) O1 (fun vs H Q E ⟨a, b, h, _⟩ => by rw [h]; rfl) (fun cdv A outer s H vs Q E hr h => ?_)
  obtain ⟨t, b, rfl, hb0, hb, k⟩ := h
  refine ⟨_, (b8 (g7 (i := 2) O1.nd rfl (Or.inl rfl) (d9 U8 rfl n_abs (by decide +kernel) (b0 (pv 0) b6)))
      (b8 (g7 (i := 3) O1.nd rfl (Or.inl rfl) (d9 U8 rfl n_abs (by decide +kernel) (b0 (pv 1) b6)))
      (b8 (O4 PassesOwn.never (j5 ap2 (pv 3) b9 (j7 _)) (d6 (X8 (i := 2) (j := 3) rfl O1.nd rfl rfl (by decide) rfl rfl (b0 (pv 3) (b0 (e8 J2 (pv 2) (pv 3)) b6)) rfl)))
      (b8 (C2 (j5 ap1 (pv 1) b9 (j7 _)) (d6 (g7 (i := 2) O1.nd rfl (Or.inl rfl) (e8 O7 b9 (pv 2)))) t3)
      (d6 (i3 (v7 (b0 (e8 B8 (pv 0) (pv 2)) (b0 (e8 B8 (pv 1) (pv 2)) b6))))))))), ?_⟩
  rw [show start ["_law_top", "_law_bottom", "_law_one", "_law_other_here"] [.int t, .int b] = [some (.int t), some (.int b), none, none] from rfl]
  subst_eqs
  refine aB5 (fun σ H1 => H1 = H ∧ ∃ x y : Int, σ = [some (.int t), some (.int b), some (.int x), some (.int y)] ∧ 0 ≤ x ∧ 0 ≤ y ∧ Int.gcd x y = Int.gcd t b) (fun σ _ => match σ with | [_, _, _, some (.int y)] => y.natAbs | _ => 0)
    ⟨rfl, _, _, rfl, by split <;> omega, by split <;> omega, ?_⟩ ?_ ?_
  · have e1 : (if t < 0 then -t else t) = (t.natAbs : Int) := by split <;> omega
    have e2 : (if b < 0 then -b else b) = (b.natAbs : Int) := by split <;> omega
    rw [e1, e2, Int.gcd_eq_natAbs_gcd_natAbs, Int.gcd_eq_natAbs_gcd_natAbs]; simp
  · rintro σ H1 ⟨rfl, x, y, rfl, hx, hy, hg⟩
    subst_eqs
    split
    · rename_i hy0
      exact ⟨by omega, hy, Int.fmod_nonneg_of_pos x hy0, by rw [aF4]; exact hg, Y9 x (by omega)⟩
    · rename_i hy0
      have hy' : y = 0 := by omega
      subst hy'
      have ex : x = (Int.gcd t b : Int) := by
        rw [Int.gcd_zero_right] at hg
        omega
      have gp := J3 (t := t) hb0
      have gl := aq1 (a := t) hb0 hb
      by_cases hs : b < 0
      · rw [if_pos hs]
        obtain ⟨e1, e2⟩ := aA3 (t := t) (g := 0 - x) hb0 (by rw [if_pos hs, ex]; omega)
        have dv : ∀ i, as1 i (0 - x) := fun i => P1 (by omega) (by rw [show 0 - x = -x by omega, Int.natAbs_neg, ex]; exact M0 gl)
        refine ⟨dv _, dv _, v8, fun r hr' => ?_⟩
        exact k r _ (d5.new hr' _) (by rw [b7]; unfold w9; rw [e1, e2])
      · rw [if_neg hs]
        obtain ⟨e1, e2⟩ := aA3 (t := t) (g := x) hb0 (by rw [if_neg hs, ex])
        have dv : ∀ i, as1 i x := fun i => P1 (by omega) (by rw [ex]; exact M0 gl)
        refine ⟨dv _, dv _, v8, fun r hr' => ?_⟩
        exact k r _ (d5.new hr' _) (by rw [b7]; unfold w9; rw [e1, e2])
  · intro σ H1 Q1 Q2 hQ h
    simp only [aW8, ipM, ad0, aN6, af3, V4, aC0, aT5, aC2, tSl, aB7, af2, aT4, aT6, ag6, aF2, M2, List.map_cons, List.map_nil, Option.bind_none, Option.bind_some, Option.join_some, aM6, aS1, aS4, tOr, aR9, am7, tB, tOp, tUn, aN0, tBM, Q3, tC, tCB, aM7, aG5, p7, aX3, O5, t5, O6, U0, am9, aM8, aM5, aS0, tIf, aC3, aR8, aB8, aM9, ai3, aC1, aB9, ao0, am8, aS3, ipI, rI, rI0, rU, ag5, aD3, aN7, aD2, rEq, rNe, ao7, ao6, ao5, aT7, aT9, aF0, aF1, ae9, cxR, cxX, Cx.nox, Cx.wish, Cx.body, Cx.suite, List.getElem?_cons_zero, List.getElem?_cons_succ, List.set_cons_zero, List.set_cons_succ, Option.some.injEq, V.int.injEq, V.bl.injEq, V.ref.injEq, V.str.injEq, exists_eq_left', exists_eq_left, exists_and_left, true_and, and_true, List.cons.injEq, reduceCtorEq, Bool.false_eq_true, if_false, if_true, exists_const, ↓reduceIte, tyV, List.length_cons, List.length_nil, exists_eq, List.append_nil, List.cons_append, List.nil_append, decide_eq_true_eq, not_true_eq_false, not_false_eq_true, Bool.not_eq_true', decide_eq_false_iff_not, Bool.not_true, Bool.not_false, and_assoc, false_and, false_or, or_false] at h ⊢
    obtain ⟨v, e1, i, e2, e3⟩ := h
    exact ⟨v, e1, i, e2, hQ _ _ e3⟩
abbrev K7 : Stmt := top 46
theorem L8 : i5 ["_law_script", "_law_at", "_law_cell", "_law_prime", "_law_great"] ["_law_script", "_law_at"] (d3 K7) := by clean_wf
set_option maxHeartbeats 0 in
theorem aD8 {f : Addr} (d : Df K mg "_law_urn" K7 ["_law_script", "_law_at"] f) (n_len : mg "len" = none) (n_abs : mg "abs" = none) : Def P w K mg base CX0 1 "_law_urn" f ["_law_script", "_law_at"] (bf1 K) := by
  refine d.ok (N := ["_law_script", "_law_at", "_law_cell", "_law_prime", "_law_great"]) L8 (fun vs H Q E ⟨x, y, p, h, _⟩ => by rw [h]; rfl) (fun cdv A outer s H vs Q E hr h => ?_)
  obtain ⟨a, ns, i, rfl, hS, h0, h64, k⟩ := h
  refine ⟨_, (b8 (g7 (i := 2) L8.nd rfl (Or.inl rfl) b9)
      (b8 (C2 (j5 ap1 (pv 1) (d9 j2 rfl n_len (by decide +kernel) (b0 (pv 0) b6)) (j7 _)) (d6 (g7 (i := 2) L8.nd rfl (Or.inl rfl) (j6 w5 (pv 0) (pv 1) (fun _ _ => rfl)))) t3)
      (b8 (g7 (i := 3) L8.nd rfl (Or.inl rfl) (j6 p9 (v7 (b0 b9 (b0 b9 (b0 b9 (b0 b9 (b0 b9 (b0 b9 (b0 b9 (b0 b9 b6))))))))) (e8 J2 (pv 1) b9) (fun _ _ => rfl)))
      (b8 (g7 (i := 4) L8.nd rfl (Or.inl rfl) b9)
      (b8 (C2 (j5 bf6 (d9 U8 rfl n_abs (by decide +kernel) (b0 (pv 2) b6)) (e8 Y7 b9 b9) (j7 _)) (d6 (g7 (i := 4) L8.nd rfl (Or.inl rfl) (d9 U8 rfl n_abs (by decide +kernel) (b0 (pv 2) b6)))) t3)
      (d6 (i3 (u0 (b0 (pv 4) (b0 (e8 J2 (e8 Y7 (e8 C3 (e8 C3 (e8 J2 (pv 2) (pv 3)) (e8 y9 b9 (pv 1))) b9) b9) (pv 3)) (b0 (pv 3) b6))))))))))), ?_⟩
  rw [show start ["_law_script", "_law_at", "_law_cell", "_law_prime", "_law_great"] [.ref a, .int i] = [some (.ref a), some (.int i), none, none, none] from rfl]
  -- behind the first test: any cell
  have main : ∀ c : Int, ∀ g : Int, 0 ≤ g → ∀ (p : Int), 1899992839 ≤ p → p ≤ 1899999979 → ∀ H1, d5 H H1 → 
      (p ≠ 0 ∧ IntMulOk 65537 i ∧ be7 (c.fmod p + 65537 * i + 101) 3 ∧ p ≠ 0 ∧ 3 ≤ sizeLine ∧ ∀ r, H1 r = none → Q (.ref r) (upd H1 r (.lst [.int g, .int (((c.fmod p + 65537 * i + 101) ^ (3 : Int).toNat).fmod p), .int p]))) := by
    intro c g hg p p1 p2 H1 s1
    have m0 := Int.fmod_nonneg_of_pos c (show 0 < p by omega)
    have m1 := Int.fmod_lt_of_pos c (show 0 < p by omega)
    refine ⟨by omega, bi6 (by decide), ⟨by decide, by decide, by omega⟩, by omega, by decide, fun r hr' => ?_⟩
    refine k r _ (s1.trans (d5.new hr' _)) (s1.free hr') ⟨g, _, p, b7, hg, Int.fmod_nonneg_of_pos _ (by omega), ?_, by omega, by omega⟩
    have := Int.fmod_lt_of_pos ((c.fmod p + 65537 * i + 101) ^ (3 : Int).toNat) (show 0 < p by omega)
    omega
  subst_eqs
  refine ⟨_, .inl hS, ?_⟩
  obtain ⟨pr, hpr, p1, p2⟩ := aU2 h0
  split
  · rename_i hl
    obtain ⟨c, hc⟩ := aQ2 (ns := ns) h0 (by simpa using hl)
    refine ⟨_, hS, _, hc, by decide, fun p hp => ⟨by decide, _, SqT.of b7, _, hpr, _, rfl, ⟨by decide, by decide, by decide⟩, ?_⟩⟩
    refine z8 (fun _ => ?_) (fun _ => ?_)
    · obtain ⟨a1, a2, a3, a4, a5, a6⟩ := main c (if c < 0 then -c else c) (by split <;> omega) pr p1 p2 _ (d5.new hp _)
      exact ⟨_, rfl, _, rfl, _, rfl, a1, a2, a3, _, rfl, a4, a5, a6⟩
    · obtain ⟨a1, a2, a3, a4, a5, a6⟩ := main c 0 (by omega) pr p1 p2 _ (d5.new hp _)
      exact ⟨_, rfl, _, rfl, a1, a2, a3, _, rfl, a4, a5, a6⟩
  · refine ⟨by decide, fun p hp => ⟨by decide, _, SqT.of b7, _, hpr, ⟨by decide, by decide, by decide⟩, ?_⟩⟩
    refine z8 (fun hc => ?_) (fun _ => ?_)
    · exact absurd hc (by decide)
    · obtain ⟨a1, a2, a3, a4, a5, a6⟩ := main 0 0 (by omega) pr p1 p2 _ (d5.new hp _)
      exact ⟨_, rfl, a1, a2, a3, _, rfl, a4, a5, a6⟩
abbrev G5 : Stmt := top 47
theorem ag1 : i5 ["_law_urn_here", "_law_many", "_law_drawn_here"] ["_law_urn_here", "_law_many"] (d3 G5) := by clean_wf
set_option maxHeartbeats 0 in
theorem aA0 {f : Addr} (d : Df K mg "_law_draw" G5 ["_law_urn_here", "_law_many"] f) : Def P w K mg base CX0 1 "_law_draw" f ["_law_urn_here", "_law_many"] D7 := by
  refine d.ok (N := ["_law_urn_here", "_law_many", "_law_drawn_here"]) ag1 (fun vs H Q E ⟨x, y, h, _⟩ => by rw [h]; rfl) (fun cdv A outer s H vs Q E hr h => ?_)
  obtain ⟨u, n, rfl, ⟨g, m, p, hu, g0, m0, m1, p0, p1⟩, n0, n1, k⟩ := h
  refine ⟨_, (b8 (C2 (j5 ap2 (j6 w5 (pv 0) b9 (fun _ _ => rfl)) b9 (j7 _)) (b8 (g7 (i := 2) ag1.nd rfl (Or.inl rfl) (e8 J2 (j6 w5 (pv 0) b9 (fun _ _ => rfl)) (pv 1)))
      (b8 (G8 (e8 B8 (j6 w5 (pv 0) b9 (fun _ _ => rfl)) (pv 1)) (ai6 (pv 0) b9 Q5))
      (d6 (i3 (pv 2))))) t3)
      (b8 (G8 (e8 J2 (e8 C3 (e8 y9 (j6 w5 (pv 0) b9 (fun _ _ => rfl)) b9) b9) (j6 w5 (pv 0) b9 (fun _ _ => rfl))) (ai6 (pv 0) b9 Q5))
      (d6 (i3 (e8 J2 (e8 B8 (e8 J2 (e8 Y7 (e8 B8 (j6 w5 (pv 0) b9 (fun _ _ => rfl)) b9) b9) b9) b9) (pv 1)))))), ?_⟩
  rw [show start ["_law_urn_here", "_law_many", "_law_drawn_here"] [.ref u, .int n] = [some (.ref u), some (.int n), none] from rfl]
  have L1 : SqL K H u [.int g, .int m, .int p] := SqL.of hu
  have x0 : ∀ g m p : Int, atI [V.int g, .int m, .int p] 0 = some (.int g) := fun _ _ _ => rfl
  have x1 : ∀ g m p : Int, atI [V.int g, .int m, .int p] 1 = some (.int m) := fun _ _ _ => rfl
  have x2 : ∀ g m p : Int, atI [V.int g, .int m, .int p] 2 = some (.int p) := fun _ _ _ => rfl
  subst_eqs
  have dn : ∀ i, as1 i n := fun i => P1 (by omega) (Nat.lt_of_lt_of_le (show n.natAbs < 2 ^ 40 by omega) (d4 (by decide)))
  refine ⟨_, L1, _, x0 g m p, _, rfl, z8 (fun hg => ?_) (fun hg => ?_)⟩
  · refine ⟨_, L1, _, x0 g m p, _, rfl, by omega, _, L1, _, x0 g m p, _, rfl, dn _, _, hu, 0, rfl, ?_⟩
    exact k _ _ (Int.fmod_nonneg_of_pos _ n0) (Int.fmod_lt_of_pos _ n0) (o0.upd _ _ _) ⟨g.fdiv n, m, p, b7, Int.fdiv_nonneg g0 (by omega), m0, m1, p0, p1⟩
  · have q0 := Int.fmod_nonneg_of_pos (m * 60013 + 12289) p0
    have q1 := Int.fmod_lt_of_pos (m * 60013 + 12289) p0
    have z : SqL K (upd H u (.lst [.int g, .int ((m * 60013 + 12289).fmod p), .int p])) u [.int g, .int ((m * 60013 + 12289).fmod p), .int p] := SqL.of b7
    have d16 : 0 ≤ ((m * 60013 + 12289).fmod p).fdiv 16 ∧ ((m * 60013 + 12289).fmod p).fdiv 16 < 2 ^ 40 := by
      rw [Int.fdiv_eq_ediv_of_nonneg _ (by decide)]
      omega
    refine ⟨_, L1, _, x1 g m p, _, rfl, aw0 (by decide), _, L1, _, x2 g m p, _, rfl, by omega, _, hu, 1, rfl, _, z, _, x1 _ _ _, _, rfl, P1 (by decide) (Nat.lt_of_lt_of_le (show (16 : Int).natAbs < 2 ^ 40 by decide) (d4 (by decide))), ⟨by decide, by decide, by omega⟩, by decide, P1 (by decide) (Nat.lt_of_lt_of_le (show (8 : Int).natAbs < 2 ^ 40 by decide) (d4 (by decide))), by omega, ?_⟩
    exact k _ _ (Int.fmod_nonneg_of_pos _ n0) (Int.fmod_lt_of_pos _ n0) (o0.upd _ _ _) ⟨g, _, p, b7, g0, q0, by omega, p0, p1⟩
abbrev G4 : Stmt := top 51
theorem ay9 : i5 ["_law_urn_here"] ["_law_urn_here"] (d3 G4) := by clean_wf
set_option maxHeartbeats 0 in
theorem az9 {f fd : Addr} (d : Df K mg "_law_kind" G4 ["_law_urn_here"] f) (G__law_draw : Def P w K mg base CX0 1 "_law_draw" fd ["_law_urn_here", "_law_many"] D7) : Def P w K mg base CX0 2 "_law_kind" f ["_law_urn_here"] aG6 := by
  refine d.ok (N := ["_law_urn_here"]) ay9 (fun vs H Q E ⟨u, h, _⟩ => by rw [h]; rfl) (fun cdv A outer s H vs Q E hr h => ?_)
  obtain ⟨u, rfl, hu, k⟩ := h
  refine ⟨_, (d6 (i3 (j6 w5 (u0 (b0 b9 (b0 b9 (b0 b9 (b0 b9 (b0 b9 (b0 b9 (b0 b9 (b0 b9 b6))))))))) (d7 G__law_draw hr (b0 (pv 0) (b0 b9 b6)) g8) (fun _ _ => rfl)))), ?_⟩
  rw [show start ["_law_urn_here"] [.ref u] = [some (.ref u)] from rfl]
  simp! [D7]
  refine ⟨by decide, fun l hl => ⟨A9 hu hl, by decide, by decide, fun r H' r0 r1 sx hu' => ?_⟩⟩
  have e := sx l _ b7 (A6 hu hl)
  have sx' : o0 u H H' := o0.trans (d5.x (d5.new hl _) u) sx
  have h3 : r = 0 ∨ r = 1 ∨ r = 2 ∨ r = 3 ∨ r = 4 ∨ r = 5 ∨ r = 6 ∨ r = 7 := by omega
  rcases h3 with h | h | h | h | h | h | h | h <;> subst h <;> exact ⟨_, SqL.of e, _, rfl, k _ H' (by decide) sx' hu'⟩
abbrev D3 : Stmt := top 52
theorem X6 : i5 ["_law_urn_here", "_law_kind_here", "_law_top"] ["_law_urn_here", "_law_kind_here"] (d3 D3) := by clean_wf
abbrev E4 : Stmt := top 58
theorem as3 : i5 ["_law_thing"] ["_law_thing"] (d3 E4) := by clean_wf
theorem as7 {f : Addr} (d : Df K mg "_law_whole" E4 ["_law_thing"] f) (n_isinstance : mg "isinstance" = none) (n_int : mg "int" = none) (n_bool : mg "bool" = none) : Def P w K mg base CX0 1 "_law_whole" f ["_law_thing"] af4 := by
  refine d.ok (N := ["_law_thing"]) as3 (fun vs H Q E ⟨u, h, _⟩ => by rw [h]; rfl) (fun cdv A outer s H vs Q E hr h => ?_)
  obtain ⟨i, rfl, k⟩ := h
  refine ⟨_, (d6 (i3 (ai7 (d9 j4 rfl n_isinstance (by decide +kernel) (b0 (pv 0) (b0 (W0 (v := .ty "int") rfl n_int (by decide +kernel) rfl) b6))) (ao9 (bh8 (d9 j4 rfl n_isinstance (by decide +kernel) (b0 (pv 0) (b0 (W0 (v := .ty "bool") rfl n_bool (by decide +kernel) rfl) b6)))))))), ?_⟩
  rw [show start ["_law_thing"] [.int i] = [some (.int i)] from rfl]
  subst_eqs
  exact ⟨trivial, _, .of (.int i), _, aE8, bo4 ⟨trivial, _, .of (.int i), _, aA4, k⟩⟩
abbrev A4 : Stmt := top 59
theorem ag0 : i5 ["_law_thing"] ["_law_thing"] (d3 A4) := by clean_wf
set_option maxHeartbeats 0 in
theorem ah1 {f fw fl : Addr} (d : Df K mg "_law_is_number" A4 ["_law_thing"] f) (G__law_whole : Def P w K mg base CX0 1 "_law_whole" fw ["_law_thing"] af4) (G__law_low : Def P w K mg base CX0 1 "_law_low" fl ["_law_top", "_law_bottom"] au6) (n_isinstance : mg "isinstance" = none) (n_tuple : mg "tuple" = none) (n_len : mg "len" = none) :
    Def P w K mg base CX0 2 "_law_is_number" f ["_law_thing"] (aK1 K) := by
  refine d.ok (N := ["_law_thing"]) ag0 (fun vs H Q E ⟨u, q, h, _⟩ => by rw [h]; rfl) (fun cdv A outer s H vs Q E hr h => ?_)
  obtain ⟨x, q, rfl, ⟨ap, rfl, hS⟩, hd, k⟩ := h
  have hu := hr.units
  refine ⟨_, (b8 (C2 (PW.pt (W9 (N0 (T8 (d9 j4 rfl n_isinstance (by decide +kernel) (b0 (pv 0) (b0 (W0 (v := .ty "tuple") rfl n_tuple (by decide +kernel) rfl) b6))))) (W9 (j5 aK6 (d9 j2 rfl n_len (by decide +kernel) (b0 (pv 0) b6)) b9 (j7 _)) (W9 (N0 (T8 (d7 G__law_whole hr (b0 (j6 p9 (pv 0) b9 (fun _ _ => rfl)) b6) g8))) (ad5 (N0 (T8 (d7 G__law_whole hr (b0 (j6 p9 (pv 0) b9 (fun _ _ => rfl)) b6) g8)))))))) (d6 (i3 ac5)) t3)
      (d6 (i3 (ai7 (V9 ap2 (j6 p9 (pv 0) b9 (fun _ _ => rfl)) b9 (j7 _)) (ao9 (V9 (ad9 hu) (d7 G__law_low hr (b0 (j6 p9 (pv 0) b9 (fun _ _ => rfl)) (b0 (j6 p9 (pv 0) b9 (fun _ _ => rfl)) b6)) g8) (pv 0) (j7 _))))))), ?_⟩
  rw [show start ["_law_thing"] [.ref ap] = [some (.ref ap)] from rfl]
  have dq := t7 q
  simp! [af4, aD1]
  refine ⟨trivial, _, .sqt hS, _, ak5, ?_⟩
  simp! [af4, aD1]
  refine ⟨_, .inr hS, ?_⟩
  simp! [af4, aD1, w9]
  refine z8 (fun hh => absurd rfl hh) (fun _ => ?_)
  refine ⟨_, hS, _, at0 q, _, rfl, _, hS, _, at1 q, _, rfl, _, hS, _, at1 q, _, rfl, ?_⟩
  rw [if_pos dq]
  refine ⟨_, hS, _, at0 q, _, hS, _, at1 q, _, _, rfl, by omega, hd, fun r H' sm hr' => ?_⟩
  rw [Rat.num_divInt_den] at hr'
  refine ⟨O8 q, O8 q, rfl, ah5 (SqT.of hr'), ah5 (sm.tup hS), aA1 q q, aX9 q, ?_⟩
  rw [aL3]; exact k H' sm
end
section
variable {P : Program} {w : World} {K : PySem.W.Frag} {mg : Str → Option Value} {base : Heap}
def spOther : Sp := fun vs H Q _ => ∃ u kd, vs = [.ref u, .int kd] ∧ j8 H u ∧ ∀ r q H', Sm q → q ≠ 0 → o0 u H H' → j8 H' u → H' r = some (.tup (w9 q)) → Q (.ref r) H'
abbrev E7 : Stmt := top 53
theorem ac1 : i5 ["_law_urn_here", "_law_kind_here", "_law_found"] ["_law_urn_here", "_law_kind_here"] (d3 E7) := by clean_wf
def ay3 (K : PySem.W.Frag) : Sp := fun vs H Q _ => ∃ a xs qs, vs = [.ref a] ∧ SqL K H a xs ∧ m6 H xs qs ∧ ∀ m r H', v3 qs m → d5 H H' → H r = none → H' r = some (.lst (xs.take m)) → Q (.ref r) H'
abbrev G1 : Stmt := top 54
theorem af8 : i5 ["_law_numbers", "_law_found"] ["_law_numbers"] (d3 G1) := by clean_wf
theorem bb8 {α : Type} {xs : List α} {x : α} (h : xs[xs.length - 1]? = some x) : atI xs (-1) = some x := by
  have hp : xs.length - 1 < xs.length := (List.getElem?_eq_some_iff.mp h).1
  have e : ixN xs.length (-1) = some (xs.length - 1) := by
    unfold ixN
    rw [if_neg (by decide)]
    rw [if_pos (by omega)]
    congr 1
    omega
  unfold atI
  rw [e]
  exact h
set_option maxHeartbeats 0 in
theorem az6 {f : Addr} (d : Df K mg "_law_trim" G1 ["_law_numbers"] f) (n_list : mg "list" = none) : Def P w K mg base CX0 1 "_law_trim" f ["_law_numbers"] (ay3 K) := by
  refine d.ok (N := ["_law_numbers", "_law_found"]) af8 (fun vs H Q E ⟨a, xs, qs, h, _⟩ => by rw [h]; rfl) (fun cdv A outer s H vs Q E hr h => ?_)
  obtain ⟨a, xs, qs, rfl, hS, hN, k⟩ := h
  have hu := hr.units
  refine ⟨_, (b8 (g7 (i := 1) af8.nd rfl (Or.inl rfl) (N2 K0 rfl n_list (by decide +kernel) (b0 (pv 0) b6)))
      (b8 (O4 PassesOwn.never (PW.pt (az1 (j5 (ai9 hu) (pv 1) (u0 b6) (j7 _)) (am2 (j5 X0 (j6 p9 (j6 w5 (pv 1) (X9 P9 b9) (fun _ _ => rfl)) b9 (fun _ _ => rfl)) b9 (j7 _))))) (d6 (P4 (ad8 PySem.F.plainAttrs_list PySem.F.slot_list_pop PySem.F.type_list_pop bi7 (pv 1)))))
      (d6 (i3 (pv 1))))), ?_⟩
  rw [show start ["_law_numbers", "_law_found"] [.ref a] = [some (.ref a), none] from rfl]
  subst_eqs
  refine ⟨_, .inl hS, fun l hl => ?_⟩
  refine T9 (fun σ H1 => σ = [some (.ref a), some (.ref l)] ∧ ∃ m, m ≤ qs.length ∧ (∀ (i : Nat) (q : Rat), m ≤ i → qs[i]? = some q → q = 0) ∧ d5 H H1 ∧ H1 l = some (.lst (xs.take m))) (fun σ H1 => match H1 l with | some (.lst ys) => ys.length | _ => 0)
    ⟨rfl, qs.length, Nat.le_refl _, fun i q hi e => ?_, d5.new hl _, ?_⟩ ?_
  · rw [List.getElem?_eq_none hi] at e; cases e
  · rw [b7, ← hN.length, List.take_length]
  · rintro σ H1 ⟨rfl, m, hm, hz, sm, e1⟩
    have hml : (xs.take m).length = m := by rw [List.length_take, hN.length]; omega
    subst_eqs
    refine ⟨by decide, fun p hp => ?_⟩
    have n1 : m6 H1 (xs.take m) (qs.take m) := (hN.mono sm.tups).take m
    have pl : p ≠ l := (d8 e1 hp).symm
    have e2 : upd H1 p (.lst []) l = some (.lst (xs.take m)) := by rw [e9 pl.symm]; exact e1
    have n2 : m6 (upd H1 p (.lst [])) (xs.take m) (qs.take m) := n1.mono (K9.new hp)
    refine ⟨A5 (qs.take m), A5 [], rfl, A8 (SqL.of e2) n2, A8 (SqL.of b7) .nil, K2 _ _, Nat.le_trans (N6 _) (by decide), ?_⟩
    rw [G9]
    by_cases h0 : m = 0
    · subst h0
      simp only [List.take_zero, decide_true, Bool.not_true, Bool.false_eq_true, if_false]
      refine ⟨false, rfl, z8 (fun h => absurd h (by decide)) fun _ => k 0 l _ ⟨Nat.zero_le _, hz, fun h => absurd rfl h⟩ (sm.trans (d5.new hp _)) hl ?_⟩
      rw [e2]
    · have hlt : m - 1 < qs.length := by omega
      have hne : qs.take m ≠ [] := fun z => by
        have := congrArg List.length z
        rw [List.length_take, List.length_nil] at this
        omega
      simp only [hne, decide_false, Bool.not_false]
      obtain ⟨pv, hv, hpv⟩ := n2.get (i := m - 1) (q := qs[m - 1]) (by rw [List.getElem?_take_of_lt (by omega)]; exact List.getElem?_eq_getElem hlt)
      refine ⟨true, rfl, z8 (fun _ => ?_) (fun h => absurd rfl h)⟩
      refine ⟨_, SqL.of e2, _, bb8 (by rw [hml]; exact hv), _, rfl, _, SqT.of hpv, _, at0 _, rfl, ?_⟩
      refine z8 (fun hn => ?_) (fun hn => ?_)
      · have hn' : qs[m - 1].num = 0 := V.int.inj hn
        refine WhB.mk ?_
        subst_eqs
        refine ⟨.inl ⟨_, SqL.of e2⟩, _, e2, _, by rw [hml]; exact hv, WhN.mk ⟨rfl, m - 1, by omega, fun i q hi e => ?_, (sm.trans (d5.new hp _)).over hl _, ?_⟩ ?_⟩
        · by_cases hi' : i = m - 1
          · subst hi'
            rw [List.getElem?_eq_getElem hlt] at e
            cases e
            exact Q8.mp hn'
          · exact hz i q (by omega) e
        · rw [b7, List.dropLast_eq_take, hml, List.take_take, Nat.min_eq_left (by omega)]
        · rw [b7]
          simp only [e1, List.length_dropLast]
          omega
      · have hn' : qs[m - 1] ≠ 0 := fun z => hn (by rw [z]; rfl)
        exact k m l _ ⟨hm, hz, fun _ q e => by rw [List.getElem?_eq_getElem hlt] at e; cases e; exact hn'⟩ (sm.trans (d5.new hp _)) hl e2
end
section
variable {P : Program} {w : World} {K : PySem.W.Frag} {mg : Str → Option Value} {base : Heap}
def spDrawnPoly : Sp := fun vs H Q _ => ∃ u kd most, vs = [.ref u, .int kd, .int most] ∧ j8 H u ∧ 0 ≤ most ∧ most < 1000 ∧ ∀ r xs qs q H', o0 u H H' → j8 H' u → H r = none → H' r = some (.lst xs) → m6 H' xs (qs ++ [q]) → (∀ p ∈ qs, Sm p) → Sm q → q ≠ 0 → (qs.length : Int) ≤ most → Q (.ref r) H'
abbrev v6 : Stmt := top 57
theorem ad2 : i5 ["_law_urn_here", "_law_kind_here", "_law_most"] ["_law_urn_here", "_law_kind_here", "_law_most"] (d3 v6) := by clean_wf
def aC8 (K : PySem.W.Frag) : Sp := fun vs H Q _ => ∃ a xs qs, vs = [.ref a] ∧ H a = some (.lst xs) ∧ m6 H xs qs ∧ (∀ p ∈ qs, p.den < 2 ^ 6000) ∧ xs.length < 1000 ∧ v3 qs qs.length ∧ ∀ H', d5 H H' → Q (.bl true) H'
abbrev A7 : Stmt := top 60
theorem al5 : i5 ["_law_thing"] ["_law_thing"] (d3 A7) := by clean_wf
set_option maxHeartbeats 0 in
theorem al6 {f fd fn : Addr} (d : Df K mg "_law_is_poly" A7 ["_law_thing"] f) (G__law_is_number : Def P w K mg base CX0 2 "_law_is_number" fd ["_law_thing"] (aK1 K)) (G__law_trim : Def P w K mg base CX0 1 "_law_trim" fn ["_law_numbers"] (ay3 K))
    (n_isinstance : mg "isinstance" = none) (n_list : mg "list" = none) (n_all : mg "all" = none) : Def P w K mg base CX0 3 "_law_is_poly" f ["_law_thing"] (aC8 K) := by
  refine d.ok (N := ["_law_thing"]) al5 (fun vs H Q E ⟨u, kd, mo, h, _⟩ => by rw [h]; rfl) (fun cdv A outer s H vs Q E hr h => ?_)
  obtain ⟨a, xs, qs, rfl, ha, hN, hs, hl, ht, k⟩ := h
  have hu := hr.units
  refine ⟨_, (d6 (i3 (ai7 (d9 j4 rfl n_isinstance (by decide +kernel) (b0 (pv 0) (b0 (W0 (v := .ty "list") rfl n_list (by decide +kernel) rfl) b6))) (ai7 (d9 (aG1 rfl) rfl n_all (by decide +kernel) (b0 (P7 (Nc := ["_law_one"]) (caps := [none]) rfl (W8.of (osc := d3 A7) (N := ["_law_thing"]) (ks := []) rfl rfl rfl rfl F8 (by decide +kernel)) (E8 (pv 0)) (fun C s₂ H₂ fp pins => (g6 (i := 0) (show List.Nodup (["_law_one"] : List Str) by decide +kernel) rfl (Or.inl rfl) (Or.inr rfl))) (fun C s₂ H₂ fp pins => (d7 G__law_is_number hr (b0 (pv 0) b6) g8))) b6)) (ao9 (V9 (ad9 hu) (d7 G__law_trim hr (b0 (pv 0) b6) g8) (pv 0) (j7 _))))))), ?_⟩
  rw [show start ["_law_thing"] [.ref a] = [some (.ref a)] from rfl]
  subst_eqs
  refine ⟨trivial, _, .of (.lst ha), _, ac7, z8 (fun _ => ?_) (fun h => absurd rfl h)⟩
  refine ⟨⟨_, SqL.of ha⟩, fun D hD => ?_⟩
  have hDa : a ≠ D := d8 ha hD
  refine P8 xs (fun i σ H2 => ∃ o, σ = [o] ∧ d5 H H2 ∧ H2 D = some (.lst ((List.replicate i true).map V.bl))) ⟨_, rfl, d5.new hD _, b7⟩ (fun i σ H2 _ ⟨o, _, s2, _⟩ => SqL.of (s2 _ _ ha)) ?_ ?_
  · rintro i x σ H2 hx ⟨o, rfl, s2, e2⟩
    have hi : i < xs.length := (List.getElem?_eq_some_iff.mp hx).1
    obtain ⟨p, q, rfl, hq, hp⟩ := hN.getV hx
    subst_eqs
    have sq := hs q (List.mem_of_getElem? hq)
    refine ⟨_, q, rfl, ⟨p, rfl, SqT.of (s2 _ _ hp)⟩, ?_, fun H3 s3 => ?_⟩
    · rw [Int.natAbs_natCast]
      exact sq
    · refine J1.mk hi (s3 _ _ e2) (by simp; exact Nat.lt_of_lt_of_le (show i < 1000 by omega) (by decide)) ⟨_, rfl, (s2.trans s3).over hD _, ?_⟩
      rw [b7, List.replicate_succ', List.map_append]
      rfl
  · rintro σ H2 ⟨o, rfl, s2, e2⟩
    subst_eqs
    refine ⟨_, SqL.of e2, z8 (fun _ => ?_) (fun h => absurd (by simp) h)⟩
    have n2 := hN.mono s2.tups
    refine ⟨a, xs, qs, rfl, SqL.of (s2 _ _ ha), n2, fun m r H3 tl s3 hr' e3 => ?_⟩
    have em := tl.uniq ht
    subst em
    have et : xs.take qs.length = xs := by rw [← hN.length, List.take_length]
    rw [et] at e3
    refine ⟨A5 qs, A5 qs, rfl, A8 (SqL.of e3) (n2.mono s3.tups), A8 (SqL.of (s3 _ _ (s2 _ _ ha))) (n2.mono s3.tups), K2 _ _, Nat.le_trans (N6 _) (by decide), ?_⟩
    rw [G9]
    simp only [decide_true]
    exact k H3 (s2.trans s3)
end
structure BtN (k : Nat) (q : Rat) : Prop where
  n : q.num.natAbs < 2 ^ 20000
  d : q.den < 2 ^ k
theorem BtN.d' {n : Nat} {q : Rat} (b : BtN n q) : (q.den : Int).natAbs < 2 ^ n := by rw [Int.natAbs_natCast]; exact b.d
theorem BtN.zero {n : Nat} (h : 1 ≤ n) : BtN n 0 := ⟨Nat.two_pow_pos _, Nat.lt_of_lt_of_le (show 1 < 2 ^ 1 by decide) (d4 h)⟩
theorem m6.set {H : Hp} : ∀ {vs : List V} {qs : List Rat} (k : Nat) {p : Addr} {q : Rat}, m6 H vs qs → H p = some (.tup (w9 q)) → m6 H (vs.set k (.ref p)) (qs.set k q)
  | _, _, _, _, _, .nil, _ => .nil
  | _, _, 0, _, _, .cons _ t, h => .cons h t
  | _, _, k + 1, _, _, .cons h' t, h => .cons h' (t.set k h)
theorem m6.rep {H : Hp} {p : Addr} {q : Rat} (h : H p = some (.tup (w9 q))) : ∀ n, m6 H (List.replicate n (.ref p)) (List.replicate n q)
  | 0 => .nil
  | n + 1 => .cons h (m6.rep h n)
section
variable {P : Program} {w : World} {K : PySem.W.Frag} {mg : Str → Option Value} {base : Heap}
def ao2 (K : PySem.W.Frag) (op : Rat → Rat → Rat) : Sp := fun vs H Q _ => ∃ (x y : V) (p q : Rat) (m n : Nat), vs = [x, y] ∧ Num K H x p ∧ Num K H y q ∧ BtN m p ∧ BtN n q ∧ m + n ≤ 6000 ∧ aB4 H Q (op p q)
theorem bm8 {p q : Rat} {m n : Nat} (bp : BtN m p) (bq : BtN n q) (h : m + n ≤ 6000) : ((p.den : Int) * q.den).natAbs < 2 ^ 6000 := by
  rw [Int.natAbs_mul]
  have := Nat.mul_lt_mul'' bp.d' bq.d'
  rw [← Nat.pow_add] at this
  exact Nat.lt_of_lt_of_le this (d4 h)
theorem aL4 (p q : Rat) : (p.den : Int) * q.den ≠ 0 := Int.ne_of_gt (Int.mul_pos (t7 p) (t7 q))
abbrev G3 : Stmt := top 49
theorem ay8 : i5 ["_law_one", "_law_other_here"] ["_law_one", "_law_other_here"] (d3 G3) := by clean_wf
theorem az8 {f fl : Addr} (d : Df K mg "_law_plus" G3 ["_law_one", "_law_other_here"] f) (G__law_low : Def P w K mg base CX0 1 "_law_low" fl ["_law_top", "_law_bottom"] au6) : Def P w K mg base CX0 2 "_law_plus" f ["_law_one", "_law_other_here"] (ao2 K (· + ·)) := by
  refine d.ok (N := ["_law_one", "_law_other_here"]) ay8 (by rintro vs H Q E ⟨x, y, p, q, m, n, h, _⟩; rw [h]; rfl) (fun cdv A outer s H vs Q E hr h => ?_)
  obtain ⟨x, y, p, q, m, n, rfl, ⟨ap, rfl, hp⟩, ⟨aq, rfl, hq⟩, bp, bq, hmn, k⟩ := h
  refine ⟨_, (d6 (i3 (d7 G__law_low hr (b0 (e8 C3 (e8 y9 (j6 p9 (pv 0) b9 (fun _ _ => rfl)) (j6 p9 (pv 1) b9 (fun _ _ => rfl))) (e8 y9 (j6 p9 (pv 1) b9 (fun _ _ => rfl)) (j6 p9 (pv 0) b9 (fun _ _ => rfl)))) (b0 (e8 y9 (j6 p9 (pv 0) b9 (fun _ _ => rfl)) (j6 p9 (pv 1) b9 (fun _ _ => rfl))) b6)) g8))), ?_⟩
  rw [show start ["_law_one", "_law_other_here"] [.ref ap, .ref aq] = [some (.ref ap), some (.ref aq)] from rfl]
  subst_eqs
  refine ⟨_, hp, _, at0 p, _, hq, _, at1 q, _, rfl, _, rfl, R1 bp.n bq.d' (by omega), _, hq, _, at0 q, _, hp, _, at1 p, _, rfl, _, rfl, R1 bq.n bp.d' (by omega), _, hp, _, at1 p, _, hq, _, at1 q, _, rfl, _, rfl, R1 bp.d' bq.d' (by omega), ?_⟩
  refine ⟨_, _, rfl, aL4 p q, bm8 bp bq hmn, ?_⟩
  rw [← aJ1]
  exact k
abbrev E6 : Stmt := top 50
theorem as4 : i5 ["_law_one", "_law_other_here"] ["_law_one", "_law_other_here"] (d3 E6) := by clean_wf
theorem as9 {f fl : Addr} (d : Df K mg "_law_times" E6 ["_law_one", "_law_other_here"] f) (G__law_low : Def P w K mg base CX0 1 "_law_low" fl ["_law_top", "_law_bottom"] au6) : Def P w K mg base CX0 2 "_law_times" f ["_law_one", "_law_other_here"] (ao2 K (· * ·)) := by
  refine d.ok (N := ["_law_one", "_law_other_here"]) as4 (by rintro vs H Q E ⟨x, y, p, q, m, n, h, _⟩; rw [h]; rfl) (fun cdv A outer s H vs Q E hr h => ?_)
  obtain ⟨x, y, p, q, m, n, rfl, ⟨ap, rfl, hp⟩, ⟨aq, rfl, hq⟩, bp, bq, hmn, k⟩ := h
  refine ⟨_, (d6 (i3 (d7 G__law_low hr (b0 (e8 y9 (j6 p9 (pv 0) b9 (fun _ _ => rfl)) (j6 p9 (pv 1) b9 (fun _ _ => rfl))) (b0 (e8 y9 (j6 p9 (pv 0) b9 (fun _ _ => rfl)) (j6 p9 (pv 1) b9 (fun _ _ => rfl))) b6)) g8))), ?_⟩
  rw [show start ["_law_one", "_law_other_here"] [.ref ap, .ref aq] = [some (.ref ap), some (.ref aq)] from rfl]
  subst_eqs
  refine ⟨_, hp, _, at0 p, _, hq, _, at0 q, _, rfl, _, rfl, R1 bp.n bq.n (by omega), _, hp, _, at1 p, _, hq, _, at1 q, _, rfl, _, rfl, R1 bp.d' bq.d' (by omega), ?_⟩
  refine ⟨_, _, rfl, aL4 p q, bm8 bp bq hmn, ?_⟩
  rw [← ae3]
  exact k
def aS7 (K : PySem.W.Frag) : Sp := fun vs H Q _ => ∃ (a b : Addr) (xs ys : List V) (ps qs : List Rat), vs = [.ref a, .ref b] ∧ SqL K H a xs ∧ SqL K H b ys ∧ m6 H xs ps ∧ m6 H ys qs ∧ (∃ m1 m2 : Nat, (∀ q ∈ ps, BtN m1 q) ∧ (∀ q ∈ qs, BtN m2 q) ∧ m1 + m2 ≤ 6000 ∧ 1 ≤ m1 ∧ 1 ≤ m2) ∧ ps.length ≤ 100 ∧ qs.length ≤ 100 ∧
  ∀ m r zs H', v3 (W7 ps qs) m → d5 H H' → H r = none → H' r = some (.lst zs) → m6 H' zs ((W7 ps qs).take m) → Q (.ref r) H'
abbrev A3 : Stmt := top 55
theorem C4 : i5 ["_law_p", "_law_q", "_law_found", "_law_i", "_law_one", "_law_other_here"] ["_law_p", "_law_q"] (d3 A3) := by clean_wf
set_option maxHeartbeats 0 in
theorem ah0 {f fp ft : Addr} (d : Df K mg "_law_poly_plus" A3 ["_law_p", "_law_q"] f) (G__law_plus : Def P w K mg base CX0 2 "_law_plus" fp ["_law_one", "_law_other_here"] (ao2 K (· + ·))) (G__law_trim : Def P w K mg base CX0 1 "_law_trim" ft ["_law_numbers"] (ay3 K)) (n_range : mg "range" = none) (n_max : mg "max" = none) (n_len : mg "len" = none) : Def P w K mg base CX0 3 "_law_poly_plus" f ["_law_p", "_law_q"] (aS7 K) := by
  refine d.ok (N := ["_law_p", "_law_q", "_law_found", "_law_i", "_law_one", "_law_other_here"]) C4 (by rintro vs H Q E ⟨_, _, _, _, _, _, h, _⟩; rw [h]; rfl) (fun cdv A outer s H vs Q E hr h => ?_)
  obtain ⟨a, b, xs, ys, ps, qs, rfl, hS, hS', hN, hN', ⟨m1, m2, hs, hs', hm, hm1, hm2⟩, hl, hl', k⟩ := h
  refine ⟨_, (b8 (g7 (i := 2) C4.nd rfl (Or.inl rfl) (u0 b6))
      (b8 (N1 PassesOwn.never rfl (ab2 rfl n_range (b0 (d9 (aj5 rfl) rfl n_max (by decide +kernel) (b0 (d9 j2 rfl n_len (by decide +kernel) (b0 (pv 0) b6)) (b0 (d9 j2 rfl n_len (by decide +kernel) (b0 (pv 1) b6)) b6))) b6)) (g6 (i := 3) C4.nd rfl (Or.inl rfl)) (b8 (g7 (i := 4) C4.nd rfl (Or.inl rfl) (U2 (j5 ap1 (pv 3) (d9 j2 rfl n_len (by decide +kernel) (b0 (pv 0) b6)) (j7 _)) (j6 w5 (pv 0) (pv 3) (fun _ _ => rfl)) (v7 (b0 b9 (b0 b9 b6)))))
      (b8 (g7 (i := 5) C4.nd rfl (Or.inl rfl) (U2 (j5 ap1 (pv 3) (d9 j2 rfl n_len (by decide +kernel) (b0 (pv 1) b6)) (j7 _)) (j6 w5 (pv 1) (pv 3) (fun _ _ => rfl)) (v7 (b0 b9 (b0 b9 b6)))))
      (d6 (P4 (ac4 PySem.F.plainAttrs_list PySem.F.slot_list_append PySem.F.type_list_append F5 (pv 2) (b0 (d7 G__law_plus hr (b0 (pv 4) (b0 (pv 5) b6)) g8) b6)))))))
      (d6 (i3 (d7 G__law_trim hr (b0 (pv 2) b6) g8))))), ?_⟩
  rw [show start ["_law_p", "_law_q", "_law_found", "_law_i", "_law_one", "_law_other_here"] [.ref a, .ref b] = [some (.ref a), some (.ref b), none, none, none, none] from rfl]
  subst_eqs
  refine ⟨by decide, fun p hp => ?_⟩
  have lx := hN.length
  have ly := hN'.length
  have S0 := d5.new hp (.lst [])
  have pick : ∀ (i : Nat) (k : Nat) (c : Addr) (us : List V) (rs : List Rat) (σ : L2.St) (H3 : Hp) (R : VK), σ[k]? = some (some (.ref c)) → σ[3]? = some (some (.int (0 + (i : Int)))) → SqL K H3 c us → m6 H3 us rs → (∀ v H4, d5 H3 H4 → Num K H4 v ((rs[i]?).getD 0) → R v H4) →
      tIf (am7 (tOp (rI0 fun i j => V.bl (decide (i < j))) (Q3 3) (tCB (fun xs H Q => ∃ p, xs = [V.ref p] ∧ ∃ x, (SqL K H p x ∨ SqT K H p x) ∧ Q (V.int x.length) H) (U0 (Q3 k) am9)))) (tOp (aD3 K) (Q3 k) (Q3 3)) (aM5 (U0 (tC (V.int 0)) (U0 (tC (V.int 1)) am9))) σ H3 R := by
    intro i k c us rs σ H3 R h1 h2 hc hn hR
    simp! [h1, h2]
    refine ⟨us, .inl hc, z8 (fun h => ?_) (fun h => ?_)⟩
    · have hi : i < us.length := by omega
      have hir : i < rs.length := by rw [← hn.length]; exact hi
      obtain ⟨pv, hv, hpv⟩ := hn.get (List.getElem?_eq_getElem hir)
      have e0 : (0 : Int) + (i : Int) = ((i : Nat) : Int) := by omega
      refine ⟨_, hc, _, (by rw [e0]; exact S9 hv), hR _ _ (d5.refl _) ⟨pv, rfl, ?_⟩⟩
      rw [List.getElem?_eq_getElem hir]
      exact SqT.of hpv
    · have hi : rs.length ≤ i := by rw [← hn.length]; omega
      refine ⟨v8, fun t ht => hR _ _ (d5.new ht _) ⟨t, rfl, ?_⟩⟩
      rw [List.getElem?_eq_none hi]
      exact SqT.of b7
  refine ⟨_, rfl, a, rfl, xs, .inl (S0.seq hS), _, rfl, b, rfl, ys, .inl (S0.seq hS'), _, _, rfl, _, rfl, ?_, ?_, aj3 (fun i σ H2 => ∃ o1 o2 o3, σ = [some (.ref a), some (.ref b), some (.ref p), o1, o2, o3] ∧ d5 H H2 ∧ ∃ zs, H2 p = some (.lst zs) ∧ m6 H2 zs ((W7 ps qs).take i)) ⟨_, _, _, rfl, S0, [], b7, .nil⟩ ?_ ?_⟩
  · split <;> omega
  · split <;> omega
  · rintro i σ H2 hi ⟨o1, o2, o3, rfl, s2, zs, e2, n2⟩
    have hi' : i < max ps.length qs.length := by
      revert hi
      split <;> omega
    refine pick i 0 a xs ps _ _ _ rfl rfl (s2.seq hS) (hN.mono s2.tups) fun v H3 s3 nv => ?_
    refine pick i 1 b ys qs _ _ _ rfl rfl ((s2.trans s3).seq hS') (hN'.mono (s2.trans s3).tups) fun u H4 s4 nu => ?_
    have bq : ∀ (rs : List Rat) (m : Nat), 1 ≤ m → (∀ q ∈ rs, BtN m q) → BtN m ((rs[i]?).getD 0) := fun rs m hm h => by
      cases e : rs[i]? with
      | none => exact BtN.zero hm
      | some q => exact h q (List.mem_of_getElem? e)
    have S4 := s2.trans (s3.trans s4)
    subst_eqs
    refine ⟨.inl ⟨_, SqL.of (s4 _ _ (s3 _ _ e2))⟩, v, u, _, _, m1, m2, rfl, nv.same s4, nu, bq ps m1 hm1 hs, bq qs m2 hm2 hs', hm, fun r H5 s5 e5 => ?_⟩
    have e6 := s5 _ _ (s4 _ _ (s3 _ _ e2))
    refine ⟨_, e6, ?_, ?_⟩
    · rw [n2.length, List.length_take]
      exact Nat.lt_of_le_of_lt (show _ ≤ 100 by omega) (by decide)
    · refine ⟨(S4.trans s5).over hp _, _, b7, ?_⟩
      rw [show (W7 ps qs).take (i + 1) = (W7 ps qs).take i ++ [(ps[i]?).getD 0 + (qs[i]?).getD 0] by rw [List.take_succ, ar7 ps qs i hi']; rfl]
      exact (((n2.mono (s3.trans s4).tups).mono s5.tups).append (.cons e5 .nil)).mono (K9.lst e6)
  · rintro σ H2 ⟨o1, o2, o3, rfl, s2, zs, e2, n2⟩
    have e7 : (W7 ps qs).take (if (ys.length : Int) > (xs.length : Int) then (ys.length : Int) else xs.length).toNat = W7 ps qs := by
      rw [List.take_of_length_le]
      rw [ar6]
      split <;> omega
    have n2' : m6 H2 zs (W7 ps qs) := by rw [← e7]; exact n2
    refine ⟨_, rfl, p, zs, _, rfl, SqL.of e2, n2', fun m r H3 tl s3 hr' e3 => ?_⟩
    exact k m r _ _ tl (s2.trans s3) (s2.free hr') e3 ((n2'.take m).mono s3.tups)
end
theorem OvB.bt {B W e : Nat} {q : Rat} (h : OvB B W q) (hB : 0 < B) (hBe : B < 2 ^ e) (hW : W ≤ 20000) : BtN e q := by
  obtain ⟨v, rfl, b⟩ := h
  have := M1 (t := v) (b := (B : Int)) (by omega)
  rw [Int.natAbs_natCast] at this
  exact ⟨Nat.lt_of_le_of_lt this.1 (Nat.lt_of_lt_of_le b (d4 hW)), Nat.lt_of_le_of_lt this.2 hBe⟩
section
variable {P : Program} {w : World} {K : PySem.W.Frag} {mg : Str → Option Value} {base : Heap}
def aK0 (K : PySem.W.Frag) : Sp := fun vs H Q _ => ∃ (a b : Addr) (xs ys : List V) (ps qs : List Rat) (B C V' W e : Nat), vs = [.ref a, .ref b] ∧ SqL K H a xs ∧ SqL K H b ys ∧ m6 H xs ps ∧ m6 H ys qs ∧ (∀ q ∈ ps, OvB B V' q) ∧ (∀ q ∈ qs, OvB C W q) ∧ 0 < B ∧ 0 < C ∧ B * C < 2 ^ e ∧ 1 ≤ e ∧ 2 * e ≤ 6000 ∧ V' + W ≤ 19000 ∧ ps.length ≤ 20 ∧ qs.length ≤ 20 ∧
  ∀ m r zs H', v3 (Q9 ps qs) m → (∀ q ∈ Q9 ps qs, OvB (B * C) (V' + W + 400) q) → d5 H H' → H r = none → H' r = some (.lst zs) → m6 H' zs ((Q9 ps qs).take m) → Q (.ref r) H'
abbrev y6 : Stmt := top 56
theorem z9 : i5 ["_law_p", "_law_q", "_law_found", "_law_i", "_law_one", "_law_j", "_law_other_here"] ["_law_p", "_law_q"] (d3 y6) := by clean_wf
set_option maxHeartbeats 0 in
theorem ae1 {f fp f1 f2 : Addr} (d : Df K mg "_law_poly_times" y6 ["_law_p", "_law_q"] f) (G__law_plus : Def P w K mg base CX0 2 "_law_plus" fp ["_law_one", "_law_other_here"] (ao2 K (· + ·))) (G__law_times : Def P w K mg base CX0 2 "_law_times" f1 ["_law_one", "_law_other_here"] (ao2 K (· * ·))) (G__law_trim : Def P w K mg base CX0 1 "_law_trim" f2 ["_law_numbers"] (ay3 K)) (n_len : mg "len" = none) (n_enumerate : mg "enumerate" = none) : Def P w K mg base CX0 3 "_law_poly_times" f ["_law_p", "_law_q"] (aK0 K) := by
  refine d.ok (N := ["_law_p", "_law_q", "_law_found", "_law_i", "_law_one", "_law_j", "_law_other_here"]) z9 (by rintro vs H Q E ⟨_, _, _, _, _, _, _, _, _, _, _, h, _⟩; rw [h]; rfl) (fun cdv A outer s H vs Q E hr h => ?_)
  obtain ⟨a, b, xs, ys, ps, qs, B, C, V', W, e, rfl, hS, hS', hN, hN', hs, hs', hB, hC, hBC, he1, he, hVW, hl, hl', k⟩ := h
  have hBCp := Nat.mul_pos hB hC
  have hBe : B < 2 ^ e := Nat.lt_of_le_of_lt (Nat.le_mul_of_pos_right _ hC) hBC
  have hCe : C < 2 ^ e := Nat.lt_of_le_of_lt (Nat.le_mul_of_pos_left _ hB) hBC
  have hu := hr.units
  refine ⟨_, (b8 (C2 (PW.pt (W9 (j5 (ad9 hu) (pv 0) (u0 b6) (j7 _)) (ad5 (j5 (ad9 hu) (pv 1) (u0 b6) (j7 _))))) (d6 (i3 (u0 b6))) t3)
      (b8 (g7 (i := 2) z9.nd rfl (Or.inl rfl) (e8 aH2 (u0 (b0 (v7 (b0 b9 (b0 b9 b6))) b6)) (e8 O7 (e8 C3 (d9 j2 rfl n_len (by decide +kernel) (b0 (pv 0) b6)) (d9 j2 rfl n_len (by decide +kernel) (b0 (pv 1) b6))) b9)))
      (b8 (N1 PassesOwn.never rfl (ab3 rfl n_enumerate (b0 (pv 0) b6)) (show PG _ _ (O5 K 2 (t5 (p7 3) (t5 (p7 4) O6))) from by (refine D8 (n := 2) ?_ ?_ ?_ ?_; rfl; (refine i4 ?_ ?_ ?_; (exact (g6 (i := 3) z9.nd rfl (Or.inl rfl))); (refine i4 ?_ ?_ ?_; (exact (g6 (i := 4) z9.nd rfl (Or.inl rfl))); (exact B3); rfl); rfl); rfl; rfl)) (d6 (N1 PassesOwn.never rfl (ab3 rfl n_enumerate (b0 (pv 1) b6)) (show PG _ _ (O5 K 2 (t5 (p7 5) (t5 (p7 6) O6))) from by (refine D8 (n := 2) ?_ ?_ ?_ ?_; rfl; (refine i4 ?_ ?_ ?_; (exact (g6 (i := 5) z9.nd rfl (Or.inl rfl))); (refine i4 ?_ ?_ ?_; (exact (g6 (i := 6) z9.nd rfl (Or.inl rfl))); (exact B3); rfl); rfl); rfl; rfl)) (d6 (G8 (d7 G__law_plus hr (b0 (j6 w5 (pv 2) (e8 C3 (pv 3) (pv 5)) (fun _ _ => rfl)) (b0 (d7 G__law_times hr (b0 (pv 4) (b0 (pv 6) b6)) g8) b6)) g8) (ai6 (pv 2) (e8 C3 (pv 3) (pv 5)) Q5))))))
      (d6 (i3 (d7 G__law_trim hr (b0 (pv 2) b6) g8)))))), ?_⟩
  rw [show start ["_law_p", "_law_q", "_law_found", "_law_i", "_law_one", "_law_j", "_law_other_here"] [.ref a, .ref b] = [some (.ref a), some (.ref b), none, none, none, none, none] from rfl]
  subst_eqs
  have tl0 : v3 ([] : List Rat) 0 := ⟨Nat.le_refl _, fun i q _ e => by simp at e, fun h => absurd rfl h⟩
  refine ⟨by decide, fun p hp => ?_⟩
  have S1 := d5.new hp (.lst [])
  refine ⟨A5 ps, A5 [], rfl, A8 (S1.seq hS) (hN.mono S1.tups), A8 (SqL.of b7) .nil, K2 _ _, Nat.le_trans (N6 _) (by decide), ?_⟩
  rw [G9]
  refine ⟨_, rfl, z8 (fun h => ⟨by decide, fun r hr' => ?_⟩) (fun h => ?_)⟩
  · have e : Q9 ps qs = [] := by rw [Q9, if_pos (.inl (by simpa using h))]
    rw [e] at k
    exact k 0 r [] _ tl0 (by simp) (S1.trans (d5.new hr' _)) (S1.free hr') b7 .nil
  have np : ps ≠ [] := fun z => h (by simp [z])
  refine ⟨by decide, fun p2 hp2 => ?_⟩
  have S2 := S1.trans (d5.new hp2 (.lst []))
  refine ⟨A5 qs, A5 [], rfl, A8 (S2.seq hS') (hN'.mono S2.tups), A8 (SqL.of b7) .nil, K2 _ _, Nat.le_trans (N6 _) (by decide), ?_⟩
  rw [G9]
  refine ⟨_, rfl, z8 (fun h => ⟨by decide, fun r hr' => ?_⟩) (fun h => ?_)⟩
  · have e : Q9 ps qs = [] := by rw [Q9, if_pos (.inr (by simpa using h))]
    rw [e] at k
    exact k 0 r [] _ tl0 (by simp) (S2.trans (d5.new hr' _)) (S2.free hr') b7 .nil
  have nq : qs ≠ [] := fun z => h (by simp [z])
  have lx := hN.length
  have ly := hN'.length
  have lp : 0 < ps.length := List.length_pos_iff.mpr np
  have lq : 0 < qs.length := List.length_pos_iff.mpr nq
  refine ⟨v8, fun p3 hp3 => ⟨aT0, fun p4 hp4 => ?_⟩⟩
  have S3 := S2.trans (d5.new hp3 (.tup [.int 0, .int 1]))
  have S4 := S3.trans (d5.new hp4 (.lst [.ref p3]))
  refine ⟨_, .inl (S4.seq hS), _, .inl (S4.seq hS'), _, b7, by omega, by omega, ?_, fun l hl0 => ?_⟩
  · simp only [List.length_cons, List.length_nil]
    exact Nat.le_trans (show _ ≤ 40 by omega) (by decide)
  have hz : (List.replicate ((xs.length : Int) + (ys.length : Int) - 1).toNat [V.ref p3]).flatten = List.replicate (ps.length + qs.length - 1) (V.ref p3) := by
    have e : ((xs.length : Int) + (ys.length : Int) - 1).toNat = ps.length + qs.length - 1 := by omega
    rw [e, List.flatten_replicate_singleton]
  rw [hz]
  have S5 := S4.trans (d5.new hl0 (.lst (List.replicate (ps.length + qs.length - 1) (.ref p3))))
  have hlH : H l = none := S4.free hl0
  have ez : (upd (upd (upd (upd (upd H p (.lst [])) p2 (.lst [])) p3 (.tup [.int 0, .int 1])) p4 (.lst [.ref p3])) l (.lst (List.replicate (ps.length + qs.length - 1) (.ref p3)))) p3 = some (.tup (w9 0)) := d5.new hl0 _ _ _ (d5.new hp4 _ _ _ b7)
  refine ⟨_, rfl, a, rfl, ⟨_, S5.seq hS⟩, aq2 xs (fun i σ H2 => ∃ o3 o4 o5 o6, σ = [some (.ref a), some (.ref b), some (.ref l), o3, o4, o5, o6] ∧ d5 H H2 ∧ ∃ zs, H2 l = some (.lst zs) ∧ m6 H2 zs (F6 0 (List.replicate (ps.length + qs.length - 1) (0 : Rat)) ps qs i) ∧ ∀ v ∈ F6 0 (List.replicate (ps.length + qs.length - 1) (0 : Rat)) ps qs i, OvB (B * C) (V' + W + i * qs.length) v)
    ⟨_, _, _, _, rfl, S5, _, b7, m6.rep ez _, fun v hv => by rw [(List.mem_replicate.mp hv).2]; exact OvB.zero _ _⟩ (fun i σ H2 ⟨_, _, _, _, _, s2, _⟩ => s2.seq hS) ?_ ?_⟩
  · rintro i x σ H2 r hx ⟨o3, o4, o5, o6, rfl, s2, zs, e2, n2, b2⟩ hr'
    obtain ⟨px, q, rfl, hq, hpx⟩ := hN.getV hx
    have hi := (List.getElem?_eq_some_iff.mp hq).1
    have sr := d5.new hr' (.tup [.int i, .ref px])
    refine ⟨_, _, rfl, SqT.of b7, rfl, _, _, rfl, _, _, rfl, rfl, ?_⟩
    refine ⟨_, rfl, b, rfl, ⟨_, (s2.trans sr).seq hS'⟩, aq2 ys (fun j σ H4 => ∃ o5 o6, σ = [some (.ref a), some (.ref b), some (.ref l), some (.int i), some (.ref px), o5, o6] ∧ d5 H H4 ∧ ∃ zs, H4 l = some (.lst zs) ∧ m6 H4 zs (B6 0 (F6 0 (List.replicate (ps.length + qs.length - 1) (0 : Rat)) ps qs i) i q qs j) ∧ ∀ v ∈ B6 0 (F6 0 (List.replicate (ps.length + qs.length - 1) (0 : Rat)) ps qs i) i q qs j, OvB (B * C) (V' + W + (i * qs.length + j)) v)
      ⟨_, _, rfl, s2.trans sr, _, sr _ _ e2, n2.mono sr.tups, b2⟩ (fun i σ H2 ⟨_, _, _, s2, _⟩ => s2.seq hS') ?_ ?_⟩
    · rintro j y σ H4 t hy ⟨o5, o6, rfl, s4, zs4, e4, n4, b4⟩ ht
      obtain ⟨py, q', rfl, hq', hpy⟩ := hN'.getV hy
      have hj := (List.getElem?_eq_some_iff.mp hq').1
      have st := d5.new ht (.tup [.int j, .ref py])
      have e5 := st _ _ e4
      have hF : i + j < (B6 0 (F6 0 (List.replicate (ps.length + qs.length - 1) (0 : Rat)) ps qs i) i q qs j).length := by
        rw [U5, ai8, List.length_replicate]; omega
      have eg := List.getElem?_eq_getElem hF
      obtain ⟨pv, hv, hpv⟩ := (n4.mono st.tups).get eg
      have ec : (i : Int) + (j : Int) = ((i + j : Nat) : Int) := by omega
      have hc : i * qs.length + j < 400 := by
        have h1 : i * qs.length ≤ 19 * qs.length := Nat.mul_le_mul_right _ (by omega)
        omega
      subst_eqs
      have o1 := hs q (List.mem_of_getElem? hq)
      have o2 := hs' q' (List.mem_of_getElem? hq')
      have sq := o1.bt hB hBe (by omega)
      have sq' := o2.bt hC hCe (by omega)
      refine ⟨_, SqT.of b7, rfl, _, _, rfl, _, _, rfl, rfl, _, rfl, _, SqL.of e5, _, (by rw [ec]; exact S9 hv), ?_⟩
      refine ⟨_, _, q, q', e, e, rfl, ⟨px, rfl, SqT.of (st _ _ (s4 _ _ hpx))⟩, ⟨py, rfl, SqT.of (st _ _ (s4 _ _ hpy))⟩, sq, sq', by omega, fun r1 H5 s5 er1 => ?_⟩
      have bold := b4 _ (List.getElem_mem hF)
      refine ⟨_, _, _, _, e, e, rfl, ⟨pv, rfl, SqT.of (s5 _ _ hpv)⟩, ⟨r1, rfl, SqT.of er1⟩, bold.bt hBCp hBC (by omega), (o1.mul o2).bt hBCp hBC (by omega), by omega, fun r2 H6 s6 er2 => ?_⟩
      have e6 := s6 _ _ (s5 _ _ e5)
      have lz : zs4.length = (B6 0 (F6 0 (List.replicate (ps.length + qs.length - 1) (0 : Rat)) ps qs i) i q qs j).length := n4.length
      have n6 : m6 H6 zs4 (B6 0 (F6 0 (List.replicate (ps.length + qs.length - 1) (0 : Rat)) ps qs i) i q qs j) := ((n4.mono st.tups).mono s5.tups).mono s6.tups
      have estep : B6 0 (F6 0 (List.replicate (ps.length + qs.length - 1) (0 : Rat)) ps qs i) i q qs (j + 1) = V0 (B6 0 (F6 0 (List.replicate (ps.length + qs.length - 1) (0 : Rat)) ps qs i) i q qs j) (i + j) (q * q') := by
        rw [B6, hq']; rfl
      refine ⟨_, rfl, _, e6, i + j, ?_, (s4.trans (st.trans (s5.trans s6))).over hlH _, _, b7, ?_, ?_⟩
      · rw [ec]
        unfold ixN
        rw [if_pos (by omega), if_pos (by rw [lz]; omega)]
        rfl
      · rw [estep, ← aj6 _ _ _ _ eg]
        exact (n6.set (i + j) er2).mono (K9.lst e6)
      · rw [estep]
        intro v hv'
        exact (aQ4 hBCp b4 ((o1.mul o2).mono (by omega)) v hv').mono (by omega)
    · rintro σ H4 ⟨o5, o6, rfl, s4, zs4, e4, n4, b4⟩
      refine ⟨_, _, _, _, rfl, s4, zs4, e4, ?_, ?_⟩
      · rw [ly] at n4
        rw [F6, hq]; exact n4
      · rw [ly] at b4
        rw [F6, hq]
        intro v hv
        refine (b4 v hv).mono ?_
        have e : (i + 1) * qs.length = i * qs.length + qs.length := by grind
        omega
  · rintro σ H2 ⟨o3, o4, o5, o6, rfl, s2, zs, e2, n2, b2⟩
    rw [lx] at n2 b2
    have em : Q9 ps qs = F6 0 (List.replicate (ps.length + qs.length - 1) 0) ps qs ps.length := by rw [Q9, if_neg (by simp [np, nq])]
    rw [← em] at n2 b2
    refine ⟨_, rfl, l, zs, _, rfl, SqL.of e2, n2, fun m r H3 tl s3 hr' e3 => ?_⟩
    refine k m r _ _ tl (fun v hv => (b2 v hv).mono ?_) (s2.trans s3) (s2.free hr') e3 ((n2.take m).mono s3.tups)
    have : ps.length * qs.length ≤ 20 * 20 := Nat.mul_le_mul hl hl'
    omega
end
theorem ab0 {l : List Rat} {m : Nat} (t : v3 l m) : qp (l.take m) = qp l := Pf.ext fun k => bd9 t k
theorem aG8 {a b : List Rat} (ta : v3 a a.length) (tb : v3 b b.length) (h : qp a = qp b) : a = b := aR6 ta tb fun k => congrArg (fun z => Pf.f z k) h
theorem aB6 {l : List Rat} {p : Pf} {n : Nat} (t : v3 l l.length) (e : qp l = p) (d : Dg p.f n) : l.length ≤ n := by
  rcases Nat.lt_or_ge n l.length with z | z
  · have hg := List.getElem?_eq_getElem (l := l) (show l.length - 1 < l.length by omega)
    have h1 := t.last (by omega) _ hg
    have h2 := d (l.length - 1) (by omega)
    rw [← e] at h2
    have h3 : aQ l (l.length - 1) = 0 := h2
    unfold aQ at h3
    rw [hg] at h3
    exact absurd h3 h1
  · exact z
theorem aZ4 {ps : List Rat} {p q : Pf} {d : Nat} (l : ps.length = d + 1) (e : qp ps = p + q) (hp : Par d p) (hq : Par (d + 1) q) : qp (j1 0 ps) = p ∧ qp (j1 1 ps) = q := by
  have h : ∀ k, aQ ps k = p.f k + q.f k := fun k => by
    have := congrArg (fun z => Pf.f z k) e
    exact this
  have t : ∀ b k, aQ (j1 b ps) k = if (d + k) % 2 = b then aQ ps k else 0 := fun b k => by
    unfold aQ
    rw [N9, l, Nat.add_sub_cancel]
    cases g : ps[k]? with
    | none => simp
    | some v => simp
  refine ⟨Pf.ext fun k => ?_, Pf.ext fun k => ?_⟩
  · show aQ (j1 0 ps) k = p.f k
    rw [t, h]
    split
    · rw [hq k (by omega)]; grind
    · rw [hp k (by omega)]
  · show aQ (j1 1 ps) k = q.f k
    rw [t, h]
    split
    · rw [hp k (by omega)]; grind
    · rw [hq k (by omega)]
theorem al9 {ps : List Rat} (h : v3 ps ps.length) : v3 (j1 0 ps) (j1 0 ps).length := V3 fun x hx => by
  rw [K1, N9] at hx
  cases g : ps[ps.length - 1]? with
  | none => rw [g] at hx; cases hx
  | some v =>
    rw [g] at hx
    have hl := (List.getElem?_eq_some_iff.mp g).1
    have hv := h.last (by omega) v g
    rw [Option.map_some, if_pos (by omega)] at hx
    cases hx
    exact hv
theorem al2 {c : Nat} {M : List (List Rat)} {last ps : List Rat} (R : N4 c M last) (t : v3 ps ps.length) (e : qp ps = (fld M last M.length).1 + (fld M last M.length).2) : ps.length = dn M last M.length + 1 := by
  obtain ⟨d1, d2⟩ := ae6 R M.length (Nat.le_refl _)
  have le := aB6 t e (n := dn M last M.length + 1) fun k hk => by rw [V8, d1 k hk, d2 k (by omega)]; grind
  rcases Nat.lt_or_ge ps.length (dn M last M.length + 1) with z | z
  · exfalso
    have h := congrArg (fun z => Pf.f z (dn M last M.length)) e
    have h1 : aQ ps (dn M last M.length) = (fld M last M.length).1.f (dn M last M.length) + (fld M last M.length).2.f (dn M last M.length) := h
    rw [d2 _ (Nat.le_refl _)] at h1
    have h2 : aQ ps (dn M last M.length) = 0 := by unfold aQ; rw [List.getElem?_eq_none (by omega)]; rfl
    rw [h2] at h1
    exact M6 R M.length (Nat.le_refl _) (by grind)
  · omega
structure FX (K : PySem.W.Frag) (D : Addr) (H : Hp) (r : Addr) (p : Pf) (b : Nat) (s : Rat) (ws : List Int) : Prop where
  fm : FmX K D H r s ws
  s0 : s ≠ 0
  tz : B7 ws ws.length
  e : t4 s * zp ws = p
  bs : BdN b s
  bw : ∀ v ∈ ws, Int.natAbs v < 2 ^ b
theorem FX.same {K : PySem.W.Frag} {D : Addr} {H H' : Hp} {r : Addr} {p : Pf} {b : Nat} {s : Rat} {ws : List Int} (S : d5 H H') (h : FX K D H r p b s ws) : FX K D H' r p b s ws := ⟨h.fm.same S, h.s0, h.tz, h.e, h.bs, h.bw⟩
theorem FX.over {K : PySem.W.Frag} {D : Addr} {H : Hp} {r : Addr} {p : Pf} {b : Nat} {s : Rat} {ws : List Int} {ys : List V} {o : HO} (hD : H D = some (.lst ys)) (h : FX K D H r p b s ws) : FX K D (upd H D o) r p b s ws := ⟨h.fm.over hD, h.s0, h.tz, h.e, h.bs, h.bw⟩
theorem aA6 {s : Rat} {ws : List Int} {p : Pf} {B W : Nat} (s0 : s ≠ 0) (e : t4 s * zp ws = p) (B0 : 0 < B) (hB : B < 2 ^ W) (hp : OvP B W p) (g : q8 ws = 1) : BdN W s ∧ ∀ v ∈ ws, Int.natAbs v < 2 ^ W :=
  aN9 rfl g s0 (U7 B0 hB (Y0 (by rw [G6, e]; exact hp)))
theorem bc4 {c : Nat} {M : List (List Rat)} {last : List Rat} (R : N4 c M last) {j : Nat} (hj : j < M.length) {q r : Pf} {m : Nat} (e : (fld M last (j + 1)).1 = q * (fld M last j).1 + r) (hr : Dg r.f (dn M last j)) (hq : Dg q.f m) : ∃ L, M[M.length - 1 - j]? = some L ∧ L ∈ M ∧ q = qp L ∧ r = (fld M last j).2 := by
  obtain ⟨L, hg, hL, hd, e1, e2⟩ := R.at hj
  obtain ⟨d1, d2⟩ := ae6 R j (by omega)
  have key := aq9 (O := (fld M last j).1.f) (f0 := q.f) (g0 := (qp L).f) (f1 := r.f) (g1 := (fld M last j).2.f) (n := dn M last j) (m := max m L.length) (M6 R j (by omega)) (fun k hk => d1 k (by omega)) hr d2 (fun k hk => hq k (by omega)) (fun k hk => X7 L k (by omega)) fun k => by
    have h1 := congrArg (fun z => Pf.f z k) e
    have h2 := congrArg (fun z => Pf.f z k) e1
    simp only [V8, aU3] at h1 h2
    rw [← h1, ← h2]
  exact ⟨L, hg, hL, Pf.ext key.1, Pf.ext key.2⟩
structure aZ0 (K : PySem.W.Frag) (c : Nat) (M : List (List Rat)) (last : List Rat) (H : Hp) (D : Addr) (i : Nat) (r1 r2 : Addr) (vs : List V) (fs : List (Rat × List Int)) (H2 : Hp) : Prop where
  le : i ≤ M.length
  same : d5 H H2
  eD : H2 D = some (.lst vs)
  fm : Fms K D H2 vs fs
  eM : fs.map (fun f => scl f.1 f.2) = M.take (M.length - i)
  one : ∃ s A, FX K D H2 r1 (fld M last i).1 (Ub c (dn M last i)) s A
  other : ∃ t B, FmX K D H2 r2 t B ∧ ((i = 0 ∧ B = []) ∨ ∃ j, i = j + 1 ∧ FX K D H2 r2 (fld M last j).1 (Ub c (dn M last j)) t B)
  small : ∀ f ∈ fs, f.1.den < 2 ^ 6000 ∧ f.1.num.natAbs < 2 ^ 6000 ∧ (∀ v ∈ f.2, Int.natAbs v < 2 ^ 20000) ∧ f.2.length ≤ 100
theorem aZ0.to {K : PySem.W.Frag} {c : Nat} {M : List (List Rat)} {last : List Rat} {H H2 H3 : Hp} {D : Addr} {i : Nat} {r1 r2 : Addr} {vs : List V} {fs : List (Rat × List Int)} (R : aZ0 K c M last H D i r1 r2 vs fs H2) (S : d5 H2 H3) : aZ0 K c M last H D i r1 r2 vs fs H3 := by
  obtain ⟨s, A, X⟩ := R.one
  obtain ⟨t, B, F, alt⟩ := R.other
  refine ⟨R.le, R.same.trans S, S _ _ R.eD, R.fm.same S, R.eM, ⟨s, A, X.same S⟩, ⟨t, B, F.same S, ?_⟩, R.small⟩
  rcases alt with h | ⟨j, e, Y⟩
  · exact .inl h
  · exact .inr ⟨j, e, Y.same S⟩
theorem aI4 {c : Nat} {M : List (List Rat)} {last : List Rat} (R : N4 c M last) {i : Nat} (hi : i ≤ M.length) {s : Rat} {ws : List Int} (s0 : s ≠ 0) (t : B7 ws ws.length) (e : t4 s * zp ws = (fld M last i).1) : ws.length = dn M last i + 1 := by
  have h1 := aQ8 s0 t e (ae6 R i hi).1
  have h2 := M6 R i hi
  rcases Nat.lt_or_ge (dn M last i) ws.length with z | z
  · omega
  · exfalso
    refine h2 ?_
    rw [← e, ad6, show (zp ws).f (dn M last i) = zc ws (dn M last i) from rfl, ab9 ws _ z]; grind
section
variable {P : Program} {w : World} {K : PySem.W.Frag} {mg : Str → Option Value} {base : Heap}
def aS8 (K : PySem.W.Frag) : Sp := fun vs H Q _ => ∃ (a : Addr) (xs : List V) (ps : List Rat) (c : Nat) (M : List (List Rat)) (last : List Rat), vs = [.ref a] ∧ SqL K H a xs ∧ m6 H xs ps ∧ N4 c M last ∧ v3 ps ps.length ∧ qp ps = (fld M last M.length).1 + (fld M last M.length).2 ∧
  ∀ r r1 r2 D vs fs H', H' r = some (.tup [.ref D, .ref r1]) → H D = none → aZ0 K c M last H D 0 r1 r2 vs fs H' → Q (.ref r) H'
abbrev n8 : Stmt := top 43
theorem i6 : i5 ["p", "quotients", "first", "second", "one", "other", "quotient", "rest"] ["p"] (d3 n8) := by clean_wf
set_option maxHeartbeats 0 in
theorem ah6 {f f1 f2 f3 : Addr} (d : Df K mg "division_forms" n8 ["p"] f) (G_by_turns : Def P w K mg base CX0 2 "by_turns" f1 ["p"] (am0 K)) (GD_lifted : Def P w K mg base CX0 3 "lifted" f2 ["p"] (aa8 K)) (GD_form_divided : Def P w K mg base CX0 4 "form_divided" f3 ["one", "other"] (aC9 K)) : HBd P w K mg base 4 "division_forms" n8 f ["p", "quotients", "first", "second", "one", "other", "quotient", "rest"] (aS8 K) := by
  have G_lifted := GD_lifted
  have G_form_divided := GD_form_divided.imp (sp' := bf2 K) (fun _ _ _ _ h => bc5 h)
  intro cdv A' outer s' H vs Q E hr h
  obtain ⟨a, xs, ps, c, M, last, rfl, hS, hN, R, tp, ep, k⟩ := h
  refine ⟨_, (b8 (G8 (d7 G_by_turns hr (b0 (pv 0) b6) g8) (show PG _ _ (O5 K 2 (t5 (p7 2) (t5 (p7 3) O6))) from by (refine D8 (n := 2) ?_ ?_ ?_ ?_; rfl; (refine i4 ?_ ?_ ?_; (exact (g6 (i := 2) i6.nd rfl (Or.inl rfl))); (refine i4 ?_ ?_ ?_; (exact (g6 (i := 3) i6.nd rfl (Or.inl rfl))); (exact B3); rfl); rfl); rfl; rfl)))
      (b8 (X8 (i := 4) (j := 5) rfl i6.nd rfl rfl (by decide) rfl rfl (b0 (d7 G_lifted hr (b0 (pv 2) b6) g8) (b0 (d7 G_lifted hr (b0 (pv 3) b6) g8) b6)) rfl)
      (b8 (g7 (i := 1) i6.nd rfl (Or.inl rfl) (u0 b6))
      (b8 (O4 PassesOwn.never (G7 (j6 p9 (pv 5) b9 (fun _ _ => rfl)) (fun _ => rfl)) (b8 (G8 (d7 G_form_divided hr (b0 (pv 4) (b0 (pv 5) b6)) g8) (show PG _ _ (O5 K 2 (t5 (p7 6) (t5 (p7 7) O6))) from by (refine D8 (n := 2) ?_ ?_ ?_ ?_; rfl; (refine i4 ?_ ?_ ?_; (exact (g6 (i := 6) i6.nd rfl (Or.inl rfl))); (refine i4 ?_ ?_ ?_; (exact (g6 (i := 7) i6.nd rfl (Or.inl rfl))); (exact B3); rfl); rfl); rfl; rfl)))
      (b8 (P4 (ac4 PySem.F.plainAttrs_list PySem.F.slot_list_append PySem.F.type_list_append F5 (pv 1) (b0 (pv 6) b6)))
      (d6 (X8 (i := 4) (j := 5) rfl i6.nd rfl rfl (by decide) rfl rfl (b0 (pv 5) (b0 (pv 7) b6)) rfl)))))
      (d6 (i3 (v7 (b0 (pv 1) (b0 (pv 4) b6))))))))), ?_⟩
  rw [show start ["p", "quotients", "first", "second", "one", "other", "quotient", "rest"] [.ref a] = [some (.ref a), none, none, none, none, none, none, none] from rfl]
  have lps := al2 R tp ep
  have ov := am4 R
  obtain ⟨c10, c40⟩ := R.c1
  have sm := R.sum (n := M.length) (Nat.le_refl _)
  have lpos := List.length_pos_iff.mpr R.n
  have edn : dn M last M.length + 1 ≤ 15 := by unfold dn; omega
  have ubn := R.ub (n := M.length) (Nat.le_refl _)
  obtain ⟨par1, par2⟩ := aP1 R (Nat.le_refl M.length)
  obtain ⟨tq0, tq1⟩ := aZ4 lps ep par1 par2
  refine j0 (fun σ H1 => ∃ l1 l2 y1 y2 m, σ = [some (.ref a), none, some (.ref l1), some (.ref l2), none, none, none, none] ∧ d5 H H1 ∧ H1 l1 = some (.lst y1) ∧ H1 l2 = some (.lst y2) ∧ B4 K H1 y1 (j1 0 ps) ∧ B4 K H1 y2 ((j1 1 ps).take m) ∧ v3 (j1 1 ps) m) (fun N hN2 => ?_) ?_
  · subst_eqs
    refine ⟨a, xs, ps, rfl, hS, hN, by omega, fun r l1 l2 y1 y2 m H1 S1 f1 er e1 e2 n1 n2 tm => ?_⟩
    exact ⟨r, rfl, _, SqT.of er, rfl, _, _, rfl, _, _, rfl, rfl, hN2 _ _ ⟨l1, l2, y1, y2, m, rfl, S1, e1, e2, n1, n2, tm⟩⟩
  rintro σ H1 ⟨l1, l2, y1, y2, m, rfl, S1, e1, e2, n1, n2, tm⟩
  have lq2 : ((j1 1 ps).take m).length ≤ 15 := by
    rw [List.length_take, K1]; omega
  have q2 : qp ((j1 1 ps).take m) = (fld M last M.length).2 := by rw [ab0 tm, tq1]
  obtain ⟨I, hI⟩ : ∃ I : Nat → Addr → Addr → Addr → L2.St → Hp → Prop, ∀ i D r1 r2 σ H2, I i D r1 r2 σ H2 ↔ ∃ o2 o3 o6 o7 vs fs, σ = [some (.ref a), some (.ref D), o2, o3, some (.ref r1), some (.ref r2), o6, o7] ∧ aZ0 K c M last H D i r1 r2 vs fs H2 := ⟨_, fun _ _ _ _ _ _ => Iff.rfl⟩
  refine j0 (fun σ H2 => ∃ r1 r2 rs1 rs2 la lb s A t B, σ = [some (.ref a), none, some (.ref l1), some (.ref l2), some (.ref r1), some (.ref r2), none, none] ∧ d5 H H2 ∧ H2 la = some (.lst (A.map V.int)) ∧ H2 lb = some (.lst (B.map V.int)) ∧ SqT K H2 r1 [.ref rs1, .ref la] ∧ SqT K H2 rs1 (w9 s) ∧ SqT K H2 r2 [.ref rs2, .ref lb] ∧ SqT K H2 rs2 (w9 t) ∧ s ≠ 0 ∧ t ≠ 0 ∧ scl s A = j1 0 ps ∧ scl t B = (j1 1 ps).take m ∧ (A ≠ [] → q8 A = 1) ∧ (B ≠ [] → q8 B = 1)) (fun N hN2 => ?_) ?_
  · subst_eqs
    obtain ⟨B, B0, hB, o1, o2⟩ := ov M.length (Nat.le_refl _)
    have cl1 : ClN (Ub c (dn M last M.length)) (j1 0 ps) := U7 B0 hB (Y0 (by rw [tq0]; exact o1))
    have cl2 : ClN (Ub c (dn M last M.length)) ((j1 1 ps).take m) := U7 B0 hB (Y0 (by rw [q2]; exact o2))
    refine ⟨l1, y1, _, rfl, SqL.of e1, n1, _, cl1, by omega, ax9 _ _, by rw [K1]; omega, al9 tp, fun r1 rs1 la s A H2 S2 f2 er1 ers1 ela bs1 s0 wb1 wl1 eA gA => ?_⟩
    refine ⟨l2, y2, _, rfl, SqL.of (S2 _ _ e2), n2.mono S2.tups, _, cl2, by omega, ax9 _ _, by omega, V2 tm, fun r2 rs2 lb t B H3 S3 f3 er2 ers2 elb bs2 t0 wb2 wl2 eB gB => ?_⟩
    exact hN2 _ _ ⟨r1, r2, rs1, rs2, la, lb, s, A, t, B, rfl, S1.trans (S2.trans S3), S3 _ _ ela, elb, SqT.of (S3 _ _ er1), S3.tup ers1, SqT.of er2, ers2, s0, t0, eA.symm, eB.symm, gA, gB⟩
  rintro σ H2 ⟨r1, r2, rs1, rs2, la, lb, s, A, t, B, rfl, S2, ela, elb, er1, ers1, er2, ers2, s0, t0, eA, eB, gA, gB⟩
  refine j0 (fun σ H3 => ∃ D, H D = none ∧ I M.length D r1 r2 σ H3) (fun N hN2 => ?_) ?_
  · subst_eqs
    refine ⟨by decide, fun D hD => hN2 _ _ ⟨D, S2.free hD, (hI _ _ _ _ _ _).mpr ⟨_, _, _, _, [], [], rfl, ?_⟩⟩⟩
    have SD := d5.new hD (.lst [])
    have nla : la ≠ D := d8 ela hD
    have nlb : lb ≠ D := d8 elb hD
    obtain ⟨B', B0, hB, o1, o2⟩ := ov M.length (Nat.le_refl _)
    have pA : t4 s * zp A = (fld M last M.length).1 := by rw [← G6, eA, tq0]
    have pB : t4 t * zp B = (fld M last M.length).2 := by rw [← G6, eB, q2]
    have An : A ≠ [] := aJ5 pA (M6 R M.length (Nat.le_refl _))
    obtain ⟨bA1, bA2⟩ := aA6 s0 pA B0 hB o1 (gA An)
    have tzA : B7 A A.length := tzB s0 eA.symm (al9 tp)
    have tzB' : B7 B B.length := tzB t0 eB.symm (V2 tm)
    have fB : FmX K D (upd H2 D (.lst [])) r2 t B := ⟨rs2, lb, SD.tup er2, SD.tup ers2, SD _ _ elb, nlb⟩
    refine ⟨Nat.le_refl _, S2.trans SD, b7, .nil, by rw [Nat.sub_self]; rfl, ⟨s, A, ⟨rs1, la, SD.tup er1, SD.tup ers1, SD _ _ ela, nla⟩, s0, tzA, pA, bA1, bA2⟩, ⟨t, B, fB, ?_⟩, by simp⟩
    rcases Nat.eq_zero_or_pos M.length with z | z
    · refine .inl ⟨z, ?_⟩
      rw [z] at pB
      have := aQ8 t0 tzB' pB (n := 0) fun k _ => by rw [show (fld M last 0).2 = 0 from rfl]; exact K4 k
      exact List.length_eq_zero_iff.mp (by omega)
    · obtain ⟨j, hj⟩ : ∃ j, M.length = j + 1 := ⟨M.length - 1, by omega⟩
      have e2' : (fld M last M.length).2 = (fld M last j).1 := by
        rw [hj]; rfl
      rw [e2'] at pB
      obtain ⟨B', B0, hB, o1, o2⟩ := ov j (by omega)
      have Bn : B ≠ [] := aJ5 pB (M6 R j (by omega))
      obtain ⟨bB1, bB2⟩ := aA6 t0 pB B0 hB o1 (gB Bn)
      exact .inr ⟨j, hj, fB, t0, tzB', pB, bB1, bB2⟩
  rintro σ H3 ⟨D, fD, h3⟩
  refine j0 (fun σ H4 => ∃ r1 r2, I 0 D r1 r2 σ H4) (fun N hN2 => ?_) ?_
  · show ai2 _ _ _ _ _
    refine T9 (fun σ H4 => ∃ i r1 r2, I i D r1 r2 σ H4) (fun σ H4 => 100 - Z0 1 σ H4) ⟨_, _, _, h3⟩ ?_
    rintro σ H4 ⟨i, r1, r2, h4⟩
    obtain ⟨o2, o3, o6, o7, vs, fs, rfl, Rw⟩ := (hI _ _ _ _ _ _).mp h4
    obtain ⟨s1, A1, X1⟩ := Rw.one
    obtain ⟨t, B, fB, alt⟩ := Rw.other
    obtain ⟨rs2, lb, er2, ers2, elb, lbD⟩ := fB
    simp! [aa2]
    refine ⟨_, er2, _, rfl, _, .inl ⟨_, SqL.of elb, rfl⟩, z8 (fun hB => WhB.mk ?_) (fun hB => ?_)⟩
    · have hB' : B ≠ [] := fun z => by rw [z] at hB; simp at hB
      rcases alt with ⟨_, z⟩ | ⟨j, rfl, X2⟩
      · exact absurd z hB'
      subst_eqs
      have hj : j < M.length := by have := Rw.le; omega
      obtain ⟨L, hg, hL, hd, ei, _⟩ := R.at hj
      obtain ⟨tL, l2', _, _⟩ := R.m L hL
      have lA := aI4 R (by omega) X1.s0 X1.tz X1.e
      have lB := aI4 R (by omega) X2.s0 X2.tz X2.e
      have sm' := R.sum (n := j + 1) (by omega)
      have edn' : dn M last (j + 1) + 1 ≤ 15 := by unfold dn; omega
      have dle := aA8 (M := M) (n := j + 1) (by omega)
      have ud := bg2 (D := dn M last j) (d := L.length - 1) R.z (by rw [← hd]; unfold dn; omega)
      rw [← hd, Nat.sub_add_cancel (by omega)] at ud
      have edn2 : dn M last j ≤ dn M last (j + 1) := by omega
      obtain ⟨ra, la', era, ersa, ela', laD⟩ := X1.fm
      refine ⟨r1, r2, s1, t, A1, B, dn M last j, L.length, _, _, rfl, ⟨ra, la', era, ersa, SqL.of ela'⟩, ⟨rs2, lb, er2, ers2, SqL.of elb⟩, by omega, lB, by omega, ?_, X1.tz, by omega, X1.bw, X2.bw, ax9 _ _, ax9 _ _, ud, X1.bs, X1.s0, X2.bs, X2.s0, fun r t1 t2 r1' r2' lq lr s3 s4 Qz Rz H5 S5 fq fr er et1 et2 es1 es2 eq elr s30 s40 b3 qb rl rt qt ql g id => ?_⟩
      · have := V1 X2.tz (by omega)
        rw [lB, Nat.add_sub_cancel] at this
        exact this
      rw [X1.e, X2.e] at id
      obtain ⟨L', hg', hL', q1, q2'⟩ := bc4 R hj (m := Qz.length) id (fun k hk => by rw [ad6, show (zp Rz).f k = zc Rz k from rfl, ab9 Rz k (by omega)]; grind) (fun k hk => by rw [ad6, show (zp Qz).f k = zc Qz k from rfl, ab9 Qz k hk]; grind)
      rw [hg] at hg'
      cases hg'
      have eL : scl s3 Qz = L := aG8 (tlB s30 qt) tL (by rw [G6, q1])
      have eD5 := S5 _ _ Rw.eD
      have lM := R.len
      have lvs : vs.length = M.length - (j + 1) := by
        have h1 := congrArg List.length Rw.eM
        rw [List.length_map, List.length_take] at h1
        rw [Rw.fm.length, h1]; omega
      refine ⟨r, rfl, _, SqT.of er, rfl, _, _, rfl, _, _, rfl, rfl, .inl ⟨_, SqL.of eD5⟩, vs, eD5, Nat.lt_of_le_of_lt (show _ ≤ 100 by omega) (by decide), ?_⟩
      show WhN _ _ _ _ _
      refine ⟨_, ?_, rfl, j, r2, t2, (hI _ _ _ _ _ _).mpr ⟨_, _, _, _, vs ++ [.ref t1], fs ++ [(s3, Qz)], rfl, ?_⟩⟩
      · show 100 - Z0 1 _ _ < 100 - Z0 1 _ _
        unfold Z0
        simp only [List.getElem?_cons_succ, List.getElem?_cons_zero]
        rw [b7, Rw.eD]
        simp only [List.length_append, List.length_cons, List.length_nil]
        omega
      have lqD : lq ≠ D := fun z => by rw [z, Rw.eD] at fq; cases fq
      have lrD : lr ≠ D := fun z => by rw [z, Rw.eD] at fr; cases fr
      have fR : FmX K D (upd H5 D (.lst (vs ++ [.ref t1]))) t2 s4 Rz := FmX.over eD5 ⟨r2', lr, SqT.of et2, es2, elr, lrD⟩
      refine ⟨by omega, (Rw.same.trans S5).over fD _, b7, ((Rw.fm.same S5).snoc ⟨r1', lq, SqT.of et1, es1, eq, lqD⟩).over eD5, ?_, ⟨t, B, (X2.same S5).over eD5⟩, ⟨s4, Rz, fR, ?_⟩, fun f hf => ?_⟩
      · rw [List.map_append, Rw.eM, show M.length - j = M.length - (j + 1) + 1 by omega, List.take_succ, show M.length - (j + 1) = M.length - 1 - j by omega, hg]
        simp [eL]
      · rcases Nat.eq_zero_or_pos j with z | z
        · refine .inl ⟨z, ?_⟩
          rw [z] at q2'
          have := aQ8 s40 rt q2' (n := 0) fun k _ => by rw [show (fld M last 0).2 = 0 from rfl]; exact K4 k
          exact List.length_eq_zero_iff.mp (by omega)
        · obtain ⟨j', hj'⟩ : ∃ j', j = j' + 1 := ⟨j - 1, by omega⟩
          have e2' : (fld M last j).2 = (fld M last j').1 := by rw [hj']; rfl
          rw [e2'] at q2'
          obtain ⟨B', B0, hB, o1, o2⟩ := ov j' (by omega)
          have Rn : Rz ≠ [] := aJ5 q2' (M6 R j' (by omega))
          obtain ⟨bB1, bB2⟩ := aA6 s40 q2' B0 hB o1 (g Rn)
          exact .inr ⟨j', hj', fR, s40, rt, q2', bB1, bB2⟩
      · rcases List.mem_append.mp hf with h | h
        · exact Rw.small f h
        · rw [List.mem_singleton.mp h]
          exact ⟨Nat.lt_of_lt_of_le b3.d (d4 (by omega)), Nat.lt_of_lt_of_le b3.n (d4 (by omega)), fun v hv => Nat.lt_of_lt_of_le (qb v hv) (d4 (by omega)), by show Qz.length ≤ 100; omega⟩
    · have hB0 : B = [] := by
        cases B with
        | nil => rfl
        | cons => simp at hB
      rcases alt with ⟨rfl, z⟩ | ⟨j, rfl, X2⟩
      · exact hN2 _ _ ⟨_, _, h4⟩
      · exact absurd hB0 (aJ5 X2.e (M6 R j (by have := Rw.le; omega)))
  rintro σ H4 ⟨r1, r2, h4⟩
  obtain ⟨o2, o3, o6, o7, vs, fs, rfl, Rw⟩ := (hI _ _ _ _ _ _).mp h4
  subst_eqs
  refine ⟨v8, fun p hp => ?_⟩
  exact k p r1 r2 D vs fs _ b7 fD (Rw.to (d5.new hp _))
end
abbrev T0 (f : Rat × List Int) : List Rat := scl f.1 f.2
structure aJ3 (K : PySem.W.Frag) (H : Hp) (D : Addr) (x : Pf × Pf) (r1 r2 : Addr) (vs : List V) (fs : List (Rat × List Int)) (s t : Rat) (A B : List Int) (H2 : Hp) : Prop where
  same : d5 H H2
  eD : H2 D = some (.lst vs)
  fm : Fms K D H2 vs fs
  eb : ∃ f wa wb na da nb db al, EB f wa wb na da nb db al s t A B
  f1 : FmX K D H2 r1 s A
  f2 : FmX K D H2 r2 t B
  un : Un (fs.map T0) (t4 s * zp A, t4 t * zp B) = x
  b : ∀ i, i < fs.length → ∃ L B1 B2, (fs.map T0)[i]? = some L ∧ 0 < B1 ∧ 0 < B2 ∧ B1 * B2 < 2 ^ 3000 ∧ (∀ x ∈ L, OvB B1 4000 x) ∧ OvP B2 4000 (Un ((fs.map T0).drop i) (t4 s * zp A, t4 t * zp B)).2 ∧ Dg (Un ((fs.map T0).drop i) (t4 s * zp A, t4 t * zp B)).2.f 15
  m : ∀ L ∈ fs.map T0, v3 L L.length ∧ 2 ≤ L.length ∧ evZ L = true ∧ L.length ≤ 15
  ln : fs.length + A.length ≤ 15
  small : ∀ f ∈ fs, f.1.den < 2 ^ 6000 ∧ f.1.num.natAbs < 2 ^ 6000 ∧ (∀ v ∈ f.2, Int.natAbs v < 2 ^ 20000) ∧ f.2.length ≤ 100
theorem aJ3.to {K : PySem.W.Frag} {H H2 H3 : Hp} {D : Addr} {x : Pf × Pf} {r1 r2 : Addr} {vs : List V} {fs : List (Rat × List Int)} {s t : Rat} {A B : List Int} (R : aJ3 K H D x r1 r2 vs fs s t A B H2) (S : d5 H2 H3) : aJ3 K H D x r1 r2 vs fs s t A B H3 :=
  ⟨R.same.trans S, S _ _ R.eD, R.fm.same S, R.eb, R.f1.same S, R.f2.same S, R.un, R.b, R.m, R.ln, R.small⟩
theorem aJ3.told {K : PySem.W.Frag} {H H2 : Hp} {D : Addr} {x : Pf × Pf} {r1 r2 : Addr} {vs : List V} {fs : List (Rat × List Int)} {s t : Rat} {A : List Int} (R : aJ3 K H D x r1 r2 vs fs s t A [] H2) {B : Nat} (B0 : 0 < B) (hB : B < 2 ^ 3000) (o : OvP B 4000 x.1) (dx : Dg x.1.f 15) : X4 (fs.map T0) (scl s A) ∧ fld (fs.map T0) (scl s A) (fs.map T0).length = x := by
  obtain ⟨f, wa, wb, na, da, nb, db, al, X⟩ := R.eb
  have z0 : t4 t * zp [] = 0 := by rw [aQ7]; grind
  have un := R.un
  rw [z0, ← G6] at un
  have e : fld (fs.map T0) (scl s A) (fs.map T0).length = x := by
    rw [aq3 _ _ _ (Nat.le_refl _), Nat.sub_self, List.drop_zero]; exact un
  have lA := X.lB
  have ln := R.ln
  refine ⟨⟨R.m, tlB X.s0 X.tA, fun z => ?_, aU7 (b := al) (by rw [G6]; exact aH0 s X.pA), by rw [R9]; omega, by rw [List.length_map]; omega, ⟨B, B0, hB, by rw [e]; exact o, by rw [e]; exact dx⟩, fun n hn => ?_⟩, e⟩
  · have := congrArg List.length z
    rw [R9, show ([] : List Rat).length = 0 from rfl] at this
    rw [this] at lA
    cases lA
  · obtain ⟨L, B1, B2, h1, h2, h3, h4, h5, h6, h7⟩ := R.b (fs.length - 1 - n) (by rw [List.length_map] at hn; omega)
    have e2 : (Un ((fs.map T0).drop (fs.length - 1 - n)) (t4 s * zp A, t4 t * zp [])).2 = (fld (fs.map T0) (scl s A) n).1 := by
      rw [z0, ← G6]
      have := aq3 (fs.map T0) (scl s A) (n + 1) (by omega)
      rw [List.length_map, show fs.length - (n + 1) = fs.length - 1 - n by omega] at this
      rw [← this]; rfl
    rw [e2] at h6 h7
    exact ⟨L, B1, B2, by rw [List.length_map]; exact h1, h2, h3, h4, h5, h6, h7⟩
section
variable {P : Program} {w : World} {K : PySem.W.Frag} {mg : Str → Option Value} {base : Heap}
def aN2 (K : PySem.W.Frag) : Sp := fun vs H Q _ => ∃ (a : Addr) (xs : List V) (ps : List Rat) (W1 W2 : Nat), vs = [.ref a] ∧ SqL K H a xs ∧ m6 H xs ps ∧ v3 ps ps.length ∧ ps ≠ [] ∧ ps.length ≤ 8 ∧ ClN W1 (j1 0 ps) ∧ (∀ m, ClN W2 ((j1 1 ps).take m)) ∧ 1 ≤ W1 ∧ 1 ≤ W2 ∧ W1 ≤ 2000 ∧ W2 ≤ 2000 ∧ (∀ b, b < ps.length → run 10 ps.length b W1 W2 W1 W1 W2 W2 = true) ∧
  ∀ r r1 r2 D vs fs s t A H', H' r = some (.tup [.ref D, .ref r1]) → H D = none → aJ3 K H D (qp (j1 0 ps), qp (j1 1 ps)) r1 r2 vs fs s t A [] H' → Q (.ref r) H'
set_option maxHeartbeats 0 in
theorem ae5 {f f1 f2 f3 : Addr} (d : Df K mg "division_forms" n8 ["p"] f) (G_by_turns : Def P w K mg base CX0 2 "by_turns" f1 ["p"] (am0 K)) (GD_lifted : Def P w K mg base CX0 3 "lifted" f2 ["p"] (aa8 K)) (GD_form_divided : Def P w K mg base CX0 4 "form_divided" f3 ["one", "other"] (aC9 K)) : HBd P w K mg base 4 "division_forms" n8 f ["p", "quotients", "first", "second", "one", "other", "quotient", "rest"] (aN2 K) := by
  have G_lifted := GD_lifted
  have G_form_divided := GD_form_divided
  intro cdv A' outer s' H vs Q E hr h
  obtain ⟨a, xs, ps, W1, W2, rfl, hS, hN, tp, pn, p8, cl1, cl2, w11, w12, w21, w22, okr, k⟩ := h
  refine ⟨_, (b8 (G8 (d7 G_by_turns hr (b0 (pv 0) b6) g8) (show PG _ _ (O5 K 2 (t5 (p7 2) (t5 (p7 3) O6))) from by (refine D8 (n := 2) ?_ ?_ ?_ ?_; rfl; (refine i4 ?_ ?_ ?_; (exact (g6 (i := 2) i6.nd rfl (Or.inl rfl))); (refine i4 ?_ ?_ ?_; (exact (g6 (i := 3) i6.nd rfl (Or.inl rfl))); (exact B3); rfl); rfl); rfl; rfl)))
      (b8 (X8 (i := 4) (j := 5) rfl i6.nd rfl rfl (by decide) rfl rfl (b0 (d7 G_lifted hr (b0 (pv 2) b6) g8) (b0 (d7 G_lifted hr (b0 (pv 3) b6) g8) b6)) rfl)
      (b8 (g7 (i := 1) i6.nd rfl (Or.inl rfl) (u0 b6))
      (b8 (O4 PassesOwn.never (G7 (j6 p9 (pv 5) b9 (fun _ _ => rfl)) (fun _ => rfl)) (b8 (G8 (d7 G_form_divided hr (b0 (pv 4) (b0 (pv 5) b6)) g8) (show PG _ _ (O5 K 2 (t5 (p7 6) (t5 (p7 7) O6))) from by (refine D8 (n := 2) ?_ ?_ ?_ ?_; rfl; (refine i4 ?_ ?_ ?_; (exact (g6 (i := 6) i6.nd rfl (Or.inl rfl))); (refine i4 ?_ ?_ ?_; (exact (g6 (i := 7) i6.nd rfl (Or.inl rfl))); (exact B3); rfl); rfl); rfl; rfl)))
      (b8 (P4 (ac4 PySem.F.plainAttrs_list PySem.F.slot_list_append PySem.F.type_list_append F5 (pv 1) (b0 (pv 6) b6)))
      (d6 (X8 (i := 4) (j := 5) rfl i6.nd rfl rfl (by decide) rfl rfl (b0 (pv 5) (b0 (pv 7) b6)) rfl)))))
      (d6 (i3 (v7 (b0 (pv 1) (b0 (pv 4) b6))))))))), ?_⟩
  rw [show start ["p", "quotients", "first", "second", "one", "other", "quotient", "rest"] [.ref a] = [some (.ref a), none, none, none, none, none, none, none] from rfl]
  have ppos := List.length_pos_iff.mpr pn
  refine j0 (fun σ H1 => ∃ l1 l2 y1 y2 m, σ = [some (.ref a), none, some (.ref l1), some (.ref l2), none, none, none, none] ∧ d5 H H1 ∧ H1 l1 = some (.lst y1) ∧ H1 l2 = some (.lst y2) ∧ B4 K H1 y1 (j1 0 ps) ∧ B4 K H1 y2 ((j1 1 ps).take m) ∧ v3 (j1 1 ps) m) (fun N hN2 => ?_) ?_
  · subst_eqs
    refine ⟨a, xs, ps, rfl, hS, hN, by omega, fun r l1 l2 y1 y2 m H1 S1 f1 er e1 e2 n1 n2 tm => ?_⟩
    exact ⟨r, rfl, _, SqT.of er, rfl, _, _, rfl, _, _, rfl, rfl, hN2 _ _ ⟨l1, l2, y1, y2, m, rfl, S1, e1, e2, n1, n2, tm⟩⟩
  rintro σ H1 ⟨l1, l2, y1, y2, m, rfl, S1, e1, e2, n1, n2, tm⟩
  have lq2 : ((j1 1 ps).take m).length ≤ 15 := by
    rw [List.length_take, K1]; omega
  have lq3 : ((j1 1 ps).take m).length < ps.length := by
    rcases Nat.lt_or_ge ((j1 1 ps).take m).length ps.length with z | z
    · exact z
    · exfalso
      have tl := V2 tm
      have e : ((j1 1 ps).take m).length = ps.length := by
        have : ((j1 1 ps).take m).length ≤ ps.length := by rw [List.length_take, K1]; omega
        omega
      have hg := List.getElem?_eq_getElem (l := (j1 1 ps).take m) (show ps.length - 1 < _ by omega)
      have h0 := tl.last (by omega) _ (by rw [e]; exact hg)
      rw [List.getElem?_take_of_lt (by rw [List.length_take, K1] at e; omega), N9] at hg
      rw [List.getElem?_eq_getElem (show ps.length - 1 < ps.length by omega), Option.map_some, if_neg (by omega)] at hg
      injection hg with hg
      exact h0 hg.symm
  obtain ⟨I, hI⟩ : ∃ I : Addr → Addr → Addr → List Int → L2.St → Hp → Prop, ∀ D r1 r2 B σ H2, I D r1 r2 B σ H2 ↔ ∃ o2 o3 o6 o7 vs fs s t A, σ = [some (.ref a), some (.ref D), o2, o3, some (.ref r1), some (.ref r2), o6, o7] ∧ aJ3 K H D (qp (j1 0 ps), qp (j1 1 ps)) r1 r2 vs fs s t A B H2 := ⟨_, fun _ _ _ _ _ _ => Iff.rfl⟩
  refine j0 (fun σ H2 => ∃ r1 r2 rs1 rs2 la lb s A t B, σ = [some (.ref a), none, some (.ref l1), some (.ref l2), some (.ref r1), some (.ref r2), none, none] ∧ d5 H H2 ∧ H2 la = some (.lst (A.map V.int)) ∧ H2 lb = some (.lst (B.map V.int)) ∧ SqT K H2 r1 [.ref rs1, .ref la] ∧ SqT K H2 rs1 (w9 s) ∧ SqT K H2 r2 [.ref rs2, .ref lb] ∧ SqT K H2 rs2 (w9 t) ∧ s ≠ 0 ∧ t ≠ 0 ∧ scl s A = j1 0 ps ∧ scl t B = (j1 1 ps).take m ∧ (B ≠ [] → q8 B = 1) ∧ BdN W1 s ∧ BdN W2 t ∧ (∀ v ∈ A, Int.natAbs v < 2 ^ W1) ∧ (∀ v ∈ B, Int.natAbs v < 2 ^ W2)) (fun N hN2 => ?_) ?_
  · subst_eqs
    refine ⟨l1, y1, _, rfl, SqL.of e1, n1, _, cl1, by omega, w11, by rw [K1]; omega, al9 tp, fun r1 rs1 la s A H2 S2 f2 er1 ers1 ela bs1 s0 wb1 wl1 eA gA => ?_⟩
    refine ⟨l2, y2, _, rfl, SqL.of (S2 _ _ e2), n2.mono S2.tups, _, cl2 m, by omega, w12, by omega, V2 tm, fun r2 rs2 lb t B H3 S3 f3 er2 ers2 elb bs2 t0 wb2 wl2 eB gB => ?_⟩
    exact hN2 _ _ ⟨r1, r2, rs1, rs2, la, lb, s, A, t, B, rfl, S1.trans (S2.trans S3), S3 _ _ ela, elb, SqT.of (S3 _ _ er1), S3.tup ers1, SqT.of er2, ers2, s0, t0, eA.symm, eB.symm, gB, bs1, bs2, wb1, wb2⟩
  rintro σ H2 ⟨r1, r2, rs1, rs2, la, lb, s, A, t, B, rfl, S2, ela, elb, er1, ers1, er2, ers2, s0, t0, eA, eB, gB, bs, bt, wA, wB⟩
  refine j0 (fun σ H3 => ∃ D, H D = none ∧ I D r1 r2 B σ H3) (fun N hN2 => ?_) ?_
  · subst_eqs
    refine ⟨by decide, fun D hD => hN2 _ _ ⟨D, S2.free hD, (hI _ _ _ _ _ _).mpr ⟨_, _, _, _, [], [], s, t, A, rfl, ?_⟩⟩⟩
    have SD := d5.new hD (.lst [])
    have nla : la ≠ D := d8 ela hD
    have nlb : lb ≠ D := d8 elb hD
    have lA : A.length = ps.length := by have := congrArg List.length eA; rw [R9, K1] at this; exact this
    have lB : B.length = ((j1 1 ps).take m).length := by have := congrArg List.length eB; rw [R9] at this; exact this
    have tzA : B7 A A.length := tzB s0 eA.symm (al9 tp)
    have tzB' : B7 B B.length := tzB t0 eB.symm (V2 tm)
    have pr : ∀ b k, (qp (j1 b ps)).f k ≠ 0 → (ps.length - 1 + k) % 2 = b := fun b k h => by
      have h1 : aQ (j1 b ps) k ≠ 0 := h
      unfold aQ at h1
      rw [N9] at h1
      cases g : ps[k]? with
      | none => rw [g] at h1; exact absurd rfl h1
      | some q =>
        rw [g] at h1
        exact Classical.byContradiction fun z => h1 (by show (if _ then q else 0) = _; rw [if_neg z])
    have pA : Par (ps.length - 1) (zp A) := aU8 s0 (by
      rw [← G6, eA]
      exact fun k hk => Classical.byContradiction fun z => by have := pr 0 k z; omega)
    have pB : Par (ps.length - 1 + 1) (zp B) := aU8 t0 (by
      rw [← G6, eB, ab0 tm]
      exact fun k hk => Classical.byContradiction fun z => by have := pr 1 k z; omega)
    refine ⟨S2.trans SD, b7, .nil, ⟨10, W1, W2, W1, W1, W2, W2, ps.length - 1, ⟨?_, wA, wB, bs.n, bs.d, fun _ => bt.n, fun _ => bt.d, ⟨w11, w12⟩, gB, tzA, tzB', by omega, s0, t0, pA, pB⟩⟩, ⟨rs1, la, SD.tup er1, SD.tup ers1, SD _ _ ela, nla⟩, ⟨rs2, lb, SD.tup er2, SD.tup ers2, SD _ _ elb, nlb⟩, ?_, by simp, by simp, by simp; omega, by simp⟩
    · rw [lA]
      exact okr _ (by omega)
    · show (t4 s * zp A, t4 t * zp B) = _
      rw [← G6, ← G6, eA, eB, ab0 tm]
  rintro σ H3 ⟨D, fD, h3⟩
  refine j0 (fun σ H4 => ∃ r1 r2, I D r1 r2 [] σ H4) (fun N hN2 => ?_) ?_
  · show ai2 _ _ _ _ _
    refine T9 (fun σ H4 => ∃ r1 r2 B, I D r1 r2 B σ H4) (fun σ H4 => 100 - Z0 1 σ H4) ⟨_, _, _, h3⟩ ?_
    rintro σ H4 ⟨r1, r2, B, h4⟩
    obtain ⟨o2, o3, o6, o7, vs, fs, s, t, A, rfl, Rw⟩ := (hI _ _ _ _ _ _).mp h4
    obtain ⟨rs2, lb, er2, ers2, elb, lbD⟩ := Rw.f2
    simp! [aa2]
    refine ⟨_, er2, _, rfl, _, .inl ⟨_, SqL.of elb, rfl⟩, z8 (fun hB => WhB.mk ?_) (fun hB => ?_)⟩
    · have hB' : B ≠ [] := fun z => by rw [z] at hB; simp at hB
      have bp := List.length_pos_iff.mpr hB'
      subst_eqs
      obtain ⟨f, wa, wb, na, da, nb, db, al, X⟩ := Rw.eb
      obtain ⟨f', _, x1, x2, x3, x4, x5, x6, x7, x8, x9, x10, _⟩ := bf4 X.ok bp
      obtain ⟨y1, y2, y3, y4⟩ := bf5 X.ok
      obtain ⟨ra, la', era, ersa, ela', laD⟩ := Rw.f1
      have lA := X.lB
      have ln := Rw.ln
      obtain ⟨S, hS'⟩ : ∃ S, S = A.length - B.length + 1 := ⟨_, rfl⟩
      rw [← hS'] at x5 x6 x8 x9 x10
      have hSW : S * (wb + 1) = S * wb + S := by rw [Nat.mul_succ]
      refine ⟨r1, r2, s, t, A, B, B.length - 1, S, wa, wb, max na da, max nb db, rfl, ⟨ra, la', era, ersa, SqL.of ela'⟩, ⟨rs2, lb, er2, ers2, SqL.of elb⟩, by omega, by omega, by omega, V1 X.tB bp, X.tA, by omega, X.wA, X.wB, X.w1.1, by omega, by omega, by omega, by omega, ⟨Nat.lt_of_lt_of_le X.sn (d4 (by omega)), Nat.lt_of_lt_of_le X.sd (d4 (by omega))⟩, X.s0, ⟨Nat.lt_of_lt_of_le (X.tn hB') (d4 (by omega)), Nat.lt_of_lt_of_le (X.td hB') (d4 (by omega))⟩, X.t0, fun r t1 t2 r1' r2' lq lr s4 many Qz R0 Rz H5 S5 fq fr er et1 et2 es1 es2 eq elr m1 mb rb s30 s40 qb rl rt qt ql g e4 rz id => ?_⟩
      have dQ : Dg (t4 (s / ((many : Int) : Rat) / t) * zp Qz).f Qz.length := fun k hk => by rw [ad6, show (zp Qz).f k = zc Qz k from rfl, ab9 Qz k hk]; grind
      obtain ⟨f2, wc, nc, dc, X2, pQ⟩ := X.step hB' m1 (by rw [← hS']; exact mb) (by rw [← hS']; exact rb) (by rw [← hS']; exact rz) s40 rt (by omega) g e4 dQ id
      have qbits := av5 m1 mb X.t0 X.sn X.sd (X.tn hB') (X.td hB')
      have eD5 := S5 _ _ Rw.eD
      have lvs := Rw.fm.length
      refine ⟨r, rfl, _, SqT.of er, rfl, _, _, rfl, _, _, rfl, rfl, .inl ⟨_, SqL.of eD5⟩, vs, eD5, Nat.lt_of_le_of_lt (show _ ≤ 100 by omega) (by decide), ?_⟩
      show WhN _ _ _ _ _
      obtain ⟨s3, hs3⟩ : ∃ s3, s3 = s / ((many : Int) : Rat) / t := ⟨_, rfl⟩
      rw [← hs3] at dQ pQ qbits s30 es1 id
      have lQ : (scl s3 Qz).length = A.length - B.length + 1 := by rw [R9]; omega
      refine ⟨_, ?_, rfl, r2, t2, Rz, (hI _ _ _ _ _ _).mpr ⟨_, _, _, _, vs ++ [.ref t1], fs ++ [(s3, Qz)], t, s4, B, rfl, ?_⟩⟩
      · show 100 - Z0 1 _ _ < 100 - Z0 1 _ _
        unfold Z0
        simp only [List.getElem?_cons_succ, List.getElem?_cons_zero]
        rw [b7, Rw.eD]
        simp only [List.length_append, List.length_cons, List.length_nil]
        omega
      have lqD : lq ≠ D := fun z => by rw [z, Rw.eD] at fq; cases fq
      have lrD : lr ≠ D := fun z => by rw [z, Rw.eD] at fr; cases fr
      have eu : ∀ Ms, Un (Ms ++ [scl s3 Qz]) (t4 t * zp B, t4 s4 * zp Rz) = Un Ms (t4 s * zp A, t4 t * zp B) := fun Ms => by
        rw [aZ2, G6, ← id]
      refine ⟨(Rw.same.trans S5).over fD _, b7, ((Rw.fm.same S5).snoc ⟨r1', lq, SqT.of et1, es1, eq, lqD⟩).over eD5, ⟨f2, wb, wc, nb, db, nc, dc, al + 1, X2⟩, (Rw.f2.same S5).over eD5, FmX.over eD5 ⟨r2', lr, SqT.of et2, es2, elr, lrD⟩, ?_, fun i hi => ?_, fun L hL => ?_, ?_, fun f hf => ?_⟩
      · rw [List.map_append]
        show Un (_ ++ [scl s3 Qz]) _ = _
        rw [eu]; exact Rw.un
      · rw [List.length_append, List.length_singleton] at hi
        rw [List.map_append]
        show ∃ L B1 B2, (_ ++ [scl s3 Qz])[i]? = some L ∧ _ ∧ _ ∧ _ ∧ _ ∧ OvP B2 4000 (Un ((_ ++ [scl s3 Qz]).drop i) _).2 ∧ Dg (Un ((_ ++ [scl s3 Qz]).drop i) _).2.f 15
        rw [List.drop_append_of_le_length (by rw [List.length_map]; omega), eu]
        rcases Nat.lt_or_ge i fs.length with z | z
        · rw [List.getElem?_append_left (by rw [List.length_map]; exact z)]
          exact Rw.b i z
        · have ei : i = fs.length := by omega
          rw [ei, List.getElem?_append_right (by rw [List.length_map]; omega), List.length_map, Nat.sub_self, List.drop_of_length_le (by rw [List.length_map]; omega)]
          refine ⟨scl s3 Qz, s3.den, t.den, rfl, s3.den_pos, t.den_pos, ?_, fun x hx => (aT1 qbits.1 qb x hx).mono (by omega), ?_, ?_⟩
          · have := Nat.mul_lt_mul'' qbits.2 (X.td hB')
            rw [← Nat.pow_add] at this
            exact Nat.lt_of_lt_of_le this (d4 (by omega))
          · show OvP _ _ (t4 t * zp B)
            rw [← G6]
            exact az0 fun x hx => (aT1 (X.tn hB') X.wB x hx).mono (by omega)
          · show Dg (t4 t * zp B).f 15
            exact fun k hk => by rw [ad6, show (zp B).f k = zc B k from rfl, ab9 B k (by omega)]; grind
      · rw [List.map_append] at hL
        rcases List.mem_append.mp hL with z | z
        · exact Rw.m L z
        · rw [List.mem_singleton.mp z]
          exact ⟨tlB s30 qt, by rw [show (T0 (s3, Qz)).length = _ from lQ]; omega, aX4 (by rw [G6]; exact pQ), by rw [show (T0 (s3, Qz)).length = _ from lQ]; omega⟩
      · rw [List.length_append, List.length_singleton]; omega
      · rcases List.mem_append.mp hf with h | h
        · exact Rw.small f h
        · rw [List.mem_singleton.mp h]
          exact ⟨Nat.lt_of_lt_of_le qbits.2 (d4 (by omega)), Nat.lt_of_lt_of_le qbits.1 (d4 (by omega)), fun v hv => Nat.lt_of_lt_of_le (qb v hv) (d4 (by omega)), by show Qz.length ≤ 100; omega⟩
    · have hB0 : B = [] := by
        cases B with
        | nil => rfl
        | cons => simp at hB
      subst hB0
      exact hN2 _ _ ⟨_, _, h4⟩
  rintro σ H4 ⟨r1, r2, h4⟩
  obtain ⟨o2, o3, o6, o7, vs, fs, s, t, A, rfl, Rw⟩ := (hI _ _ _ _ _ _).mp h4
  subst_eqs
  refine ⟨v8, fun p hp => ?_⟩
  exact k p r1 r2 D vs fs s t A _ b7 fD (Rw.to (d5.new hp _))
end
def al4 (ps : List Rat) : Prop := (∃ c M last, N4 c M last ∧ qp ps = (fld M last M.length).1 + (fld M last M.length).2) ∨
  (ps ≠ [] ∧ ps.length ≤ 8 ∧ ∃ W1 W2, ClN W1 (j1 0 ps) ∧ (∀ m, ClN W2 ((j1 1 ps).take m)) ∧ 1 ≤ W1 ∧ 1 ≤ W2 ∧ W1 ≤ 2000 ∧ W2 ≤ 2000 ∧ ∀ b, b < ps.length → run 10 ps.length b W1 W2 W1 W1 W2 W2 = true)
theorem aR1 (ps : List Rat) : qp (j1 0 ps) + qp (j1 1 ps) = qp ps := Pf.ext fun k => by
  rw [V8]
  show aQ (j1 0 ps) k + aQ (j1 1 ps) k = aQ ps k
  unfold aQ
  rw [N9, N9]
  cases g : ps[k]? with
  | none => show (0 : Rat) + 0 = 0; grind
  | some q =>
    show (if _ then q else 0) + (if _ then q else 0) = q
    rcases Nat.mod_two_eq_zero_or_one (ps.length - 1 + k) with z | z
    · rw [if_pos z, if_neg (by omega)]; grind
    · rw [if_neg (by omega), if_pos z]; grind
section
variable {P : Program} {w : World} {K : PySem.W.Frag} {mg : Str → Option Value} {base : Heap}
structure bk0 (K : PySem.W.Frag) (H : Hp) (D r1 : Addr) (vs : List V) (fs : List (Rat × List Int)) (s : Rat) (A : List Int) (ps : List Rat) (H2 : Hp) : Prop where
  same : d5 H H2
  eD : H2 D = some (.lst vs)
  fm : Fms K D H2 vs fs
  f1 : FmX K D H2 r1 s A
  td : X4 (fs.map T0) (scl s A)
  e : qp ps = (fld (fs.map T0) (scl s A) (fs.map T0).length).1 + (fld (fs.map T0) (scl s A) (fs.map T0).length).2
  small : ∀ f ∈ fs, f.1.den < 2 ^ 6000 ∧ f.1.num.natAbs < 2 ^ 6000 ∧ (∀ v ∈ f.2, Int.natAbs v < 2 ^ 20000) ∧ f.2.length ≤ 100
  s1 : s.den < 2 ^ 6000 ∧ s.num.natAbs < 2 ^ 6000 ∧ (∀ v ∈ A, Int.natAbs v < 2 ^ 20000) ∧ A.length ≤ 100
def au9 (K : PySem.W.Frag) : Sp := fun vs H Q _ => ∃ (a : Addr) (xs : List V) (ps : List Rat), vs = [.ref a] ∧ SqL K H a xs ∧ m6 H xs ps ∧ v3 ps ps.length ∧ al4 ps ∧
  ∀ r r1 D vs fs s A H', H' r = some (.tup [.ref D, .ref r1]) → H D = none → bk0 K H D r1 vs fs s A ps H' → Q (.ref r) H'
theorem ag8 {f f1 f2 f3 : Addr} (d : Df K mg "division_forms" n8 ["p"] f) (G_by_turns : Def P w K mg base CX0 2 "by_turns" f1 ["p"] (am0 K)) (GD_lifted : Def P w K mg base CX0 3 "lifted" f2 ["p"] (aa8 K)) (GD_form_divided : Def P w K mg base CX0 4 "form_divided" f3 ["one", "other"] (aC9 K)) : Def P w K mg base CX0 5 "division_forms" f ["p"] (au9 K) := by
  refine d.ok (N := ["p", "quotients", "first", "second", "one", "other", "quotient", "rest"]) i6 (by rintro vs H Q E ⟨_, _, _, h, _⟩; rw [h]; rfl) (fun cdv A outer s H vs Q E hr h => ?_)
  obtain ⟨a, xs, ps, rfl, hS, hN, tp, h | h, k⟩ := h
  · obtain ⟨c, M, last, R, e⟩ := h
    refine ah6 d G_by_turns GD_lifted GD_form_divided cdv A outer s H _ Q E hr ⟨a, xs, ps, c, M, last, rfl, hS, hN, R, tp, e, fun r r1 r2 D vs fs H' er fD Rw => ?_⟩
    obtain ⟨s1, A1, X1⟩ := Rw.one
    have eM : fs.map T0 = M := by
      have := Rw.eM
      rw [Nat.sub_zero, List.take_length] at this
      exact this
    have eL : scl s1 A1 = last := aG8 (tlB X1.s0 X1.tz) R.t (by rw [G6, X1.e]; rfl)
    have lA := aI4 R (by omega) X1.s0 X1.tz X1.e
    have sm' := R.sum (n := 0) (by omega)
    have edn' : dn M last 0 + 1 ≤ 15 := by
      have := List.length_pos_iff.mpr R.n
      unfold dn; omega
    have ub0 := R.ub (n := 0) (by omega)
    exact k r r1 D vs fs s1 A1 H' er fD ⟨Rw.same, Rw.eD, Rw.fm, X1.fm, by rw [eM, eL]; exact R.told, by rw [eM, eL]; exact e, Rw.small, Nat.lt_of_lt_of_le X1.bs.d (d4 (by omega)), Nat.lt_of_lt_of_le X1.bs.n (d4 (by omega)), fun v hv => Nat.lt_of_lt_of_le (X1.bw v hv) (d4 (by omega)), by omega⟩
  · obtain ⟨pn, p8, W1, W2, c1, c2, w1, w2, w3, w4, okr⟩ := h
    refine ae5 d G_by_turns GD_lifted GD_form_divided cdv A outer s H _ Q E hr ⟨a, xs, ps, W1, W2, rfl, hS, hN, tp, pn, p8, c1, c2, w1, w2, w3, w4, okr, fun r r1 r2 D vs fs s t A H' er fD Rw => ?_⟩
    obtain ⟨T, e⟩ := Rw.told (B := j3 (j1 0 ps)) (z7 _) (Nat.lt_of_lt_of_le c1.l (d4 (by omega))) ((az0 fun x hx => az4 c1 hx).mono (by omega)) (fun k hk => X7 (j1 0 ps) k (by rw [K1]; omega))
    obtain ⟨f, wa, wb, na, da, nb, db, al, X⟩ := Rw.eb
    obtain ⟨y1, y2, y3, y4⟩ := bf5 X.ok
    have ln := Rw.ln
    exact k r r1 D vs fs s A H' er fD ⟨Rw.same, Rw.eD, Rw.fm, Rw.f1, T, by rw [e]; exact (aR1 ps).symm, Rw.small, Nat.lt_of_lt_of_le X.sd (d4 (by omega)), Nat.lt_of_lt_of_le X.sn (d4 (by omega)), fun v hv => Nat.lt_of_lt_of_le (X.wA v hv) (d4 (by omega)), by omega⟩
def aK2 (K : PySem.W.Frag) (C : Addr) : Sp := fun vs H Q E => ∃ (a : Addr) (xs : List V) (ps : List Rat), vs = [.ref a] ∧ SqL K H a xs ∧ m6 H xs ps ∧ v3 ps ps.length ∧ (ps = [] → E (.ref C) none H) ∧ (ps ≠ [] → al4 ps ∧
  ∀ r qa la ts ys M last H', d5 H H' → H' r = some (.tup [.ref qa, .ref la]) → H' qa = some (.lst (ts.map V.ref)) → Rws H' ts M → H' la = some (.lst ys) → m6 H' ys last → (∀ t ∈ ts, H t = none ∧ t ≠ qa) → ts.Nodup → la ∉ ts → H qa = none → H la = none → qa ≠ la → X4 M last → qp ps = (fld M last M.length).1 + (fld M last M.length).2 → Q (.ref r) H')
abbrev D9 : Stmt := top 44
theorem P3 : i5 ["p", "quotients", "last_scale", "last"] ["p"] (d3 D9) := by clean_wf
set_option maxHeartbeats 0 in
theorem az5 {f f1 f2 C : Addr} (d : Df K mg "divisions" D9 ["p"] f) (G_division_forms : Def P w K mg base CX0 5 "division_forms" f1 ["p"] (au9 K)) (G_lowered : Def P w K mg base CX0 3 "lowered" f2 ["scale", "wholes"] (au5 K)) (x_NoPolynomial : ExT K mg "NoPolynomial" C) : Def P w K mg base (CXR P w) 6 "divisions" f ["p"] (aK2 K C) := by
  refine d.okR (N := ["p", "quotients", "last_scale", "last"]) P3 (by rintro vs H Q E ⟨_, _, _, h, _⟩; rw [h]; rfl) (fun cdv A outer s H vs Q E hr h => ?_)
  obtain ⟨a, xs, ps, rfl, hS, hN, tp, k0, k1⟩ := h
  refine ⟨_, (b8 (C2 (N0 (G7 (pv 0) (fun _ => rfl))) (d6 (aU1 x_NoPolynomial.ox PySem.F.excBase_ValueError rfl rfl x_NoPolynomial.m aN5 (b0 ad7 b6))) t3)
      (b8 (G8 (d7 G_division_forms hr (b0 (pv 0) b6) g8) (show PG _ _ (O5 K 2 (t5 (p7 1) (t5 (O5 K 2 (t5 (p7 2) (t5 (p7 3) O6))) O6))) from by (refine D8 (n := 2) ?_ ?_ ?_ ?_; rfl; (refine i4 ?_ ?_ ?_; (exact (g6 (i := 1) P3.nd rfl (Or.inl rfl))); (refine i4 ?_ ?_ ?_; (refine D8 (n := 2) ?_ ?_ ?_ ?_; rfl; (refine i4 ?_ ?_ ?_; (exact (g6 (i := 2) P3.nd rfl (Or.inl rfl))); (refine i4 ?_ ?_ ?_; (exact (g6 (i := 3) P3.nd rfl (Or.inl rfl))); (exact B3); rfl); rfl); rfl; rfl); (exact B3); rfl); rfl); rfl; rfl)))
      (d6 (i3 (v7 (b0 (P7 (Nc := ["scale", "wholes"]) (caps := [none, none]) rfl (W8.of (osc := d3 D9) (N := ["p", "quotients", "last_scale", "last"]) (ks := []) rfl rfl rfl rfl F8 (by decide +kernel)) (E8 (pv 1)) (fun C s₂ H₂ fp pins => (show PG _ _ (O5 K 2 (t5 (p7 0) (t5 (p7 1) O6))) from by (refine D8 (n := 2) ?_ ?_ ?_ ?_; rfl; (refine i4 ?_ ?_ ?_; (exact (g6 (i := 0) (show List.Nodup (["scale", "wholes"] : List Str) by decide +kernel) rfl (Or.inl rfl) (Or.inr rfl))); (refine i4 ?_ ?_ ?_; (exact (g6 (i := 1) (show List.Nodup (["scale", "wholes"] : List Str) by decide +kernel) rfl (Or.inl rfl) (Or.inr rfl))); (exact B3); rfl); rfl); rfl; rfl))) (fun C s₂ H₂ fp pins => (d7 G_lowered hr (b0 (pv 0) (b0 (pv 1) b6)) g8))) (b0 (d7 G_lowered hr (b0 (pv 2) (b0 (pv 3) b6)) g8) b6))))))), ?_⟩
  rw [show start ["p", "quotients", "last_scale", "last"] [.ref a] = [some (.ref a), none, none, none] from rfl]
  have lx := hN.length
  simp! [aa2]
  refine ⟨_, .inl ⟨_, hS, rfl⟩, z8 (fun h0 => ?_) (fun h0 => ?_)⟩
  · refine ⟨by decide, k0 ?_⟩
    cases ps with
    | nil => rfl
    | cons q t => cases hN; simp at h0
  have pn : ps ≠ [] := fun z => h0 (by rw [z] at hN; cases hN; rfl)
  obtain ⟨dk, k⟩ := k1 pn
  refine ⟨a, xs, ps, rfl, hS, hN, tp, dk, fun r r1 D vs fs s1 A1 H1 er fD Rw => ?_⟩
  obtain ⟨ra, la', era, ersa, ela', laD⟩ := Rw.f1
  have lM := Rw.td.lM
  rw [List.length_map] at lM
  have lvs := Rw.fm.length
  refine ⟨r, rfl, _, SqT.of er, rfl, _, _, rfl, _, _, rfl, r1, rfl, _, era, rfl, _, _, rfl, _, _, rfl, rfl, rfl, D, rfl, ⟨_, SqL.of Rw.eD⟩, fun D2 hD2 => ?_⟩
  refine P8 vs (fun i σ H5 => ∃ o1 o2, σ = [o1, o2] ∧ ar9 H1 D2 ((fs.map fun f => scl f.1 f.2).take i) H5) ⟨_, _, rfl, ar9.start hD2⟩ (fun i σ H5 _ ⟨_, _, _, T⟩ => SqL.of (T.same _ _ Rw.eD)) ?_ ?_
  · rintro i y σ H5 hy ⟨o1, o2, rfl, T⟩
    have hi := (List.getElem?_eq_some_iff.mp hy).1
    obtain ⟨rA, s', A', rfl, hf, rsA, lA, eA, esA, elA, lAD⟩ := Rw.fm.get hy
    obtain ⟨m1, m2, m3, m4⟩ := Rw.small _ (List.mem_of_getElem? hf)
    subst_eqs
    refine ⟨_, T.same.tup eA, rfl, _, _, rfl, _, _, rfl, rfl, .ref rsA, s', lA, A', rfl, ⟨rsA, rfl, T.same.tup esA⟩, SqL.of (T.same _ _ elA), m1, m2, m3, m4, fun r' us H6 S6 f6 e6 n6 => ?_⟩
    obtain ⟨ys, ey, ly, T'⟩ := T.add hD2 f6 ⟨S6, us, e6, n6⟩
    refine J1.mk hi ey ?_ ⟨_, _, rfl, ?_⟩
    · rw [ly, List.length_take]
      exact Nat.lt_of_le_of_lt (show _ ≤ 100 by omega) (by decide)
    · rw [List.take_succ, List.getElem?_map, hf]
      exact T'
  · rintro σ H5 ⟨o1, o2, rfl, T⟩
    rw [List.take_of_length_le (by rw [List.length_map]; omega)] at T
    obtain ⟨b1, b2, b3, b4⟩ := Rw.s1
    refine ⟨.ref ra, s1, la', A1, rfl, ⟨ra, rfl, T.same.tup ersa⟩, SqL.of (T.same _ _ ela'), b1, b2, b3, b4, fun r6 ys H6 S6 f6 e6 n6 => ⟨v8, fun p hp => ?_⟩⟩
    have X := d5.new hp (.tup [.ref D2, .ref r6])
    obtain ⟨S5, ts, e5, h5, nd5, R5⟩ := T
    have nD : D2 ≠ r6 := d8 e5 f6
    refine k p D2 r6 ts ys _ _ _ (Rw.same.trans (S5.trans (S6.trans X))) b7 (X _ _ (S6 _ _ e5)) (R5.same (S6.trans X)) (X _ _ e6) (n6.mono X.tups) (fun t ht => ⟨Rw.same.free (h5 t ht).1, (h5 t ht).2⟩) nd5 (fun z => ?_) (Rw.same.free hD2) ((Rw.same.trans S5).free f6) nD Rw.td Rw.e
    obtain ⟨i, hi, ei⟩ := List.getElem_of_mem z
    obtain ⟨_, _, _, e7, _⟩ := R5.get (List.getElem?_eq_getElem hi)
    rw [ei, f6] at e7; cases e7
end
section
variable {P : Program} {w : World} {K : PySem.W.Frag} {mg : Str → Option Value} {base : Heap}
abbrev E5 : Stmt := top 61
theorem F3 : i5 ["_law_e", "_law_told", "_law_names"] ["_law_e"] (d3 E5) := by clean_wf
set_option maxHeartbeats 0 in
theorem as8 {a : CAd} {f : Addr} (d : Df K mg "_law_which" E5 ["_law_e"] f) (X : XTx K mg a) (n_isinstance : mg "isinstance" = none) (n_ValueError : mg "ValueError" = none) : be6 P w K mg base 1 "_law_which" f ["_law_e"] (ay1 K a) := by
  obtain ⟨x_NoFraction, x_NoPolynomial, x_NoStretch, x_NoRow, x_NoPair, x_NoBack, x_NoForm, x_NoParts, x_NoDegree, x_NoSteps, x_NoBox, x_NoGain, x_NoText, x_NoLine, x_NoName, x_NoDeed⟩ := X
  refine d.okX (N := ["_law_e", "_law_told", "_law_names"]) F3 (fun vs H Q E ⟨u, q, j, h, _⟩ => by rw [h]; rfl) (fun cdv A outer s H vs Q E hr h => ?_)
  obtain ⟨e, C, j, rfl, kt, hj, he, k⟩ := h
  refine ⟨_, (b8 (g7 (i := 1) F3.nd rfl (Or.inl rfl) (u0 (b0 (d9 j4 rfl n_isinstance (by decide +kernel) (b0 (pv 0) (b0 (v9 (v := .ref _) rfl x_NoFraction.m rfl) b6))) (b0 (d9 j4 rfl n_isinstance (by decide +kernel) (b0 (pv 0) (b0 (v9 (v := .ref _) rfl x_NoPolynomial.m rfl) b6))) (b0 (d9 j4 rfl n_isinstance (by decide +kernel) (b0 (pv 0) (b0 (v9 (v := .ref _) rfl x_NoStretch.m rfl) b6))) (b0 (d9 j4 rfl n_isinstance (by decide +kernel) (b0 (pv 0) (b0 (v9 (v := .ref _) rfl x_NoRow.m rfl) b6))) b6))))))
      (b8 (g7 (i := 1) F3.nd rfl (Or.inl rfl) (e8 W3 (pv 1) (u0 (b0 (d9 j4 rfl n_isinstance (by decide +kernel) (b0 (pv 0) (b0 (v9 (v := .ref _) rfl x_NoPair.m rfl) b6))) (b0 (d9 j4 rfl n_isinstance (by decide +kernel) (b0 (pv 0) (b0 (v9 (v := .ref _) rfl x_NoBack.m rfl) b6))) (b0 (d9 j4 rfl n_isinstance (by decide +kernel) (b0 (pv 0) (b0 (v9 (v := .ref _) rfl x_NoForm.m rfl) b6))) (b0 (d9 j4 rfl n_isinstance (by decide +kernel) (b0 (pv 0) (b0 (v9 (v := .ref _) rfl x_NoParts.m rfl) b6))) b6)))))))
      (b8 (g7 (i := 1) F3.nd rfl (Or.inl rfl) (e8 W3 (pv 1) (u0 (b0 (d9 j4 rfl n_isinstance (by decide +kernel) (b0 (pv 0) (b0 (v9 (v := .ref _) rfl x_NoDegree.m rfl) b6))) (b0 (d9 j4 rfl n_isinstance (by decide +kernel) (b0 (pv 0) (b0 (v9 (v := .ref _) rfl x_NoSteps.m rfl) b6))) (b0 (d9 j4 rfl n_isinstance (by decide +kernel) (b0 (pv 0) (b0 (v9 (v := .ref _) rfl x_NoBox.m rfl) b6))) (b0 (d9 j4 rfl n_isinstance (by decide +kernel) (b0 (pv 0) (b0 (v9 (v := .ref _) rfl x_NoGain.m rfl) b6))) b6)))))))
      (b8 (g7 (i := 1) F3.nd rfl (Or.inl rfl) (e8 W3 (pv 1) (u0 (b0 (d9 j4 rfl n_isinstance (by decide +kernel) (b0 (pv 0) (b0 (v9 (v := .ref _) rfl x_NoText.m rfl) b6))) (b0 (d9 j4 rfl n_isinstance (by decide +kernel) (b0 (pv 0) (b0 (v9 (v := .ref _) rfl x_NoLine.m rfl) b6))) (b0 (d9 j4 rfl n_isinstance (by decide +kernel) (b0 (pv 0) (b0 (v9 (v := .ref _) rfl x_NoName.m rfl) b6))) (b0 (d9 j4 rfl n_isinstance (by decide +kernel) (b0 (pv 0) (b0 (v9 (v := .ref _) rfl x_NoDeed.m rfl) b6))) b6)))))))
      (b8 (g7 (i := 2) F3.nd rfl (Or.inl rfl) ad7)
      (b8 (C2 (PW.pt (W9 (j5 aK6 (ac4 PySem.F.plainAttrs_list PySem.F.slot_list_count PySem.F.type_list_count aW1 (pv 1) (b0 ac5 b6)) b9 (j7 _)) (ad5 (N0 (T8 (d9 j4 rfl n_isinstance (by decide +kernel) (b0 (pv 0) (b0 (W0 (v := .ty "ValueError") rfl n_ValueError (by decide +kernel) rfl) b6)))))))) (d6 (i3 ad7)) t3)
      (d6 (i3 (j6 w5 (ac4 PySem.F.plainAttrs_str PySem.F.slot_str_split PySem.F.type_str_split aV9 (pv 2) (b0 ad7 b6)) (ac4 PySem.F.plainAttrs_list PySem.F.slot_list_index PySem.F.type_list_index aW0 (pv 1) (b0 ac5 b6)) (fun _ _ => rfl)))))))))), ?_⟩
  rw [show start ["_law_e", "_law_told", "_law_names"] [.ref e] = [some (.ref e), none, none] from rfl]
  have ty : ∀ {H' : Hp}, d5 H H' → TyX K H' (.ref e) (.ref C) := fun sm => .exc (sm _ _ he) kt.ec
  simp (maxSteps := 10000000) only [aW8, bm6, ipM, ad0, bo0, bg5, bl0, bn8, aN6, bm4, bo1, bl7, bl3, af3, V4, aC0, bo5, aT5, aC2, tSl, bn6, aB7, af2, aT4, aT6, ag6, aF2, M2, List.map_cons, List.map_nil, Option.bind_none, Option.bind_some, Option.join_some, aM6, aS1, aS4, tOr, aR9, am7, tB, tOp, tUn, aN0, tBM, Q3, tC, tCB, aM7, aG5, p7, aX3, O5, t5, O6, U0, am9, aM8, aM5, aS0, tIf, aC3, aR8, aB8, aM9, ai3, bg6, aC1, bl2, aB9, ao0, bg7, am8, aS3, ipI, rI, rI0, rU, ag5, aD3, aN7, aD2, rEq, rNe, ao7, ao6, ao5, aT7, aT9, aF0, bm7, aF1, bo6, ae9, cxR, cxX, Cx.nox, Cx.wish, Cx.body, Cx.suite, List.getElem?_cons_zero, List.getElem?_cons_succ, List.set_cons_zero, List.set_cons_succ, Option.some.injEq, V.int.injEq, V.bl.injEq, V.ref.injEq, V.str.injEq, exists_eq_left', exists_eq_left, exists_and_left, true_and, and_true, List.cons.injEq, reduceCtorEq, Bool.false_eq_true, if_false, if_true, exists_const, ↓reduceIte, tyV, List.length_cons, List.length_nil, exists_eq, List.append_nil, List.cons_append, List.nil_append, decide_eq_true_eq, not_true_eq_false, not_false_eq_true, Bool.not_eq_true', decide_eq_false_iff_not, Bool.not_true, Bool.not_false, and_assoc, false_and, false_or, or_false]
  refine ⟨trivial, _, ty (d5.refl _), _, kt.k_NoFraction, trivial, _, ty (d5.refl _), _, kt.k_NoPolynomial, trivial, _, ty (d5.refl _), _, kt.k_NoStretch, trivial, _, ty (d5.refl _), _, kt.k_NoRow, by decide, fun l1 h1 => ?_⟩
  have sA1 := d5.new h1 (.lst [V.bl (decide (j = 0)), V.bl (decide (j = 1)), V.bl (decide (j = 2)), V.bl (decide (j = 3))])
  have eA1 : (upd H l1 (.lst [V.bl (decide (j = 0)), V.bl (decide (j = 1)), V.bl (decide (j = 2)), V.bl (decide (j = 3))])) l1 = _ := b7
  generalize upd H l1 (.lst [V.bl (decide (j = 0)), V.bl (decide (j = 1)), V.bl (decide (j = 2)), V.bl (decide (j = 3))]) = H1 at sA1 eA1 ⊢
  refine ⟨trivial, _, ty sA1, _, kt.k_NoPair, trivial, _, ty sA1, _, kt.k_NoBack, trivial, _, ty sA1, _, kt.k_NoForm, trivial, _, ty sA1, _, kt.k_NoParts, by decide, fun p1 hp1 => ?_⟩
  refine ⟨_, (e9 (d8 eA1 hp1)).trans eA1, _, b7, (show (8 : Nat) ≤ sizeLine from by decide), fun l2 h2 => ?_⟩
  have sA2 := (sA1.trans (d5.new hp1 (.lst [V.bl (decide (j = 4)), V.bl (decide (j = 5)), V.bl (decide (j = 6)), V.bl (decide (j = 7))]))).trans (d5.new h2 (.lst ([V.bl (decide (j = 0)), V.bl (decide (j = 1)), V.bl (decide (j = 2)), V.bl (decide (j = 3))] ++ [V.bl (decide (j = 4)), V.bl (decide (j = 5)), V.bl (decide (j = 6)), V.bl (decide (j = 7))])))
  have eA2 : (upd (upd H1 p1 (.lst [V.bl (decide (j = 4)), V.bl (decide (j = 5)), V.bl (decide (j = 6)), V.bl (decide (j = 7))])) l2 (.lst ([V.bl (decide (j = 0)), V.bl (decide (j = 1)), V.bl (decide (j = 2)), V.bl (decide (j = 3))] ++ [V.bl (decide (j = 4)), V.bl (decide (j = 5)), V.bl (decide (j = 6)), V.bl (decide (j = 7))]))) l2 = _ := b7
  generalize upd (upd H1 p1 (.lst [V.bl (decide (j = 4)), V.bl (decide (j = 5)), V.bl (decide (j = 6)), V.bl (decide (j = 7))])) l2 (.lst ([V.bl (decide (j = 0)), V.bl (decide (j = 1)), V.bl (decide (j = 2)), V.bl (decide (j = 3))] ++ [V.bl (decide (j = 4)), V.bl (decide (j = 5)), V.bl (decide (j = 6)), V.bl (decide (j = 7))])) = H2 at sA2 eA2 ⊢
  refine ⟨trivial, _, ty sA2, _, kt.k_NoDegree, trivial, _, ty sA2, _, kt.k_NoSteps, trivial, _, ty sA2, _, kt.k_NoBox, trivial, _, ty sA2, _, kt.k_NoGain, by decide, fun p2 hp2 => ?_⟩
  refine ⟨_, (e9 (d8 eA2 hp2)).trans eA2, _, b7, (show (12 : Nat) ≤ sizeLine from by decide), fun l3 h3 => ?_⟩
  have sA3 := (sA2.trans (d5.new hp2 (.lst [V.bl (decide (j = 8)), V.bl (decide (j = 9)), V.bl (decide (j = 10)), V.bl (decide (j = 11))]))).trans (d5.new h3 (.lst ([V.bl (decide (j = 0)), V.bl (decide (j = 1)), V.bl (decide (j = 2)), V.bl (decide (j = 3))] ++ [V.bl (decide (j = 4)), V.bl (decide (j = 5)), V.bl (decide (j = 6)), V.bl (decide (j = 7))] ++ [V.bl (decide (j = 8)), V.bl (decide (j = 9)), V.bl (decide (j = 10)), V.bl (decide (j = 11))])))
  have eA3 : (upd (upd H2 p2 (.lst [V.bl (decide (j = 8)), V.bl (decide (j = 9)), V.bl (decide (j = 10)), V.bl (decide (j = 11))])) l3 (.lst ([V.bl (decide (j = 0)), V.bl (decide (j = 1)), V.bl (decide (j = 2)), V.bl (decide (j = 3))] ++ [V.bl (decide (j = 4)), V.bl (decide (j = 5)), V.bl (decide (j = 6)), V.bl (decide (j = 7))] ++ [V.bl (decide (j = 8)), V.bl (decide (j = 9)), V.bl (decide (j = 10)), V.bl (decide (j = 11))]))) l3 = _ := b7
  generalize upd (upd H2 p2 (.lst [V.bl (decide (j = 8)), V.bl (decide (j = 9)), V.bl (decide (j = 10)), V.bl (decide (j = 11))])) l3 (.lst ([V.bl (decide (j = 0)), V.bl (decide (j = 1)), V.bl (decide (j = 2)), V.bl (decide (j = 3))] ++ [V.bl (decide (j = 4)), V.bl (decide (j = 5)), V.bl (decide (j = 6)), V.bl (decide (j = 7))] ++ [V.bl (decide (j = 8)), V.bl (decide (j = 9)), V.bl (decide (j = 10)), V.bl (decide (j = 11))])) = H3 at sA3 eA3 ⊢
  refine ⟨trivial, _, ty sA3, _, kt.k_NoText, trivial, _, ty sA3, _, kt.k_NoLine, trivial, _, ty sA3, _, kt.k_NoName, trivial, _, ty sA3, _, kt.k_NoDeed, by decide, fun p3 hp3 => ?_⟩
  refine ⟨_, (e9 (d8 eA3 hp3)).trans eA3, _, b7, (show (16 : Nat) ≤ sizeLine from by decide), fun l4 h4 => ?_⟩
  have sA4 := (sA3.trans (d5.new hp3 (.lst [V.bl (decide (j = 12)), V.bl (decide (j = 13)), V.bl (decide (j = 14)), V.bl (decide (j = 15))]))).trans (d5.new h4 (.lst ([V.bl (decide (j = 0)), V.bl (decide (j = 1)), V.bl (decide (j = 2)), V.bl (decide (j = 3))] ++ [V.bl (decide (j = 4)), V.bl (decide (j = 5)), V.bl (decide (j = 6)), V.bl (decide (j = 7))] ++ [V.bl (decide (j = 8)), V.bl (decide (j = 9)), V.bl (decide (j = 10)), V.bl (decide (j = 11))] ++ [V.bl (decide (j = 12)), V.bl (decide (j = 13)), V.bl (decide (j = 14)), V.bl (decide (j = 15))])))
  have eA4 : (upd (upd H3 p3 (.lst [V.bl (decide (j = 12)), V.bl (decide (j = 13)), V.bl (decide (j = 14)), V.bl (decide (j = 15))])) l4 (.lst ([V.bl (decide (j = 0)), V.bl (decide (j = 1)), V.bl (decide (j = 2)), V.bl (decide (j = 3))] ++ [V.bl (decide (j = 4)), V.bl (decide (j = 5)), V.bl (decide (j = 6)), V.bl (decide (j = 7))] ++ [V.bl (decide (j = 8)), V.bl (decide (j = 9)), V.bl (decide (j = 10)), V.bl (decide (j = 11))] ++ [V.bl (decide (j = 12)), V.bl (decide (j = 13)), V.bl (decide (j = 14)), V.bl (decide (j = 15))]))) l4 = _ := b7
  generalize upd (upd H3 p3 (.lst [V.bl (decide (j = 12)), V.bl (decide (j = 13)), V.bl (decide (j = 14)), V.bl (decide (j = 15))])) l4 (.lst ([V.bl (decide (j = 0)), V.bl (decide (j = 1)), V.bl (decide (j = 2)), V.bl (decide (j = 3))] ++ [V.bl (decide (j = 4)), V.bl (decide (j = 5)), V.bl (decide (j = 6)), V.bl (decide (j = 7))] ++ [V.bl (decide (j = 8)), V.bl (decide (j = 9)), V.bl (decide (j = 10)), V.bl (decide (j = 11))] ++ [V.bl (decide (j = 12)), V.bl (decide (j = 13)), V.bl (decide (j = 14)), V.bl (decide (j = 15))])) = H4 at sA4 eA4 ⊢
  have eT : H4 l4 = some (.lst (told j)) := eA4
  clear eA4
  refine ⟨.inl ⟨_, SqL.of eT⟩, _, eT, rfl, au1 j hj, rfl, ?_⟩
  rw [aG4 j hj]
  refine z8 (fun hh => absurd rfl hh) (fun _ => ?_)
  refine ⟨trivial, _, ty sA4, _, kt.kV, ?_⟩
  refine z8 (fun hh => absurd hh (by decide)) (fun _ => ?_)
  refine ⟨by decide +kernel, by decide +kernel, by decide +kernel, by decide +kernel, by rw [ak1]; decide, fun l hl => ?_⟩
  have eT' : (upd H4 l (.lst ((ab4 "fraction polynomial stretch row pair back form parts degree steps box gain text line name deed" " ").map V.str))) l4 = some (.lst (told j)) := (e9 (d8 eT hl)).trans eT
  refine ⟨.inl ⟨_, SqL.of eT'⟩, _, eT', rfl, au1 j hj, _, aR4 j hj, _, SqL.of b7, _, bb4 hj, ?_⟩
  exact k _ (sA4.trans (d5.new hl _))
end
theorem X4.fl {M : List (List Rat)} {last : List Rat} (T : X4 M last) : ∀ n, n ≤ M.length → ∃ B, 0 < B ∧ B < 2 ^ 3000 ∧ OvP B 4000 (fld M last n).1 ∧ Dg (fld M last n).1.f 15 := fun n hn => by
  rcases Nat.lt_or_ge n M.length with z | z
  · obtain ⟨L, B1, B2, _, h1, h2, h3, _, o, dg⟩ := T.b n z
    exact ⟨B2, h2, Nat.lt_of_le_of_lt (Nat.le_mul_of_pos_left _ h1) h3, o, dg⟩
  · have e : n = M.length := by omega
    rw [e]; exact T.top
theorem X4.fl2 {M : List (List Rat)} {last : List Rat} (T : X4 M last) : ∀ n, n ≤ M.length → ∃ B, 0 < B ∧ B < 2 ^ 3000 ∧ OvP B 4000 (fld M last n).2 ∧ Dg (fld M last n).2.f 15
  | 0, _ => ⟨1, by decide, Nat.lt_of_lt_of_le (show 1 < 2 ^ 1 by decide) (d4 (by decide)), fun k => by rw [show (fld M last 0).2 = 0 from rfl, K4]; exact OvB.zero _ _, fun k _ => by rw [show (fld M last 0).2 = 0 from rfl]; exact K4 k⟩
  | n + 1, h => T.fl n (by omega)
section
variable {P : Program} {w : World} {K : PySem.W.Frag} {mg : Str → Option Value} {base : Heap}
def ai4 (K : PySem.W.Frag) : Sp := fun vs H Q _ => ∃ (a b : Addr) (ts : List Addr) (xs : List V) (M : List (List Rat)) (last : List Rat), vs = [.ref a, .ref b] ∧ SqL K H a (ts.map V.ref) ∧ Rws H ts M ∧ SqL K H b xs ∧ m6 H xs last ∧ X4 M last ∧
  ∀ r zs ps H', d5 H H' → H r = none → H' r = some (.lst zs) → m6 H' zs ps → v3 ps ps.length → qp ps = (fld M last M.length).1 + (fld M last M.length).2 → Q (.ref r) H'
abbrev D5 : Stmt := top 64
theorem M4 : i5 ["_law_quotients", "_law_last", "_law_one", "_law_first", "_law_second"] ["_law_quotients", "_law_last"] (d3 D5) := by clean_wf
set_option maxHeartbeats 0 in
theorem ap5 {f f1 f2 : Addr} (d : Df K mg "_law_folded" D5 ["_law_quotients", "_law_last"] f) (G__law_poly_plus : Def P w K mg base CX0 3 "_law_poly_plus" f1 ["_law_p", "_law_q"] (aS7 K)) (G__law_poly_times : Def P w K mg base CX0 3 "_law_poly_times" f2 ["_law_p", "_law_q"] (aK0 K)) (n_reversed : mg "reversed" = none) : Def P w K mg base CX0 4 "_law_folded" f ["_law_quotients", "_law_last"] (ai4 K) := by
  refine d.ok (N := ["_law_quotients", "_law_last", "_law_one", "_law_first", "_law_second"]) M4 (by rintro vs H Q E ⟨_, _, _, _, _, _, h, _⟩; rw [h]; rfl) (fun cdv A outer s H vs Q E hr h => ?_)
  obtain ⟨a, b, ts, xs, M, last, rfl, hS, hR, hSb, hNb, R, k⟩ := h
  refine ⟨_, (b8 (X8 (i := 3) (j := 4) rfl M4.nd rfl rfl (by decide) rfl rfl (b0 (pv 1) (b0 (u0 b6) b6)) rfl)
      (b8 (N1 PassesOwn.never rfl (bh5 rfl n_reversed (b0 (pv 0) b6)) (g6 (i := 2) M4.nd rfl (Or.inl rfl)) (d6 (X8 (i := 3) (j := 4) rfl M4.nd rfl rfl (by decide) rfl rfl (b0 (d7 G__law_poly_plus hr (b0 (d7 G__law_poly_times hr (b0 (pv 2) (b0 (pv 3) b6)) g8) (b0 (pv 4) b6)) g8) (b0 (pv 3) b6)) rfl)))
      (d6 (i3 (d7 G__law_poly_plus hr (b0 (pv 3) (b0 (pv 4) b6)) g8))))), ?_⟩
  rw [show start ["_law_quotients", "_law_last", "_law_one", "_law_first", "_law_second"] [.ref a, .ref b] = [some (.ref a), some (.ref b), none, none, none] from rfl]
  have ll := R.ll
  have lM := R.lM
  have lts := hR.length
  refine j0 (fun σ H1 => ∃ l, σ = [some (.ref a), some (.ref b), none, some (.ref b), some (.ref l)] ∧ d5 H H1 ∧ H1 l = some (.lst [])) (fun N hN => ?_) ?_
  · subst_eqs
    exact ⟨by decide, fun p hp => hN _ _ ⟨p, rfl, d5.new hp _, b7⟩⟩
  rintro σ H1 ⟨l0, rfl, S1, e0⟩
  obtain ⟨I, hI⟩ : ∃ I : Nat → L2.St → Hp → Prop, ∀ i σ H2, I i σ H2 ↔ ∃ o2 p1 p2 z1 z2 F1 F2, σ = [some (.ref a), some (.ref b), o2, some (.ref p1), some (.ref p2)] ∧ d5 H H2 ∧ SqL K H2 p1 z1 ∧ SqL K H2 p2 z2 ∧ m6 H2 z1 F1 ∧ m6 H2 z2 F2 ∧ v3 F1 F1.length ∧ v3 F2 F2.length ∧ qp F1 = (fld M last i).1 ∧ qp F2 = (fld M last i).2 := ⟨_, fun _ _ _ => Iff.rfl⟩
  refine j0 (I M.length) (fun N hN => ?_) ?_
  · refine ⟨_, rfl, a, _, rfl, S1.seq hS, bc3 (xs := ts.map V.ref) I ((hI _ _ _).mpr ⟨_, b, l0, xs, [], last, [], rfl, S1, S1.seq hSb, SqL.of e0, hNb.mono S1.tups, .nil, R.t, aR5, rfl, bh0⟩) (by rintro i σ H2 _ h2; obtain ⟨_, _, _, _, _, _, _, _, s2, _⟩ := (hI _ _ _).mp h2; exact s2.seq hS) ?_ (by rintro σ H2 h2; rw [List.length_map, lts] at h2; exact hN _ _ h2)⟩
    rintro i x σ H2 hi hx h2
    obtain ⟨o2, p1, p2, z1, z2, F1, F2, rfl, s2, q1, q2, n1, n2, t1, t2, e1, e2⟩ := (hI _ _ _).mp h2
    rw [List.length_map] at hi hx
    have him : i < M.length := by omega
    obtain ⟨L, B1, B2, hg, B10, B20, BB, oL, oF, dF⟩ := R.b i him
    have hLM := List.mem_of_getElem? hg
    obtain ⟨pL, hpL, rfl⟩ := ao4 hx
    obtain ⟨ys, L', hL', eL, nL⟩ := hR.get hpL
    rw [show ts.length - 1 - i = M.length - 1 - i by omega, hg] at hL'
    cases hL'
    obtain ⟨tL, l2, _, l15⟩ := R.m L hLM
    obtain ⟨C, C0, hC, oC, dC⟩ := R.fl2 i (by omega)
    have lF1 := aB6 t1 e1 dF
    have lF2 := aB6 t2 e2 dC
    have ei : (fld M last (i + 1)).1 = qp L * (fld M last i).1 + (fld M last i).2 := by
      show qp ((M[M.length - 1 - i]?).getD []) * (fld M last i).1 + (fld M last i).2 = _
      rw [hg]; rfl
    have o1 : ∀ x ∈ F1, OvB B2 4000 x := Y0 (by rw [e1]; exact oF)
    have o2' : ∀ x ∈ F2, OvB C 4000 x := Y0 (by rw [e2]; exact oC)
    subst_eqs
    refine ⟨pL, p1, ys, z1, L, F1, B1, B2, 4000, 4000, 3000, rfl, SqL.of (s2 _ _ eL), q1, nL.mono s2.tups, n1, oL, o1, B10, B20, BB, by decide, by decide, by decide, by omega, by omega, fun m r3 z3 H3 tm3 ob3 s3 f3 e3 n3 => ?_⟩
    have lm : (Q9 L F1).length ≤ 40 := by
      by_cases zz : F1 = []
      · subst zz
        have : Q9 L [] = [] := by unfold Q9; rw [if_pos (.inr rfl)]
        rw [this]; simp
      · have := aE5 (p := L) (q := F1) (fun z => by rw [z] at l2; simp at l2) zz
        omega
    refine ⟨r3, p2, z3, z2, _, F2, rfl, SqL.of e3, s3.seq q2, n3, n2.mono s3.tups, ⟨3000, 3000, fun q hq => (ob3 q (List.mem_of_mem_take hq)).bt (Nat.mul_pos B10 B20) BB (by decide), fun q hq => (o2' q hq).bt C0 hC (by decide), by decide, by decide, by decide⟩, by rw [List.length_take]; omega, by omega, fun m4 r4 z4 H4 tm4 s4 f4 e4 n4 => ?_⟩
    refine (hI _ _ _).mpr ⟨_, r4, p1, z4, z1, _, F1, rfl, s2.trans (s3.trans s4), SqL.of e4, (s3.trans s4).seq q1, n4, n1.mono (s3.trans s4).tups, V2 tm4, t1, ?_, e1⟩
    rw [ab0 tm4, aU0, ab0 tm3, bh1, e1, e2, ei]
  rintro σ H2 h2
  obtain ⟨o2, p1, p2, z1, z2, F1, F2, rfl, s2, q1, q2, n1, n2, t1, t2, e1, e2⟩ := (hI _ _ _).mp h2
  obtain ⟨B, B0, hB, oB, dB⟩ := R.top
  obtain ⟨C, C0, hC, oC, dC⟩ := R.fl2 M.length (Nat.le_refl _)
  have lF1 := aB6 t1 e1 dB
  have lF2 := aB6 t2 e2 dC
  have o1 : ∀ x ∈ F1, OvB B 4000 x := Y0 (by rw [e1]; exact oB)
  have o2' : ∀ x ∈ F2, OvB C 4000 x := Y0 (by rw [e2]; exact oC)
  subst_eqs
  refine ⟨p1, p2, z1, z2, F1, F2, rfl, q1, q2, n1, n2, ⟨3000, 3000, fun q hq => (o1 q hq).bt B0 hB (by decide), fun q hq => (o2' q hq).bt C0 hC (by decide), by decide, by decide, by decide⟩, by omega, by omega, fun m4 r4 z4 H4 tm4 s4 f4 e4 n4 => ?_⟩
  exact k r4 z4 _ H4 (s2.trans s4) (s2.free f4) e4 n4 (V2 tm4) (by rw [ab0 tm4, aU0, e1, e2])
def ay4 (K : PySem.W.Frag) : Sp := fun vs H Q _ => ∃ (a : Addr) (xs : List V) (ps : List Rat), vs = [.ref a] ∧ SqL K H a xs ∧ m6 H xs ps ∧ v3 ps ps.length ∧ (ps = [] → ∀ t H', d5 H H' → H' t = some (.tup [.str "refused", .str "polynomial"]) → Q (.ref t) H') ∧ (ps ≠ [] → al4 ps ∧
  ∀ r qa la ts ys M last H', d5 H H' → H' r = some (.tup [.ref qa, .ref la]) → H' qa = some (.lst (ts.map V.ref)) → Rws H' ts M → H' la = some (.lst ys) → m6 H' ys last → (∀ t ∈ ts, H t = none ∧ t ≠ qa) → ts.Nodup → la ∉ ts → H qa = none → H la = none → qa ≠ la → X4 M last → qp ps = (fld M last M.length).1 + (fld M last M.length).2 → Q (.ref r) H')
abbrev G2 : Stmt := top 66
theorem af9 : i5 ["_law_p", "_law_e"] ["_law_p"] (d3 G2) := by clean_wf
set_option maxHeartbeats 0 in
theorem az7 {a : CAd} {f fw fg : Addr} (d : Df K mg "_law_said" G2 ["_law_p"] f) (G_divisions : Def P w K mg base (CXR P w) 6 "divisions" fg ["p"] (aK2 K a.c_NoPolynomial)) (G__law_which : be6 P w K mg base 1 "_law_which" fw ["_law_e"] (ay1 K a)) (x_RestError : ExT K mg "RestError" a.c_RestError) (kt : bk7 K a a.c_NoPolynomial 1) :
    Def P w K mg base CX0 7 "_law_said" f ["_law_p"] (ay4 K) := by
  refine d.ok (N := ["_law_p", "_law_e"]) af9 (by rintro vs H Q E ⟨_, _, _, h, _⟩; rw [h]; rfl) (fun cdv A outer s H vs Q E hr h => ?_)
  obtain ⟨a', xs, ps, rfl, hS, hN, tp, k0, k1⟩ := h
  refine ⟨_, (d6 (bh3 (i := 1) (C := a.c_RestError) rfl rfl rfl af9.nd rfl rfl rfl x_RestError.m (fun E xe pn hx => (d6 (i3 (d7 G_divisions hr (b0 (pv 0) b6) hx)))) (fun b => (d6 (i3 (v7 (b0 ad7 (b0 (ba5 G__law_which (hr.toX.mark _) (b0 (pv 1) b6)) b6)))))))), ?_⟩
  rw [show start ["_law_p", "_law_e"] [.ref a'] = [some (.ref a'), none] from rfl]
  simp! [bl1, ay1]
  exact ⟨a', xs, ps, rfl, hS, hN, tp, fun hn => ⟨kt.ex, fun e he => ⟨_, rfl, e, rfl, _, 1, kt, by decide, b7, fun H2 s2 => ⟨v8, fun p hp => k0 hn p _ (((d5.new he _).trans s2).trans (d5.new hp _)) b7⟩⟩⟩, k1⟩
end
end R
set_option maxRecDepth 100000
namespace L2
open PySem PySem.Spec PyProof.Rows
end L2
set_option maxRecDepth 100000
namespace R
open PySem L2 PyProof.Rows
section
variable {P : Program} {w : World} {K : PySem.W.Frag} {mg : Str → Option Value} {base : Heap}
def aC6 (K : PySem.W.Frag) : Sp := fun vs H Q _ => ∃ (a : Addr) (xs : List V) (qs : List Rat) (od : Int), vs = [.ref a, .int od] ∧ SqL K H a xs ∧ m6 H xs qs ∧ (od = 0 ∨ od = 1) ∧ qs.length ≤ 100 ∧ ∀ H', d5 H H' → Q (.bl (if od = 1 then evZ qs else odZ qs)) H'
abbrev C7 : Stmt := top 65
theorem as5 : i5 ["_law_p", "_law_place"] ["_law_p", "_law_place"] (d3 C7) := by clean_wf
set_option maxHeartbeats 0 in
theorem at4 {f : Addr} (d : Df K mg "_law_alone" C7 ["_law_p", "_law_place"] f) (n_all : mg "all" = none) (n_enumerate : mg "enumerate" = none) : Def P w K mg base CX0 1 "_law_alone" f ["_law_p", "_law_place"] (aC6 K) := by
  refine d.ok (N := ["_law_p", "_law_place"]) as5 (by rintro vs H Q E ⟨_, _, _, _, h, _⟩; rw [h]; rfl) (fun cdv A outer s H vs Q E hr h => ?_)
  obtain ⟨a, xs, qs, od, rfl, hS, hN, ho, hl, k⟩ := h
  have hu := hr.units
  refine ⟨_, (d6 (i3 (d9 (aG1 rfl) rfl n_all (by decide +kernel) (b0 (aO2 (Nc := ["_law_place", "_law_i", "_law_number_here"]) (caps := [some 1, none, none]) rfl (W8.of (osc := d3 C7) (N := ["_law_p", "_law_place"]) (ks := ["_law_place"]) rfl rfl rfl rfl (G0 rfl F8) (by decide +kernel)) (ab3 rfl n_enumerate (b0 (pv 0) b6)) (fun C s₂ H₂ fp pins => (show PG _ _ (O5 K 2 (t5 (p7 1) (t5 (p7 2) O6))) from by (refine D8 (n := 2) ?_ ?_ ?_ ?_; rfl; (refine i4 ?_ ?_ ?_; (exact (g6 (i := 1) (show List.Nodup (["_law_place", "_law_i", "_law_number_here"] : List Str) by decide +kernel) rfl (Or.inl rfl) (Or.inr rfl))); (refine i4 ?_ ?_ ?_; (exact (g6 (i := 2) (show List.Nodup (["_law_place", "_law_i", "_law_number_here"] : List Str) by decide +kernel) rfl (Or.inl rfl) (Or.inr rfl))); (exact B3); rfl); rfl); rfl; rfl))) (fun C s₂ H₂ fp pins => (j5 aK6 (e8 J2 (pv 1) b9) (pv 0) (j7 _))) (fun C s₂ H₂ fp pins => (V9 X0 (j6 (by exact p9 : IxR _ (aN7 K)) (pv 2) b9 (fun _ _ => rfl)) b9 (j7 _)))) b6)))), ?_⟩
  rw [show start ["_law_p", "_law_place"] [.ref a, .int od] = [some (.ref a), some (.int od)] from rfl]
  subst_eqs
  have lx := hN.length
  obtain ⟨pick, hpick⟩ : ∃ pick : List Rat → List Rat, pick = fun l => if od = 1 then evs l else ods l := ⟨_, rfl⟩
  have hk : (if od = 1 then evZ qs else odZ qs) = (pick qs).all fun q => decide (q = 0) := by
    rw [hpick]
    rcases ho with rfl | rfl <;> rfl
  rw [hk] at k
  have step : ∀ (l : List Rat) (q : Rat), pick (l ++ [q]) = if ((l.length : Int).fmod 2) ≠ od then pick l ++ [q] else pick l := by
    intro l q
    have em : ((l.length : Int).fmod 2) = ((l.length % 2 : Nat) : Int) := by rw [Int.fmod_eq_emod_of_nonneg _ (by decide)]; omega
    rw [hpick, em]
    rcases ho with rfl | rfl
    · show ods (l ++ [q]) = if ((l.length % 2 : Nat) : Int) ≠ 0 then ods l ++ [q] else ods l
      rw [aV6]
      by_cases z : l.length % 2 = 1
      · rw [if_pos z, if_pos (by omega)]
      · rw [if_neg z, if_neg (by omega)]
    · show evs (l ++ [q]) = if ((l.length % 2 : Nat) : Int) ≠ 1 then evs l ++ [q] else evs l
      rw [aq4]
      by_cases z : l.length % 2 = 0
      · rw [if_pos z, if_pos (by omega)]
      · rw [if_neg z, if_neg (by omega)]
  have plen : ∀ l : List Rat, (pick l).length ≤ l.length := fun l => by
    rw [hpick]
    show (if od = 1 then evs l else ods l).length ≤ _
    split
    · exact aA7 l
    · exact bb2 l
  refine ⟨⟨_, hS⟩, fun D hD => ?_⟩
  refine aP6 xs (fun j σ H3 => ∃ o1 o2, σ = [some (.int od), o1, o2] ∧ d5 H H3 ∧ H3 D = some (.lst (((pick (qs.take j)).map fun q => decide (q = 0)).map V.bl))) ⟨_, _, rfl, d5.new hD _, ?_⟩ (by rintro j σ H3 _ ⟨_, _, _, s3, _⟩; exact s3.seq hS) ?_ ?_
  · rw [b7, List.take_zero]
    rw [hpick]
    show _ = some (HO.lst (((if od = 1 then evs ([] : List Rat) else ods []).map fun q => decide (q = 0)).map V.bl))
    split <;> rfl
  · rintro j x σ H3 p hx ⟨o1, o2, rfl, s3, e3⟩ hp
    have hj := (List.getElem?_eq_some_iff.mp hx).1
    obtain ⟨px, q, rfl, hq, epx⟩ := hN.getV hx
    have T := d5.new hp (.tup [.int j, .ref px])
    have eT := T _ _ e3
    have ljt : (qs.take j).length = j := by rw [List.length_take]; omega
    have est := step (qs.take j) q
    rw [ljt] at est
    have etk : qs.take (j + 1) = qs.take j ++ [q] := by rw [List.take_succ, hq]; rfl
    subst_eqs
    refine ⟨_, SqT.of b7, rfl, _, _, rfl, _, _, rfl, rfl, _, rfl, by decide, rfl, z8 (fun h => ?_) (fun h => ?_)⟩
    · refine ⟨px, rfl, _, SqT.of ((s3.trans T) _ _ epx), _, at0 q, rfl, J1.mk hj eT ?_ ⟨_, _, rfl, (s3.trans T).over hD _, ?_⟩⟩
      · simp only [List.length_map]
        have := plen (qs.take j)
        rw [ljt] at this
        exact Nat.lt_of_le_of_lt (show _ ≤ 100 by omega) (by decide)
      · have eq0 : decide (V.int q.num = V.int 0) = decide (q = 0) := by
          by_cases z : q = 0
          · have := Q8.mpr z
            rw [this]; simp [z]
          · have : q.num ≠ 0 := fun y => z (Q8.mp y)
            simp [z, this]
        rw [b7, etk, est, if_pos h, eq0]
        simp
    · refine aG2.mk hj ⟨_, _, rfl, s3.trans T, ?_⟩
      rw [etk, est, if_neg h]
      exact eT
  · rintro σ H3 ⟨o1, o2, rfl, s3, e3⟩
    rw [lx, List.take_length] at e3
    refine ⟨D, rfl, (pick qs).map fun q => decide (q = 0), SqL.of e3, ?_⟩
    rw [List.all_map]
    exact k _ s3
end
theorem aV1 {B W m : Nat} {q : Rat} (B0 : 0 < B) (hB : B < 2 ^ m) (h : OvB B W q) : q.den < 2 ^ m := by
  obtain ⟨t, rfl, ht⟩ := h
  have le := M1 (t := t) (b := (B : Int)) (by omega)
  exact Nat.lt_of_le_of_lt le.2 (by rw [Int.natAbs_natCast]; exact hB)
section
variable {P : Program} {w : World} {K : PySem.W.Frag} {mg : Str → Option Value} {base : Heap}
def aC7 (K : PySem.W.Frag) : Sp := fun vs H Q _ => ∃ (r qa la : Addr) (ts : List Addr) (ys : List V) (M : List (List Rat)) (last : List Rat), vs = [.ref r] ∧ H r = some (.tup [.ref qa, .ref la]) ∧ H qa = some (.lst (ts.map V.ref)) ∧ Rws H ts M ∧ H la = some (.lst ys) ∧ m6 H ys last ∧ X4 M last ∧ ∀ H', d5 H H' → Q (.bl true) H'
abbrev D4 : Stmt := top 68
theorem Q7 : i5 ["_law_told", "_law_one", "_law_last"] ["_law_told"] (d3 D4) := by clean_wf
set_option maxHeartbeats 0 in
theorem ap4 {f f1 f2 : Addr} (d : Df K mg "_law_is_row" D4 ["_law_told"] f) (G__law_is_poly : Def P w K mg base CX0 3 "_law_is_poly" f1 ["_law_thing"] (aC8 K)) (G__law_alone : Def P w K mg base CX0 1 "_law_alone" f2 ["_law_p", "_law_place"] (aC6 K)) (n_isinstance : mg "isinstance" = none) (n_list : mg "list" = none) (n_tuple : mg "tuple" = none) (n_len : mg "len" = none) : Def P w K mg base CX0 4 "_law_is_row" f ["_law_told"] (aC7 K) := by
  refine d.ok (N := ["_law_told", "_law_one", "_law_last"]) Q7 (by rintro vs H Q E ⟨_, _, _, _, _, _, _, h, _⟩; rw [h]; rfl) (fun cdv A outer s H vs Q E hr h => ?_)
  obtain ⟨r, qa, la, ts, ys, M, last, rfl, er, eq, hR, el, nl, T, k⟩ := h
  have hu := hr.units
  refine ⟨_, (b8 (C2 (PW.pt (W9 (N0 (T8 (d9 j4 rfl n_isinstance (by decide +kernel) (b0 (pv 0) (b0 (W0 (v := .ty "tuple") rfl n_tuple (by decide +kernel) rfl) b6))))) (W9 (j5 aK6 (d9 j2 rfl n_len (by decide +kernel) (b0 (pv 0) b6)) b9 (j7 _)) (ad5 (N0 (T8 (d9 j4 rfl n_isinstance (by decide +kernel) (b0 (j6 p9 (pv 0) b9 (fun _ _ => rfl)) (b0 (W0 (v := .ty "list") rfl n_list (by decide +kernel) rfl) b6))))))))) (d6 (i3 ac5)) t3)
      (b8 (N1 PassesOwn.never rfl (E8 (j6 p9 (pv 0) b9 (fun _ _ => rfl))) (g6 (i := 1) Q7.nd rfl (Or.inl rfl)) (d6 (C2 (PW.pt (W9 (N0 (T8 (d7 G__law_is_poly hr (b0 (pv 1) b6) g8))) (W9 (j5 (ad9 hu) (pv 1) (u0 b6) (j7 _)) (ad5 (N0 (T8 (d7 G__law_alone hr (b0 (pv 1) (b0 b9 b6)) g8))))))) (d6 (i3 ac5)) t3)))
      (b8 (g7 (i := 2) Q7.nd rfl (Or.inl rfl) (j6 p9 (pv 0) b9 (fun _ _ => rfl)))
      (d6 (i3 (ai7 (d7 G__law_is_poly hr (b0 (pv 2) b6) g8) (ai7 (V9 (ai9 hu) (pv 2) (u0 b6) (j7 _)) (ao9 (bl9 (d7 G__law_alone hr (b0 (pv 2) (b0 b9 b6)) g8) (ao9 (d7 G__law_alone hr (b0 (pv 2) (b0 b9 b6)) g8))))))))))), ?_⟩
  rw [show start ["_law_told", "_law_one", "_law_last"] [.ref r] = [some (.ref r), none, none] from rfl]
  refine j0 (fun σ H1 => σ = [some (.ref r), none, none] ∧ H1 = H) (fun N hN => ?_) ?_
  · subst_eqs
    have tr : SqT K H r [.ref qa, .ref la] := SqT.of er
    refine ⟨trivial, _, .sqt tr, _, ak5, z8 (fun z => by cases z) (fun _ => ?_)⟩
    refine ⟨_, .inr tr, rfl, z8 (fun z => absurd rfl z) (fun _ => ?_)⟩
    exact ⟨_, tr, _, rfl, trivial, _, .sql (SqL.of eq), _, ac7, z8 (fun z => by cases z) (fun _ => hN _ _ ⟨rfl, rfl⟩)⟩
  rintro σ H1 ⟨rfl, rfl⟩
  have lM := T.lM
  have lts := hR.length
  refine j0 (fun σ H2 => ∃ o, σ = [some (.ref r), o, none] ∧ d5 H1 H2) (fun N hN => ?_) ?_
  · refine ⟨_, rfl, r, _, _, _, rfl, rfl, SqT.of er, rfl, qa, rfl, ⟨_, SqL.of eq⟩, Z4 (xs := ts.map V.ref) (fun i σ H2 => ∃ o, σ = [some (.ref r), o, none] ∧ d5 H1 H2) ⟨_, rfl, d5.refl _⟩ (by rintro i σ H2 _ ⟨_, _, s2⟩; exact s2.seq (SqL.of eq)) ?_ (by rintro σ H2 h2; exact hN _ _ h2)⟩
    rintro i x σ H2 hx ⟨o, rfl, s2⟩
    obtain ⟨pL, hpL, rfl⟩ := ao4 hx
    obtain ⟨zs, L, hL, eL, nL⟩ := hR.get hpL
    have hLM := List.mem_of_getElem? hL
    obtain ⟨tL, l2, evL, l15⟩ := T.m L hLM
    obtain ⟨B, B0, hB, oL⟩ := T.row hLM
    have lz := nL.length
    subst_eqs
    refine ⟨pL, zs, L, rfl, s2 _ _ eL, nL.mono s2.tups, fun p hp => aV1 B0 (Nat.lt_of_lt_of_le hB (d4 (by decide))) (oL p hp), by omega, tL, fun H3 s3 => ⟨true, rfl, z8 (fun z => by cases z) (fun _ => ?_)⟩⟩
    refine ⟨by decide, fun p hp => ?_⟩
    have X := d5.new hp (.lst [])
    have ss := s2.trans (s3.trans X)
    refine ⟨A5 L, A5 [], rfl, A8 (SqL.of (ss _ _ eL)) (nL.mono ss.tups), A8 (SqL.of b7) .nil, K2 _ _, by have := N6 L; omega, ?_⟩
    rw [G9]
    refine ⟨_, rfl, z8 (fun z => ?_) (fun _ => ?_)⟩
    · have := of_decide_eq_true z
      rw [this] at l2; simp at l2
    · refine ⟨pL, zs, L, 1, rfl, SqL.of (ss _ _ eL), nL.mono ss.tups, .inr rfl, by omega, fun H4 s4 => ?_⟩
      rw [if_pos rfl, evL]
      exact ⟨true, rfl, z8 (fun z => by cases z) (fun _ => ss.trans s4)⟩
  rintro σ H2 ⟨o, rfl, s2⟩
  obtain ⟨B, B0, hB, oL⟩ := T.last
  have ll := T.ll
  have ly := nl.length
  subst_eqs
  refine ⟨_, SqT.of (s2 _ _ er), _, rfl, la, ys, last, rfl, s2 _ _ el, nl.mono s2.tups, fun p hp => aV1 B0 (Nat.lt_of_lt_of_le hB (d4 (by decide))) (Y0 oL p hp), by omega, T.t, fun H3 s3 => ⟨true, rfl, z8 (fun _ => ?_) (fun z => absurd rfl z)⟩⟩
  refine ⟨by decide, fun p hp => ?_⟩
  have X := d5.new hp (.lst [])
  have ss := s2.trans (s3.trans X)
  refine ⟨A5 last, A5 [], rfl, A8 (SqL.of (ss _ _ el)) (nl.mono ss.tups), A8 (SqL.of b7) .nil, K2 _ _, by have := N6 last; omega, ?_⟩
  rw [G9, decide_eq_false T.n]
  refine ⟨true, rfl, z8 (fun _ => ?_) (fun z => absurd rfl z)⟩
  refine ⟨la, ys, last, 0, rfl, SqL.of (ss _ _ el), nl.mono ss.tups, .inl rfl, by omega, fun H4 s4 => ⟨_, rfl, z8 (fun _ => k _ (ss.trans s4)) (fun z => ?_)⟩⟩
  rw [if_neg (by decide)] at z
  refine ⟨la, ys, last, 1, rfl, SqL.of ((ss.trans s4) _ _ el), nl.mono (ss.trans s4).tups, .inr rfl, by omega, fun H5 s5 => ?_⟩
  have : evZ last = true := by
    rcases T.p with h | h
    · exact h
    · exact absurd h z
  rw [if_pos rfl, this]
  exact k _ (ss.trans (s4.trans s5))
end
def NK (kd : Int) (q : Rat) : Prop := if kd = 2 then BdN 40 q else if kd = 0 then OvB 60 10 q else OvB 1 4 q
theorem bm1 {t d : Int} (h1 : 1 ≤ d) (h6 : d ≤ 6) (h : t.natAbs ≤ 9) : OvB 60 10 (Rat.divInt t d) := by
  have h0 : d = 1 ∨ d = 2 ∨ d = 3 ∨ d = 4 ∨ d = 5 ∨ d = 6 := by omega
  rcases h0 with rfl | rfl | rfl | rfl | rfl | rfl
  · exact ⟨t * 60, (Rat.divInt_eq_divInt_iff (by decide) (by decide)).mpr (by omega), by omega⟩
  · exact ⟨t * 30, (Rat.divInt_eq_divInt_iff (by decide) (by decide)).mpr (by omega), by omega⟩
  · exact ⟨t * 20, (Rat.divInt_eq_divInt_iff (by decide) (by decide)).mpr (by omega), by omega⟩
  · exact ⟨t * 15, (Rat.divInt_eq_divInt_iff (by decide) (by decide)).mpr (by omega), by omega⟩
  · exact ⟨t * 12, (Rat.divInt_eq_divInt_iff (by decide) (by decide)).mpr (by omega), by omega⟩
  · exact ⟨t * 10, (Rat.divInt_eq_divInt_iff (by decide) (by decide)).mpr (by omega), by omega⟩
theorem ov1 {t : Int} (h : t.natAbs ≤ 9) : OvB 1 4 (Rat.divInt t 1) := ⟨t, rfl, by omega⟩
theorem NK.ovb0 {q : Rat} (h : NK 0 q) : OvB 60 10 q := by unfold NK at h; rw [if_neg (by decide), if_pos rfl] at h; exact h
theorem NK.ovb1 {q : Rat} (h : NK 1 q) : OvB 1 4 q := by unfold NK at h; rw [if_neg (by decide), if_neg (by decide)] at h; exact h
theorem NK.bd2 {q : Rat} (h : NK 2 q) : BdN 40 q := by unfold NK at h; rw [if_pos rfl] at h; exact h
theorem bn1 {t b : Int} (hb : b ≠ 0) (h1 : t.natAbs ≤ 9) (h2 : b.natAbs ≤ 7) : BdN 4 (Rat.divInt t b) := by
  have := M1 (t := t) hb
  exact ⟨Nat.lt_of_le_of_lt this.1 (by omega), Nat.lt_of_le_of_lt this.2 (by omega)⟩
section
variable {P : Program} {w : World} {K : PySem.W.Frag} {mg : Str → Option Value} {base : Heap}
def aa7 : Sp := fun vs H Q _ => ∃ u kd, vs = [.ref u, .int kd] ∧ j8 H u ∧ ∀ r q H', NK kd q → o0 u H H' → j8 H' u → H' r = some (.tup (w9 q)) → Q (.ref r) H'
set_option maxHeartbeats 0 in
theorem al7 {f fd fl : Addr} (d : Df K mg "_law_number" D3 ["_law_urn_here", "_law_kind_here"] f) (G__law_draw : Def P w K mg base CX0 1 "_law_draw" fd ["_law_urn_here", "_law_many"] D7) (G__law_low : Def P w K mg base CX0 1 "_law_low" fl ["_law_top", "_law_bottom"] au6) (n_int : mg "int" = none) : Def P w K mg base CX0 2 "_law_number" f ["_law_urn_here", "_law_kind_here"] aa7 := by
  refine d.ok (N := ["_law_urn_here", "_law_kind_here", "_law_top"]) X6 (fun vs H Q E ⟨u, kd, h, _⟩ => by rw [h]; rfl) (fun cdv A outer s H vs Q E hr h => ?_)
  obtain ⟨u, kd, rfl, hu, k⟩ := h
  refine ⟨_, (b8 (C2 (j5 X0 (pv 1) b9 (j7 _)) (b8 (g7 (i := 2) X6.nd rfl (Or.inl rfl) (e8 C3 (e8 y9 (d7 G__law_draw hr (b0 (pv 0) (b0 (e8 Y7 b9 b9) b6)) g8) (e8 Y7 b9 b9)) (d7 G__law_draw hr (b0 (pv 0) (b0 (e8 Y7 b9 b9) b6)) g8)))
      (d6 (i3 (d7 G__law_low hr (b0 (e8 y9 (pv 2) (j6 w5 (u0 (b0 b9 (b0 (X9 P9 b9) b6))) (d7 G__law_draw hr (b0 (pv 0) (b0 b9 b6)) g8) (fun _ _ => rfl))) (b0 (e8 C3 b9 (e8 y9 (d7 G__law_draw hr (b0 (pv 0) (b0 (e8 Y7 b9 b9) b6)) g8) (e8 Y7 b9 b9))) b6)) g8)))) t3)
      (d6 (i3 (d7 G__law_low hr (b0 (e8 O7 (d7 G__law_draw hr (b0 (pv 0) (b0 b9 b6)) g8) b9) (b0 (e8 C3 b9 (e8 y9 (d7 G__law_draw hr (b0 (pv 0) (b0 b9 b6)) g8) (N2 aQ1 rfl n_int (by decide +kernel) (b0 (V9 X0 (pv 1) b9 (j7 _)) b6)))) b6)) g8)))), ?_⟩
  rw [show start ["_law_urn_here", "_law_kind_here", "_law_top"] [.ref u, .int kd] = [some (.ref u), some (.int kd), none] from rfl]
  have e10 : (10 : Int) ^ Int.toNat 6 = 1000000 := by decide
  simp! [D7, aD1]
  refine z8 (fun hk2 => ?_) (fun hk2 => ?_)
  · refine ⟨⟨by decide, by decide, by decide⟩, hu, by decide, by decide, fun r2 H2 a2 b2 s2 u2 => ?_⟩
    refine ⟨⟨by decide, by decide, by decide⟩, aw0 (by decide), ⟨by decide, by decide, by decide⟩, u2, by decide, by decide, fun r3 H3 a3 b3 s3 u3 => ?_⟩
    refine ⟨by decide, fun l hl => ⟨A9 u3 hl, by decide, by decide, fun r4 H4 a4 b4 s4 u4 => ?_⟩⟩
    have e := s4 l _ b7 (A6 u3 hl)
    have b2' : r2 < 1000000 := b2
    have b3' : r3 < 1000000 := b3
    have sx : o0 u H H4 := s2.trans (s3.trans (o0.trans (d5.x (d5.new hl _) u) s4))
    have fin : ∀ sg : Int, sg = 1 ∨ sg = -1 → (be7 10 6 ∧ j8 H4 u ∧ 0 < (10 : Int) ^ Int.toNat 6 ∧ (10 : Int) ^ Int.toNat 6 < 2 ^ 40 ∧ ∀ (r : Int) (H' : Hp), 0 ≤ r → r < 10 ^ Int.toNat 6 → o0 u H4 H' → j8 H' u →
        be7 10 6 ∧ IntMulOk r (10 ^ Int.toNat 6) ∧ au6 [V.int ((r2 * 10 ^ Int.toNat 6 + r3) * sg), V.int (1 + r * 10 ^ Int.toNat 6)] H' Q E0) := by
      intro sg hsg
      refine ⟨⟨by decide, by decide, by decide⟩, u4, by decide, by decide, fun r5 H5 a5 b5 s5 u5 => ⟨⟨by decide, by decide, by decide⟩, aw0 (by decide), ?_⟩⟩
      rw [e10] at b5 ⊢
      refine ⟨_, _, rfl, by omega, Nat.lt_of_lt_of_le (show (1 + r5 * 1000000).natAbs < 2 ^ 64 by omega) (d4 (by decide)), fun r H' sm hr' => ?_⟩
      refine k r _ H' (by unfold NK; rw [if_pos hk2]; refine (bl6 (by omega) ?_ (by omega)).bdN; rcases hsg with h | h <;> subst h <;> omega) (sx.trans (s5.trans (d5.x sm u))) (d5.urn sm u5) hr'
    have h3 : r4 = 0 ∨ r4 = 1 := by omega
    rcases h3 with h | h <;> subst h
    · exact ⟨_, SqL.of e, _, rfl, _, rfl, aw0 (by decide), fin 1 (.inl rfl)⟩
    · exact ⟨_, SqL.of e, _, rfl, _, rfl, aw0 (by decide), fin (-1) (.inr rfl)⟩
  · refine ⟨hu, by decide, by decide, fun r2 H2 a2 b2 s2 u2 => ⟨u2, by decide, by decide, fun r3 H3 a3 b3 s3 u3 => ⟨bi6 (by omega), ?_⟩⟩⟩
    have hz : ∃ z : Int, z = r3 * (if kd = 0 then 1 else 0) ∧ 0 ≤ z ∧ z ≤ 5 ∧ (kd ≠ 0 → z = 0) := by
      refine ⟨_, rfl, ?_, ?_, ?_⟩
      · split <;> omega
      · split <;> omega
      · intro h; rw [if_neg h, Int.mul_zero]
    obtain ⟨z, ez, z0, z6, zk⟩ := hz
    rw [← ez]
    refine ⟨_, _, rfl, by omega, Nat.lt_of_lt_of_le (show (1 + z).natAbs < 2 ^ 64 by omega) (d4 (by decide)), fun r H' sm hr' => ?_⟩
    exact k r _ H' (by
      unfold NK
      rw [if_neg hk2]
      by_cases h0 : kd = 0
      · rw [if_pos h0]; exact bm1 (by omega) (by omega) (by omega)
      · rw [if_neg h0, zk h0]; exact ov1 (by omega)) (s2.trans (s3.trans (d5.x sm u))) (d5.urn sm u3) hr'
def ao1 : Sp := fun vs H Q _ => ∃ u kd, vs = [.ref u, .int kd] ∧ j8 H u ∧ ∀ r q H', NK kd q → q ≠ 0 → o0 u H H' → j8 H' u → H' r = some (.tup (w9 q)) → Q (.ref r) H'
set_option maxHeartbeats 0 in
theorem ap6 {f fd fl : Addr} (d : Df K mg "_law_other" E7 ["_law_urn_here", "_law_kind_here"] f) (G__law_draw : Def P w K mg base CX0 1 "_law_draw" fd ["_law_urn_here", "_law_many"] D7) (GD__law_number : Def P w K mg base CX0 2 "_law_number" fl ["_law_urn_here", "_law_kind_here"] aa7) : Def P w K mg base CX0 3 "_law_other" f ["_law_urn_here", "_law_kind_here"] ao1 := by
  refine d.ok (N := ["_law_urn_here", "_law_kind_here", "_law_found"]) ac1 (fun vs H Q E ⟨u, kd, h, _⟩ => by rw [h]; rfl) (fun cdv A outer s H vs Q E hr h => ?_)
  obtain ⟨u, kd, rfl, hu, k⟩ := h
  have G__law_number := GD__law_number
  refine ⟨_, (b8 (g7 (i := 2) ac1.nd rfl (Or.inl rfl) (d7 G__law_number hr (b0 (pv 0) (b0 (pv 1) b6)) g8))
      (b8 (C2 (j5 X0 (j6 p9 (pv 2) b9 (fun _ _ => rfl)) b9 (j7 _)) (d6 (i3 (v7 (b0 (e8 C3 b9 (d7 G__law_draw hr (b0 (pv 0) (b0 b9 b6)) g8)) (b0 b9 b6))))) t3)
      (d6 (i3 (pv 2))))), ?_⟩
  rw [show start ["_law_urn_here", "_law_kind_here", "_law_found"] [.ref u, .int kd] = [some (.ref u), some (.int kd), none] from rfl]
  simp! [D7]
  refine ⟨u, kd, rfl, hu, fun r q H1 sm s1 u1 e1 => ?_⟩
  refine ⟨r, rfl, _, SqT.of e1, _, at0 q, rfl, z8 (fun _ => ?_) (fun hn => ?_)⟩
  · refine ⟨u1, by decide, by decide, fun r2 H2 a2 b2 s2 u2 => ⟨v8, fun l hl => ?_⟩⟩
    have hd := ae2 (n := 1 + r2) (d := 1) (by decide) (by simp)
    refine k l (Rat.divInt (1 + r2) 1) _ (by
      unfold NK
      split
      · exact (bn1 (by decide) (by omega) (by decide)).mono (by decide)
      · split
        · exact bm1 (by decide) (by decide) (by omega)
        · exact ov1 (by omega)) ?_ (s1.trans (s2.trans (d5.x (d5.new hl _) u))) (A9 u2 hl) ?_
    · intro z
      rw [z] at hd
      have : (0 : Rat).num = 0 := rfl
      omega
    · rw [b7]
      unfold w9
      rw [hd.1, hd.2]
  · refine k r q H1 sm (fun z => hn ?_) s1 u1 e1
    rw [z]; rfl
def af6 : Sp := fun vs H Q _ => ∃ u kd most, vs = [.ref u, .int kd, .int most] ∧ j8 H u ∧ 0 ≤ most ∧ most < 1000 ∧ ∀ r xs qs q H', o0 u H H' → j8 H' u → H r = none → H' r = some (.lst xs) → m6 H' xs (qs ++ [q]) → (∀ p ∈ qs, NK kd p) → NK kd q → q ≠ 0 → (qs.length : Int) ≤ most → Q (.ref r) H'
set_option maxHeartbeats 0 in
theorem ab7 {f fd fn fo : Addr} (d : Df K mg "_law_drawn_poly" v6 ["_law_urn_here", "_law_kind_here", "_law_most"] f) (G__law_draw : Def P w K mg base CX0 1 "_law_draw" fd ["_law_urn_here", "_law_many"] D7) (GD__law_number : Def P w K mg base CX0 2 "_law_number" fn ["_law_urn_here", "_law_kind_here"] aa7) (GD__law_other : Def P w K mg base CX0 3 "_law_other" fo ["_law_urn_here", "_law_kind_here"] ao1)
    (n_range : mg "range" = none) : Def P w K mg base CX0 4 "_law_drawn_poly" f ["_law_urn_here", "_law_kind_here", "_law_most"] af6 := by
  refine d.ok (N := ["_law_urn_here", "_law_kind_here", "_law_most"]) ad2 (fun vs H Q E ⟨u, kd, mo, h, _⟩ => by rw [h]; rfl) (fun cdv A outer s H vs Q E hr h => ?_)
  obtain ⟨u, kd, most, rfl, hu, m0, m1, k⟩ := h
  have G__law_number := GD__law_number
  have G__law_other := GD__law_other
  refine ⟨_, (d6 (i3 (e8 W3 (P7 (Nc := ["_law_urn_here", "_law_kind_here", "_law_i"]) (caps := [some 0, some 1, none]) rfl (W8.of (osc := d3 v6) (N := ["_law_urn_here", "_law_kind_here", "_law_most"]) (ks := ["_law_urn_here", "_law_kind_here"]) rfl rfl rfl rfl (G0 rfl (G0 rfl F8)) (by decide +kernel)) (ab2 rfl n_range (b0 (d7 G__law_draw hr (b0 (pv 0) (b0 (e8 C3 (pv 2) b9) b6)) g8) b6)) (fun C s₂ H₂ fp pins => (g6 (i := 2) (show List.Nodup (["_law_urn_here", "_law_kind_here", "_law_i"] : List Str) by decide +kernel) rfl (Or.inl rfl) (Or.inr rfl))) (fun C s₂ H₂ fp pins => (d7 G__law_number hr (b0 (pv 0) (b0 (pv 1) b6)) g8))) (u0 (b0 (d7 G__law_other hr (b0 (pv 0) (b0 (pv 1) b6)) g8) b6))))), ?_⟩
  rw [show start ["_law_urn_here", "_law_kind_here", "_law_most"] [.ref u, .int kd, .int most] = [some (.ref u), some (.int kd), some (.int most)] from rfl]
  simp! [D7]
  refine ⟨hu, by omega, by omega, fun r1 H1 a1 b1 s1 u1 => ⟨by omega, by omega, fun D hD => ?_⟩⟩
  have hDu : D ≠ u := A6 u1 hD
  refine aY2 (fun i σ H2 => ∃ o, σ = [some (.ref u), some (.int kd), o] ∧ o0 u H1 H2 ∧ j8 H2 u ∧ ∃ xs qs, H2 D = some (.lst xs) ∧ m6 H2 xs qs ∧ qs.length = i ∧ ∀ p ∈ qs, NK kd p)
    ⟨_, rfl, d5.x (d5.new hD _) u, A9 u1 hD, [], [], b7, .nil, rfl, by simp⟩ ?_ ?_
  · rintro i σ H2 hi ⟨o, rfl, s2, u2, xs, qs, e, n, hl, hs⟩
    subst_eqs
    refine ⟨u, kd, rfl, u2, fun rn q H3 sq s3 u3 e3 => ?_⟩
    have e4 := s3 D _ e hDu
    refine J1.mk hi e4 (by rw [n.length, hl]; exact Nat.lt_of_lt_of_le (show i < 1000 by omega) (by decide)) ?_
    refine ⟨_, rfl, (s2.trans s3).over hD _, u3.other hDu, _, b7, qs ++ [q], ((n.mono (s3.tups u2)).append (.cons e3 .nil)).mono (K9.lst e4), by simp [hl], fun p hp => ?_⟩
    rcases List.mem_append.mp hp with z | z
    · exact hs p z
    · rw [List.mem_singleton.mp z]; exact sq
  · rintro σ H2 ⟨o, rfl, s2, u2, xs, qs, e, n, hl, hs⟩
    subst_eqs
    refine ⟨u, kd, rfl, u2, fun ro q H3 sq q0 s3 u3 e3 => ⟨by decide, fun p hp => ?_⟩⟩
    have e4 := s3 D _ e hDu
    have pD : D ≠ p := d8 e4 hp
    refine ⟨_, (by rw [e9 pD]; exact e4), _, b7, ?_, fun p2 hp2 => ?_⟩
    · rw [n.length, hl]
      exact Nat.le_trans (show r1.toNat + 1 ≤ 1001 by omega) (by decide)
    · have hp3 := aE4 hp2
      have sx : o0 u H H3 := s1.trans (s2.trans s3)
      refine k p2 _ qs q _ ((sx.trans (d5.x (d5.new hp _) u)).trans (d5.x (d5.new hp2 _) u)) (A9 (A9 u3 hp) hp2) (sx.free u3 hp3) b7 ?_ hs sq q0 (by omega)
      exact (((n.mono (s3.tups u2)).append (.cons e3 .nil)).mono (K9.new hp)).mono (K9.new hp2)
end
end R
set_option maxRecDepth 100000
namespace L2
open PySem PySem.Spec PyProof.Rows
def Itw (hi : Int) (n : Nat) : It := ⟨fun i _ => i < n, fun i H x H' => H' = H ∧ x = .int (hi + 2 * i), fun i _ => n ≤ i⟩
theorem aR0 {P : Program} {w : World} {K : PySem.W.Frag} {tg : Expr} (it : Addr) (lo : Int) (n : Nat) : aQ5 P w K tg (Itw lo n) [it] it (fun i h => IsRangeIter h it (lo + (i : Nat) * 2) ((n : Int) - (i : Nat)) 2) where
  mem := by simp
  obj := fun i h st b hb => by
    have e : b = it := by simpa using hb
    subst e
    exact ⟨_, st, fun v z => by
      have z' : Data.fields _ = Data.cell v := z
      cases z'⟩
  keep := fun i h h' st k => k it (by simp) _ st
  item := by
    intro X hP hw hK hc i pins s σ H E I hf st hg
    subst hP hw hK
    obtain ⟨f0, f1, f2, f3, f4, f5⟩ := hf it (by simp)
    have W := Walks.range (prog := X.prog) (w := X.w) (I.ok.hd hc) it lo 2 n
    refine W.item i s _ _ hg st fun v h' tk hv st' kk => ?_
    obtain ⟨t, rfl⟩ := hv
    have I1 : Inv X pins σ H { s with heap := h', toks := tk } := I.turned (fun b o hb e => kk b o (by simpa using hb) e) f0 f1 f3 f4 f5
    refine ⟨_, rfl, aK9 (s := { s with heap := h', toks := tk }) (n := "range_iterator") st' rfl rfl (by decide) ⟨.int (lo + 2 * i), H, I1, ⟨t, ?_⟩, ⟨rfl, rfl⟩, st', fun b hb => (hf b hb).1⟩⟩
    rw [show lo + (i : Int) * 2 = lo + 2 * i by omega]
  done := by
    intro X hP hw hK hc i pins s σ H E I hf st hg
    subst hP hw hK
    obtain ⟨f0, f1, f2, f3, f4, f5⟩ := hf it (by simp)
    exact wpAny_pyNext_range_end (I.ok.hd hc) st (by have : n ≤ i := hg; omega) fun h' eb => ⟨rfl, I.turned (t' := s.toks) (fun b o hb e => eb b o hb e) f0 f1 f3 f4 f5⟩
  self := fun _ _ _ _ _ st h => wpAny_pyIter_rangeiter st h
theorem ac3 (a b : Int) : Builtin.Range.rangeSize a b 2 = (((b - a + 1).toNat / 2 : Nat) : Int) := by
  unfold Builtin.Range.rangeSize
  simp only [show ((2 : Int) > 0) by decide, if_true]
  split <;> omega
theorem aN3 {a b : Int} (ha : -(2 ^ 62) ≤ a) (ha' : a < 2 ^ 60) (hb : -(2 ^ 62) ≤ b) (hb' : b < 2 ^ 60) : Builtin.Range.small a b 2 = true := by
  unfold Builtin.Range.small
  rw [ac3]
  simp only [Builtin.Range.rangeFitsLong, Bool.and_eq_true, Bool.or_eq_true, decide_eq_true_eq, beq_iff_eq, show ((2 : Int) > 0) by decide, if_true]
  omega
section
variable {X : Cx} {tg : Expr}
def bm5 (ta : TA) : TI := fun σ H R => ta σ H fun vs H1 => ∃ i j : Int, vs = [.int i, .int j, .int 2] ∧ (-(2 ^ 62) ≤ i ∧ i < 2 ^ 60 ∧ -(2 ^ 62) ≤ j ∧ j < 2 ^ 60) ∧ R (Itw i ((j - i + 1).toNat / 2)) H1
theorem aO1 {a b c : Expr} {ta : TA} {p pos : Pos} (hg : Gl X "range") (hm : X.mg "range" = none) (ha : PA X [a, b, c] ta) (hs : starEach [a, b, c] X.env = [(false, eval a X.env), (false, eval b X.env), (false, eval c X.env)] := by rfl) (hs2 : starEach [b, c] X.env = [(false, eval b X.env), (false, eval c X.env)] := by rfl) :
    PI X tg (.Call (.Name "range" p) [a, b, c] [] pos) (bm5 ta) := by
  intro pins s σ H R I h
  refine Call_ (Z3 I hg hm boot_range (PyProof.Rows.callWith_type1 (thn (ha pos pins s σ H _ I h) fun us s1 ⟨vs, H1, I1, r1, q1⟩ => ?_) (by rw [hs, hs2]) (by rw [hs2]; rfl)))
  obtain ⟨lo, hi, e, ⟨q1, q2, q3, q4⟩, q⟩ := q1
  subst e
  cases r1 with
  | cons r rr =>
    cases rr with
    | cons r' rr =>
      cases rr with
      | cons r'' rr =>
        cases rr
        obtain ⟨t, rfl⟩ := r
        obtain ⟨u, rfl⟩ := r'
        obtain ⟨v, rfl⟩ := r''
        refine call_range_3 (by decide) ?_ (.inl (PyProof.noPylong_of_log2 (by decide +kernel)))
        refine wpAny_pyIter_range (IsRange.new ..) (aN3 q1 q2 q3 q4) ?_
        have I2 : Inv X pins σ H1 { s1 with heap := s1.heap.push { cls := .type "range", data := .fields #[.int lo t, .int hi u, .int 2 v] }, toks := s1.toks } := I1.kept fun b o e => Heap.get?_push_of_some _ e
        refine ⟨(s1.heap.push { cls := .type "range", data := .fields #[.int lo t, .int hi u, .int 2 v] }).objs.size, [(s1.heap.push { cls := .type "range", data := .fields #[.int lo t, .int hi u, .int 2 v] }).objs.size], _, _, H1, rfl,
          I2.kept (t' := s1.toks) fun b o e => Heap.get?_push_of_some _ e, aR0 _ lo ((hi - lo + 1).toNat / 2), ?_, fun b hb => ?_, q⟩
        · have e1 : lo + ((0 : Nat) : Int) * 2 = lo := by simp
          have e2 : ((((hi - lo + 1).toNat / 2) : Nat) : Int) - ((0 : Nat) : Int) = Builtin.Range.rangeSize lo hi 2 := by rw [ac3]; omega
          show IsRangeIter _ _ (lo + ((0 : Nat) : Int) * 2) (((((hi - lo + 1).toNat / 2) : Nat) : Int) - ((0 : Nat) : Int)) 2
          rw [e1, e2]
          exact Heap.get?_push_size _ rfl
        · have e : b = (s1.heap.push { cls := .type "range", data := .fields #[.int lo t, .int hi u, .int 2 v] }).objs.size := by simpa using hb
          subst e
          exact I2.fpOk (Nat.le_refl _) (I2.hok.fresh (Nat.le_refl _))
end
theorem bc2 {lo : Int} {n : Nat} {g : TG} {tb : TS} {D : ab8} {σ : St} {H : Hp} (Pv : Nat → St → Hp → Prop) (h0 : Pv 0 σ H)
    (hs : ∀ i σ H, i < n → Pv i σ H → g (.int (lo + 2 * i)) σ H fun σ2 H2 => tb { D with nx := Pv (i + 1), ct := Pv (i + 1), bk := D.nx } σ2 H2) (hd : ∀ σ H, Pv n σ H → D.nx σ H) :
    ∃ W : Nat → Nat → St → Hp → Prop, (∃ m, W 0 m σ H) ∧ ∀ i m σ H, W i m σ H →
      ((Itw lo n).stop i H ∧ D.nx σ H) ∨ ((Itw lo n).go i H ∧ ∃ N : St → Hp → Prop, (∀ σ' H', N σ' H' → ∃ m', m' < m ∧ W (i + 1) m' σ' H') ∧ ∀ x H', (Itw lo n).yld i H x H' → g x σ H' fun σ2 H2 => tb { D with nx := N, ct := N, bk := D.nx } σ2 H2) := by
  refine ⟨fun i m σ H => m = n - i ∧ i ≤ n ∧ Pv i σ H, ⟨n, by simp, Nat.zero_le _, h0⟩, ?_⟩
  rintro i m σ H ⟨rfl, hi, p⟩
  by_cases hlt : i < n
  · refine .inr ⟨hlt, Pv (i + 1), fun σ' H' p' => ⟨n - (i + 1), by omega, rfl, hlt, p'⟩, fun x H' y => ?_⟩
    obtain ⟨e, y⟩ := y
    subst e y
    exact hs i σ _ hlt p
  · have e : i = n := by omega
    subst e
    exact .inl ⟨Nat.le_refl _, hd σ H p⟩
end L2
set_option maxRecDepth 100000
namespace R
open PySem L2 PyProof.Rows
def KdC (kd : Int) (mo c : Nat) : Prop := 2 ≤ mo ∧ (((kd = 0 ∨ kd = 1) ∧ mo ≤ 14 ∧ c = 10) ∨ (kd = 2 ∧ mo ≤ 5 ∧ c = 40))
theorem aV0 {B W : Nat} {q : Rat} (B0 : 0 < B) (hB : B < 2 ^ W) (h : OvB B W q) : BdN W q := by
  obtain ⟨t, rfl, ht⟩ := h
  have le := M1 (t := t) (b := (B : Int)) (by omega)
  exact ⟨Nat.lt_of_le_of_lt le.1 ht, Nat.lt_of_le_of_lt le.2 (by rw [Int.natAbs_natCast]; exact hB)⟩
theorem NK.bd {kd : Int} {q : Rat} {mo c : Nat} (h : NK kd q) (hk : KdC kd mo c) : BdN c q := by
  rcases hk with ⟨_, ⟨rfl | rfl, _, rfl⟩ | ⟨rfl, _, rfl⟩⟩
  · exact aV0 (by decide) (by decide) h.ovb0
  · exact (aV0 (W := 4) (by decide) (by decide) h.ovb1).mono (by decide)
  · exact h.bd2
theorem aL9 {c : Nat} (h : 1 ≤ c) : BdN c 0 := ⟨Nat.pos_of_ne_zero (by have := @Nat.one_le_two_pow c; omega), Nat.lt_of_lt_of_le (show 1 < 2 ^ 1 by decide) (d4 h)⟩
theorem KdC.c1 {kd : Int} {mo c : Nat} (h : KdC kd mo c) : 10 ≤ c ∧ c ≤ 40 ∧ 2 ≤ mo ∧ mo ≤ 14 := by
  rcases h with ⟨_, ⟨_, _, rfl⟩ | ⟨_, _, rfl⟩⟩ <;> omega
theorem aE1 {H : Hp} {p : Addr} {q : Rat} (h : H p = some (.tup (w9 q))) : ∀ n, m6 H (List.replicate n (.ref p)) (List.replicate n q)
  | 0 => .nil
  | n + 1 => .cons h (aE1 h n)
def bk3 (dg : Nat) (qs : List Rat) : Prop := ∀ j q, qs[j]? = some q → j % 2 ≠ dg % 2 → q = 0
theorem bb3 {α : Type} (xs : List α) (k : Nat) : (ods xs)[k]? = xs[2 * k + 1]? := by
  unfold ods
  rw [ab5, List.getElem?_tail]
theorem bk3.par {dg : Nat} {qs : List Rat} (h : bk3 dg qs) : (if dg % 2 = 1 then evZ qs else odZ qs) = true := by
  by_cases z : dg % 2 = 1
  · rw [if_pos z]
    refine List.all_eq_true.mpr fun q hq => ?_
    obtain ⟨k, hk⟩ := List.mem_iff_getElem?.mp hq
    rw [ab5] at hk
    exact decide_eq_true (h _ q hk (by omega))
  · rw [if_neg z]
    refine List.all_eq_true.mpr fun q hq => ?_
    obtain ⟨k, hk⟩ := List.mem_iff_getElem?.mp hq
    rw [bb3] at hk
    exact decide_eq_true (h _ q hk (by omega))
structure SpS (u : Addr) (H H2 : Hp) (D : Addr) (dg c : Nat) (xs : List V) (qs : List Rat) : Prop where
  sx : o0 u H H2
  ur : j8 H2 u
  ne : D ≠ u
  e : H2 D = some (.lst xs)
  n : m6 H2 xs qs
  l : qs.length = dg + 1
  o : ∀ x ∈ qs, BdN c x
  z : bk3 dg qs
theorem SpS.set {u : Addr} {H H2 H3 : Hp} {D ro : Addr} {dg c : Nat} {xs : List V} {qs : List Rat} {q : Rat} {i : Nat} (S : SpS u H H2 D dg c xs qs) (fD : H D = none) (s : o0 u H2 H3) (ur : j8 H3 u) (er : H3 ro = some (.tup (w9 q))) (hq : BdN c q) (hi : i % 2 = dg % 2) : SpS u H (upd H3 D (.lst (xs.set i (.ref ro)))) D dg c (xs.set i (.ref ro)) (qs.set i q) := by
  have eD := s _ _ S.e S.ne
  have n3 := S.n.mono (s.tups S.ur)
  refine ⟨(S.sx.trans s).over fD _, ur.other S.ne, S.ne, b7, (n3.set i er).mono (K9.lst eD), by rw [List.length_set]; exact S.l, fun x hx => ?_, fun j q' hj hne => ?_⟩
  · rcases List.mem_or_eq_of_mem_set hx with y | y
    · exact S.o x y
    · rw [y]; exact hq
  · rw [List.getElem?_set] at hj
    by_cases e : i = j
    · exact absurd (by rw [← e]; exact hi) hne
    · rw [if_neg e] at hj
      exact S.z j q' hj hne
section
variable {P : Program} {w : World} {K : PySem.W.Frag} {mg : Str → Option Value} {base : Heap}
def af5 : Sp := fun vs H Q _ => ∃ (u : Addr) (kd : Int) (dg mo c : Nat), vs = [.ref u, .int kd, .int (dg : Int)] ∧ j8 H u ∧ KdC kd mo c ∧ dg ≤ 30 ∧ ∀ r xs qs H', o0 u H H' → j8 H' u → H r = none → H' r = some (.lst xs) → m6 H' xs qs → qs.length = dg + 1 → v3 qs qs.length → (∀ x ∈ qs, BdN c x) → (if dg % 2 = 1 then evZ qs else odZ qs) = true → Q (.ref r) H'
abbrev D0 : Stmt := top 62
theorem Q6 : i5 ["_law_urn_here", "_law_kind_here", "_law_degree", "_law_found", "_law_i"] ["_law_urn_here", "_law_kind_here", "_law_degree"] (d3 D0) := by clean_wf
set_option maxHeartbeats 0 in
theorem ap3 {f f1 f2 f3 : Addr} (d : Df K mg "_law_sparse" D0 ["_law_urn_here", "_law_kind_here", "_law_degree"] f) (G__law_draw : Def P w K mg base CX0 1 "_law_draw" f1 ["_law_urn_here", "_law_many"] D7) (GD__law_number : Def P w K mg base CX0 2 "_law_number" f2 ["_law_urn_here", "_law_kind_here"] aa7) (GD__law_other : Def P w K mg base CX0 3 "_law_other" f3 ["_law_urn_here", "_law_kind_here"] ao1) (n_range : mg "range" = none) : Def P w K mg base CX0 4 "_law_sparse" f ["_law_urn_here", "_law_kind_here", "_law_degree"] af5 := by
  have G__law_number := GD__law_number
  have G__law_other := GD__law_other
  refine d.ok (N := ["_law_urn_here", "_law_kind_here", "_law_degree", "_law_found", "_law_i"]) Q6 (by rintro vs H Q E ⟨_, _, _, _, _, h, _⟩; rw [h]; rfl) (fun cdv A outer s H vs Q E hr h => ?_)
  obtain ⟨u, kd, dg, mo, c, rfl, hu0, hk, hd, k⟩ := h
  obtain ⟨c10, _⟩ := hk.c1
  have hu := hr.units
  refine ⟨_, (b8 (g7 (i := 3) Q6.nd rfl (Or.inl rfl) (e8 aH2 (u0 (b0 (v7 (b0 b9 (b0 b9 b6))) b6)) (e8 C3 (pv 2) b9)))
      (b8 (N1 PassesOwn.never rfl (aO1 rfl n_range (b0 (e8 J2 (pv 2) b9) (b0 (pv 2) (b0 b9 b6)))) (g6 (i := 4) Q6.nd rfl (Or.inl rfl)) (d6 (C2 (j5 X0 (d7 G__law_draw hr (b0 (pv 0) (b0 b9 b6)) g8) b9 (j7 _)) (d6 (G8 (d7 G__law_number hr (b0 (pv 0) (b0 (pv 1) b6)) g8) (ai6 (pv 3) (pv 4) Q5))) t3)))
      (b8 (G8 (d7 G__law_other hr (b0 (pv 0) (b0 (pv 1) b6)) g8) (ai6 (pv 3) (pv 2) Q5))
      (d6 (i3 (pv 3)))))), ?_⟩
  rw [show start ["_law_urn_here", "_law_kind_here", "_law_degree", "_law_found", "_law_i"] [.ref u, .int kd, .int (dg : Int)] = [some (.ref u), some (.int kd), some (.int (dg : Int)), none, none] from rfl]
  refine j0 (fun σ H1 => ∃ D xs qs, σ = [some (.ref u), some (.int kd), some (.int (dg : Int)), some (.ref D), none] ∧ H D = none ∧ SpS u H H1 D dg c xs qs) (fun N hN => ?_) ?_
  · subst_eqs
    refine ⟨v8, fun p hp => ⟨aT0, fun p1 hp1 => ?_⟩⟩
    have T1 := d5.new hp (.tup [.int 0, .int 1])
    have T2 := d5.new hp1 (.lst [.ref p])
    have et : ((dg : Int) + 1).toNat = dg + 1 := by omega
    refine ⟨_, b7, by omega, by omega, Nat.le_trans (show _ ≤ 100 by rw [et]; simp; omega) (by decide), fun p2 hp2 => ?_⟩
    rw [et, List.flatten_replicate_singleton]
    have T3 := d5.new hp2 (.lst (List.replicate (dg + 1) (.ref p)))
    have T := T1.trans (T2.trans T3)
    have e0 : (upd H p (.tup [.int 0, .int 1])) p = some (.tup (w9 0)) := b7
    refine hN _ _ ⟨p2, _, List.replicate (dg + 1) 0, rfl, (T1.trans T2).free hp2, d5.x T u, d5.urn T hu0, A6 (d5.urn (T1.trans T2) hu0) hp2, b7, aE1 ((T2.trans T3) _ _ e0) _, by rw [List.length_replicate], fun x hx => by rw [(List.mem_replicate.mp hx).2]; exact aL9 (by omega), fun j q hj _ => ?_⟩
    exact (List.mem_replicate.mp (List.mem_of_getElem? hj)).2
  rintro σ H1 ⟨D, xs, qs, rfl, fD, S1⟩
  refine j0 (fun σ H2 => ∃ o4 xs qs, σ = [some (.ref u), some (.int kd), some (.int (dg : Int)), some (.ref D), o4] ∧ SpS u H H2 D dg c xs qs) (fun N hN => ?_) ?_
  · have em : ((dg : Int)).fmod 2 = ((dg % 2 : Nat) : Int) := by rw [Int.fmod_eq_emod_of_nonneg _ (by decide)]; omega
    refine ⟨_, rfl, _, _, rfl, rfl, (by decide : (2 : Int) ≠ 0), _, rfl, _, _, rfl, ⟨by omega, by omega, by omega, by omega⟩, bc2 (fun m σ H2 => ∃ o4 xs qs, σ = [some (.ref u), some (.int kd), some (.int (dg : Int)), some (.ref D), o4] ∧ SpS u H H2 D dg c xs qs) ⟨_, xs, qs, rfl, S1⟩ ?_ (by rintro σ H2 ⟨o4, xs, qs, rfl, S2⟩; exact hN _ _ ⟨o4, xs, qs, rfl, S2⟩)⟩
    rintro m σ H2 hm ⟨o4, xs, qs, rfl, S2⟩
    rw [em] at hm ⊢
    have lx := S2.n.length
    have ll := S2.l
    have hi : ((dg % 2 : Nat) : Int) + 2 * (m : Int) = ((dg % 2 + 2 * m : Nat) : Int) := by omega
    have hlt : dg % 2 + 2 * m < dg := by omega
    rw [hi]
    simp! [D7]
    refine ⟨S2.ur, by decide, by decide, fun r H3 r0 r2 s3 u3 => ⟨rfl, z8 (fun _ => ?_) (fun _ => ?_)⟩⟩
    · refine ⟨u, kd, rfl, u3, fun ro q H4 nk s4 u4 e4 => ?_⟩
      have ss := s3.trans s4
      have eD := ss _ _ S2.e S2.ne
      exact ⟨xs, eD, _, am3 (by omega), _, _, S2.set (i := dg % 2 + 2 * m) fD ss u4 e4 (nk.bd hk) (by omega)⟩
    · exact ⟨xs, qs, ⟨S2.sx.trans s3, u3, S2.ne, s3 _ _ S2.e S2.ne, S2.n.mono (s3.tups S2.ur), S2.l, S2.o, S2.z⟩⟩
  rintro σ H2 ⟨o4, xs, qs, rfl, S2⟩
  have lx := S2.n.length
  have ll := S2.l
  subst_eqs
  refine ⟨u, kd, rfl, S2.ur, fun ro q H3 nk q0 s3 u3 e3 => ?_⟩
  have eD := s3 _ _ S2.e S2.ne
  refine ⟨xs, eD, dg, am3 (by omega), ?_⟩
  have S3 := S2.set (i := dg) fD s3 u3 e3 (nk.bd hk) rfl
  refine k D _ _ _ S3.sx S3.ur fD S3.e S3.n S3.l ?_ S3.o S3.z.par
  refine V3 fun x hx => ?_
  rw [S3.l, Nat.add_sub_cancel, List.getElem?_set_self (by omega)] at hx
  cases hx; exact q0
end
end R
set_option maxRecDepth 100000
local macro_rules | `(tactic| simp_wf) => `(tactic| first | rfl | decide | exact .inl rfl | (intro _; rfl))
namespace R
open PySem L2 PyProof.Rows
section
variable {P : Program} {w : World} {K : PySem.W.Frag} {mg : Str → Option Value} {base : Heap}
def aD0 : Sp := fun vs H Q _ => ∃ (u : Addr) (kd : Int) (mo c : Nat), vs = [.ref u, .int kd, .int (mo : Int)] ∧ j8 H u ∧ KdC kd mo c ∧ ∀ t qa la ts xs M last H', o0 u H H' → j8 H' u → H' t = some (.tup [.ref qa, .ref la]) → TbX u H' qa ts M → LsX u H' la xs last → N4 c M last → Q (.ref t) H'
abbrev t9 : Stmt := top 63
theorem t6 : i5 ["_law_urn_here", "_law_kind_here", "_law_most", "_law_last", "_law_left", "_law_quotients", "_law_turn", "_law_degree"] ["_law_urn_here", "_law_kind_here", "_law_most"] (d3 t9) := by clean_wf
set_option maxHeartbeats 0 in
theorem Y8 {f f1 f2 : Addr} (d : Df K mg "_law_division_row" t9 ["_law_urn_here", "_law_kind_here", "_law_most"] f) (G__law_draw : Def P w K mg base CX0 1 "_law_draw" f1 ["_law_urn_here", "_law_many"] D7) (G__law_sparse : Def P w K mg base CX0 4 "_law_sparse" f2 ["_law_urn_here", "_law_kind_here", "_law_degree"] af5) (n_range : mg "range" = none) (n_len : mg "len" = none) : Def P w K mg base CX0 5 "_law_division_row" f ["_law_urn_here", "_law_kind_here", "_law_most"] aD0 := by
  refine d.ok (N := ["_law_urn_here", "_law_kind_here", "_law_most", "_law_last", "_law_left", "_law_quotients", "_law_turn", "_law_degree"]) t6 (by rintro vs H Q E ⟨_, _, _, _, h, _⟩; rw [h]; rfl) (fun cdv A outer s H vs Q E hr h => ?_)
  obtain ⟨u, kd, mo, c, rfl, hu0, hk, k⟩ := h
  obtain ⟨c10, c40, m5, m14⟩ := hk.c1
  have hu := hr.units
  refine ⟨_, (@b8 _ _ _ _ _ (@g7 _ _ 3 _ _ _ _ t6.nd rfl (Or.inl rfl) (@d7 _ _ _ _ _ _ _ _ _ _ _ _ _ _ G__law_sparse hr (@b0 _ _ _ _ _ (pv 0) (@b0 _ _ _ _ _ (pv 1) (@b0 _ _ _ _ _ (@j6 _ _ _ _ _ _ _ w5 (@u0 _ _ _ _ (@b0 _ _ _ _ _ b9 (@b0 _ _ _ _ _ b9 (@b0 _ _ _ _ _ b9 (@b0 _ _ _ _ _ b9 (@b0 _ _ _ _ _ (@d7 _ _ _ _ _ _ _ _ _ _ _ _ _ _ G__law_draw hr (@b0 _ _ _ _ _ (pv 0) (@b0 _ _ _ _ _ (@e8 _ _ _ _ _ _ _ _ C3 (pv 2) b9) b6 (by simp_wf)) (by simp_wf)) g8 (by simp_wf) (by simp_wf) (by simp_wf) (by simp_wf) (by simp_wf)) b6 (by simp_wf)) (by simp_wf)) (by simp_wf)) (by simp_wf)) (by simp_wf))) (@d7 _ _ _ _ _ _ _ _ _ _ _ _ _ _ G__law_draw hr (@b0 _ _ _ _ _ (pv 0) (@b0 _ _ _ _ _ b9 b6 (by simp_wf)) (by simp_wf)) g8 (by simp_wf) (by simp_wf) (by simp_wf) (by simp_wf) (by simp_wf)) (fun _ _ => rfl)) b6 (by simp_wf)) (by simp_wf)) (by simp_wf)) g8 (by simp_wf) (by simp_wf) (by simp_wf) (by simp_wf) (by simp_wf)) (by simp_wf) (by simp_wf)) (@b8 _ _ _ _ _ (@g7 _ _ 4 _ _ _ _ t6.nd rfl (Or.inl rfl) (@e8 _ _ _ _ _ _ _ _ O7 (@e8 _ _ _ _ _ _ _ _ C3 (pv 2) b9) (@d9 _ _ _ _ _ _ _ _ _ j2 rfl n_len (by decide +kernel) (@b0 _ _ _ _ _ (pv 3) b6 (by simp_wf)) (by simp_wf) (by simp_wf) (by simp_wf) (by simp_wf))) (by simp_wf) (by simp_wf)) (@b8 _ _ _ _ _ (@g7 _ _ 5 _ _ _ _ t6.nd rfl (Or.inl rfl) (@u0 _ _ _ _ b6) (by simp_wf) (by simp_wf)) (@b8 _ _ _ _ _ (@N1 _ _ _ _ _ _ _ _ PassesOwn.never rfl (@ab2 _ _ _ _ _ _ rfl n_range (@b0 _ _ _ _ _ (@d7 _ _ _ _ _ _ _ _ _ _ _ _ _ _ G__law_draw hr (@b0 _ _ _ _ _ (pv 0) (@b0 _ _ _ _ _ (@e8 _ _ _ _ _ _ _ _ C3 (pv 2) b9) b6 (by simp_wf)) (by simp_wf)) g8 (by simp_wf) (by simp_wf) (by simp_wf) (by simp_wf) (by simp_wf)) b6 (by simp_wf)) (by simp_wf)) (g6 (i := 6) t6.nd rfl (Or.inl rfl)) (@b8 _ _ _ _ _ (@g7 _ _ 7 _ _ _ _ t6.nd rfl (Or.inl rfl) (@j6 _ _ _ _ _ _ _ w5 (@u0 _ _ _ _ (@b0 _ _ _ _ _ b9 (@b0 _ _ _ _ _ b9 (@b0 _ _ _ _ _ b9 (@b0 _ _ _ _ _ b9 (@b0 _ _ _ _ _ b9 (@b0 _ _ _ _ _ b9 (@b0 _ _ _ _ _ b9 (@b0 _ _ _ _ _ (@e8 _ _ _ _ _ _ _ _ C3 b9 (@e8 _ _ _ _ _ _ _ _ y9 b9 (@d7 _ _ _ _ _ _ _ _ _ _ _ _ _ _ G__law_draw hr (@b0 _ _ _ _ _ (pv 0) (@b0 _ _ _ _ _ b9 b6 (by simp_wf)) (by simp_wf)) g8 (by simp_wf) (by simp_wf) (by simp_wf) (by simp_wf) (by simp_wf)))) b6 (by simp_wf)) (by simp_wf)) (by simp_wf)) (by simp_wf)) (by simp_wf)) (by simp_wf)) (by simp_wf)) (by simp_wf))) (@d7 _ _ _ _ _ _ _ _ _ _ _ _ _ _ G__law_draw hr (@b0 _ _ _ _ _ (pv 0) (@b0 _ _ _ _ _ b9 b6 (by simp_wf)) (by simp_wf)) g8 (by simp_wf) (by simp_wf) (by simp_wf) (by simp_wf) (by simp_wf)) (fun _ _ => rfl)) (by simp_wf) (by simp_wf)) (@d6 _ _ _ (@C2 _ _ _ _ _ _ _ _ (@j5 _ _ _ _ _ _ _ _ bm2 (pv 7) (pv 4) (j7 _)) (@b8 _ _ _ _ _ (@P4 _ _ _ _ (@ac4 _ _ _ _ _ _ _ _ _ _ _ _ PySem.F.plainAttrs_list PySem.F.slot_list_append PySem.F.type_list_append F5 (pv 5) (@b0 _ _ _ _ _ (@d7 _ _ _ _ _ _ _ _ _ _ _ _ _ _ G__law_sparse hr (@b0 _ _ _ _ _ (pv 0) (@b0 _ _ _ _ _ (pv 1) (@b0 _ _ _ _ _ (pv 7) b6 (by simp_wf)) (by simp_wf)) (by simp_wf)) g8 (by simp_wf) (by simp_wf) (by simp_wf) (by simp_wf) (by simp_wf)) b6 (by simp_wf)) (by simp_wf) (by simp_wf) (by simp_wf) (by simp_wf) (by simp_wf)) (by simp_wf)) (@d6 _ _ _ (@g7 _ _ 4 _ _ _ _ t6.nd rfl (Or.inl rfl) (@e8 _ _ _ _ _ _ _ _ O7 (pv 4) (pv 7)) (by simp_wf) (by simp_wf)))) t3))) (by simp_wf)) (@d6 _ _ _ (@i3 _ _ _ _ (@v7 _ _ _ _ _ (@b0 _ _ _ _ _ (pv 5) (@b0 _ _ _ _ _ (pv 3) b6 (by simp_wf)) (by simp_wf))))))))), ?_⟩
  rw [show start ["_law_urn_here", "_law_kind_here", "_law_most", "_law_last", "_law_left", "_law_quotients", "_law_turn", "_law_degree"] [.ref u, .int kd, .int (mo : Int)] = [some (.ref u), some (.int kd), some (.int (mo : Int)), none, none, none, none, none] from rfl]
  refine j0 (fun σ H1 => ∃ la xs last, σ = [some (.ref u), some (.int kd), some (.int (mo : Int)), some (.ref la), none, none, none, none] ∧ o0 u H H1 ∧ j8 H1 u ∧ LsX u H1 la xs last ∧ (v3 last last.length ∧ last ≠ [] ∧ (evZ last = true ∨ odZ last = true) ∧ ∀ x ∈ last, BdN c x) ∧ last.length ≤ mo + 1) (fun N hN => ?_) ?_
  · simp! [D7]
    refine ⟨hu0, by omega, by omega, fun r H1 r0 r15 s1 u1 => ⟨by decide, fun p hp => ⟨A9 u1 hp, by decide, by decide, fun r' H2 a0 a5 s2 u2 => ?_⟩⟩⟩
    have T := d5.new hp (.lst [.int 0, .int 0, .int 1, .int 2, .int r])
    have ep := s2 p _ b7 (A6 u1 hp)
    have ss := s1.trans ((d5.x T u).trans s2)
    obtain ⟨rn, rfl⟩ : ∃ rn : Nat, r = (rn : Int) := ⟨r.toNat, by omega⟩
    have fin : ∀ dg : Nat, dg ≤ mo → af5 [.ref u, .int kd, .int (dg : Int)] H2 (fun x H1 => N [some (.ref u), some (.int kd), some (.int (mo : Int)), some x, none, none, none, none] H1) E0 := fun dg hdg => by
      refine ⟨u, kd, dg, mo, c, rfl, u2, hk, by omega, fun r xs qs H3 s3 u3 fr er nr lr tr or pr => ?_⟩
      refine hN _ _ ⟨r, xs, qs, rfl, ss.trans s3, u3, ⟨A6 u2 fr, er, nr⟩, ⟨tr, fun z => by rw [z] at lr; simp at lr, ?_, or⟩, by omega⟩
      split at pr
      · exact .inl pr
      · exact .inr pr
    have h5 : r' = 0 ∨ r' = 1 ∨ r' = 2 ∨ r' = 3 ∨ r' = 4 := by omega
    rcases h5 with rfl | rfl | rfl | rfl | rfl
    · exact ⟨_, SqL.of ep, _, rfl, fin 0 (by omega)⟩
    · exact ⟨_, SqL.of ep, _, rfl, fin 0 (by omega)⟩
    · exact ⟨_, SqL.of ep, _, rfl, fin 1 (by omega)⟩
    · exact ⟨_, SqL.of ep, _, rfl, fin 2 (by omega)⟩
    · exact ⟨_, SqL.of ep, _, rfl, fin rn (by omega)⟩
  rintro σ H1 ⟨la, xs, last, rfl, s1, u1, L1, RG, ll⟩
  refine j0 (fun σ H2 => ∃ lf : Nat, σ = [some (.ref u), some (.int kd), some (.int (mo : Int)), some (.ref la), some (.int lf), none, none, none] ∧ H2 = H1 ∧ lf + last.length = mo + 1) (fun N hN => ?_) ?_
  · subst_eqs
    have lx := L1.nums.length
    refine ⟨xs, .inl (SqL.of L1.at'), hN _ _ ⟨mo + 1 - last.length, ?_, rfl, by omega⟩⟩
    rw [lx, show (mo : Int) + 1 - (last.length : Int) = ((mo + 1 - last.length : Nat) : Int) by omega]
  rintro σ H2 ⟨lf, rfl, rfl, elf⟩
  refine j0 (fun σ H3 => ∃ qa, σ = [some (.ref u), some (.int kd), some (.int (mo : Int)), some (.ref la), some (.int lf), some (.ref qa), none, none] ∧ o0 u H H3 ∧ j8 H3 u ∧ LsX u H3 la xs last ∧ H2 qa = none ∧ TbX u H3 qa [] []) (fun N hN => ?_) ?_
  · subst_eqs
    refine ⟨by decide, fun p hp => hN _ _ ⟨p, rfl, s1.trans (d5.x (d5.new hp _) u), A9 u1 hp, L1.same (d5.new hp _), hp, A6 u1 hp, by simp, b7, .nil⟩⟩
  rintro σ H3 ⟨qa, rfl, s3, u3, L3, fq, T3⟩
  have nq : qa ≠ la := fun z => by rw [z, L1.at'] at fq; cases fq
  obtain ⟨I, hI⟩ : ∃ I : Nat → L2.St → Hp → Prop, ∀ i σ H4, I i σ H4 ↔ ∃ (o6 o7 : Option V) (lf : Nat) (ts : List Addr) (M : List (List Rat)), σ = [some (.ref u), some (.int kd), some (.int (mo : Int)), some (.ref la), some (.int lf), some (.ref qa), o6, o7] ∧ o0 u H H4 ∧ j8 H4 u ∧ LsX u H4 la xs last ∧ TbX u H4 qa ts M ∧ qa ∉ ts ∧ (∀ L ∈ M, v3 L L.length ∧ 2 ≤ L.length ∧ evZ L = true ∧ ∀ x ∈ L, BdN c x) ∧ lf + last.length + (M.map fun L => L.length - 1).sum = mo + 1 ∧ M.length + lf + last.length ≤ mo + 1 := ⟨_, fun _ _ _ => Iff.rfl⟩
  refine j0 (fun σ H4 => ∃ i, I i σ H4) (fun N hN => ?_) ?_
  · refine ⟨_, rfl, _, rfl, _, _, rfl, rfl, u, _, rfl, u3, by omega, by omega, fun r H4 r0 r15 s4 u4 => ?_⟩
    refine ⟨r, rfl, by omega, by omega, aj3 (fun i σ H5 => I i σ H5) ((hI _ _ _).mpr ⟨_, _, lf, [], [], rfl, s3.trans s4, u4, L3.samex s4 u3, T3.samex s4 u3, by simp, by simp, by simp; omega, by simp; omega⟩) ?_ (by intro σ H5 h5; exact hN _ _ ⟨_, h5⟩)⟩
    rintro i σ H5 hi h5
    obtain ⟨o6, o7, lf, ts, M, rfl, s5, u5, L5, T5, nt, hM, hs, hl⟩ := (hI _ _ _).mp h5
    refine j0 (fun σ H6 => ∃ dg : Nat, σ = [some (.ref u), some (.int kd), some (.int (mo : Int)), some (.ref la), some (.int lf), some (.ref qa), some (.int (0 + i)), some (.int dg)] ∧ o0 u H5 H6 ∧ j8 H6 u ∧ dg % 2 = 1 ∧ dg ≤ 14) (fun N hN => ?_) ?_
    · simp! [D7]
      refine ⟨u5, by decide, by decide, fun r H6 r0 r7 s6 u6 => ⟨aw0 (by omega), by decide, fun p hp => ⟨A9 u6 hp, by decide, by decide, fun r' H7 a0 a8 s7 u7 => ?_⟩⟩⟩
      have T := d5.new hp (.lst [.int 1, .int 1, .int 1, .int 3, .int 1, .int 1, .int 5, .int (1 + 2 * r)])
      have ep := s7 p _ b7 (A6 u6 hp)
      have ss := s6.trans ((d5.x T u).trans s7)
      obtain ⟨rn, rfl⟩ : ∃ rn : Nat, r = (rn : Int) := ⟨r.toNat, by omega⟩
      have h8 : r' = 0 ∨ r' = 1 ∨ r' = 2 ∨ r' = 3 ∨ r' = 4 ∨ r' = 5 ∨ r' = 6 ∨ r' = 7 := by omega
      rcases h8 with rfl | rfl | rfl | rfl | rfl | rfl | rfl | rfl
      · exact ⟨_, SqL.of ep, _, rfl, hN _ _ ⟨1, rfl, ss, u7, by decide, by decide⟩⟩
      · exact ⟨_, SqL.of ep, _, rfl, hN _ _ ⟨1, rfl, ss, u7, by decide, by decide⟩⟩
      · exact ⟨_, SqL.of ep, _, rfl, hN _ _ ⟨1, rfl, ss, u7, by decide, by decide⟩⟩
      · exact ⟨_, SqL.of ep, _, rfl, hN _ _ ⟨3, rfl, ss, u7, by decide, by decide⟩⟩
      · exact ⟨_, SqL.of ep, _, rfl, hN _ _ ⟨1, rfl, ss, u7, by decide, by decide⟩⟩
      · exact ⟨_, SqL.of ep, _, rfl, hN _ _ ⟨1, rfl, ss, u7, by decide, by decide⟩⟩
      · exact ⟨_, SqL.of ep, _, rfl, hN _ _ ⟨5, rfl, ss, u7, by decide, by decide⟩⟩
      · exact ⟨_, SqL.of ep, _, rfl, hN _ _ ⟨1 + 2 * rn, rfl, ss, u7, by omega, by omega⟩⟩
    rintro σ H6 ⟨dg, rfl, s6, u6, hdg, hd14⟩
    have T6 := T5.samex s6 u5
    have L6 := L5.samex s6 u5
    subst_eqs
    have fH : H qa = none := s1.free u1 fq
    have lts := T6.rws.length
    refine z8 (fun hle => ⟨.inl ⟨_, SqL.of T6.at'⟩, u, kd, dg, mo, c, rfl, u6, hk, by omega, fun r ys qs H7 s7 u7 fr er nr lr tr or pr => ?_⟩) (fun _ => (hI _ _ _).mpr ⟨_, _, lf, ts, M, rfl, s5.trans s6, u6, L6, T6, nt, hM, hs, hl⟩)
    have T7 := T6.samex s7 u6
    have L7 := L6.samex s7 u6
    have nr' : qa ≠ r := d8 T6.at' fr
    have tl7 : K9 H7 (upd H7 qa (.lst (ts.map V.ref ++ [.ref r]))) := K9.lst T7.at'
    rw [if_pos hdg] at pr
    refine ⟨_, T7.at', Nat.lt_of_le_of_lt (show _ ≤ 100 by rw [List.length_map]; omega) (by decide), (hI _ _ _).mpr ⟨some (.int (0 + i)), some (.int dg), lf - dg, ts ++ [r], M ++ [qs], ?_, ((s5.trans (s6.trans s7)).over fH _), u7.other T7.au, ⟨L7.au, by rw [e9 nq.symm]; exact L7.at', L7.nums.mono tl7⟩, ⟨T7.au, fun t ht => ?_, by rw [b7, List.map_append]; rfl, (T7.rws.over T7.at' nt).append (.cons (by rw [e9 nr'.symm]; exact er) (nr.mono tl7) .nil)⟩, fun z => ?_, fun L hL => ?_, ?_, ?_⟩⟩
    · rw [show (lf : Int) - (dg : Int) = ((lf - dg : Nat) : Int) by omega]
    · rcases List.mem_append.mp ht with z | z
      · exact T7.tu t z
      · rw [List.mem_singleton.mp z]; exact A6 u6 fr
    · rcases List.mem_append.mp z with y | y
      · exact nt y
      · exact nr' (List.mem_singleton.mp y)
    · rcases List.mem_append.mp hL with z | z
      · exact hM L z
      · rw [List.mem_singleton.mp z]
        exact ⟨tr, by omega, pr, or⟩
    · rw [List.map_append, List.sum_append, List.map_cons, List.map_nil, List.sum_cons, List.sum_nil, lr]
      omega
    · rw [List.length_append, List.length_singleton]
      omega
  rintro σ H4 ⟨i, h4⟩
  obtain ⟨o6, o7, lf, ts, M, rfl, s4, u4, L4, T4, nt, hM, hs, hl⟩ := (hI _ _ _).mp h4
  subst_eqs
  refine ⟨v8, fun p hp => ?_⟩
  have T := d5.new hp (.tup [.ref qa, .ref la])
  have lp := List.length_pos_iff.mpr RG.2.1
  refine k p qa la ts xs M last _ (s4.trans (d5.x T u)) (A9 u4 hp) b7 (T4.same T) (L4.same T) ⟨hM, RG.1, RG.2.1, RG.2.2.1, RG.2.2.2, ?_⟩
  rcases hk with ⟨_, ⟨_, _, rfl⟩ | ⟨_, _, rfl⟩⟩
  · exact .inl ⟨rfl, by omega⟩
  · exact .inr ⟨rfl, by omega⟩
end
theorem NK.zero (kd : Int) : NK kd 0 := by
  unfold NK
  split
  · exact aL9 (by decide)
  · split
    · exact OvB.zero _ _
    · exact OvB.zero _ _
theorem NK.o10 {kd : Int} {q : Rat} (h : NK kd q) (hk : kd = 0 ∨ kd = 1) : OvB 60 10 q := by
  rcases hk with rfl | rfl
  · exact h.ovb0
  · have := h.ovb1.up (C := 60) (c := 6) (by decide) (by decide) (by decide)
    exact this
theorem aR3 {b : Nat} {ps : List Rat} {q : Rat} (h : q ∈ j1 b ps) : q ∈ ps ∨ q = 0 := by
  obtain ⟨i, hi⟩ := List.mem_iff_getElem?.mp h
  rw [N9] at hi
  cases g : ps[i]? with
  | none => rw [g] at hi; cases hi
  | some x =>
    rw [g, Option.map_some] at hi
    injection hi with hi
    split at hi
    · rw [← hi]; exact .inl (List.mem_of_getElem? g)
    · exact .inr hi.symm
theorem aZ5 : ∀ (ps : List Rat), ps.length ≤ 5 → ((j1 0 ps).filter fun q => decide (q ≠ 0)).length ≤ 3 ∧ ((j1 1 ps).filter fun q => decide (q ≠ 0)).length ≤ 2
  | [], _ => by decide
  | [a], _ => by
    constructor
    · exact Nat.le_trans (List.length_filter_le _ _) (by simp [j1])
    · exact Nat.le_trans (List.length_filter_le _ _) (by simp [j1])
  | [a, b], _ => by
    constructor
    · exact Nat.le_trans (List.length_filter_le _ _) (by simp [j1])
    · exact Nat.le_trans (List.length_filter_le _ _) (by simp [j1])
  | [a, b, c], _ => by
    constructor
    · exact Nat.le_trans (List.length_filter_le _ _) (by simp [j1])
    · have : (j1 1 [a, b, c]).filter (fun q => decide (q ≠ 0)) = [b].filter (fun q => decide (q ≠ 0)) := by simp [j1, List.filter_cons]
      rw [this]
      exact Nat.le_trans (List.length_filter_le _ _) (by simp)
  | [a, b, c, d], _ => by
    constructor
    · have : (j1 0 [a, b, c, d]).filter (fun q => decide (q ≠ 0)) = [b, d].filter (fun q => decide (q ≠ 0)) := by simp [j1, List.filter_cons]
      rw [this]
      exact Nat.le_trans (List.length_filter_le _ _) (by simp)
    · have : (j1 1 [a, b, c, d]).filter (fun q => decide (q ≠ 0)) = [a, c].filter (fun q => decide (q ≠ 0)) := by simp [j1, List.filter_cons]
      rw [this]
      exact Nat.le_trans (List.length_filter_le _ _) (by simp)
  | [a, b, c, d, e], _ => by
    constructor
    · have : (j1 0 [a, b, c, d, e]).filter (fun q => decide (q ≠ 0)) = [a, c, e].filter (fun q => decide (q ≠ 0)) := by simp [j1, List.filter_cons]
      rw [this]
      exact Nat.le_trans (List.length_filter_le _ _) (by simp)
    · have : (j1 1 [a, b, c, d, e]).filter (fun q => decide (q ≠ 0)) = [b, d].filter (fun q => decide (q ≠ 0)) := by simp [j1, List.filter_cons]
      rw [this]
      exact Nat.le_trans (List.length_filter_le _ _) (by simp)
  | _ :: _ :: _ :: _ :: _ :: _ :: _, h => by simp at h
theorem bd0 {kd : Int} {ps : List Rat} (hk : kd = 0 ∨ kd = 1 ∨ kd = 2) (pn : ps ≠ []) (hl : ps.length ≤ if kd = 2 then 5 else 8) (h : ∀ q ∈ ps, NK kd q) : al4 ps := by
  have hz : ∀ b, ∀ q ∈ j1 b ps, NK kd q := fun b q hq => by
    rcases aR3 hq with z | z
    · exact h q z
    · rw [z]; exact NK.zero kd
  by_cases k2 : kd = 2
  · subst k2
    rw [if_pos rfl] at hl
    obtain ⟨z1, z2⟩ := aZ5 ps hl
    refine .inr ⟨pn, by omega, 161, 121, bg0 (m := 40) (n := 3) (fun q hq => (hz 0 q hq).bd2) z1, fun m => bg0 (m := 40) (n := 2) (fun q hq => (hz 1 q (List.mem_of_mem_take hq)).bd2) (Nat.le_trans ((List.take_sublist m _).filter _).length_le z2), by decide, by decide, by decide, by decide, fun b hb => aZ8 _ hl b hb⟩
  · have hk' : kd = 0 ∨ kd = 1 := by omega
    rw [if_neg k2] at hl
    exact .inr ⟨pn, hl, 10, 10, U7 (B := 60) (by decide) (by decide) fun q hq => (hz 0 q hq).o10 hk', fun m => U7 (B := 60) (by decide) (by decide) fun q hq => (hz 1 q (List.mem_of_mem_take hq)).o10 hk', by decide, by decide, by decide, by decide, fun b hb => aZ9 _ hl b hb⟩
theorem bd5 (xs : List V) : Z8 xs (some (-1)) none = xs.drop (xs.length - 1) := by
  unfold Z8
  have e1 : HT.sIx xs.length 0 (some (-1)) = xs.length - 1 := by
    simp only [HT.sIx]
    rw [if_pos (by decide)]; omega
  have e2 : HT.sIx xs.length xs.length none = xs.length := rfl
  rw [e1, e2]
  rw [List.take_of_length_le (by rw [List.length_drop]; omega)]
theorem ba1 {c mo dg : Nat} {kd : Int} {qs : List Rat} (kc : KdC kd mo c) (hd : dg ≤ mo) (l : qs.length = dg + 1) (t : v3 qs qs.length) (o : ∀ x ∈ qs, BdN c x) (p : (if dg % 2 = 1 then evZ qs else odZ qs) = true) : al4 qs := by
  refine .inl ⟨c, [], qs, ⟨by simp, t, fun z => by rw [z] at l; simp at l, ?_, o, ?_⟩, ?_⟩
  · split at p
    · exact .inl p
    · exact .inr p
  · rcases kc with ⟨_, ⟨_, h, rfl⟩ | ⟨_, h, rfl⟩⟩
    · exact .inl ⟨rfl, by simp; omega⟩
    · exact .inr ⟨rfl, by simp; omega⟩
  · show qp qs = qp qs + 0
    grind
section
variable {P : Program} {w : World} {K : PySem.W.Frag} {mg : Str → Option Value} {base : Heap}
def au8 : Sp := fun vs H Q _ => ∃ (u : Addr), vs = [.ref u] ∧ j8 H u ∧ ∀ r xs ps H', o0 u H H' → j8 H' u → LsX u H' r xs ps → v3 ps ps.length → ps ≠ [] → ps.length ≤ 15 → al4 ps → Q (.ref r) H'
abbrev C6 : Stmt := top 67
theorem C9 : i5 ["_law_urn_here", "_law_way", "_law_kind_here", "_law_most", "_law_found", "_law_row"] ["_law_urn_here"] (d3 C6) := by clean_wf
set_option maxHeartbeats 0 in
theorem at3 {f f1 f2 f3 f4 f5 f6 : Addr} (d : Df K mg "_law_drawn" C6 ["_law_urn_here"] f) (G__law_draw : Def P w K mg base CX0 1 "_law_draw" f1 ["_law_urn_here", "_law_many"] D7) (G__law_kind : Def P w K mg base CX0 2 "_law_kind" f2 ["_law_urn_here"] aG6) (G__law_division_row : Def P w K mg base CX0 5 "_law_division_row" f3 ["_law_urn_here", "_law_kind_here", "_law_most"] aD0) (G__law_folded : Def P w K mg base CX0 4 "_law_folded" f4 ["_law_quotients", "_law_last"] (ai4 K)) (G__law_sparse : Def P w K mg base CX0 4 "_law_sparse" f5 ["_law_urn_here", "_law_kind_here", "_law_degree"] af5) (GD__law_drawn_poly : Def P w K mg base CX0 4 "_law_drawn_poly" f6 ["_law_urn_here", "_law_kind_here", "_law_most"] af6) : Def P w K mg base CX0 6 "_law_drawn" f ["_law_urn_here"] au8 := by
  have G__law_drawn_poly := GD__law_drawn_poly
  refine d.ok (N := ["_law_urn_here", "_law_way", "_law_kind_here", "_law_most", "_law_found", "_law_row"]) C9 (by rintro vs H Q E ⟨_, h, _⟩; rw [h]; rfl) (fun cdv A outer s H vs Q E hr h => ?_)
  obtain ⟨u, rfl, hu0, k⟩ := h
  have hu := hr.units
  refine ⟨_, (b8 (g7 (i := 1) C9.nd rfl (Or.inl rfl) (d7 G__law_draw hr (b0 (pv 0) (b0 b9 b6)) g8))
      (b8 (g7 (i := 2) C9.nd rfl (Or.inl rfl) (d7 G__law_kind hr (b0 (pv 0) b6) g8))
      (b8 (g7 (i := 3) C9.nd rfl (Or.inl rfl) (j6 w5 (u0 (b0 b9 (b0 b9 (b0 b9 b6)))) (pv 2) (fun _ _ => rfl)))
      (b8 (C2 (j5 X0 (pv 1) b9 (j7 _)) (b8 (g7 (i := 5) C9.nd rfl (Or.inl rfl) (d7 G__law_division_row hr (b0 (pv 0) (b0 (pv 2) (b0 (pv 3) b6))) g8))
      (d6 (i3 (d7 G__law_folded hr (b0 (j6 p9 (pv 5) b9 (fun _ _ => rfl)) (b0 (j6 p9 (pv 5) b9 (fun _ _ => rfl)) b6)) g8)))) t3)
      (b8 (C2 (j5 X0 (pv 1) b9 (j7 _)) (d6 (i3 (d7 G__law_sparse hr (b0 (pv 0) (b0 (pv 2) (b0 (d7 G__law_draw hr (b0 (pv 0) (b0 (e8 C3 (pv 3) b9) b6)) g8) b6))) g8))) t3)
      (b8 (g7 (i := 4) C9.nd rfl (Or.inl rfl) (d7 G__law_drawn_poly hr (b0 (pv 0) (b0 (pv 2) (b0 (pv 3) b6))) g8))
      (b8 (C2 (j5 ap1 (pv 1) b9 (j7 _)) (d6 (g7 (i := 4) C9.nd rfl (Or.inl rfl) (e8 W3 (P7 (Nc := ["_law_urn_here", "_law_number_here"]) (caps := [some 0, none]) rfl (W8.of (osc := d3 C6) (N := ["_law_urn_here", "_law_way", "_law_kind_here", "_law_most", "_law_found", "_law_row"]) (ks := ["_law_urn_here"]) rfl rfl rfl rfl (G0 rfl F8) (by decide +kernel)) (E8 (M5 P2 (pv 4) P6 (P5 (X9 P9 b9)))) (fun C s₂ H₂ fp pins => (g6 (i := 1) (show List.Nodup (["_law_urn_here", "_law_number_here"] : List Str) by decide +kernel) rfl (Or.inl rfl) (Or.inr rfl))) (fun C s₂ H₂ fp pins => (j6 (by exact w5 : IxR _ (aD3 K)) (u0 (b0 (pv 1) (b0 (v7 (b0 b9 (b0 b9 b6))) b6))) (d7 G__law_draw hr (b0 (pv 0) (b0 b9 b6)) g8) (fun _ _ => rfl)))) (M5 P2 (pv 4) (P5 (X9 P9 b9)) P6)))) t3)
      (d6 (i3 (pv 4)))))))))), ?_⟩
  rw [show start ["_law_urn_here", "_law_way", "_law_kind_here", "_law_most", "_law_found", "_law_row"] [.ref u] = [some (.ref u), none, none, none, none, none] from rfl]
  refine j0 (fun σ H1 => ∃ wy : Int, σ = [some (.ref u), some (.int wy), none, none, none, none] ∧ o0 u H H1 ∧ j8 H1 u) (fun N hN => ?_) ?_
  · simp! [D7]
    exact ⟨hu0, by decide, by decide, fun wy H1 h0 h1 s1 u1 => hN _ _ ⟨wy, rfl, s1, u1⟩⟩
  rintro σ H1 ⟨wy, rfl, s1, u1⟩
  refine j0 (fun σ H2 => ∃ kd : Int, σ = [some (.ref u), some (.int wy), some (.int kd), none, none, none] ∧ o0 u H H2 ∧ j8 H2 u ∧ (kd = 0 ∨ kd = 1 ∨ kd = 2)) (fun N hN => ?_) ?_
  · simp! [aG6]
    exact ⟨u1, fun kd H2 h0 s2 u2 => hN _ _ ⟨kd, rfl, s1.trans s2, u2, h0⟩⟩
  rintro σ H2 ⟨kd, rfl, s2, u2, hk⟩
  refine j0 (fun σ H3 => ∃ mo c : Nat, σ = [some (.ref u), some (.int wy), some (.int kd), some (.int (mo : Int)), none, none] ∧ o0 u H H3 ∧ j8 H3 u ∧ KdC kd mo c ∧ mo + 1 ≤ (if kd = 2 then 5 else 8)) (fun N hN => ?_) ?_
  · subst_eqs
    refine ⟨by decide, fun p hp => ?_⟩
    have X := d5.new hp (.lst [.int 7, .int 7, .int 4])
    have ss := s2.trans (d5.x X u)
    rcases hk with rfl | rfl | rfl
    · exact ⟨_, SqL.of b7, _, rfl, hN _ _ ⟨7, 10, rfl, ss, A9 u2 hp, ⟨by decide, .inl ⟨.inl rfl, by decide, rfl⟩⟩, by decide⟩⟩
    · exact ⟨_, SqL.of b7, _, rfl, hN _ _ ⟨7, 10, rfl, ss, A9 u2 hp, ⟨by decide, .inl ⟨.inr rfl, by decide, rfl⟩⟩, by decide⟩⟩
    · exact ⟨_, SqL.of b7, _, rfl, hN _ _ ⟨4, 40, rfl, ss, A9 u2 hp, ⟨by decide, .inr ⟨rfl, by decide, rfl⟩⟩, by decide⟩⟩
  rintro σ H3 ⟨mo, c, rfl, s3, u3, kc, hm⟩
  obtain ⟨c10, c40, m2, m14⟩ := kc.c1
  have hm8 : mo ≤ 7 := by split at hm <;> omega
  simp! [D7]
  refine ⟨rfl, z8 (fun _ => ?_) (fun _ => ⟨rfl, z8 (fun _ => ?_) (fun _ => ?_)⟩)⟩
  · refine ⟨u, kd, mo, c, rfl, u3, kc, fun t qa la ts xs M last H4 s4 u4 et T L R => ?_⟩
    refine ⟨t, rfl, _, SqT.of et, _, rfl, t, rfl, _, SqT.of et, _, rfl, qa, la, ts, xs, M, last, rfl, SqL.of T.at', T.rws, SqL.of L.at', L.nums, R.told, fun r zs ps H5 s5 fr er nr tp ep => ?_⟩
    have lp := al2 R tp ep
    have edn : dn M last M.length + 1 ≤ 15 := by
      have := R.sum (n := M.length) (Nat.le_refl _)
      have := List.length_pos_iff.mpr R.n
      unfold dn; omega
    exact k r zs ps H5 (s3.trans (s4.trans (d5.x s5 u))) (d5.urn s5 u4) ⟨A6 u4 fr, er, nr⟩ tp (fun z => by rw [z] at lp; simp at lp) (by omega) (.inl ⟨c, M, last, R, ep⟩)
  · refine ⟨u3, by omega, by omega, fun r H4 r0 r1 s4 u4 => ?_⟩
    obtain ⟨dg, rfl⟩ : ∃ dg : Nat, r = (dg : Int) := ⟨r.toNat, by omega⟩
    refine ⟨u, kd, dg, mo, c, rfl, u4, kc, by omega, fun r xs qs H5 s5 u5 fr er nr lr tr or pr => ?_⟩
    exact k r xs qs H5 (s3.trans (s4.trans s5)) u5 ⟨A6 u4 fr, er, nr⟩ tr (fun z => by rw [z] at lr; simp at lr) (by omega) (ba1 kc (by omega) lr tr or pr)
  · refine ⟨u, kd, mo, rfl, u3, by omega, by omega, fun r xs qs q H4 s4 u4 fr er nr nq n1 q0 hl => ?_⟩
    have lx := nr.length
    rw [List.length_append, List.length_singleton] at lx
    have tlq : ∀ l : List Rat, v3 (l ++ [q]) (l ++ [q]).length := fun l => V3 fun x hx => by
      rw [List.length_append, List.length_singleton, Nat.add_sub_cancel, List.getElem?_append_right (Nat.le_refl _), Nat.sub_self] at hx
      cases hx; exact q0
    have dv : ∀ l : List Rat, l.length = qs.length → (∀ p ∈ l, NK kd p) → al4 (l ++ [q]) := fun l e hl' => by
      refine bd0 hk (by simp) ?_ fun p hp => ?_
      · rw [List.length_append, List.length_singleton]
        omega
      · rcases List.mem_append.mp hp with z | z
        · exact hl' p z
        · rw [List.mem_singleton.mp z]; exact n1
    refine z8 (fun _ => ?_) (fun _ => ?_)
    · refine ⟨r, rfl, xs, SqL.of er, fun p hp => ?_⟩
      rw [aL8]
      have X := d5.new hp (.lst (xs.take (xs.length - 1)))
      have up := A9 (o := .lst (xs.take (xs.length - 1))) u4 hp
      have nt := nr.take (xs.length - 1)
      rw [show xs.length - 1 = qs.length by omega, List.take_left' rfl] at nt
      refine ⟨⟨_, SqL.of b7⟩, fun D hD => ?_⟩
      have ep : (upd H4 p (.lst (xs.take (xs.length - 1)))) p = some (.lst (xs.take qs.length)) := by rw [b7, show xs.length - 1 = qs.length by omega]
      generalize upd H4 p (.lst (xs.take (xs.length - 1))) = Hp4 at *
      have Du : D ≠ u := A6 up hD
      have pu : p ≠ u := A6 u4 hp
      have nt4 := nt.mono X.tups
      have l2 := nt4.length
      obtain ⟨I, hI⟩ : ∃ I : Nat → L2.St → Hp → Prop, ∀ j σ H5, I j σ H5 ↔ ∃ o, σ = [some (.ref u), o] ∧ o0 u Hp4 H5 ∧ j8 H5 u ∧ ∃ ys l, H5 D = some (.lst ys) ∧ m6 H5 ys l ∧ l.length = j ∧ ∀ p ∈ l, NK kd p := ⟨_, fun _ _ _ => Iff.rfl⟩
      refine P8 (xs.take qs.length) I ((hI _ _ _).mpr ⟨_, rfl, d5.x (d5.new hD _) u, A9 up hD, [], [], b7, .nil, rfl, by simp⟩) (by rintro j σ H5 _ h5; obtain ⟨_, _, s5, _⟩ := (hI _ _ _).mp h5; exact SqL.of (s5 _ _ ep pu)) ?_ ?_
      · rintro j x σ H5 hx h5'
        obtain ⟨o, rfl, s5, u5, ys, l, e5, n5, hl5, h5⟩ := (hI _ _ _).mp h5'
        have hj := (List.getElem?_eq_some_iff.mp hx).1
        obtain ⟨px, qx, rfl, hq, epx⟩ := nt4.getV hx
        simp! [D7]
        refine ⟨v8, fun p1 hp1 => ⟨by decide, fun p2 hp2 => ⟨A9 (A9 u5 hp1) hp2, by decide, by decide, fun r' H6 a0 a2 s6 u6 => ?_⟩⟩⟩
        have X1 := d5.new hp1 (.tup [.int 0, .int 1])
        have X2 := d5.new hp2 (.lst [.ref px, .ref p1])
        have u51 := A9 (o := .tup [.int 0, .int 1]) u5 hp1
        have e6 := s6 p2 _ b7 (A6 u51 hp2)
        have ss := (d5.x (X1.trans X2) u).trans s6
        have uX := d5.urn (X1.trans X2) u5
        have e6D := ss _ _ e5 Du
        have n6 := n5.mono (ss.tups u5)
        have fin : ∀ (pz : Addr) qz, NK kd qz → H6 pz = some (.tup (w9 qz)) → J1 D (xs.take qs.length).length I j [some (.ref u), some (.ref px)] (.ref pz) H6 := fun pz qz nz ez => by
          refine J1.mk hj e6D (by rw [n6.length, hl5]; exact Nat.lt_of_lt_of_le (show j < 100 by omega) (by decide)) ((hI _ _ _).mpr ⟨_, rfl, (s5.trans ss).over hD _, u6.other Du, _, l ++ [qz], b7, (n6.append (.cons ez .nil)).mono (K9.lst e6D), by rw [List.length_append, hl5]; rfl, fun p hp => ?_⟩)
          rcases List.mem_append.mp hp with z | z
          · exact h5 p z
          · rw [List.mem_singleton.mp z]; exact nz
        have h2 : r' = 0 ∨ r' = 1 := by omega
        rcases h2 with rfl | rfl
        · exact ⟨_, SqL.of e6, _, rfl, fin px qx (nq qx (List.mem_of_getElem? hq)) (ss.tups u5 _ _ (s5.tups up _ _ epx))⟩
        · exact ⟨_, SqL.of e6, _, rfl, fin p1 0 (NK.zero kd) (s6.tups uX _ _ (X2 _ _ (b7 (a := p1))))⟩
      · rintro σ H5 h5'
        obtain ⟨o, rfl, s5, u5, ys, l, e5, n5, hl5, h5⟩ := (hI _ _ _).mp h5'
        have el : xs.length - 1 = qs.length := by omega
        have ru : r ≠ u := A6 u3 fr
        have er5 : H5 r = some (.lst xs) := s5 _ _ (X _ _ er) ru
        refine ⟨r, rfl, xs, SqL.of er5, fun p2 hp2 => ⟨D, rfl, ?_⟩⟩
        rw [bd5, el]
        have Y := d5.new hp2 (.lst (xs.drop qs.length))
        refine ⟨ys, Y _ _ e5, _, b7, ?_, fun p3 hp3 => ?_⟩
        · have := n5.length
          rw [List.length_drop]
          exact Nat.le_trans (show _ ≤ 100 by rw [List.length_take] at hl5; omega) (by decide)
        have Z := d5.new hp3 (.lst (ys ++ xs.drop qs.length))
        have nd := nr.drop (xs.length - 1)
        rw [show xs.length - 1 = qs.length by omega, List.drop_left' rfl] at nd
        have sA : o0 u H H5 := s3.trans (s4.trans ((d5.x X u).trans s5))
        have uY := d5.urn Y u5
        have ll : l.length = qs.length := by rw [hl5, l2]
        refine k p3 _ (l ++ [q]) _ (sA.trans (d5.x (Y.trans Z) u)) (d5.urn Z uY) ⟨A6 uY hp3, b7, ?_⟩ (tlq l) (by simp) (by rw [List.length_append, List.length_singleton]; omega) (dv l ll h5)
        have nA := (n5.mono (Y.trans Z).tups)
        have nB := ((nd.mono X.tups).mono (s5.tups up)).mono (Y.trans Z).tups
        exact nA.append nB
    · exact k r xs _ H4 (s3.trans s4) u4 ⟨A6 u3 fr, er, nr⟩ (tlq qs) (by simp) (by rw [List.length_append, List.length_singleton]; omega) (dv qs rfl nq)
end
def ac8 (M : List (List Rat)) (last : List Rat) : D := .tup [O9 M, A5 last]
theorem aX7 (M : List (List Rat)) (last : List Rat) : eqD (ac8 M last) (ac8 M last) = true := by
  unfold ac8
  rw [eqD, F7, F7, F7, aw7, G9]; simp
theorem aV5 (M N : List (List Rat)) (a b : List Rat) : okD (ac8 M a) (ac8 N b) = true := by
  unfold ac8
  rw [okD, R8, R8, av9, K2]; simp [R8]
theorem bc8 (M : List (List Rat)) (last : List Rat) : dpD (ac8 M last) ≤ 60 := by
  unfold ac8 O9
  rw [dpD, Z6, Z6, Z6, dpD]
  have h1 := ae8 M
  have h2 := N6 last
  omega
section
variable {P : Program} {w : World} {K : PySem.W.Frag} {mg : Str → Option Value} {base : Heap}
theorem bm9 {u qa D : Addr} {ts : List Addr} {M : List (List Rat)} {H1 : Hp} {Q : VK} (hu : j8 H1 u) (T : TbX u H1 qa ts M) (hD : H1 D = none) (hl : M.length ≤ 50)
    (k : ∀ ts2 H2, d5 H1 H2 → TbX u H2 D ts2 M → (∀ t ∈ ts2, H1 t = none) → Q (.ref D) H2) : ai1 (Itl K qa) D [none] (upd H1 D (.lst [])) (p7 0) (tCB (aN6 K) (U0 (Q3 0) am9)) Q := by
  have lts := T.rws.length
  have Du : D ≠ u := A6 hu hD
  refine P8 (ts.map V.ref) (fun j σ H3 => ∃ o ts2, σ = [o] ∧ d5 H1 H3 ∧ H3 D = some (.lst (ts2.map V.ref)) ∧ Rws H3 ts2 (M.take j) ∧ ∀ t ∈ ts2, t ≠ u ∧ t ≠ D ∧ H1 t = none) ⟨_, [], rfl, d5.new hD _, b7, .nil, by simp⟩ (fun j σ H3 _ ⟨o, ts2, _, s3, _⟩ => SqL.of (s3 _ _ T.at')) ?_ ?_
  · rintro j x σ H3 hx ⟨o, ts2, rfl, s3, e3, R3, n3⟩
    have hj := (List.getElem?_eq_some_iff.mp hx).1
    obtain ⟨pr, hpr, rfl⟩ := ao4 hx
    obtain ⟨ys, Lr, hLr, er, nr⟩ := T.rws.get hpr
    subst_eqs
    refine ⟨ys, .inl (SqL.of (s3 _ _ er)), fun l hl' => ?_⟩
    have X := d5.new hl' (.lst ys)
    have eD := X _ _ e3
    have lD : l ≠ D := fun z => by rw [z, e3] at hl'; cases hl'
    have fl : H1 l = none := s3.free hl'
    have ln2 := R3.length
    rw [List.length_map] at hj
    rw [List.length_take] at ln2
    have R4 : Rws (upd (upd H3 l (.lst ys)) D (.lst (ts2.map V.ref ++ [.ref l]))) (ts2 ++ [l]) (M.take (j + 1)) := by
      have e5 : M.take (j + 1) = M.take j ++ [Lr] := by rw [List.take_succ, hLr]; rfl
      rw [e5]
      exact ((R3.same X).over eD fun z => (n3 D z).2.1 rfl).append (.cons (by rw [e9 lD]; exact b7) ((nr.mono (s3.trans X).tups).mono (K9.lst eD)) .nil)
    refine J1.mk (by rw [List.length_map]; exact hj) eD ?_ ⟨_, rfl, (s3.trans X).over hD _, ts2 ++ [l], by rw [b7, List.map_append]; rfl, R4, fun t ht => ?_⟩
    · rw [List.length_map]
      exact Nat.lt_of_le_of_lt (show _ ≤ 100 by omega) (by decide)
    · rcases List.mem_append.mp ht with z | z
      · exact n3 t z
      · rw [List.mem_singleton.mp z]; exact ⟨A6 hu fl, lD, fl⟩
  · rintro σ H3 ⟨o, ts2, rfl, s3, e3, R3, n3⟩
    rw [List.length_map, lts, List.take_length] at R3
    exact k ts2 H3 s3 ⟨Du, fun t ht => (n3 t ht).1, e3, R3⟩ (fun t ht => (n3 t ht).2.2)
end
structure SX (X : List Addr) (H H' : Hp) : Prop where
  s : ∀ b o, H b = some o → b ∉ X → H' b = some o
  l : ∀ x ∈ X, ∃ ys, H' x = some (.lst ys)
  l0 : ∀ x ∈ X, ∃ ys, H x = some (.lst ys)
theorem SX.tups {X : List Addr} {H H' : Hp} (h : SX X H H') : K9 H H' := fun p xs e => h.s _ _ e fun z => by
  obtain ⟨ys, e2⟩ := h.l0 p z
  rw [e] at e2; cases e2
theorem SX.start {X : List Addr} {H : Hp} (l : ∀ x ∈ X, ∃ ys, H x = some (.lst ys)) : SX X H H := ⟨fun _ _ h _ => h, l, l⟩
theorem SX.same {X : List Addr} {H H' H2 : Hp} (h : SX X H H') (s : d5 H' H2) : SX X H H2 := ⟨fun b o e n => s _ _ (h.s b o e n), fun x hx => let ⟨ys, e⟩ := h.l x hx; ⟨ys, s _ _ e⟩, h.l0⟩
theorem SX.upd {X : List Addr} {H H' : Hp} (h : SX X H H') {a : Addr} (ha : a ∈ X) (ys : List V) : SX X H (upd H' a (.lst ys)) := ⟨fun b o e n => by rw [e9 (fun z => n (by rw [z]; exact ha))]; exact h.s b o e n, fun x hx => by
  by_cases z : x = a
  · exact ⟨ys, by rw [z, b7]⟩
  · rw [e9 z]; exact h.l x hx, h.l0⟩
theorem SX.samex {X : List Addr} {H H' H2 : Hp} {u : Addr} (h : SX X H H') (s : o0 u H' H2) (hu : u ∈ X) (hU : j8 H2 u) : SX X H H2 := ⟨fun b o e n => s _ _ (h.s b o e n) (fun z => n (by rw [z]; exact hu)), fun x hx => by
  by_cases z : x = u
  · obtain ⟨g, m, p, e, _⟩ := hU
    exact ⟨_, by rw [z]; exact e⟩
  · obtain ⟨ys, e⟩ := h.l x hx
    exact ⟨ys, s _ _ e z⟩, h.l0⟩
theorem Rws.sx {X : List Addr} {H H' : Hp} (h : SX X H H') : ∀ {ts : List Addr} {M : List (List Rat)}, (∀ t ∈ ts, t ∉ X) → Rws H ts M → Rws H' ts M
  | _, _, _, .nil => .nil
  | _, _, n, .cons e ns t => .cons (h.s _ _ e (n _ List.mem_cons_self)) (ns.mono h.tups) (Rws.sx h (fun t ht => n t (List.mem_cons_of_mem _ ht)) t)
theorem Rws.eraseIdx {H : Hp} : ∀ {ts : List Addr} {M : List (List Rat)} (j : Nat), Rws H ts M → Rws H (ts.eraseIdx j) (M.eraseIdx j)
  | _, _, _, .nil => .nil
  | _, _, 0, .cons _ _ t => t
  | _, _, j + 1, .cons e n t => .cons e n (Rws.eraseIdx j t)
theorem aP5 {α : Type} (l : List α) (j : Nat) : l.take j ++ l.drop (j + 1) = l.eraseIdx j := (List.eraseIdx_eq_take_drop_succ l j).symm
theorem aE3 {ts : List Addr} (h : ts.Nodup) {j : Nat} {a : Addr} (ha : ts[j]? = some a) : ∀ t ∈ ts.eraseIdx j, t ≠ a := fun t ht z => by
  subst z
  obtain ⟨i, hi, e⟩ := List.mem_eraseIdx_iff_getElem?.mp ht
  have hj := (List.getElem?_eq_some_iff.mp ha)
  have hi' := (List.getElem?_eq_some_iff.mp e)
  obtain ⟨hj1, hj2⟩ := hj
  obtain ⟨hi1, hi2⟩ := hi'
  rcases Nat.lt_trichotomy i j with x | x | x
  · exact List.pairwise_iff_getElem.mp h i j hi1 hj1 x (by rw [hi2, hj2])
  · exact hi x
  · exact List.pairwise_iff_getElem.mp h j i hj1 hi1 x (by rw [hi2, hj2])
theorem aK3 {a b : List Rat} (ta : v3 a a.length) (tb : v3 b b.length) (h : qp a = qp b) : a = b := aR6 ta tb fun k => congrArg (fun z => Pf.f z k) h
structure Ld (d : Nat) (x : Pf × Pf) : Prop where
  n : x.1.f d ≠ 0
  d1 : Dg x.1.f (d + 1)
  d2 : Dg x.2.f d
  p1 : Par d x.1
  p2 : Par (d + 1) x.2
def aJ2 (M : List (List Rat)) : Prop := ∀ L ∈ M, v3 L L.length ∧ 2 ≤ L.length ∧ evZ L = true
theorem am6 {last : List Rat} (t : v3 last last.length) (n : last ≠ []) (p : evZ last = true ∨ odZ last = true) : ∀ (M : List (List Rat)), aJ2 M → ∃ d, Ld d (Un M (qp last, 0))
  | [], _ => by
    have lp := List.length_pos_iff.mpr n
    have ld := am1 t lp
    refine ⟨last.length - 1, ld, fun k hk => X7 last k (by omega), fun k _ => K4 k, ?_, aD6 _⟩
    obtain ⟨b, hb⟩ : ∃ b, Par b (qp last) := by
      rcases p with z | z
      · exact ⟨1, az3 z⟩
      · exact ⟨0, aU6 z⟩
    have : (last.length - 1) % 2 = b % 2 := Classical.byContradiction fun z => ld (hb _ z)
    exact hb.cong this.symm
  | L :: Ls, h => by
    obtain ⟨d, Y⟩ := am6 t n p Ls fun L hL => h L (List.mem_cons_of_mem _ hL)
    obtain ⟨tL, l2, ev⟩ := h L List.mem_cons_self
    have ldL := am1 tL (by omega)
    have pL := az3 ev
    have odd : (L.length - 1) % 2 = 1 := by
      have : (L.length - 1) % 2 = 1 % 2 := Classical.byContradiction fun z => ldL (pL _ z)
      omega
    show ∃ d, Ld d (qp L * (Un Ls (qp last, 0)).1 + (Un Ls (qp last, 0)).2, (Un Ls (qp last, 0)).1)
    generalize Un Ls (qp last, 0) = y at Y ⊢
    have top := aI8 (f := (qp L).f) (g := y.1.f) (a := L.length - 1) (b := d) (by rw [Nat.sub_add_cancel (by omega)]; exact X7 L) Y.d1
    refine ⟨L.length - 1 + d, ?_, ?_, ?_, ?_, ?_⟩
    · show (qp L * y.1 + y.2).f _ ≠ 0
      rw [V8, Y.d2 _ (by omega)]
      have e : (qp L * y.1).f (L.length - 1 + d) = (qp L).f (L.length - 1) * y.1.f d := top
      rw [e]
      intro z
      have z' : (qp L).f (L.length - 1) * y.1.f d = 0 := by rw [← z]; grind
      rcases Rat.mul_eq_zero.mp z' with w | w
      · exact ldL w
      · exact Y.n w
    · intro k hk
      show (qp L * y.1 + y.2).f k = 0
      rw [V8, Y.d2 k (by omega)]
      have : (qp L * y.1).f k = 0 := Dg.cv (X7 L) Y.d1 k (by omega)
      rw [this]; grind
    · exact fun k hk => Y.d1 k (by omega)
    · exact Par.add ((pL.mul Y.p1).cong (b := L.length - 1 + d) (by omega)) (Y.p2.cong (b := L.length - 1 + d) (by omega))
    · exact Y.p1.cong (b := L.length - 1 + d + 1) (by omega)
theorem aJ7 {last last' : List Rat} (t : v3 last last.length) (n : last ≠ []) (p : evZ last = true ∨ odZ last = true) (t' : v3 last' last'.length) (n' : last' ≠ []) (p' : evZ last' = true ∨ odZ last' = true) : ∀ (M M' : List (List Rat)), aJ2 M → aJ2 M' → Un M (qp last, 0) = Un M' (qp last', 0) → M = M' ∧ last = last'
  | [], [], _, _, e => ⟨rfl, aK3 t t' (congrArg Prod.fst e)⟩
  | [], L' :: Ls', _, h', e => by
    obtain ⟨d, Y⟩ := am6 t' n' p' Ls' fun L hL => h' L (List.mem_cons_of_mem _ hL)
    have : (0 : Pf) = (Un Ls' (qp last', 0)).1 := congrArg Prod.snd e
    exact absurd (by rw [← this]; exact K4 d) Y.n
  | L :: Ls, [], h, _, e => by
    obtain ⟨d, Y⟩ := am6 t n p Ls fun L hL => h L (List.mem_cons_of_mem _ hL)
    have : (Un Ls (qp last, 0)).1 = (0 : Pf) := congrArg Prod.snd e
    exact absurd (by rw [this]; exact K4 d) Y.n
  | L :: Ls, L' :: Ls', h, h', e => by
    have hs : aJ2 Ls := fun L hL => h L (List.mem_cons_of_mem _ hL)
    have hs' : aJ2 Ls' := fun L hL => h' L (List.mem_cons_of_mem _ hL)
    obtain ⟨d, Y⟩ := am6 t n p Ls hs
    obtain ⟨d', Y'⟩ := am6 t' n' p' Ls' hs'
    have e1 : qp L * (Un Ls (qp last, 0)).1 + (Un Ls (qp last, 0)).2 = qp L' * (Un Ls' (qp last', 0)).1 + (Un Ls' (qp last', 0)).2 := congrArg Prod.fst e
    have e2 : (Un Ls (qp last, 0)).1 = (Un Ls' (qp last', 0)).1 := congrArg Prod.snd e
    have dd : d = d' := by
      rcases Nat.lt_trichotomy d d' with x | x | x
      · exact absurd (by rw [← e2]; exact Y.d1 d' x) Y'.n
      · exact x
      · exact absurd (by rw [e2]; exact Y'.d1 d x) Y.n
    subst dd
    have key := aq9 (O := (Un Ls (qp last, 0)).1.f) (f0 := (qp L).f) (g0 := (qp L').f) (f1 := (Un Ls (qp last, 0)).2.f) (g1 := (Un Ls' (qp last', 0)).2.f) (n := d) (m := max L.length L'.length) Y.n (fun k hk => Y.d1 k hk) Y.d2 Y'.d2 (fun k hk => X7 L k (by omega)) (fun k hk => X7 L' k (by omega)) fun k => by
      have h1 := congrArg (fun z => Pf.f z k) e1
      rw [← e2] at h1
      exact h1
    have eL : L = L' := aK3 (h L List.mem_cons_self).1 (h' L' List.mem_cons_self).1 (Pf.ext key.1)
    obtain ⟨i1, i2⟩ := aJ7 t n p t' n' p' Ls Ls' hs hs' (Prod.ext e2 (Pf.ext key.2))
    exact ⟨by rw [eL, i1], i2⟩
theorem aM4 {M M' : List (List Rat)} {last last' : List Rat} (T : X4 M last) (T' : X4 M' last') (e : (fld M last M.length).1 + (fld M last M.length).2 = (fld M' last' M'.length).1 + (fld M' last' M'.length).2) : M = M' ∧ last = last' := by
  have f1 := aq3 M last M.length (Nat.le_refl _)
  have f2 := aq3 M' last' M'.length (Nat.le_refl _)
  rw [Nat.sub_self, List.drop_zero] at f1 f2
  have r1 : aJ2 M := fun L hL => ⟨(T.m L hL).1, (T.m L hL).2.1, (T.m L hL).2.2.1⟩
  have r2 : aJ2 M' := fun L hL => ⟨(T'.m L hL).1, (T'.m L hL).2.1, (T'.m L hL).2.2.1⟩
  obtain ⟨d, Y⟩ := am6 T.t T.n T.p M r1
  obtain ⟨d', Y'⟩ := am6 T'.t T'.n T'.p M' r2
  rw [f1, f2] at e
  refine aJ7 T.t T.n T.p T'.t T'.n T'.p M M' r1 r2 ?_
  generalize Un M (qp last, 0) = x at *
  generalize Un M' (qp last', 0) = x' at *
  have h : ∀ k, x.1.f k + x.2.f k = x'.1.f k + x'.2.f k := fun k => by
    have := congrArg (fun z => Pf.f z k) e
    exact this
  have dd : d = d' := by
    rcases Nat.lt_trichotomy d d' with z | z | z
    · have := h d'
      rw [Y.d1 d' z, Y.d2 d' (by omega), Y'.d2 d' (Nat.le_refl _)] at this
      exact absurd (by grind) Y'.n
    · exact z
    · have := h d
      rw [Y'.d1 d z, Y'.d2 d (by omega), Y.d2 d (Nat.le_refl _)] at this
      exact absurd (by grind) Y.n
  subst dd
  refine Prod.ext (Pf.ext fun k => ?_) (Pf.ext fun k => ?_)
  · by_cases z : k % 2 = d % 2
    · have := h k
      rw [Y.p2 k (by omega), Y'.p2 k (by omega)] at this
      grind
    · rw [Y.p1 k z, Y'.p1 k z]
  · by_cases z : k % 2 = d % 2
    · rw [Y.p2 k (by omega), Y'.p2 k (by omega)]
    · have := h k
      rw [Y.p1 k z, Y'.p1 k z] at this
      grind
theorem bo7 (xs : List V) (n : Nat) : Z8 xs (some (n : Int)) none = xs.drop n := by
  by_cases h : n ≤ xs.length
  · exact aY4 xs h
  · unfold Z8
    have e1 : HT.sIx xs.length 0 (some (n : Int)) = xs.length := by
      simp only [HT.sIx]
      split <;> omega
    have e2 : HT.sIx xs.length xs.length none = xs.length := rfl
    rw [e1, e2, List.drop_eq_nil_of_le (Nat.le_refl _), List.drop_eq_nil_of_le (by omega), List.take_nil]
theorem bo8 (vs : List V) (m : Nat) : Z8 vs none (some (m : Int)) = vs.take m := by
  by_cases h : m ≤ vs.length
  · exact ar4 vs h
  · unfold Z8
    have e1 : HT.sIx vs.length 0 none = 0 := by simp [HT.sIx]
    have e2 : HT.sIx vs.length vs.length (some (m : Int)) = vs.length := by
      simp only [HT.sIx]
      split <;> omega
    rw [e1, e2, List.drop_zero, Nat.sub_zero, List.take_length, List.take_of_length_le (by omega)]
theorem ers (l : List Addr) (j : Nat) : (l.map V.ref).take j ++ (l.map V.ref).drop (j + 1) = (l.eraseIdx j).map V.ref := by
  rw [← List.map_take, ← List.map_drop, ← List.map_append, aP5]
theorem Rws.inv {H : Hp} : ∀ {ts : List Addr} {M : List (List Rat)} {L : List Rat}, Rws H ts (M ++ [L]) → ∃ ts0 t xs, ts = ts0 ++ [t] ∧ Rws H ts0 M ∧ H t = some (.lst xs) ∧ m6 H xs L
  | _, [], _, .cons e n .nil => ⟨[], _, _, rfl, .nil, e, n⟩
  | _, A :: M, _, .cons e n t => by
    obtain ⟨ts0, t', xs, rfl, R, e', n'⟩ := Rws.inv t
    exact ⟨_ :: ts0, t', xs, rfl, .cons e n R, e', n'⟩
section
variable {P : Program} {w : World} {K : PySem.W.Frag} {mg : Str → Option Value} {base : Heap}
def au4 (K : PySem.W.Frag) : Sp := fun vs H Q _ => ∃ (u ap : Addr) (xs : List V) (ps : List Rat), vs = [.ref u, .ref ap] ∧ j8 H u ∧ LsX u H ap xs ps ∧ v3 ps ps.length ∧ ps ≠ [] ∧ ps.length ≤ 15 ∧ al4 ps ∧ ∀ H', o0 u H H' → j8 H' u → Q (.bl true) H'
abbrev C5 : Stmt := top 69
theorem F4 : i5 ["_law_urn_here", "_law_p", "_law_handed", "_law_told", "_law_kept", "_law_lists", "_law_spoilt"] ["_law_urn_here", "_law_p"] (d3 C5) := by clean_wf
set_option maxHeartbeats 0 in
theorem at2 {f f1 f2 f3 f4 : Addr} (d : Df K mg "_law_right" C5 ["_law_urn_here", "_law_p"] f) (G__law_draw : Def P w K mg base CX0 1 "_law_draw" f1 ["_law_urn_here", "_law_many"] D7) (G__law_said : Def P w K mg base CX0 7 "_law_said" f2 ["_law_p"] (ay4 K)) (G__law_is_row : Def P w K mg base CX0 4 "_law_is_row" f3 ["_law_told"] (aC7 K)) (G__law_folded : Def P w K mg base CX0 4 "_law_folded" f4 ["_law_quotients", "_law_last"] (ai4 K)) (n_list : mg "list" = none) (n_len : mg "len" = none) : Def P w K mg base CX0 8 "_law_right" f ["_law_urn_here", "_law_p"] (au4 K) := by
  refine d.ok (N := ["_law_urn_here", "_law_p", "_law_handed", "_law_told", "_law_kept", "_law_lists", "_law_spoilt"]) F4 (by rintro vs H Q E ⟨_, _, _, _, h, _⟩; rw [h]; rfl) (fun cdv A outer s H vs Q E hr h => ?_)
  obtain ⟨u, ap, xs, ps, rfl, hu0, Lp, tp, pn, lp15, dk, k⟩ := h
  have hu := hr.units
  refine ⟨_, (b8 (g7 (i := 2) F4.nd rfl (Or.inl rfl) (N2 K0 rfl n_list (by decide +kernel) (b0 (pv 1) b6)))
      (b8 (g7 (i := 3) F4.nd rfl (Or.inl rfl) (d7 G__law_said hr (b0 (pv 2) b6) g8))
      (b8 (C2 (PW.pt (W9 (j5 (ai9 hu) (pv 2) (pv 1) (j7 _)) (W9 (N0 (T8 (d7 G__law_is_row hr (b0 (pv 3) b6) g8))) (ad5 (j5 (ai9 hu) (d7 G__law_folded hr (b0 (j6 p9 (pv 3) b9 (fun _ _ => rfl)) (b0 (j6 p9 (pv 3) b9 (fun _ _ => rfl)) b6)) g8) (pv 1) (j7 _)))))) (d6 (i3 ac5)) t3)
      (b8 (g7 (i := 4) F4.nd rfl (Or.inl rfl) (e8 W3 (P7 (Nc := ["_law_one"]) (caps := [none]) rfl (W8.of (osc := d3 C5) (N := ["_law_urn_here", "_law_p", "_law_handed", "_law_told", "_law_kept", "_law_lists", "_law_spoilt"]) (ks := []) rfl rfl rfl rfl F8 (by decide +kernel)) (E8 (j6 p9 (pv 3) b9 (fun _ _ => rfl))) (fun C s₂ H₂ fp pins => (g6 (i := 0) (show List.Nodup (["_law_one"] : List Str) by decide +kernel) rfl (Or.inl rfl) (Or.inr rfl))) (fun C s₂ H₂ fp pins => (N2 (by exact K0 : aa5 _ (.type "list") (aN6 K)) rfl n_list (by decide +kernel) (b0 (pv 0) b6)))) (u0 (b0 (N2 K0 rfl n_list (by decide +kernel) (b0 (j6 p9 (pv 3) b9 (fun _ _ => rfl)) b6)) b6))))
      (b8 (P4 (ad8 PySem.F.plainAttrs_list PySem.F.slot_list_clear PySem.F.type_list_clear aW2 (pv 2)))
      (b8 (g7 (i := 5) F4.nd rfl (Or.inl rfl) (e8 W3 (j6 p9 (pv 3) b9 (fun _ _ => rfl)) (u0 (b0 (j6 p9 (pv 3) b9 (fun _ _ => rfl)) b6))))
      (b8 (g7 (i := 6) F4.nd rfl (Or.inl rfl) (d7 G__law_draw hr (b0 (pv 0) (b0 (d9 j2 rfl n_len (by decide +kernel) (b0 (pv 5) b6)) b6)) g8))
      (b8 (P4 (ac4 PySem.F.plainAttrs_list PySem.F.slot_list_append PySem.F.type_list_append F5 (j6 w5 (pv 5) (pv 6) (fun _ _ => rfl)) (b0 (v7 (b0 b9 (b0 b9 b6))) b6)))
      (b8 (P4 (ac4 PySem.F.plainAttrs_list PySem.F.slot_list_append PySem.F.type_list_append F5 (j6 p9 (pv 3) b9 (fun _ _ => rfl)) (b0 (u0 b6) b6)))
      (b8 (C2 (j5 (ai9 hu) (e8 W3 (M5 P2 (pv 5) P6 (P5 (pv 6))) (M5 P2 (pv 5) (P5 (e8 C3 (pv 6) b9)) P6)) (e8 W3 (M5 P2 (pv 4) P6 (P5 (pv 6))) (M5 P2 (pv 4) (P5 (e8 C3 (pv 6) b9)) P6)) (j7 _)) (d6 (i3 ac5)) t3)
      (d6 (i3 (V9 (ad9 hu) (d7 G__law_said hr (b0 (N2 K0 rfl n_list (by decide +kernel) (b0 (pv 1) b6)) b6) g8) (v7 (b0 (M5 P2 (pv 4) P6 (P5 (X9 P9 b9))) (b0 (j6 w5 (pv 4) (X9 P9 b9) (fun _ _ => rfl)) b6))) (j7 _)))))))))))))), ?_⟩
  rw [show start ["_law_urn_here", "_law_p", "_law_handed", "_law_told", "_law_kept", "_law_lists", "_law_spoilt"] [.ref u, .ref ap] = [some (.ref u), some (.ref ap), none, none, none, none, none] from rfl]
  have lxs := Lp.nums.length
  refine j0 (fun σ H1 => ∃ ha, σ = [some (.ref u), some (.ref ap), some (.ref ha), none, none, none, none] ∧ d5 H H1 ∧ H ha = none ∧ LsX u H1 ha xs ps) (fun N hN => ?_) ?_
  · subst_eqs
    refine ⟨xs, .inl (SqL.of Lp.at'), fun l hl => ?_⟩
    have X := d5.new hl (.lst xs)
    exact hN _ _ ⟨l, rfl, X, hl, A6 hu0 hl, b7, Lp.nums.mono X.tups⟩
  rintro σ H1 ⟨ha, rfl, S1, fh, Lh⟩
  have u1 := d5.urn S1 hu0
  refine j0 (fun σ H2 => ∃ r qa la ts ys M last, σ = [some (.ref u), some (.ref ap), some (.ref ha), some (.ref r), none, none, none] ∧ d5 H1 H2 ∧ H2 r = some (.tup [.ref qa, .ref la]) ∧ H2 qa = some (.lst (ts.map V.ref)) ∧ Rws H2 ts M ∧ H2 la = some (.lst ys) ∧ m6 H2 ys last ∧ (∀ t ∈ ts, H1 t = none ∧ t ≠ qa) ∧ ts.Nodup ∧ la ∉ ts ∧ H1 qa = none ∧ H1 la = none ∧ qa ≠ la ∧ X4 M last ∧ qp ps = (fld M last M.length).1 + (fld M last M.length).2) (fun N hN => ?_) ?_
  · subst_eqs
    exact ⟨ha, xs, ps, rfl, SqL.of Lh.at', Lh.nums, tp, fun z => absurd z pn, fun _ => ⟨dk, fun r qa la ts ys M last H2 a1 a2 a3 a4 a5 a6 a7 a8 a9 a10 a11 a12 a13 a14 => hN _ _ ⟨r, qa, la, ts, ys, M, last, rfl, a1, a2, a3, a4, a5, a6, a7, a8, a9, a10, a11, a12, a13, a14⟩⟩⟩
  rintro σ H2 ⟨r, qa, la, ts, ys, M, last, rfl, S2, er, eq, hR, el, nl, ft, nd, lt, fq, fl, ql, T, ep⟩
  have u2 := d5.urn S2 u1
  have lM := T.lM
  have lts := hR.length
  refine j0 (fun σ H3 => σ = [some (.ref u), some (.ref ap), some (.ref ha), some (.ref r), none, none, none] ∧ d5 H2 H3) (fun N hN => ?_) ?_
  · subst_eqs
    have Lh2 := Lh.same S2
    have Lp2 := Lp.same (S1.trans S2)
    refine ⟨A5 ps, A5 ps, rfl, Lh2.isD, Lp2.isD, K2 _ _, by have := N6 ps; omega, ?_⟩
    rw [G9]
    simp only [decide_true, Bool.not_true]
    refine ⟨false, rfl, z8 (fun z => absurd z (by decide)) (fun _ => ?_)⟩
    refine ⟨r, qa, la, ts, ys, M, last, rfl, er, eq, hR, el, nl, T, fun H3 S3 => ⟨true, rfl, z8 (fun z => absurd z (by decide)) (fun _ => ?_)⟩⟩
    refine ⟨_, SqT.of (S3 _ _ er), _, rfl, _, SqT.of (S3 _ _ er), _, rfl, qa, la, ts, ys, M, last, rfl, SqL.of (S3 _ _ eq), hR.same S3, SqL.of (S3 _ _ el), nl.mono S3.tups, T, fun r' zs ps' H4 S4 fr er' nr tp' ep' => ?_⟩
    have := aG8 tp' tp (by rw [ep', ep])
    subst this
    refine ⟨A5 ps', A5 ps', rfl, A8 (SqL.of er') nr, (Lp2.same (S3.trans S4)).isD, K2 _ _, by have := N6 ps'; omega, ?_⟩
    rw [G9]
    simp only [decide_true, Bool.not_true]
    exact ⟨false, rfl, z8 (fun z => absurd z (by decide)) (fun _ => hN _ _ ⟨rfl, S3.trans S4⟩)⟩
  rintro σ H3 ⟨rfl, S3⟩
  have u3 := d5.urn S3 u2
  have eq3 := S3 _ _ eq
  have el3 := S3 _ _ el
  have er3 := S3 _ _ er
  have hR3 := hR.same S3
  have nl3 := nl.mono S3.tups
  have qu : qa ≠ u := A6 u1 fq
  have lu : la ≠ u := A6 u1 fl
  have tu : ∀ t ∈ ts, t ≠ u := fun t ht => A6 u1 (ft t ht).1
  have T3 : TbX u H3 qa ts M := ⟨qu, tu, eq3, hR3⟩
  have ll := T.ll
  have lys := nl.length
  refine j0 (fun σ H4 => ∃ ka kts, σ = [some (.ref u), some (.ref ap), some (.ref ha), some (.ref r), some (.ref ka), none, none] ∧ d5 H3 H4 ∧ TbX u H4 ka kts (M ++ [last]) ∧ H3 ka = none ∧ ∀ t ∈ kts, H3 t = none) (fun N hN => ?_) ?_
  · subst_eqs
    refine ⟨_, SqT.of er3, _, rfl, qa, rfl, ⟨_, SqL.of eq3⟩, fun D hD => bm9 u3 T3 hD (by omega) fun kt H4 S4 T4 f4 => ?_⟩
    have u4 := d5.urn S4 u3
    refine ⟨_, SqT.of (S4 _ _ er3), _, rfl, la, rfl, ys, .inl (SqL.of (S4 _ _ el3)), fun l hl => ⟨by decide, fun p hp => ⟨D, rfl, ?_⟩⟩⟩
    have X1 := d5.new hl (.lst ys)
    have X2 := d5.new hp (.lst [.ref l])
    have X := X1.trans X2
    have lkt := T4.rws.length
    refine ⟨_, X _ _ T4.at', _, b7, Nat.le_trans (show _ ≤ 100 by rw [List.length_map]; simp; omega) (by decide), fun p2 hp2 => ?_⟩
    have X3 := d5.new hp2 (.lst (kt.map V.ref ++ [.ref l]))
    have XX := X.trans X3
    refine hN _ _ ⟨p2, kt ++ [l], rfl, S4.trans XX, ⟨A6 (d5.urn X u4) hp2, fun t ht => ?_, by rw [b7, List.map_append]; rfl, (T4.rws.same XX).append (.cons ((X2.trans X3) _ _ b7) ((nl3.mono S4.tups).mono XX.tups) .nil)⟩, (S4.trans X).free hp2, fun t ht => ?_⟩
    · rcases List.mem_append.mp ht with z | z
      · exact T4.tu t z
      · rw [List.mem_singleton.mp z]; exact A6 u4 hl
    · rcases List.mem_append.mp ht with z | z
      · exact f4 t z
      · rw [List.mem_singleton.mp z]; exact S4.free hl
  rintro σ H4 ⟨ka, kts, rfl, S4, Tk, fk, fkt⟩
  have lk := Tk.rws.length
  rw [List.length_append, List.length_singleton] at lk
  have Lh4 := Lh.same (S2.trans (S3.trans S4))
  refine j0 (fun σ H5 => σ = [some (.ref u), some (.ref ap), some (.ref ha), some (.ref r), some (.ref ka), none, none] ∧ H5 = upd H4 ha (.lst [])) (fun N hN => ?_) ?_
  · simp! [aT8]
    exact ⟨.inl ⟨_, SqL.of Lh4.at'⟩, _, Lh4.at', hN _ _ ⟨rfl, rfl⟩⟩
  rintro σ H5 ⟨rfl, e5⟩
  -- what lies beside the list that was handed in
  have hne : ∀ {a : Addr} {o : HO}, H3 a = none ∨ (H1 a = none) ∨ a = ap ∨ a = u → a ≠ ha := fun {a o} h z => by
    rw [z] at h
    rcases h with h | h | h | h
    · rw [(S2.trans S3) _ _ Lh.at'] at h; cases h
    · rw [Lh.at'] at h; cases h
    · rw [h, Lp.at'] at fh; cases fh
    · exact Lh.au h
  have S15 : ∀ b o, H1 b = some o → b ≠ ha → H5 b = some o := fun b o h n => by rw [e5, e9 n]; exact S4 _ _ (S3 _ _ (S2 _ _ h))
  have tup5 : K9 H4 H5 := by rw [e5]; exact K9.lst Lh4.at'
  have at5 : ∀ {a : Addr} {o : HO}, a ≠ ha → H4 a = some o → H5 a = some o := fun {a o} n h => by rw [e5, e9 n]; exact h
  have eq5 : H5 qa = some (.lst (ts.map V.ref)) := at5 (hne (o := .lst []) (.inr (.inl fq))) (S4 _ _ eq3)
  have el5 : H5 la = some (.lst ys) := at5 (hne (o := .lst []) (.inr (.inl fl))) (S4 _ _ el3)
  have er5 : H5 r = some (.tup [.ref qa, .ref la]) := tup5 _ _ (S4 _ _ er3)
  have R5 : Rws H5 ts M := by rw [e5]; exact (hR3.same S4).over Lh4.at' fun z => hne (o := .lst []) (.inr (.inl (ft ha z).1)) rfl
  have nl5 : m6 H5 ys last := (nl3.mono S4.tups).mono tup5
  have u5 : j8 H5 u := by rw [e5]; exact (d5.urn S4 u3).other Lh.au
  have ek5 : H5 ka = some (.lst (kts.map V.ref)) := at5 (hne (o := .lst []) (.inl fk)) Tk.at'
  have Rk5 : Rws H5 kts (M ++ [last]) := by rw [e5]; exact Tk.rws.over Lh4.at' fun z => hne (o := .lst []) (.inl (fkt ha z)) rfl
  have Lp5 : LsX u H5 ap xs ps := ⟨Lp.au, S15 _ _ (S1 _ _ Lp.at') (hne (o := .lst []) (.inr (.inr (.inl rfl)))), Lp.nums.mono (S1.tups.trans ((S2.trans (S3.trans S4)).tups.trans tup5))⟩
  have sH5 : o0 u H H5 := fun b o h n => S15 b o (S1 _ _ h) fun z => by rw [z, fh] at h; cases h
  refine j0 (fun σ H6 => ∃ li, σ = [some (.ref u), some (.ref ap), some (.ref ha), some (.ref r), some (.ref ka), some (.ref li), none] ∧ d5 H5 H6 ∧ H5 li = none ∧ H6 li = some (.lst ((ts ++ [la]).map V.ref))) (fun N hN => ?_) ?_
  · subst_eqs
    refine ⟨_, SqT.of er5, _, rfl, _, SqT.of er5, _, rfl, by decide, fun p hp => ⟨qa, rfl, ?_⟩⟩
    have X := d5.new hp (.lst [.ref la])
    refine ⟨_, X _ _ eq5, _, b7, Nat.le_trans (show _ ≤ 100 by rw [List.length_map]; simp; omega) (by decide), fun p2 hp2 => ?_⟩
    exact hN _ _ ⟨p2, rfl, X.trans (d5.new hp2 _), X.free hp2, by rw [b7, List.map_append]; rfl⟩
  rintro σ H6 ⟨li, rfl, S6, fli, eli⟩
  have u6 := d5.urn S6 u5
  have Rt6 : Rws H6 (ts ++ [la]) (M ++ [last]) := (R5.append (.cons el5 nl5 .nil)).same S6
  have ndl : (ts ++ [la]).Nodup := List.nodup_append.mpr ⟨nd, by simp, fun a ha' b hb z => by
    rw [List.mem_singleton.mp hb] at z
    exact lt (by rw [← z]; exact ha')⟩
  have ltl : (ts ++ [la]).length = M.length + 1 := by rw [List.length_append, List.length_singleton, lts]
  refine j0 (fun σ H7 => ∃ j : Nat, σ = [some (.ref u), some (.ref ap), some (.ref ha), some (.ref r), some (.ref ka), some (.ref li), some (.int (j : Int))] ∧ o0 u H6 H7 ∧ j8 H7 u ∧ j < M.length + 1) (fun N hN => ?_) ?_
  · simp! [D7]
    refine ⟨_, .inl (SqL.of eli), u6, by rw [List.length_map]; omega, by rw [List.length_map]; exact Int.lt_of_le_of_lt (show _ ≤ (100 : Int) by omega) (by decide), fun r' H7 a0 a1 s7 u7 => ?_⟩
    rw [List.length_map] at a1
    obtain ⟨j, rfl⟩ : ∃ j : Nat, r' = (j : Int) := ⟨r'.toNat, by omega⟩
    exact hN _ _ ⟨j, rfl, s7, u7, by omega⟩
  rintro σ H7 ⟨j, rfl, s7, u7, hj⟩
  have hg : (ts ++ [la])[j]? = some ((ts ++ [la])[j]'(by omega)) := List.getElem?_eq_getElem (by omega)
  generalize (ts ++ [la])[j]'(by omega) = row at hg
  have rowm := List.mem_of_getElem? hg
  have told1 : ∀ t ∈ ts ++ [la], t ≠ u ∧ t ≠ qa ∧ H1 t = none := fun t ht => by
    rcases List.mem_append.mp ht with z | z
    · exact ⟨tu t z, (ft t z).2, (ft t z).1⟩
    · rw [List.mem_singleton.mp z]; exact ⟨lu, ql.symm, fl⟩
  obtain ⟨rz, rL, hrL, erow, nrow⟩ := Rt6.get hg
  have q6 := S6 _ _ eq5
  have lX : ∀ x ∈ [u, qa, row], ∃ ys, H6 x = some (.lst ys) := fun x hx => by
    simp only [List.mem_cons, List.not_mem_nil, or_false] at hx
    rcases hx with z | z | z
    · obtain ⟨g, m, p, e, _⟩ := u6
      exact ⟨_, by rw [z]; exact e⟩
    · exact ⟨_, by rw [z]; exact q6⟩
    · exact ⟨_, by rw [z]; exact erow⟩
  have SX7 : SX [u, qa, row] H6 H7 := (SX.start lX).samex s7 (by simp) u7
  have rowX : ∀ t ∈ ts ++ [la], t ≠ row → t ∉ [u, qa, row] := fun t ht hn z => by
    simp only [List.mem_cons, List.not_mem_nil, or_false] at z
    obtain ⟨a1, a2, _⟩ := told1 t ht
    rcases z with z | z | z
    · exact a1 z
    · exact a2 z
    · exact hn z
  have newX : ∀ {t : Addr}, H3 t = none ∨ H5 t = none → t ≠ u → t ∉ [u, qa, row] := fun {t} h n z => by
    simp only [List.mem_cons, List.not_mem_nil, or_false] at z
    have h3 : H3 qa = none ∨ H5 qa = none → False := fun h => by
      rcases h with h | h
      · rw [eq3] at h; cases h
      · rw [eq5] at h; cases h
    have h4 : H3 row = none ∨ H5 row = none → False := fun h => by
      obtain ⟨zz, _, _, e3', _⟩ := (hR3.append (.cons el3 nl3 .nil)).get hg
      obtain ⟨zz', _, _, e5', _⟩ := (R5.append (.cons el5 nl5 .nil)).get hg
      rcases h with h | h
      · rw [e3'] at h; cases h
      · rw [e5'] at h; cases h
    rcases z with z | z | z
    · exact n z
    · rw [z] at h; exact h3 h
    · rw [z] at h; exact h4 h
  have liu : li ≠ u := A6 u5 fli
  obtain ⟨σ0, hσ⟩ : ∃ σ0 : L2.St, σ0 = [some (.ref u), some (.ref ap), some (.ref ha), some (.ref r), some (.ref ka), some (.ref li), some (.int (j : Int))] := ⟨_, rfl⟩
  have el7 := SX7.s _ _ eli (newX (.inr fli) liu)
  refine j0 (fun σ H8 => σ = σ0 ∧ SX [u, qa, row] H6 H8 ∧ j8 H8 u ∧ H8 qa = some (.lst (ts.map V.ref))) (fun N hN => ?_) ?_
  · subst_eqs
    have rowu := (told1 row rowm).1
    have erow7 := s7 _ _ erow rowu
    have lr : rL.length ≤ 15 := by
      rcases List.mem_append.mp (List.mem_of_getElem? hrL) with z | z
      · exact (T.m rL z).2.2.2
      · rw [List.mem_singleton.mp z]; exact ll
    have lrz := nrow.length
    refine ⟨_, SqL.of el7, .ref row, S9 (by rw [List.getElem?_map, hg]; rfl), .inl ⟨_, SqL.of erow7⟩, v8, fun p hp => ?_⟩
    have X := d5.new hp (.tup [.int 1, .int 1])
    exact ⟨row, rfl, rz, X _ _ erow7, Nat.lt_of_le_of_lt (show _ ≤ 100 by omega) (by decide), hN _ _ ⟨hσ.symm, (SX7.same X).upd (by simp) _, (A9 u7 hp).other rowu, by rw [e9 (told1 row rowm).2.1.symm]; exact X _ _ (s7 _ _ q6 qu)⟩⟩
  rintro σ H8 ⟨eσ, SX8, u8, eq8⟩
  rw [eσ, hσ]
  clear eσ σ
  refine j0 (fun σ H9 => σ = σ0 ∧ SX [u, qa, row] H6 H9 ∧ j8 H9 u) (fun N hN => ?_) ?_
  · subst_eqs
    refine ⟨_, SqT.of (SX8.tups _ _ (S6 _ _ er5)), _, rfl, .inl ⟨_, SqL.of eq8⟩, by decide, fun p hp => ?_⟩
    have X := d5.new hp (.lst [])
    exact ⟨qa, rfl, _, X _ _ eq8, Nat.lt_of_le_of_lt (show _ ≤ 100 by rw [List.length_map]; omega) (by decide), hN _ _ ⟨hσ.symm, (SX8.same X).upd (by simp) _, (A9 u8 hp).other qu⟩⟩
  rintro σ H9 ⟨eσ, SX9, u9⟩
  rw [eσ, hσ]
  clear eσ σ
  refine j0 (fun σ H10 => σ = σ0 ∧ d5 H9 H10) (fun N hN => ?_) ?_
  · subst_eqs
    have el9 := SX9.s _ _ eli (newX (.inr fli) liu)
    have ek9 := SX9.s _ _ (S6 _ _ ek5) (newX (.inl fk) Tk.au)
    have Rk9 : Rws H9 kts (M ++ [last]) := (Rk5.same S6).sx SX9 fun t ht => newX (.inl (fkt t ht)) (Tk.tu t ht)
    have Rt9 : Rws H9 ((ts ++ [la]).eraseIdx j) ((M ++ [last]).eraseIdx j) := (Rt6.eraseIdx j).sx SX9 fun t ht => rowX t (List.mem_of_mem_eraseIdx ht) (aE3 ndl hg t ht)
    have Rk9' := Rk9.eraseIdx j
    rw [show ((j : Int) + 1) = ((j + 1 : Nat) : Int) from rfl]
    simp only [bo8, bo7]
    refine ⟨_, SqL.of el9, fun p hp => ?_⟩
    have Y1 := d5.new hp (.lst (((ts ++ [la]).map V.ref).take j))
    refine ⟨_, SqL.of (Y1 _ _ el9), fun p1 hp1 => ?_⟩
    have Y2 := d5.new hp1 (.lst (((ts ++ [la]).map V.ref).drop (j + 1)))
    refine ⟨_, Y2 _ _ b7, _, b7, Nat.le_trans (show _ ≤ 100 by rw [List.length_take, List.length_drop, List.length_map]; omega) (by decide), fun p2 hp2 => ?_⟩
    rw [ers]
    have Y3 := d5.new hp2 (.lst (((ts ++ [la]).eraseIdx j).map V.ref))
    have Y13 := Y1.trans (Y2.trans Y3)
    refine ⟨_, SqL.of (Y13 _ _ ek9), fun p3 hp3 => ?_⟩
    have Y4 := d5.new hp3 (.lst ((kts.map V.ref).take j))
    refine ⟨_, SqL.of (Y4 _ _ (Y13 _ _ ek9)), fun p4 hp4 => ?_⟩
    have Y5 := d5.new hp4 (.lst ((kts.map V.ref).drop (j + 1)))
    refine ⟨_, Y5 _ _ b7, _, b7, Nat.le_trans (show _ ≤ 100 by rw [List.length_take, List.length_drop, List.length_map]; omega) (by decide), fun p5 hp5 => ?_⟩
    rw [ers]
    have Y6 := d5.new hp5 (.lst ((kts.eraseIdx j).map V.ref))
    have Y46 := Y4.trans (Y5.trans Y6)
    have Y := Y13.trans Y46
    refine ⟨O9 ((M ++ [last]).eraseIdx j), O9 ((M ++ [last]).eraseIdx j), rfl, .lst (SqL.of (Y46 _ _ b7)) (Rt9.same Y).isDs, .lst (SqL.of b7) (Rk9'.same Y).isDs, av9 _ _, aY0 _, ?_⟩
    rw [aw7]
    simp only [decide_true, Bool.not_true]
    exact ⟨false, rfl, z8 (fun z => absurd z (by decide)) (fun _ => hN _ _ ⟨hσ.symm, Y⟩)⟩
  rintro σ H10 ⟨eσ, S10⟩
  rw [eσ, hσ]
  clear eσ σ
  subst_eqs
  have apX : ap ∉ [u, qa, row] := fun z => by
    simp only [List.mem_cons, List.not_mem_nil, or_false] at z
    have h1 := S1 _ _ Lp.at'
    rcases z with z | z | z
    · exact Lp.au z
    · rw [z, fq] at h1; cases h1
    · rw [z, (told1 row rowm).2.2] at h1; cases h1
  have ek9 := SX9.s _ _ (S6 _ _ ek5) (newX (.inl fk) Tk.au)
  have Rk9 : Rws H9 kts (M ++ [last]) := (Rk5.same S6).sx SX9 fun t ht => newX (.inl (fkt t ht)) (Tk.tu t ht)
  have ep10 : H10 ap = some (.lst xs) := S10 _ _ (SX9.s _ _ (S6 _ _ Lp5.at') apX)
  have np10 : m6 H10 xs ps := (((Lp5.nums.mono S6.tups).mono SX9.tups)).mono S10.tups
  refine ⟨xs, .inl (SqL.of ep10), fun l hl => ?_⟩
  have X := d5.new hl (.lst xs)
  refine ⟨l, xs, ps, rfl, SqL.of b7, np10.mono X.tups, tp, fun z => absurd z pn, fun _ => ⟨dk, fun r' qa' la' ts' ys' M' last' H11 S11 er' eq' R' el' nl' _ _ _ _ _ _ T' ep' => ?_⟩⟩
  obtain ⟨rfl, rfl⟩ := aM4 T' T (by rw [← ep', ep])
  have ss := S10.trans (X.trans S11)
  obtain ⟨k0, kl, ks, rfl, Rk0, ekl, nkl⟩ := (Rk9.same ss).inv
  have ek11 := ss _ _ ek9
  refine ⟨_, SqL.of ek11, fun p hp => ?_⟩
  rw [aL8, List.map_append, List.length_append, List.map_cons, List.map_nil, List.length_singleton, Nat.add_sub_cancel, List.take_left' rfl]
  have Z1 := d5.new hp (.lst (k0.map V.ref))
  refine ⟨_, SqL.of (Z1 _ _ ek11), .ref kl, aI1 (by rw [List.map_append, List.length_append, List.map_cons, List.map_nil, List.length_singleton, Nat.add_sub_cancel, List.getElem?_append_right (Nat.le_refl _), Nat.sub_self]; rfl), v8, fun p1 hp1 => ?_⟩
  have Z2 := d5.new hp1 (.tup [.ref p, .ref kl])
  have Z := Z1.trans Z2
  refine ⟨ac8 M' last', ac8 M' last', rfl, .tup (SqT.of (Z _ _ er')) (.cons (.lst (SqL.of (Z _ _ eq')) (R'.same Z).isDs) (.cons (A8 (SqL.of (Z _ _ el')) (nl'.mono Z.tups)) .nil)), .tup (SqT.of b7) (.cons (.lst (SqL.of (Z2 _ _ b7)) (Rk0.same Z).isDs) (.cons (A8 (SqL.of (Z _ _ ekl)) (nkl.mono Z.tups)) .nil)), aV5 _ _ _ _, bc8 _ _, ?_⟩
  rw [aX7]
  refine k _ (fun b o h n => (ss.trans Z) _ _ (SX9.s _ _ (S6 _ _ (sH5 b o h n)) fun z => ?_)) (d5.urn (ss.trans Z) u9)
  simp only [List.mem_cons, List.not_mem_nil, or_false] at z
  have h1 := S1 _ _ h
  rcases z with z | z | z
  · exact n z
  · rw [z, fq] at h1; cases h1
  · rw [z, (told1 row rowm).2.2] at h1; cases h1
end
section
variable {P : Program} {w : World} {K : PySem.W.Frag} {mg : Str → Option Value} {base : Heap}
abbrev ac2 : Stmt := top 70
theorem aG7 : i5 ["_law_script", "_law_at", "_law_urn_here"] ["_law_script"] (d3 ac2) := by clean_wf
set_option maxHeartbeats 0 in
theorem bi1 {f g1 g2 g3 g4 : Addr} {fd : FuncData} (F : Fun K "law" "law" ac2 f fd) (G__law_urn : Def P w K mg base CX0 1 "_law_urn" g1 ["_law_script", "_law_at"] (bf1 K)) (G__law_right : Def P w K mg base CX0 8 "_law_right" g2 ["_law_urn_here", "_law_p"] (au4 K)) (G__law_drawn : Def P w K mg base CX0 6 "_law_drawn" g3 ["_law_urn_here"] au8) (G__law_said : Def P w K mg base CX0 7 "_law_said" g4 ["_law_p"] (ay4 K))
    (n_range : mg "range" = none) (n_max : mg "max" = none) (n_min : mg "min" = none) (n_len : mg "len" = none) : aa4 P w K mg base CX0 (8 + 1) f fd ["_law_script"] (aJ9 K) := by
  refine F.ok (N := ["_law_script", "_law_at", "_law_urn_here"]) aG7 (fun vs H Q E ⟨x, y, h, _⟩ => by rw [h]; rfl) (fun cdv A outer s H vs Q E hr h => ?_)
  obtain ⟨as, ns, rfl, hS, h63, k⟩ := h
  have hu := hr.units
  refine ⟨_, (b8 (C2 (j5 (ai9 hu) (d7 G__law_said hr (b0 (u0 b6) b6) g8) (v7 (b0 ad7 (b0 ad7 b6))) (j7 _)) (d6 (i3 ac5)) t3)
      (b8 (N1 PassesOwn.never rfl (ab2 rfl n_range (b0 (d9 (aj5 rfl) rfl n_max (by decide +kernel) (b0 b9 (b0 (d9 (aP9 rfl) rfl n_min (by decide +kernel) (b0 b9 (b0 (d9 j2 rfl n_len (by decide +kernel) (b0 (pv 0) b6)) b6))) b6))) b6)) (g6 (i := 1) aG7.nd rfl (Or.inl rfl)) (b8 (g7 (i := 2) aG7.nd rfl (Or.inl rfl) (d7 G__law_urn hr (b0 (pv 0) (b0 (pv 1) b6)) g8))
      (d6 (C2 (N0 (T8 (d7 G__law_right hr (b0 (pv 2) (b0 (d7 G__law_drawn hr (b0 (pv 2) b6) g8) b6)) g8))) (d6 (i3 ac5)) t3))))
      (d6 (i3 ac5)))), ?_⟩
  rw [show start ["_law_script", "_law_at", "_law_urn_here"] [.ref as] = [some (.ref as), none, none] from rfl]
  have hlen : (((ns.map V.int).length : Nat) : Int) = (ns.length : Int) := by rw [List.length_map]
  refine j0 (fun σ H1 => σ = [some (.ref as), none, none] ∧ d5 H H1) (fun N hN => ?_) ?_
  · subst_eqs
    refine ⟨by decide, fun p hp => ?_⟩
    have X := d5.new hp (.lst [])
    refine ⟨p, [], [], rfl, SqL.of b7, .nil, aR5, fun _ t H1 s1 et => ⟨v8, fun p2 hp2 => ?_⟩, fun z => absurd rfl z⟩
    have Y := d5.new hp2 (.tup [.str "refused", .str "polynomial"])
    refine ⟨Z7 "refused" "polynomial", Z7 "refused" "polynomial", rfl, aE9 (SqT.of (Y _ _ et)), aE9 (SqT.of b7), aV4 _ _ _ _, bc7 _ _, ?_⟩
    rw [aX6]
    exact ⟨false, rfl, z8 (fun z => absurd z (by decide)) (fun _ => hN _ _ ⟨rfl, X.trans (s1.trans Y)⟩)⟩
  rintro σ H1 ⟨rfl, s1⟩
  have hS1 := s1.seq hS
  refine ⟨_, rfl, as, _, rfl, .inl hS1, 3, _, rfl, 1, _, rfl, _, rfl, ?_, ?_, aj3 (fun i σ H1 => ∃ o1 o2 : Option V, σ = [some (.ref as), o1, o2] ∧ SqL K H1 as (ns.map V.int)) ⟨_, _, rfl, hS1⟩ ?_ ?_⟩
  · rw [hlen]; split <;> split <;> omega
  · rw [hlen]; split <;> split <;> omega
  · rintro i σ H1 hi ⟨o1, o2, rfl, hS1⟩
    rw [hlen] at hi
    have hi4 : i < 4 := by
      revert hi
      split <;> split <;> omega
    subst_eqs
    refine ⟨as, ns, _, rfl, hS1, by omega, by omega, fun u H2 s2 hu0 hu2 => ?_⟩
    refine ⟨u, rfl, hu2, fun r xs ps H3 s3 hu3 L3 tp pn l15 dk => ?_⟩
    refine ⟨u, r, xs, ps, rfl, hu3, L3, tp, pn, l15, dk, fun H4 s4 hu4 => ?_⟩
    exact ⟨true, rfl, z8 (fun h => absurd h (by decide)) (fun _ => ((d5.x s2 u).trans (s3.trans s4)).seq hu0 hS1)⟩
  · rintro σ H1 ⟨o1, o2, rfl, hS1⟩
    exact k H1
end
end R
set_option maxRecDepth 100000
def PySem.W.Fast.tw5455565691789291596 : Unit := ()
def PySem.W.Fast.tw10042670281001982329 : Unit := ()
def PySem.W.Fast.tw8711857268670905455 : Unit := ()
def PySem.W.Fast.tw17610170616507478252 : Unit := ()
def PySem.W.Fast.tw9693955364213487132 : Unit := ()
def PySem.W.Fast.tw8035281190214669876 : Unit := ()
def PySem.W.Fast.tw2355756889506206670 : Unit := ()
def PySem.W.Fast.tw12438589572229543078 : Unit := ()
def PySem.W.Fast.tw8451002974628259565 : Unit := ()
def PySem.W.Fast.tw15077005487826789452 : Unit := ()
def PySem.W.Fast.tw11748896344894204129 : Unit := ()
def PySem.W.Fast.tw5314824625793653399 : Unit := ()
def PySem.W.Fast.tw13699652999091651820 : Unit := ()
def PySem.W.Fast.tw3880508571857916654 : Unit := ()
def PySem.W.Fast.tw14379592917463211403 : Unit := ()
def PySem.W.Fast.tw11017195027482721883 : Unit := ()
def PySem.W.Fast.tw12946486671533692521 : Unit := ()
def PySem.W.Fast.tw12123305406836669047 : Unit := ()
def PySem.W.Fast.tw8195164192536870995 : Unit := ()
def PySem.W.Fast.tw15429725856177288971 : Unit := ()
def PySem.W.Fast.tw5826904173604107140 : Unit := ()
def PySem.W.Fast.tw4781265106862481794 : Unit := ()
def PySem.W.Fast.tw10009374058720198691 : Unit := ()
def PySem.W.Fast.tw17997274416034839814 : Unit := ()
def PySem.W.Fast.tw17937816532052626863 : Unit := ()
def PySem.W.Fast.tw11793102831565251344 : Unit := ()
def PySem.W.Fast.tw13464862770949561243 : Unit := ()
def PySem.W.Fast.tw3786243934158104415 : Unit := ()
def PySem.W.Fast.tw7878397889474862866 : Unit := ()
def PySem.W.Fast.tw8416904007031608376 : Unit := ()
def PySem.W.Fast.tw7231407676186456475 : Unit := ()
def PySem.W.Fast.tw94301771602103453 : Unit := ()
def PySem.W.Fast.tw11254911722330128993 : Unit := ()
def PySem.W.Fast.tw10224578490598040014 : Unit := ()
def PySem.W.Fast.tw13563470627405255619 : Unit := ()
def PySem.W.Fast.tw9717981915213505881 : Unit := ()
def PySem.W.Fast.tw8744617625070286583 : Unit := ()
def PySem.W.Fast.tw5943564324034232744 : Unit := ()
def PySem.W.Fast.tw13569421192748571985 : Unit := ()
def PySem.W.Fast.tw2313844244512918190 : Unit := ()
def PySem.W.Fast.tw17652271350660765459 : Unit := ()
def PySem.W.Fast.tw697312612381259805 : Unit := ()
def PySem.W.Fast.tw2733496567039787920 : Unit := ()
def PySem.W.Fast.tw9026342470342917817 : Unit := ()
def PySem.W.Fast.tw7754349539393089702 : Unit := ()
def PySem.W.Fast.tw9313569660660283435 : Unit := ()
def PySem.W.Fast.tw1592779075092177004 : Unit := ()
def PySem.W.Fast.tw558909237677729861 : Unit := ()
def PySem.W.Fast.tw10353610246419261657 : Unit := ()
def PySem.W.Fast.tw636630938904335593 : Unit := ()
def PySem.W.Fast.tw5139461112055389339 : Unit := ()
def PySem.W.Fast.tw16608140296837757988 : Unit := ()
def PySem.W.Fast.tw10646378930188330845 : Unit := ()
def PySem.W.Fast.tw10805410294974686346 : Unit := ()
def PySem.W.Fast.tw10250942042734304282 : Unit := ()
def PySem.W.Fast.tw16213494644609615681 : Unit := ()
def PySem.W.Fast.tw6405754728097968164 : Unit := ()
def PySem.W.Fast.tw9579813464882374745 : Unit := ()
def PySem.W.Fast.tw11219500381635424284 : Unit := ()
def PySem.W.Fast.tw8866595155806765785 : Unit := ()
def PySem.W.Fast.tw15489609476001732105 : Unit := ()
def PySem.W.Fast.tw16528776036926845138 : Unit := ()
def PySem.W.Fast.tw7814576305345206401 : Unit := ()
def PySem.W.Fast.tw16594576256355506276 : Unit := ()
def PySem.W.Fast.tw12788688130219925564 : Unit := ()
def PySem.W.Fast.tw1445562060924947827 : Unit := ()
def PySem.W.Fast.tw13345199294198163046 : Unit := ()
def PySem.W.Fast.tw10952033581268742672 : Unit := ()
def PySem.W.Fast.tw17980124982269658605 : Unit := ()
def PySem.W.Fast.tw4205178949466756261 : Unit := ()
def PySem.W.Fast.tw14151250009412722512 : Unit := ()
def PySem.W.Fast.tw13841240131925329985 : Unit := ()
def PySem.W.Fast.tw13695373006886642406 : Unit := ()
def PySem.W.Fast.tw9516727088779387111 : Unit := ()
def PySem.W.Fast.tw17396438933343793456 : Unit := ()
def PySem.W.Fast.tw13410384754903620148 : Unit := ()
def PySem.W.Fast.tw18116655933396531753 : Unit := ()
def PySem.W.Fast.tw5603977053219613156 : Unit := ()
def PySem.W.Fast.tw13891619621021618443 : Unit := ()
def PySem.W.Fast.tw11005628583092713658 : Unit := ()
def PySem.W.Fast.tw4580048365946122192 : Unit := ()
def PySem.W.Fast.tw6622154182265938460 : Unit := ()
def PySem.W.Fast.tw7141268274614548485 : Unit := ()
def PySem.W.Fast.tw2869452956081954926 : Unit := ()
def PySem.W.Fast.tw4613721705127004801 : Unit := ()
def PySem.W.Fast.tw17226046760467316615 : Unit := ()
def PySem.W.Fast.tw14576459073724737102 : Unit := ()
def PySem.W.Fast.tw1234061659718469291 : Unit := ()
def PySem.W.Fast.tw13438061795023818432 : Unit := ()
def PySem.W.Fast.tw3056022553064378298 : Unit := ()
def PySem.W.Fast.tw12160453110673228033 : Unit := ()
def PySem.W.Fast.tw3340096006027637555 : Unit := ()
def PySem.W.Fast.tw8754073001020670450 : Unit := ()
def PySem.W.Fast.tw180012859054004284 : Unit := ()
def PySem.W.Fast.tw16787471575421792668 : Unit := ()
def PySem.W.Fast.tw5241581997704246465 : Unit := ()
def PySem.W.Fast.tw7283193706662421830 : Unit := ()
def PySem.W.Fast.tw8720958256190448672 : Unit := ()
def PySem.W.Fast.tw3372271868504737127 : Unit := ()
def PySem.W.Fast.tw7457754034700680159 : Unit := ()
def PySem.W.Fast.tw886809339023475558 : Unit := ()
def PySem.W.Fast.tw14592009375140125749 : Unit := ()
def PySem.W.Fast.tw16570256058501938777 : Unit := ()
def PySem.W.Fast.tw14488206739314819011 : Unit := ()
def PySem.W.Fast.tw11186512112693751376 : Unit := ()
def PySem.W.Fast.tw17498084095462766092 : Unit := ()
def PySem.W.Fast.tw14215931784493822247 : Unit := ()
def PySem.W.Fast.tw15073623113955160980 : Unit := ()
def PySem.W.Fast.tw14655512156720609520 : Unit := ()
def PySem.W.Fast.tw14127097800676574186 : Unit := ()
def PySem.W.Fast.tw16740743798001929258 : Unit := ()
def PySem.W.Fast.tw11373490852395634538 : Unit := ()
def PySem.W.Fast.tw8109828864900789092 : Unit := ()
def PySem.W.Fast.tw3969540224851288216 : Unit := ()
def PySem.W.Fast.tw4714067156874173354 : Unit := ()
def PySem.W.Fast.tw14692045844985374079 : Unit := ()
def PySem.W.Fast.tw153835168873540437 : Unit := ()
def PySem.W.Fast.tw13698205803989113611 : Unit := ()
def PySem.W.Fast.tw6165808375772268651 : Unit := ()
def PySem.W.Fast.tw18417622278895806899 : Unit := ()
def PySem.W.Fast.tw10470744658147507741 : Unit := ()
def PySem.W.Fast.tw191375988567567354 : Unit := ()
def PySem.W.Fast.tw7765421856023947029 : Unit := ()
def PySem.W.Fast.tw16689460636281912902 : Unit := ()
def PySem.W.Fast.tw17159505377953114984 : Unit := ()
def PySem.W.Fast.tw6622506241060624921 : Unit := ()
def PySem.W.Fast.tw9985241562210723892 : Unit := ()
def PySem.W.Fast.tw4575678119279032889 : Unit := ()
def PySem.W.Fast.tw10587537742643992915 : Unit := ()
def PySem.W.Fast.tw8473155418681573328 : Unit := ()
def PySem.W.Fast.tw16467853966343587797 : Unit := ()
def PySem.W.Fast.tw18416952813896162998 : Unit := ()
def PySem.W.Fast.tw12130526557929547732 : Unit := ()
def PySem.W.Fast.tw18115149426714404942 : Unit := ()
def PySem.W.Fast.tw3071634743502046055 : Unit := ()
def PySem.W.Fast.tw8939691580125317679 : Unit := ()
def PySem.W.Fast.tw8003342618668575546 : Unit := ()
def PySem.W.Fast.tw11624473013570699600 : Unit := ()
def PySem.W.Fast.tw4884344494149319077 : Unit := ()
def PySem.W.Fast.tw3415254223242800737 : Unit := ()
def PySem.W.Fast.tw692827471295973068 : Unit := ()
def PySem.W.Fast.tw11210990854442889353 : Unit := ()
def PySem.W.Fast.tw16106843944148839898 : Unit := ()
def PySem.W.Fast.tw11559125730157968231 : Unit := ()
def PySem.W.Fast.tw13310251632885104210 : Unit := ()
def PySem.W.Fast.tw12194626096841740965 : Unit := ()
def PySem.W.Fast.tw6452267915498036019 : Unit := ()
def PySem.W.Fast.tw5543576177830361014 : Unit := ()
def PySem.W.Fast.tw3924945278999208390 : Unit := ()
def PySem.W.Fast.tw13647013986380079162 : Unit := ()
def PySem.W.Fast.tw15132391950738828631 : Unit := ()
def PySem.W.Fast.tw6443096601119512388 : Unit := ()
def PySem.W.Fast.tw6316261440457488924 : Unit := ()
def PySem.W.Fast.tw16266504956346454035 : Unit := ()
def PySem.W.Fast.tw12879548904186459023 : Unit := ()
def PySem.W.Fast.tw10958500342543646206 : Unit := ()
def PySem.W.Fast.tw559275067027101301 : Unit := ()
def PySem.W.Fast.tw11402054059998370398 : Unit := ()
def PySem.W.Fast.tw15865821852614366666 : Unit := ()
def PySem.W.Fast.tw1712003748557652551 : Unit := ()
def PySem.W.Fast.tw11539942960837279272 : Unit := ()
def PySem.W.Fast.tw2378966123098387478 : Unit := ()
def PySem.W.Fast.tw5272588816523339012 : Unit := ()
def PySem.W.Fast.tw11496625436191012525 : Unit := ()
def PySem.W.Fast.tw11797786577360838319 : Unit := ()
def PySem.W.Fast.tw16850854108456528867 : Unit := ()
def PySem.W.Fast.tw1355071279573882684 : Unit := ()
def PySem.W.Fast.tw78848287189245155 : Unit := ()
def PySem.W.Fast.tw11446621832193478643 : Unit := ()
def PySem.W.Fast.tw10914849925238095429 : Unit := ()
def PySem.W.Fast.tw9911680477859818953 : Unit := ()
def PySem.W.Fast.tw2004311590153798195 : Unit := ()
def PySem.W.Fast.tw2227237622935905578 : Unit := ()
def PySem.W.Fast.tw10465882259378837636 : Unit := ()
def PySem.W.Fast.tw2655151946106865051 : Unit := ()
def PySem.W.Fast.tw5100256000610037228 : Unit := ()
def PySem.W.Fast.tw7175547059644891882 : Unit := ()
def PySem.W.Fast.tw6190539602844413005 : Unit := ()
def PySem.W.Fast.tw11620929449623073037 : Unit := ()
def PySem.W.Fast.tw223962709881860574 : Unit := ()
def PySem.W.Fast.tw5138892554488796874 : Unit := ()
def PySem.W.Fast.tw18440261541896367555 : Unit := ()
def PySem.W.Fast.tw10295352180834799428 : Unit := ()
def PySem.W.Fast.tw7382735391918342619 : Unit := ()
def PySem.W.Fast.tw1568143501999582010 : Unit := ()
def PySem.W.Fast.tw4447762168810081756 : Unit := ()
def PySem.W.Fast.tw229502356267337406 : Unit := ()
def PySem.W.Fast.tw18077733053721285162 : Unit := ()
def PySem.W.Fast.tw4358023671676825356 : Unit := ()
def PySem.W.Fast.tw7526622617602392140 : Unit := ()
def PySem.W.Fast.tw1455598521838895471 : Unit := ()
def PySem.W.Fast.tw2678474994782606093 : Unit := ()
def PySem.W.Fast.tw14291345248822783296 : Unit := ()
def PySem.W.Fast.tw14390680725266351288 : Unit := ()
def PySem.W.Fast.tw16482971798588940520 : Unit := ()
def PySem.W.Fast.tw13420041357900202409 : Unit := ()
def PySem.W.Fast.tw13394320947862968488 : Unit := ()
def PySem.W.Fast.tw12465060406127878327 : Unit := ()
def PySem.W.Fast.tw10060630675023758996 : Unit := ()
def PySem.W.Fast.tw9547539127725074457 : Unit := ()
def PySem.W.Fast.tw3933893903789537626 : Unit := ()
def PySem.W.Fast.tw8515737994915699613 : Unit := ()
def PySem.W.Fast.tw10987978151784875588 : Unit := ()
def PySem.W.Fast.tw1018737152234671769 : Unit := ()
def PySem.W.Fast.tw4248522215668184394 : Unit := ()
def PySem.W.Fast.tw4531479345651983482 : Unit := ()
def PySem.W.Fast.tw1234273552001440308 : Unit := ()
def PySem.W.Fast.tw18292569578607529654 : Unit := ()
def PySem.W.Fast.tw9843284508019022622 : Unit := ()
def PySem.W.Fast.tw6705367347080369780 : Unit := ()
def PySem.W.Fast.tw7146352005764495492 : Unit := ()
def PySem.W.Fast.tw16178337989393697104 : Unit := ()
def PySem.W.Fast.tw17858991984154406129 : Unit := ()
def PySem.W.Fast.tw564907037001889516 : Unit := ()
def PySem.W.Fast.tw5867869599815220849 : Unit := ()
def PySem.W.Fast.tw1738000918561667028 : Unit := ()
def PySem.W.Fast.tw5992257157096634512 : Unit := ()
def PySem.W.Fast.tw18426380772063638008 : Unit := ()
def PySem.W.Fast.tw1425345295880333170 : Unit := ()
def PySem.W.Fast.tw18048779379839454055 : Unit := ()
def PySem.W.Fast.tw10819045712811402542 : Unit := ()
def PySem.W.Fast.tw16397640541163425020 : Unit := ()
def PySem.W.Fast.tw3523758870142880517 : Unit := ()
def PySem.W.Fast.tw7907032840539928809 : Unit := ()
def PySem.W.Fast.tw17007120114602898501 : Unit := ()
def PySem.W.Fast.tw10274941967612519849 : Unit := ()
def PySem.W.Fast.tw8853798331364559343 : Unit := ()
def PySem.W.Fast.tw9765538234174994738 : Unit := ()
def PySem.W.Fast.tw6031843286210032142 : Unit := ()
def PySem.W.Fast.tw7862304494797871541 : Unit := ()
def PySem.W.Fast.tw8684097662749644498 : Unit := ()
def PySem.W.Fast.tw2358276670197733070 : Unit := ()
def PySem.W.Fast.tw13809401339306166975 : Unit := ()
def PySem.W.Fast.tw667775661325524774 : Unit := ()
def PySem.W.Fast.tw7975869795814324606 : Unit := ()
def PySem.W.Fast.tw4467077415282059601 : Unit := ()
def PySem.W.Fast.tw15266179132328591184 : Unit := ()
def PySem.W.Fast.tw4112187636060919206 : Unit := ()
def PySem.W.Fast.tw7618699791991114251 : Unit := ()
def PySem.W.Fast.tw4816295931973257570 : Unit := ()
def PySem.W.Fast.tw5121665264069480223 : Unit := ()
def PySem.W.Fast.tw4072720508520300870 : Unit := ()
def PySem.W.Fast.tw11342724069551116324 : Unit := ()
def PySem.W.Fast.tw3846832159549703738 : Unit := ()
def PySem.W.Fast.tw17286731150499430827 : Unit := ()
def PySem.W.Fast.tw7145319083648176329 : Unit := ()
def PySem.W.Fast.tw17141760491219864539 : Unit := ()
def PySem.W.Fast.tw15089901709480359430 : Unit := ()
def PySem.W.Fast.tw11801203589184575420 : Unit := ()
def PySem.W.Fast.tw2498273823755733443 : Unit := ()
def PySem.W.Fast.tw9734089256994384603 : Unit := ()
def PySem.W.Fast.tw2465092876168093580 : Unit := ()
def PySem.W.Fast.tw6812206943523488097 : Unit := ()
def PySem.W.Fast.tw2416957877969733149 : Unit := ()
def PySem.W.Fast.tw7007157371598076924 : Unit := ()
def PySem.W.Fast.tw5226301584641821448 : Unit := ()
def PySem.W.Fast.tw9323322911028769359 : Unit := ()
def PySem.W.Fast.tw8635047290620802773 : Unit := ()
def PySem.W.Fast.tw1317292728592612999 : Unit := ()
def PySem.W.Fast.tw5037884990912085229 : Unit := ()
def PySem.W.Fast.tw16938317177963099014 : Unit := ()
def PySem.W.Fast.tw7098602403393873375 : Unit := ()
def PySem.W.Fast.tw8476618726637768763 : Unit := ()
def PySem.W.Fast.tw3935769006906874204 : Unit := ()
def PySem.W.Fast.tw10669405282304603535 : Unit := ()
def PySem.W.Fast.tw15684513920075168150 : Unit := ()
def PySem.W.Fast.tw10454665764127946630 : Unit := ()
def PySem.W.Fast.tw4732041917013405295 : Unit := ()
def PySem.W.Fast.tw2763657498893806409 : Unit := ()
def PySem.W.Fast.tw11311381092816888774 : Unit := ()
def PySem.W.Fast.tw8112651763654189479 : Unit := ()
def PySem.W.Fast.tw14278274621190950201 : Unit := ()
def PySem.W.Fast.tw3905860242851923419 : Unit := ()
def PySem.W.Fast.tw16963452344989319744 : Unit := ()
def PySem.W.Fast.tw7907812443120276570 : Unit := ()
def PySem.W.Fast.tw9687071471684382705 : Unit := ()
def PySem.W.Fast.tw14210602064026372393 : Unit := ()
def PySem.W.Fast.tw745852784537529815 : Unit := ()
def PySem.W.Fast.tw7383498541372642668 : Unit := ()
def PySem.W.Fast.tw3487053023831995344 : Unit := ()
def PySem.W.Fast.tw3787686266003773745 : Unit := ()
def PySem.W.Fast.tw12181980096727530135 : Unit := ()
def PySem.W.Fast.tw7574336870060066454 : Unit := ()
def PySem.W.Fast.tw15596735345896021521 : Unit := ()
def PySem.W.Fast.tw16220501000851864136 : Unit := ()
def PySem.W.Fast.tw2202445131739623440 : Unit := ()
def PySem.W.Fast.tw12890305511050617037 : Unit := ()
def PySem.W.Fast.tw4415993317674024610 : Unit := ()
def PySem.W.Fast.tw1846827514567386889 : Unit := ()
def PySem.W.Fast.tw16397359168273575370 : Unit := ()
def PySem.W.Fast.tw14655960471890306620 : Unit := ()
def PySem.W.Fast.tw3696131723382802200 : Unit := ()
def PySem.W.Fast.tw1234325955926544168 : Unit := ()
def PySem.W.Fast.tw12463034112446611857 : Unit := ()
def PySem.W.Fast.tw13344101299814725765 : Unit := ()
def PySem.W.Fast.tw10760997180815554357 : Unit := ()
def PySem.W.Fast.tw3247389590568504938 : Unit := ()
def PySem.W.Fast.tw14143894679391190250 : Unit := ()
def PySem.W.Fast.tw13241966640223327748 : Unit := ()
def PySem.W.Fast.tw6097126075990584867 : Unit := ()
def PySem.W.Fast.tw9235798649331305379 : Unit := ()
def PySem.W.Fast.tw3748092418643455318 : Unit := ()
def PySem.W.Fast.tw10501895286505017550 : Unit := ()
def PySem.W.Fast.tw3132665542117725692 : Unit := ()
def PySem.W.Fast.tw16228737507358131643 : Unit := ()
def PySem.W.Fast.tw7470955812614949343 : Unit := ()
def PySem.W.Fast.tw12796497915371323415 : Unit := ()
def PySem.W.Fast.tw581002536526348088 : Unit := ()
def PySem.W.Fast.tw4616846446497210325 : Unit := ()
def PySem.W.Fast.tw14352634543431857107 : Unit := ()
def PySem.W.Fast.tw13255976019042242148 : Unit := ()
def PySem.W.Fast.tw5049277299592220796 : Unit := ()
def PySem.W.Fast.tw6140427243532650487 : Unit := ()
def PySem.W.Fast.tw8228807150882280554 : Unit := ()
def PySem.W.Fast.tw10104461855686308195 : Unit := ()
def PySem.W.Fast.tw15979750289302114785 : Unit := ()
def PySem.W.Fast.tw15915258557363824162 : Unit := ()
def PySem.W.Fast.tw993919365729025423 : Unit := ()
def PySem.W.Fast.tw10979918990790174035 : Unit := ()
def PySem.W.Fast.tw8868305565010999051 : Unit := ()
def PySem.W.Fast.tw16617771735043120253 : Unit := ()
def PySem.W.Fast.tw8024723353606886930 : Unit := ()
def PySem.W.Fast.tw11541030049707604900 : Unit := ()
def PySem.W.Fast.tw14167140391598948930 : Unit := ()
def PySem.W.Fast.tw5367783732986047295 : Unit := ()
def PySem.W.Fast.tw5766963061538064178 : Unit := ()
def PySem.W.Fast.tw14087453755093632441 : Unit := ()
def PySem.W.Fast.tw376108750176197674 : Unit := ()
namespace R
open PySem L2 PyProof.Rows
section
variable {l : PySem.W.OpenLaw} {w : World} {K : PySem.W.Frag} {h : Heap} {mg : Str → Option Value}
set_option maxHeartbeats 0 in
theorem bj8 {fa f0 f1 f2 f3 f4 f5 f6 f7 f8 f9 f10 f11 f12 f13 f14 f15 f16 f17 f18 f19 f20 f21 f22 f23 f24 f25 f26 f27 f28 f29 f30 f31 f32 f33 f34 f35 f36 f37 f38 f39 f40 : Addr} {C_NoFraction C_NoPolynomial C_NoStretch C_NoRow C_NoPair C_NoBack C_NoForm C_NoParts C_NoDegree C_NoSteps C_NoBox C_NoGain C_NoText C_NoLine C_NoName C_NoDeed C_RestError : Addr} {od0 an0 : Option Addr} {sl0 : Array (Option Value)} {oc0 kV0 dc0 pm0 cd0 ct0 : Value} {od1 an1 : Option Addr} {sl1 : Array (Option Value)} {oc1 kV1 dc1 pm1 cd1 ct1 : Value} {od2 an2 : Option Addr} {sl2 : Array (Option Value)} {oc2 kV2 dc2 pm2 cd2 ct2 : Value} {od3 an3 : Option Addr} {sl3 : Array (Option Value)} {oc3 kV3 dc3 pm3 cd3 ct3 : Value} {od4 an4 : Option Addr} {sl4 : Array (Option Value)} {oc4 kV4 dc4 pm4 cd4 ct4 : Value} {od5 an5 : Option Addr} {sl5 : Array (Option Value)} {oc5 kV5 dc5 pm5 cd5 ct5 : Value} {od6 an6 : Option Addr} {sl6 : Array (Option Value)} {oc6 kV6 dc6 pm6 cd6 ct6 : Value} {od7 an7 : Option Addr} {sl7 : Array (Option Value)} {oc7 kV7 dc7 pm7 cd7 ct7 : Value} {od8 an8 : Option Addr} {sl8 : Array (Option Value)} {oc8 kV8 dc8 pm8 cd8 ct8 : Value} {od9 an9 : Option Addr} {sl9 : Array (Option Value)} {oc9 kV9 dc9 pm9 cd9 ct9 : Value} {od10 an10 : Option Addr} {sl10 : Array (Option Value)} {oc10 kV10 dc10 pm10 cd10 ct10 : Value} {od11 an11 : Option Addr} {sl11 : Array (Option Value)} {oc11 kV11 dc11 pm11 cd11 ct11 : Value} {od12 an12 : Option Addr} {sl12 : Array (Option Value)} {oc12 kV12 dc12 pm12 cd12 ct12 : Value} {od13 an13 : Option Addr} {sl13 : Array (Option Value)} {oc13 kV13 dc13 pm13 cd13 ct13 : Value} {od14 an14 : Option Addr} {sl14 : Array (Option Value)} {oc14 kV14 dc14 pm14 cd14 ct14 : Value} {od15 an15 : Option Addr} {sl15 : Array (Option Value)} {oc15 kV15 dc15 pm15 cd15 ct15 : Value} {od16 an16 : Option Addr} {sl16 : Array (Option Value)} {oc16 kV16 dc16 pm16 cd16 ct16 : Value} {od17 an17 : Option Addr} {sl17 : Array (Option Value)} {oc17 kV17 dc17 pm17 cd17 ct17 : Value} {od18 an18 : Option Addr} {sl18 : Array (Option Value)} {oc18 kV18 dc18 pm18 cd18 ct18 : Value} {od19 an19 : Option Addr} {sl19 : Array (Option Value)} {oc19 kV19 dc19 pm19 cd19 ct19 : Value} {od20 an20 : Option Addr} {sl20 : Array (Option Value)} {oc20 kV20 dc20 pm20 cd20 ct20 : Value} {od21 an21 : Option Addr} {sl21 : Array (Option Value)} {oc21 kV21 dc21 pm21 cd21 ct21 : Value} {od22 an22 : Option Addr} {sl22 : Array (Option Value)} {oc22 kV22 dc22 pm22 cd22 ct22 : Value} {od23 an23 : Option Addr} {sl23 : Array (Option Value)} {oc23 kV23 dc23 pm23 cd23 ct23 : Value} {od24 an24 : Option Addr} {sl24 : Array (Option Value)} {oc24 kV24 dc24 pm24 cd24 ct24 : Value} {od25 an25 : Option Addr} {sl25 : Array (Option Value)} {oc25 kV25 dc25 pm25 cd25 ct25 : Value} {od26 an26 : Option Addr} {sl26 : Array (Option Value)} {oc26 kV26 dc26 pm26 cd26 ct26 : Value} {od27 an27 : Option Addr} {sl27 : Array (Option Value)} {oc27 kV27 dc27 pm27 cd27 ct27 : Value} {od28 an28 : Option Addr} {sl28 : Array (Option Value)} {oc28 kV28 dc28 pm28 cd28 ct28 : Value} {od29 an29 : Option Addr} {sl29 : Array (Option Value)} {oc29 kV29 dc29 pm29 cd29 ct29 : Value} {od30 an30 : Option Addr} {sl30 : Array (Option Value)} {oc30 kV30 dc30 pm30 cd30 ct30 : Value} {od31 an31 : Option Addr} {sl31 : Array (Option Value)} {oc31 kV31 dc31 pm31 cd31 ct31 : Value} {od32 an32 : Option Addr} {sl32 : Array (Option Value)} {oc32 kV32 dc32 pm32 cd32 ct32 : Value} {od33 an33 : Option Addr} {sl33 : Array (Option Value)} {oc33 kV33 dc33 pm33 cd33 ct33 : Value} {od34 an34 : Option Addr} {sl34 : Array (Option Value)} {oc34 kV34 dc34 pm34 cd34 ct34 : Value} {od35 an35 : Option Addr} {sl35 : Array (Option Value)} {oc35 kV35 dc35 pm35 cd35 ct35 : Value} {od36 an36 : Option Addr} {sl36 : Array (Option Value)} {oc36 kV36 dc36 pm36 cd36 ct36 : Value} {od37 an37 : Option Addr} {sl37 : Array (Option Value)} {oc37 kV37 dc37 pm37 cd37 ct37 : Value} {od38 an38 : Option Addr} {sl38 : Array (Option Value)} {oc38 kV38 dc38 pm38 cd38 ct38 : Value} {od39 an39 : Option Addr} {sl39 : Array (Option Value)} {oc39 kV39 dc39 pm39 cd39 ct39 : Value} {od40 an40 : Option Addr} {sl40 : Array (Option Value)} {oc40 kV40 dc40 pm40 cd40 ct40 : Value} {t_SHORT : Tok} {t_LONG : Tok} {A_ONE : Addr} {td_ONE : Option Addr} {ts_ONE : Array (Option Value)} {tn_ONE : Nat} {tt0_ONE tt1_ONE : Tok} {A_NOUGHT : Addr} {td_NOUGHT : Option Addr} {ts_NOUGHT : Array (Option Value)} {tn_NOUGHT : Nat} {tt0_NOUGHT tt1_NOUGHT : Tok}
    (X : K.In h) (G : h.Ns mainGlobals mg) (hfa : mg "law" = some (.ref fa))
    (a0 : PySem.W.nsIn K mainGlobals "common_divisor" = some (some (.ref f0)))
    (l0 : K.lookup f0 = some ⟨oc0, od0, .func (PySem.W.fnOf "common_divisor" "common_divisor" (i8 A0) (g9 A0) (d3 A0) .none kV0 dc0 pm0 an0 cd0 ct0), sl0⟩)
    (c0 : PySem.W.codeIn K cd0 "common_divisor" = true) (k0 : PySem.W.keepIn K (.ref f0) = true)
    (a1 : PySem.W.nsIn K mainGlobals "times" = some (some (.ref f1)))
    (l1 : K.lookup f1 = some ⟨oc1, od1, .func (PySem.W.fnOf "times" "times" (i8 V6) (g9 V6) (d3 V6) .none kV1 dc1 pm1 an1 cd1 ct1), sl1⟩)
    (c1 : PySem.W.codeIn K cd1 "times" = true) (k1 : PySem.W.keepIn K (.ref f1) = true)
    (a2 : PySem.W.nsIn K mainGlobals "over" = some (some (.ref f2)))
    (l2 : K.lookup f2 = some ⟨oc2, od2, .func (PySem.W.fnOf "over" "over" (i8 ad4) (g9 ad4) (d3 ad4) .none kV2 dc2 pm2 an2 cd2 ct2), sl2⟩)
    (c2 : PySem.W.codeIn K cd2 "over" = true) (k2 : PySem.W.keepIn K (.ref f2) = true)
    (a3 : PySem.W.nsIn K mainGlobals "content_of" = some (some (.ref f3)))
    (l3 : K.lookup f3 = some ⟨oc3, od3, .func (PySem.W.fnOf "content_of" "content_of" (i8 E1) (g9 E1) (d3 E1) .none kV3 dc3 pm3 an3 cd3 ct3), sl3⟩)
    (c3 : PySem.W.codeIn K cd3 "content_of" = true) (k3 : PySem.W.keepIn K (.ref f3) = true)
    (a4 : PySem.W.nsIn K mainGlobals "cleared" = some (some (.ref f4)))
    (l4 : K.lookup f4 = some ⟨oc4, od4, .func (PySem.W.fnOf "cleared" "cleared" (i8 L9) (g9 L9) (d3 L9) .none kV4 dc4 pm4 an4 cd4 ct4), sl4⟩)
    (c4 : PySem.W.codeIn K cd4 "cleared" = true) (k4 : PySem.W.keepIn K (.ref f4) = true)
    (a5 : PySem.W.nsIn K mainGlobals "lifted" = some (some (.ref f5)))
    (l5 : K.lookup f5 = some ⟨oc5, od5, .func (PySem.W.fnOf "lifted" "lifted" (i8 O2) (g9 O2) (d3 O2) .none kV5 dc5 pm5 an5 cd5 ct5), sl5⟩)
    (c5 : PySem.W.codeIn K cd5 "lifted" = true) (k5 : PySem.W.keepIn K (.ref f5) = true)
    (a6 : PySem.W.nsIn K mainGlobals "divisor_for_all" = some (some (.ref f6)))
    (l6 : K.lookup f6 = some ⟨oc6, od6, .func (PySem.W.fnOf "divisor_for_all" "divisor_for_all" (i8 v5) (g9 v5) (d3 v5) .none kV6 dc6 pm6 an6 cd6 ct6), sl6⟩)
    (c6 : PySem.W.codeIn K cd6 "divisor_for_all" = true) (k6 : PySem.W.keepIn K (.ref f6) = true)
    (a7 : PySem.W.nsIn K mainGlobals "lowered" = some (some (.ref f7)))
    (l7 : K.lookup f7 = some ⟨oc7, od7, .func (PySem.W.fnOf "lowered" "lowered" (i8 M9) (g9 M9) (d3 M9) .none kV7 dc7 pm7 an7 cd7 ct7), sl7⟩)
    (c7 : PySem.W.codeIn K cd7 "lowered" = true) (k7 : PySem.W.keepIn K (.ref f7) = true)
    (a8 : PySem.W.nsIn K mainGlobals "trimmed" = some (some (.ref f8)))
    (l8 : K.lookup f8 = some ⟨oc8, od8, .func (PySem.W.fnOf "trimmed" "trimmed" (i8 M8) (g9 M8) (d3 M8) .none kV8 dc8 pm8 an8 cd8 ct8), sl8⟩)
    (c8 : PySem.W.codeIn K cd8 "trimmed" = true) (k8 : PySem.W.keepIn K (.ref f8) = true)
    (a9 : PySem.W.nsIn K mainGlobals "whole_divided" = some (some (.ref f9)))
    (l9 : K.lookup f9 = some ⟨oc9, od9, .func (PySem.W.fnOf "whole_divided" "whole_divided" (i8 t8) (g9 t8) (d3 t8) .none kV9 dc9 pm9 an9 cd9 ct9), sl9⟩)
    (c9 : PySem.W.codeIn K cd9 "whole_divided" = true) (k9 : PySem.W.keepIn K (.ref f9) = true)
    (a10 : PySem.W.nsIn K mainGlobals "formed" = some (some (.ref f10)))
    (l10 : K.lookup f10 = some ⟨oc10, od10, .func (PySem.W.fnOf "formed" "formed" (i8 O3) (g9 O3) (d3 O3) .none kV10 dc10 pm10 an10 cd10 ct10), sl10⟩)
    (c10 : PySem.W.codeIn K cd10 "formed" = true) (k10 : PySem.W.keepIn K (.ref f10) = true)
    (a11 : PySem.W.nsIn K mainGlobals "form_divided" = some (some (.ref f11)))
    (l11 : K.lookup f11 = some ⟨oc11, od11, .func (PySem.W.fnOf "form_divided" "form_divided" (i8 C1) (g9 C1) (d3 C1) .none kV11 dc11 pm11 an11 cd11 ct11), sl11⟩)
    (c11 : PySem.W.codeIn K cd11 "form_divided" = true) (k11 : PySem.W.keepIn K (.ref f11) = true)
    (a12 : PySem.W.nsIn K mainGlobals "poly" = some (some (.ref f12)))
    (l12 : K.lookup f12 = some ⟨oc12, od12, .func (PySem.W.fnOf "poly" "poly" (i8 ad3) (g9 ad3) (d3 ad3) .none kV12 dc12 pm12 an12 cd12 ct12), sl12⟩)
    (c12 : PySem.W.codeIn K cd12 "poly" = true) (k12 : PySem.W.keepIn K (.ref f12) = true)
    (a13 : PySem.W.nsIn K mainGlobals "by_turns" = some (some (.ref f13)))
    (l13 : K.lookup f13 = some ⟨oc13, od13, .func (PySem.W.fnOf "by_turns" "by_turns" (i8 E3) (g9 E3) (d3 E3) .none kV13 dc13 pm13 an13 cd13 ct13), sl13⟩)
    (c13 : PySem.W.codeIn K cd13 "by_turns" = true) (k13 : PySem.W.keepIn K (.ref f13) = true)
    (a14 : PySem.W.nsIn K mainGlobals "_law_low" = some (some (.ref f14)))
    (l14 : K.lookup f14 = some ⟨oc14, od14, .func (PySem.W.fnOf "_law_low" "_law_low" (i8 K8) (g9 K8) (d3 K8) .none kV14 dc14 pm14 an14 cd14 ct14), sl14⟩)
    (c14 : PySem.W.codeIn K cd14 "_law_low" = true) (k14 : PySem.W.keepIn K (.ref f14) = true)
    (a15 : PySem.W.nsIn K mainGlobals "_law_urn" = some (some (.ref f15)))
    (l15 : K.lookup f15 = some ⟨oc15, od15, .func (PySem.W.fnOf "_law_urn" "_law_urn" (i8 K7) (g9 K7) (d3 K7) .none kV15 dc15 pm15 an15 cd15 ct15), sl15⟩)
    (c15 : PySem.W.codeIn K cd15 "_law_urn" = true) (k15 : PySem.W.keepIn K (.ref f15) = true)
    (a16 : PySem.W.nsIn K mainGlobals "_law_draw" = some (some (.ref f16)))
    (l16 : K.lookup f16 = some ⟨oc16, od16, .func (PySem.W.fnOf "_law_draw" "_law_draw" (i8 G5) (g9 G5) (d3 G5) .none kV16 dc16 pm16 an16 cd16 ct16), sl16⟩)
    (c16 : PySem.W.codeIn K cd16 "_law_draw" = true) (k16 : PySem.W.keepIn K (.ref f16) = true)
    (a17 : PySem.W.nsIn K mainGlobals "_law_kind" = some (some (.ref f17)))
    (l17 : K.lookup f17 = some ⟨oc17, od17, .func (PySem.W.fnOf "_law_kind" "_law_kind" (i8 G4) (g9 G4) (d3 G4) .none kV17 dc17 pm17 an17 cd17 ct17), sl17⟩)
    (c17 : PySem.W.codeIn K cd17 "_law_kind" = true) (k17 : PySem.W.keepIn K (.ref f17) = true)
    (a18 : PySem.W.nsIn K mainGlobals "_law_number" = some (some (.ref f18)))
    (l18 : K.lookup f18 = some ⟨oc18, od18, .func (PySem.W.fnOf "_law_number" "_law_number" (i8 D3) (g9 D3) (d3 D3) .none kV18 dc18 pm18 an18 cd18 ct18), sl18⟩)
    (c18 : PySem.W.codeIn K cd18 "_law_number" = true) (k18 : PySem.W.keepIn K (.ref f18) = true)
    (a19 : PySem.W.nsIn K mainGlobals "_law_whole" = some (some (.ref f19)))
    (l19 : K.lookup f19 = some ⟨oc19, od19, .func (PySem.W.fnOf "_law_whole" "_law_whole" (i8 E4) (g9 E4) (d3 E4) .none kV19 dc19 pm19 an19 cd19 ct19), sl19⟩)
    (c19 : PySem.W.codeIn K cd19 "_law_whole" = true) (k19 : PySem.W.keepIn K (.ref f19) = true)
    (a20 : PySem.W.nsIn K mainGlobals "_law_is_number" = some (some (.ref f20)))
    (l20 : K.lookup f20 = some ⟨oc20, od20, .func (PySem.W.fnOf "_law_is_number" "_law_is_number" (i8 A4) (g9 A4) (d3 A4) .none kV20 dc20 pm20 an20 cd20 ct20), sl20⟩)
    (c20 : PySem.W.codeIn K cd20 "_law_is_number" = true) (k20 : PySem.W.keepIn K (.ref f20) = true)
    (a21 : PySem.W.nsIn K mainGlobals "_law_other" = some (some (.ref f21)))
    (l21 : K.lookup f21 = some ⟨oc21, od21, .func (PySem.W.fnOf "_law_other" "_law_other" (i8 E7) (g9 E7) (d3 E7) .none kV21 dc21 pm21 an21 cd21 ct21), sl21⟩)
    (c21 : PySem.W.codeIn K cd21 "_law_other" = true) (k21 : PySem.W.keepIn K (.ref f21) = true)
    (a22 : PySem.W.nsIn K mainGlobals "_law_trim" = some (some (.ref f22)))
    (l22 : K.lookup f22 = some ⟨oc22, od22, .func (PySem.W.fnOf "_law_trim" "_law_trim" (i8 G1) (g9 G1) (d3 G1) .none kV22 dc22 pm22 an22 cd22 ct22), sl22⟩)
    (c22 : PySem.W.codeIn K cd22 "_law_trim" = true) (k22 : PySem.W.keepIn K (.ref f22) = true)
    (a23 : PySem.W.nsIn K mainGlobals "_law_drawn_poly" = some (some (.ref f23)))
    (l23 : K.lookup f23 = some ⟨oc23, od23, .func (PySem.W.fnOf "_law_drawn_poly" "_law_drawn_poly" (i8 v6) (g9 v6) (d3 v6) .none kV23 dc23 pm23 an23 cd23 ct23), sl23⟩)
    (c23 : PySem.W.codeIn K cd23 "_law_drawn_poly" = true) (k23 : PySem.W.keepIn K (.ref f23) = true)
    (a24 : PySem.W.nsIn K mainGlobals "_law_is_poly" = some (some (.ref f24)))
    (l24 : K.lookup f24 = some ⟨oc24, od24, .func (PySem.W.fnOf "_law_is_poly" "_law_is_poly" (i8 A7) (g9 A7) (d3 A7) .none kV24 dc24 pm24 an24 cd24 ct24), sl24⟩)
    (c24 : PySem.W.codeIn K cd24 "_law_is_poly" = true) (k24 : PySem.W.keepIn K (.ref f24) = true)
    (a25 : PySem.W.nsIn K mainGlobals "_law_plus" = some (some (.ref f25)))
    (l25 : K.lookup f25 = some ⟨oc25, od25, .func (PySem.W.fnOf "_law_plus" "_law_plus" (i8 G3) (g9 G3) (d3 G3) .none kV25 dc25 pm25 an25 cd25 ct25), sl25⟩)
    (c25 : PySem.W.codeIn K cd25 "_law_plus" = true) (k25 : PySem.W.keepIn K (.ref f25) = true)
    (a26 : PySem.W.nsIn K mainGlobals "_law_times" = some (some (.ref f26)))
    (l26 : K.lookup f26 = some ⟨oc26, od26, .func (PySem.W.fnOf "_law_times" "_law_times" (i8 E6) (g9 E6) (d3 E6) .none kV26 dc26 pm26 an26 cd26 ct26), sl26⟩)
    (c26 : PySem.W.codeIn K cd26 "_law_times" = true) (k26 : PySem.W.keepIn K (.ref f26) = true)
    (a27 : PySem.W.nsIn K mainGlobals "_law_poly_plus" = some (some (.ref f27)))
    (l27 : K.lookup f27 = some ⟨oc27, od27, .func (PySem.W.fnOf "_law_poly_plus" "_law_poly_plus" (i8 A3) (g9 A3) (d3 A3) .none kV27 dc27 pm27 an27 cd27 ct27), sl27⟩)
    (c27 : PySem.W.codeIn K cd27 "_law_poly_plus" = true) (k27 : PySem.W.keepIn K (.ref f27) = true)
    (a28 : PySem.W.nsIn K mainGlobals "_law_poly_times" = some (some (.ref f28)))
    (l28 : K.lookup f28 = some ⟨oc28, od28, .func (PySem.W.fnOf "_law_poly_times" "_law_poly_times" (i8 y6) (g9 y6) (d3 y6) .none kV28 dc28 pm28 an28 cd28 ct28), sl28⟩)
    (c28 : PySem.W.codeIn K cd28 "_law_poly_times" = true) (k28 : PySem.W.keepIn K (.ref f28) = true)
    (a29 : PySem.W.nsIn K mainGlobals "division_forms" = some (some (.ref f29)))
    (l29 : K.lookup f29 = some ⟨oc29, od29, .func (PySem.W.fnOf "division_forms" "division_forms" (i8 n8) (g9 n8) (d3 n8) .none kV29 dc29 pm29 an29 cd29 ct29), sl29⟩)
    (c29 : PySem.W.codeIn K cd29 "division_forms" = true) (k29 : PySem.W.keepIn K (.ref f29) = true)
    (a30 : PySem.W.nsIn K mainGlobals "divisions" = some (some (.ref f30)))
    (l30 : K.lookup f30 = some ⟨oc30, od30, .func (PySem.W.fnOf "divisions" "divisions" (i8 D9) (g9 D9) (d3 D9) .none kV30 dc30 pm30 an30 cd30 ct30), sl30⟩)
    (c30 : PySem.W.codeIn K cd30 "divisions" = true) (k30 : PySem.W.keepIn K (.ref f30) = true)
    (a31 : PySem.W.nsIn K mainGlobals "_law_which" = some (some (.ref f31)))
    (l31 : K.lookup f31 = some ⟨oc31, od31, .func (PySem.W.fnOf "_law_which" "_law_which" (i8 E5) (g9 E5) (d3 E5) .none kV31 dc31 pm31 an31 cd31 ct31), sl31⟩)
    (c31 : PySem.W.codeIn K cd31 "_law_which" = true) (k31 : PySem.W.keepIn K (.ref f31) = true)
    (a32 : PySem.W.nsIn K mainGlobals "_law_folded" = some (some (.ref f32)))
    (l32 : K.lookup f32 = some ⟨oc32, od32, .func (PySem.W.fnOf "_law_folded" "_law_folded" (i8 D5) (g9 D5) (d3 D5) .none kV32 dc32 pm32 an32 cd32 ct32), sl32⟩)
    (c32 : PySem.W.codeIn K cd32 "_law_folded" = true) (k32 : PySem.W.keepIn K (.ref f32) = true)
    (a33 : PySem.W.nsIn K mainGlobals "_law_said" = some (some (.ref f33)))
    (l33 : K.lookup f33 = some ⟨oc33, od33, .func (PySem.W.fnOf "_law_said" "_law_said" (i8 G2) (g9 G2) (d3 G2) .none kV33 dc33 pm33 an33 cd33 ct33), sl33⟩)
    (c33 : PySem.W.codeIn K cd33 "_law_said" = true) (k33 : PySem.W.keepIn K (.ref f33) = true)
    (a34 : PySem.W.nsIn K mainGlobals "_law_alone" = some (some (.ref f34)))
    (l34 : K.lookup f34 = some ⟨oc34, od34, .func (PySem.W.fnOf "_law_alone" "_law_alone" (i8 C7) (g9 C7) (d3 C7) .none kV34 dc34 pm34 an34 cd34 ct34), sl34⟩)
    (c34 : PySem.W.codeIn K cd34 "_law_alone" = true) (k34 : PySem.W.keepIn K (.ref f34) = true)
    (a35 : PySem.W.nsIn K mainGlobals "_law_is_row" = some (some (.ref f35)))
    (l35 : K.lookup f35 = some ⟨oc35, od35, .func (PySem.W.fnOf "_law_is_row" "_law_is_row" (i8 D4) (g9 D4) (d3 D4) .none kV35 dc35 pm35 an35 cd35 ct35), sl35⟩)
    (c35 : PySem.W.codeIn K cd35 "_law_is_row" = true) (k35 : PySem.W.keepIn K (.ref f35) = true)
    (a36 : PySem.W.nsIn K mainGlobals "_law_sparse" = some (some (.ref f36)))
    (l36 : K.lookup f36 = some ⟨oc36, od36, .func (PySem.W.fnOf "_law_sparse" "_law_sparse" (i8 D0) (g9 D0) (d3 D0) .none kV36 dc36 pm36 an36 cd36 ct36), sl36⟩)
    (c36 : PySem.W.codeIn K cd36 "_law_sparse" = true) (k36 : PySem.W.keepIn K (.ref f36) = true)
    (a37 : PySem.W.nsIn K mainGlobals "_law_division_row" = some (some (.ref f37)))
    (l37 : K.lookup f37 = some ⟨oc37, od37, .func (PySem.W.fnOf "_law_division_row" "_law_division_row" (i8 t9) (g9 t9) (d3 t9) .none kV37 dc37 pm37 an37 cd37 ct37), sl37⟩)
    (c37 : PySem.W.codeIn K cd37 "_law_division_row" = true) (k37 : PySem.W.keepIn K (.ref f37) = true)
    (a38 : PySem.W.nsIn K mainGlobals "_law_drawn" = some (some (.ref f38)))
    (l38 : K.lookup f38 = some ⟨oc38, od38, .func (PySem.W.fnOf "_law_drawn" "_law_drawn" (i8 C6) (g9 C6) (d3 C6) .none kV38 dc38 pm38 an38 cd38 ct38), sl38⟩)
    (c38 : PySem.W.codeIn K cd38 "_law_drawn" = true) (k38 : PySem.W.keepIn K (.ref f38) = true)
    (a39 : PySem.W.nsIn K mainGlobals "_law_right" = some (some (.ref f39)))
    (l39 : K.lookup f39 = some ⟨oc39, od39, .func (PySem.W.fnOf "_law_right" "_law_right" (i8 C5) (g9 C5) (d3 C5) .none kV39 dc39 pm39 an39 cd39 ct39), sl39⟩)
    (c39 : PySem.W.codeIn K cd39 "_law_right" = true) (k39 : PySem.W.keepIn K (.ref f39) = true)
    (a40 : PySem.W.nsIn K mainGlobals "law" = some (some (.ref f40)))
    (l40 : K.lookup f40 = some ⟨oc40, od40, .func (PySem.W.fnOf "law" "law" (i8 ac2) (g9 ac2) (d3 ac2) .none kV40 dc40 pm40 an40 cd40 ct40), sl40⟩)
    (c40 : PySem.W.codeIn K cd40 "law" = true) (k40 : PySem.W.keepIn K (.ref f40) = true)
    (z_ValueError : PySem.W.nsIn K mainGlobals "ValueError" = some none)
    (z_abs : PySem.W.nsIn K mainGlobals "abs" = some none)
    (z_all : PySem.W.nsIn K mainGlobals "all" = some none)
    (z_bool : PySem.W.nsIn K mainGlobals "bool" = some none)
    (z_enumerate : PySem.W.nsIn K mainGlobals "enumerate" = some none)
    (z_int : PySem.W.nsIn K mainGlobals "int" = some none)
    (z_isinstance : PySem.W.nsIn K mainGlobals "isinstance" = some none)
    (z_len : PySem.W.nsIn K mainGlobals "len" = some none)
    (z_list : PySem.W.nsIn K mainGlobals "list" = some none)
    (z_max : PySem.W.nsIn K mainGlobals "max" = some none)
    (z_min : PySem.W.nsIn K mainGlobals "min" = some none)
    (z_range : PySem.W.nsIn K mainGlobals "range" = some none)
    (z_reversed : PySem.W.nsIn K mainGlobals "reversed" = some none)
    (z_tuple : PySem.W.nsIn K mainGlobals "tuple" = some none)
    (y_SHORT : PySem.W.nsIn K mainGlobals "SHORT" = some (some (.int 6000 t_SHORT)))
    (y_LONG : PySem.W.nsIn K mainGlobals "LONG" = some (some (.int 1000 t_LONG)))
    (y_ONE : PySem.W.nsIn K mainGlobals "ONE" = some (some (.ref A_ONE)))
    (u_ONE : K.lookup A_ONE = some ⟨.type "tuple", td_ONE, .seq #[.int 1 tt0_ONE, .int 1 tt1_ONE] tn_ONE, ts_ONE⟩)
    (y_NOUGHT : PySem.W.nsIn K mainGlobals "NOUGHT" = some (some (.ref A_NOUGHT)))
    (u_NOUGHT : K.lookup A_NOUGHT = some ⟨.type "tuple", td_NOUGHT, .seq #[.int 0 tt0_NOUGHT, .int 1 tt1_NOUGHT] tn_NOUGHT, ts_NOUGHT⟩)
    (m_NoFraction : PySem.W.nsIn K mainGlobals "NoFraction" = some (some (.ref C_NoFraction)))
    (x_NoFraction : PySem.W.excIn K C_NoFraction [.type "ValueError", .type "Exception", .type "BaseException", .type "object"] "ValueError.__new__" = true)
    (e_NoFraction : D6 K C_NoFraction)
    (m_NoPolynomial : PySem.W.nsIn K mainGlobals "NoPolynomial" = some (some (.ref C_NoPolynomial)))
    (x_NoPolynomial : PySem.W.excIn K C_NoPolynomial [.type "ValueError", .type "Exception", .type "BaseException", .type "object"] "ValueError.__new__" = true)
    (e_NoPolynomial : D6 K C_NoPolynomial)
    (m_NoStretch : PySem.W.nsIn K mainGlobals "NoStretch" = some (some (.ref C_NoStretch)))
    (x_NoStretch : PySem.W.excIn K C_NoStretch [.type "ValueError", .type "Exception", .type "BaseException", .type "object"] "ValueError.__new__" = true)
    (e_NoStretch : D6 K C_NoStretch)
    (m_NoRow : PySem.W.nsIn K mainGlobals "NoRow" = some (some (.ref C_NoRow)))
    (x_NoRow : PySem.W.excIn K C_NoRow [.type "ValueError", .type "Exception", .type "BaseException", .type "object"] "ValueError.__new__" = true)
    (e_NoRow : D6 K C_NoRow)
    (m_NoPair : PySem.W.nsIn K mainGlobals "NoPair" = some (some (.ref C_NoPair)))
    (x_NoPair : PySem.W.excIn K C_NoPair [.type "ValueError", .type "Exception", .type "BaseException", .type "object"] "ValueError.__new__" = true)
    (e_NoPair : D6 K C_NoPair)
    (m_NoBack : PySem.W.nsIn K mainGlobals "NoBack" = some (some (.ref C_NoBack)))
    (x_NoBack : PySem.W.excIn K C_NoBack [.type "ValueError", .type "Exception", .type "BaseException", .type "object"] "ValueError.__new__" = true)
    (e_NoBack : D6 K C_NoBack)
    (m_NoForm : PySem.W.nsIn K mainGlobals "NoForm" = some (some (.ref C_NoForm)))
    (x_NoForm : PySem.W.excIn K C_NoForm [.type "ValueError", .type "Exception", .type "BaseException", .type "object"] "ValueError.__new__" = true)
    (e_NoForm : D6 K C_NoForm)
    (m_NoParts : PySem.W.nsIn K mainGlobals "NoParts" = some (some (.ref C_NoParts)))
    (x_NoParts : PySem.W.excIn K C_NoParts [.type "ValueError", .type "Exception", .type "BaseException", .type "object"] "ValueError.__new__" = true)
    (e_NoParts : D6 K C_NoParts)
    (m_NoDegree : PySem.W.nsIn K mainGlobals "NoDegree" = some (some (.ref C_NoDegree)))
    (x_NoDegree : PySem.W.excIn K C_NoDegree [.type "ValueError", .type "Exception", .type "BaseException", .type "object"] "ValueError.__new__" = true)
    (e_NoDegree : D6 K C_NoDegree)
    (m_NoSteps : PySem.W.nsIn K mainGlobals "NoSteps" = some (some (.ref C_NoSteps)))
    (x_NoSteps : PySem.W.excIn K C_NoSteps [.type "ValueError", .type "Exception", .type "BaseException", .type "object"] "ValueError.__new__" = true)
    (e_NoSteps : D6 K C_NoSteps)
    (m_NoBox : PySem.W.nsIn K mainGlobals "NoBox" = some (some (.ref C_NoBox)))
    (x_NoBox : PySem.W.excIn K C_NoBox [.type "ValueError", .type "Exception", .type "BaseException", .type "object"] "ValueError.__new__" = true)
    (e_NoBox : D6 K C_NoBox)
    (m_NoGain : PySem.W.nsIn K mainGlobals "NoGain" = some (some (.ref C_NoGain)))
    (x_NoGain : PySem.W.excIn K C_NoGain [.type "ValueError", .type "Exception", .type "BaseException", .type "object"] "ValueError.__new__" = true)
    (e_NoGain : D6 K C_NoGain)
    (m_NoText : PySem.W.nsIn K mainGlobals "NoText" = some (some (.ref C_NoText)))
    (x_NoText : PySem.W.excIn K C_NoText [.type "ValueError", .type "Exception", .type "BaseException", .type "object"] "ValueError.__new__" = true)
    (e_NoText : D6 K C_NoText)
    (m_NoLine : PySem.W.nsIn K mainGlobals "NoLine" = some (some (.ref C_NoLine)))
    (x_NoLine : PySem.W.excIn K C_NoLine [.type "ValueError", .type "Exception", .type "BaseException", .type "object"] "ValueError.__new__" = true)
    (e_NoLine : D6 K C_NoLine)
    (m_NoName : PySem.W.nsIn K mainGlobals "NoName" = some (some (.ref C_NoName)))
    (x_NoName : PySem.W.excIn K C_NoName [.type "ValueError", .type "Exception", .type "BaseException", .type "object"] "ValueError.__new__" = true)
    (e_NoName : D6 K C_NoName)
    (m_NoDeed : PySem.W.nsIn K mainGlobals "NoDeed" = some (some (.ref C_NoDeed)))
    (x_NoDeed : PySem.W.excIn K C_NoDeed [.type "ValueError", .type "Exception", .type "BaseException", .type "object"] "ValueError.__new__" = true)
    (e_NoDeed : D6 K C_NoDeed)
    (m_RestError : PySem.W.nsIn K mainGlobals "RestError" = some (some (.ref C_RestError)))
    (x_RestError : PySem.W.excIn K C_RestError [.type "ValueError", .type "Exception", .type "BaseException", .type "object"] "ValueError.__new__" = true)
    (e_RestError : D6 K C_RestError)
    (kt_NoPolynomial : bk7 K (⟨C_NoFraction, C_NoPolynomial, C_NoStretch, C_NoRow, C_NoPair, C_NoBack, C_NoForm, C_NoParts, C_NoDegree, C_NoSteps, C_NoBox, C_NoGain, C_NoText, C_NoLine, C_NoName, C_NoDeed, C_RestError⟩ : CAd) C_NoPolynomial 1) :
    ∃ fd : FuncData, (∀ (s : Shared) (v : Value), BindsTo s fd ⟨[v], []⟩ [("_law_script", v)]) ∧ ∀ base : Heap, K.In base → base.Ns mainGlobals mg → aa4 l.prog w K mg base CX0 (8 + 1) fa fd ["_law_script"] (aJ9 K) := by
  have e := hfa.symm.trans (PySem.W.mg_of X G a40)
  cases e
  have F_common_divisor := n9 (st := A0) l0 c0 k0
  have b_common_divisor := F_common_divisor.binds (ps := ["one", "other"]) fun _ _ _ _ _ _ us hl => match us, hl with | [_, _], _ => rfl
  have d_common_divisor : Df K mg "common_divisor" A0 ["one", "other"] f0 := ⟨⟨_, F_common_divisor, b_common_divisor⟩, PySem.W.mg_of X G a0⟩
  have F_times := n9 (st := V6) l1 c1 k1
  have b_times := F_times.binds (ps := ["one", "other"]) fun _ _ _ _ _ _ us hl => match us, hl with | [_, _], _ => rfl
  have d_times : Df K mg "times" V6 ["one", "other"] f1 := ⟨⟨_, F_times, b_times⟩, PySem.W.mg_of X G a1⟩
  have F_over := n9 (st := ad4) l2 c2 k2
  have b_over := F_over.binds (ps := ["one", "other"]) fun _ _ _ _ _ _ us hl => match us, hl with | [_, _], _ => rfl
  have d_over : Df K mg "over" ad4 ["one", "other"] f2 := ⟨⟨_, F_over, b_over⟩, PySem.W.mg_of X G a2⟩
  have F_content_of := n9 (st := E1) l3 c3 k3
  have b_content_of := F_content_of.binds (ps := ["wholes"]) fun _ _ _ _ _ _ us hl => match us, hl with | [_], _ => rfl
  have d_content_of : Df K mg "content_of" E1 ["wholes"] f3 := ⟨⟨_, F_content_of, b_content_of⟩, PySem.W.mg_of X G a3⟩
  have F_cleared := n9 (st := L9) l4 c4 k4
  have b_cleared := F_cleared.binds (ps := ["numbers"]) fun _ _ _ _ _ _ us hl => match us, hl with | [_], _ => rfl
  have d_cleared : Df K mg "cleared" L9 ["numbers"] f4 := ⟨⟨_, F_cleared, b_cleared⟩, PySem.W.mg_of X G a4⟩
  have F_lifted := n9 (st := O2) l5 c5 k5
  have b_lifted := F_lifted.binds (ps := ["p"]) fun _ _ _ _ _ _ us hl => match us, hl with | [_], _ => rfl
  have d_lifted : Df K mg "lifted" O2 ["p"] f5 := ⟨⟨_, F_lifted, b_lifted⟩, PySem.W.mg_of X G a5⟩
  have F_divisor_for_all := n9 (st := v5) l6 c6 k6
  have b_divisor_for_all := F_divisor_for_all.binds (ps := ["wholes", "bottom"]) fun _ _ _ _ _ _ us hl => match us, hl with | [_, _], _ => rfl
  have d_divisor_for_all : Df K mg "divisor_for_all" v5 ["wholes", "bottom"] f6 := ⟨⟨_, F_divisor_for_all, b_divisor_for_all⟩, PySem.W.mg_of X G a6⟩
  have F_lowered := n9 (st := M9) l7 c7 k7
  have b_lowered := F_lowered.binds (ps := ["scale", "wholes"]) fun _ _ _ _ _ _ us hl => match us, hl with | [_, _], _ => rfl
  have d_lowered : Df K mg "lowered" M9 ["scale", "wholes"] f7 := ⟨⟨_, F_lowered, b_lowered⟩, PySem.W.mg_of X G a7⟩
  have F_trimmed := n9 (st := M8) l8 c8 k8
  have b_trimmed := F_trimmed.binds (ps := ["wholes"]) fun _ _ _ _ _ _ us hl => match us, hl with | [_], _ => rfl
  have d_trimmed : Df K mg "trimmed" M8 ["wholes"] f8 := ⟨⟨_, F_trimmed, b_trimmed⟩, PySem.W.mg_of X G a8⟩
  have F_whole_divided := n9 (st := t8) l9 c9 k9
  have b_whole_divided := F_whole_divided.binds (ps := ["one", "other"]) fun _ _ _ _ _ _ us hl => match us, hl with | [_, _], _ => rfl
  have d_whole_divided : Df K mg "whole_divided" t8 ["one", "other"] f9 := ⟨⟨_, F_whole_divided, b_whole_divided⟩, PySem.W.mg_of X G a9⟩
  have F_formed := n9 (st := O3) l10 c10 k10
  have b_formed := F_formed.binds (ps := ["scale", "wholes"]) fun _ _ _ _ _ _ us hl => match us, hl with | [_, _], _ => rfl
  have d_formed : Df K mg "formed" O3 ["scale", "wholes"] f10 := ⟨⟨_, F_formed, b_formed⟩, PySem.W.mg_of X G a10⟩
  have F_form_divided := n9 (st := C1) l11 c11 k11
  have b_form_divided := F_form_divided.binds (ps := ["one", "other"]) fun _ _ _ _ _ _ us hl => match us, hl with | [_, _], _ => rfl
  have d_form_divided : Df K mg "form_divided" C1 ["one", "other"] f11 := ⟨⟨_, F_form_divided, b_form_divided⟩, PySem.W.mg_of X G a11⟩
  have F_poly := n9 (st := ad3) l12 c12 k12
  have b_poly := F_poly.binds (ps := ["numbers"]) fun _ _ _ _ _ _ us hl => match us, hl with | [_], _ => rfl
  have d_poly : Df K mg "poly" ad3 ["numbers"] f12 := ⟨⟨_, F_poly, b_poly⟩, PySem.W.mg_of X G a12⟩
  have F_by_turns := n9 (st := E3) l13 c13 k13
  have b_by_turns := F_by_turns.binds (ps := ["p"]) fun _ _ _ _ _ _ us hl => match us, hl with | [_], _ => rfl
  have d_by_turns : Df K mg "by_turns" E3 ["p"] f13 := ⟨⟨_, F_by_turns, b_by_turns⟩, PySem.W.mg_of X G a13⟩
  have F__law_low := n9 (st := K8) l14 c14 k14
  have b__law_low := F__law_low.binds (ps := ["_law_top", "_law_bottom"]) fun _ _ _ _ _ _ us hl => match us, hl with | [_, _], _ => rfl
  have d__law_low : Df K mg "_law_low" K8 ["_law_top", "_law_bottom"] f14 := ⟨⟨_, F__law_low, b__law_low⟩, PySem.W.mg_of X G a14⟩
  have F__law_urn := n9 (st := K7) l15 c15 k15
  have b__law_urn := F__law_urn.binds (ps := ["_law_script", "_law_at"]) fun _ _ _ _ _ _ us hl => match us, hl with | [_, _], _ => rfl
  have d__law_urn : Df K mg "_law_urn" K7 ["_law_script", "_law_at"] f15 := ⟨⟨_, F__law_urn, b__law_urn⟩, PySem.W.mg_of X G a15⟩
  have F__law_draw := n9 (st := G5) l16 c16 k16
  have b__law_draw := F__law_draw.binds (ps := ["_law_urn_here", "_law_many"]) fun _ _ _ _ _ _ us hl => match us, hl with | [_, _], _ => rfl
  have d__law_draw : Df K mg "_law_draw" G5 ["_law_urn_here", "_law_many"] f16 := ⟨⟨_, F__law_draw, b__law_draw⟩, PySem.W.mg_of X G a16⟩
  have F__law_kind := n9 (st := G4) l17 c17 k17
  have b__law_kind := F__law_kind.binds (ps := ["_law_urn_here"]) fun _ _ _ _ _ _ us hl => match us, hl with | [_], _ => rfl
  have d__law_kind : Df K mg "_law_kind" G4 ["_law_urn_here"] f17 := ⟨⟨_, F__law_kind, b__law_kind⟩, PySem.W.mg_of X G a17⟩
  have F__law_number := n9 (st := D3) l18 c18 k18
  have b__law_number := F__law_number.binds (ps := ["_law_urn_here", "_law_kind_here"]) fun _ _ _ _ _ _ us hl => match us, hl with | [_, _], _ => rfl
  have d__law_number : Df K mg "_law_number" D3 ["_law_urn_here", "_law_kind_here"] f18 := ⟨⟨_, F__law_number, b__law_number⟩, PySem.W.mg_of X G a18⟩
  have F__law_whole := n9 (st := E4) l19 c19 k19
  have b__law_whole := F__law_whole.binds (ps := ["_law_thing"]) fun _ _ _ _ _ _ us hl => match us, hl with | [_], _ => rfl
  have d__law_whole : Df K mg "_law_whole" E4 ["_law_thing"] f19 := ⟨⟨_, F__law_whole, b__law_whole⟩, PySem.W.mg_of X G a19⟩
  have F__law_is_number := n9 (st := A4) l20 c20 k20
  have b__law_is_number := F__law_is_number.binds (ps := ["_law_thing"]) fun _ _ _ _ _ _ us hl => match us, hl with | [_], _ => rfl
  have d__law_is_number : Df K mg "_law_is_number" A4 ["_law_thing"] f20 := ⟨⟨_, F__law_is_number, b__law_is_number⟩, PySem.W.mg_of X G a20⟩
  have F__law_other := n9 (st := E7) l21 c21 k21
  have b__law_other := F__law_other.binds (ps := ["_law_urn_here", "_law_kind_here"]) fun _ _ _ _ _ _ us hl => match us, hl with | [_, _], _ => rfl
  have d__law_other : Df K mg "_law_other" E7 ["_law_urn_here", "_law_kind_here"] f21 := ⟨⟨_, F__law_other, b__law_other⟩, PySem.W.mg_of X G a21⟩
  have F__law_trim := n9 (st := G1) l22 c22 k22
  have b__law_trim := F__law_trim.binds (ps := ["_law_numbers"]) fun _ _ _ _ _ _ us hl => match us, hl with | [_], _ => rfl
  have d__law_trim : Df K mg "_law_trim" G1 ["_law_numbers"] f22 := ⟨⟨_, F__law_trim, b__law_trim⟩, PySem.W.mg_of X G a22⟩
  have F__law_drawn_poly := n9 (st := v6) l23 c23 k23
  have b__law_drawn_poly := F__law_drawn_poly.binds (ps := ["_law_urn_here", "_law_kind_here", "_law_most"]) fun _ _ _ _ _ _ us hl => match us, hl with | [_, _, _], _ => rfl
  have d__law_drawn_poly : Df K mg "_law_drawn_poly" v6 ["_law_urn_here", "_law_kind_here", "_law_most"] f23 := ⟨⟨_, F__law_drawn_poly, b__law_drawn_poly⟩, PySem.W.mg_of X G a23⟩
  have F__law_is_poly := n9 (st := A7) l24 c24 k24
  have b__law_is_poly := F__law_is_poly.binds (ps := ["_law_thing"]) fun _ _ _ _ _ _ us hl => match us, hl with | [_], _ => rfl
  have d__law_is_poly : Df K mg "_law_is_poly" A7 ["_law_thing"] f24 := ⟨⟨_, F__law_is_poly, b__law_is_poly⟩, PySem.W.mg_of X G a24⟩
  have F__law_plus := n9 (st := G3) l25 c25 k25
  have b__law_plus := F__law_plus.binds (ps := ["_law_one", "_law_other_here"]) fun _ _ _ _ _ _ us hl => match us, hl with | [_, _], _ => rfl
  have d__law_plus : Df K mg "_law_plus" G3 ["_law_one", "_law_other_here"] f25 := ⟨⟨_, F__law_plus, b__law_plus⟩, PySem.W.mg_of X G a25⟩
  have F__law_times := n9 (st := E6) l26 c26 k26
  have b__law_times := F__law_times.binds (ps := ["_law_one", "_law_other_here"]) fun _ _ _ _ _ _ us hl => match us, hl with | [_, _], _ => rfl
  have d__law_times : Df K mg "_law_times" E6 ["_law_one", "_law_other_here"] f26 := ⟨⟨_, F__law_times, b__law_times⟩, PySem.W.mg_of X G a26⟩
  have F__law_poly_plus := n9 (st := A3) l27 c27 k27
  have b__law_poly_plus := F__law_poly_plus.binds (ps := ["_law_p", "_law_q"]) fun _ _ _ _ _ _ us hl => match us, hl with | [_, _], _ => rfl
  have d__law_poly_plus : Df K mg "_law_poly_plus" A3 ["_law_p", "_law_q"] f27 := ⟨⟨_, F__law_poly_plus, b__law_poly_plus⟩, PySem.W.mg_of X G a27⟩
  have F__law_poly_times := n9 (st := y6) l28 c28 k28
  have b__law_poly_times := F__law_poly_times.binds (ps := ["_law_p", "_law_q"]) fun _ _ _ _ _ _ us hl => match us, hl with | [_, _], _ => rfl
  have d__law_poly_times : Df K mg "_law_poly_times" y6 ["_law_p", "_law_q"] f28 := ⟨⟨_, F__law_poly_times, b__law_poly_times⟩, PySem.W.mg_of X G a28⟩
  have F_division_forms := n9 (st := n8) l29 c29 k29
  have b_division_forms := F_division_forms.binds (ps := ["p"]) fun _ _ _ _ _ _ us hl => match us, hl with | [_], _ => rfl
  have d_division_forms : Df K mg "division_forms" n8 ["p"] f29 := ⟨⟨_, F_division_forms, b_division_forms⟩, PySem.W.mg_of X G a29⟩
  have F_divisions := n9 (st := D9) l30 c30 k30
  have b_divisions := F_divisions.binds (ps := ["p"]) fun _ _ _ _ _ _ us hl => match us, hl with | [_], _ => rfl
  have d_divisions : Df K mg "divisions" D9 ["p"] f30 := ⟨⟨_, F_divisions, b_divisions⟩, PySem.W.mg_of X G a30⟩
  have F__law_which := n9 (st := E5) l31 c31 k31
  have b__law_which := F__law_which.binds (ps := ["_law_e"]) fun _ _ _ _ _ _ us hl => match us, hl with | [_], _ => rfl
  have d__law_which : Df K mg "_law_which" E5 ["_law_e"] f31 := ⟨⟨_, F__law_which, b__law_which⟩, PySem.W.mg_of X G a31⟩
  have F__law_folded := n9 (st := D5) l32 c32 k32
  have b__law_folded := F__law_folded.binds (ps := ["_law_quotients", "_law_last"]) fun _ _ _ _ _ _ us hl => match us, hl with | [_, _], _ => rfl
  have d__law_folded : Df K mg "_law_folded" D5 ["_law_quotients", "_law_last"] f32 := ⟨⟨_, F__law_folded, b__law_folded⟩, PySem.W.mg_of X G a32⟩
  have F__law_said := n9 (st := G2) l33 c33 k33
  have b__law_said := F__law_said.binds (ps := ["_law_p"]) fun _ _ _ _ _ _ us hl => match us, hl with | [_], _ => rfl
  have d__law_said : Df K mg "_law_said" G2 ["_law_p"] f33 := ⟨⟨_, F__law_said, b__law_said⟩, PySem.W.mg_of X G a33⟩
  have F__law_alone := n9 (st := C7) l34 c34 k34
  have b__law_alone := F__law_alone.binds (ps := ["_law_p", "_law_place"]) fun _ _ _ _ _ _ us hl => match us, hl with | [_, _], _ => rfl
  have d__law_alone : Df K mg "_law_alone" C7 ["_law_p", "_law_place"] f34 := ⟨⟨_, F__law_alone, b__law_alone⟩, PySem.W.mg_of X G a34⟩
  have F__law_is_row := n9 (st := D4) l35 c35 k35
  have b__law_is_row := F__law_is_row.binds (ps := ["_law_told"]) fun _ _ _ _ _ _ us hl => match us, hl with | [_], _ => rfl
  have d__law_is_row : Df K mg "_law_is_row" D4 ["_law_told"] f35 := ⟨⟨_, F__law_is_row, b__law_is_row⟩, PySem.W.mg_of X G a35⟩
  have F__law_sparse := n9 (st := D0) l36 c36 k36
  have b__law_sparse := F__law_sparse.binds (ps := ["_law_urn_here", "_law_kind_here", "_law_degree"]) fun _ _ _ _ _ _ us hl => match us, hl with | [_, _, _], _ => rfl
  have d__law_sparse : Df K mg "_law_sparse" D0 ["_law_urn_here", "_law_kind_here", "_law_degree"] f36 := ⟨⟨_, F__law_sparse, b__law_sparse⟩, PySem.W.mg_of X G a36⟩
  have F__law_division_row := n9 (st := t9) l37 c37 k37
  have b__law_division_row := F__law_division_row.binds (ps := ["_law_urn_here", "_law_kind_here", "_law_most"]) fun _ _ _ _ _ _ us hl => match us, hl with | [_, _, _], _ => rfl
  have d__law_division_row : Df K mg "_law_division_row" t9 ["_law_urn_here", "_law_kind_here", "_law_most"] f37 := ⟨⟨_, F__law_division_row, b__law_division_row⟩, PySem.W.mg_of X G a37⟩
  have F__law_drawn := n9 (st := C6) l38 c38 k38
  have b__law_drawn := F__law_drawn.binds (ps := ["_law_urn_here"]) fun _ _ _ _ _ _ us hl => match us, hl with | [_], _ => rfl
  have d__law_drawn : Df K mg "_law_drawn" C6 ["_law_urn_here"] f38 := ⟨⟨_, F__law_drawn, b__law_drawn⟩, PySem.W.mg_of X G a38⟩
  have F__law_right := n9 (st := C5) l39 c39 k39
  have b__law_right := F__law_right.binds (ps := ["_law_urn_here", "_law_p"]) fun _ _ _ _ _ _ us hl => match us, hl with | [_, _], _ => rfl
  have d__law_right : Df K mg "_law_right" C5 ["_law_urn_here", "_law_p"] f39 := ⟨⟨_, F__law_right, b__law_right⟩, PySem.W.mg_of X G a39⟩
  have F_law := n9 (st := ac2) l40 c40 k40
  have b_law := F_law.binds (ps := ["_law_script"]) fun _ _ _ _ _ _ us hl => match us, hl with | [_], _ => rfl
  have d_law : Df K mg "law" ac2 ["_law_script"] fa := ⟨⟨_, F_law, b_law⟩, PySem.W.mg_of X G a40⟩
  have n_ValueError := PySem.W.mg_none_of X G z_ValueError
  have n_abs := PySem.W.mg_none_of X G z_abs
  have n_all := PySem.W.mg_none_of X G z_all
  have n_bool := PySem.W.mg_none_of X G z_bool
  have n_enumerate := PySem.W.mg_none_of X G z_enumerate
  have n_int := PySem.W.mg_none_of X G z_int
  have n_isinstance := PySem.W.mg_none_of X G z_isinstance
  have n_len := PySem.W.mg_none_of X G z_len
  have n_list := PySem.W.mg_none_of X G z_list
  have n_max := PySem.W.mg_none_of X G z_max
  have n_min := PySem.W.mg_none_of X G z_min
  have n_range := PySem.W.mg_none_of X G z_range
  have n_reversed := PySem.W.mg_none_of X G z_reversed
  have n_tuple := PySem.W.mg_none_of X G z_tuple
  have c_SHORT := PySem.W.mg_of X G y_SHORT
  have c_LONG := PySem.W.mg_of X G y_LONG
  have c_ONE := PySem.W.mg_of X G y_ONE
  have t_ONE : ∀ H : Hp, SqT K H A_ONE [.int 1, .int 1] := fun H => .inr ⟨_, _, _, u_ONE, rfl, rfl, (show 2 ≤ sizeLine by decide), (.cons ⟨_, rfl⟩ (.cons ⟨_, rfl⟩ .nil))⟩
  have c_NOUGHT := PySem.W.mg_of X G y_NOUGHT
  have t_NOUGHT : ∀ H : Hp, SqT K H A_NOUGHT [.int 0, .int 1] := fun H => .inr ⟨_, _, _, u_NOUGHT, rfl, rfl, (show 2 ≤ sizeLine by decide), (.cons ⟨_, rfl⟩ (.cons ⟨_, rfl⟩ .nil))⟩
  have X_NoFraction : ExT K mg "NoFraction" C_NoFraction := ⟨PySem.W.mg_of X G m_NoFraction, ⟨x_NoFraction⟩, e_NoFraction⟩
  have X_NoPolynomial : ExT K mg "NoPolynomial" C_NoPolynomial := ⟨PySem.W.mg_of X G m_NoPolynomial, ⟨x_NoPolynomial⟩, e_NoPolynomial⟩
  have X_NoStretch : ExT K mg "NoStretch" C_NoStretch := ⟨PySem.W.mg_of X G m_NoStretch, ⟨x_NoStretch⟩, e_NoStretch⟩
  have X_NoRow : ExT K mg "NoRow" C_NoRow := ⟨PySem.W.mg_of X G m_NoRow, ⟨x_NoRow⟩, e_NoRow⟩
  have X_NoPair : ExT K mg "NoPair" C_NoPair := ⟨PySem.W.mg_of X G m_NoPair, ⟨x_NoPair⟩, e_NoPair⟩
  have X_NoBack : ExT K mg "NoBack" C_NoBack := ⟨PySem.W.mg_of X G m_NoBack, ⟨x_NoBack⟩, e_NoBack⟩
  have X_NoForm : ExT K mg "NoForm" C_NoForm := ⟨PySem.W.mg_of X G m_NoForm, ⟨x_NoForm⟩, e_NoForm⟩
  have X_NoParts : ExT K mg "NoParts" C_NoParts := ⟨PySem.W.mg_of X G m_NoParts, ⟨x_NoParts⟩, e_NoParts⟩
  have X_NoDegree : ExT K mg "NoDegree" C_NoDegree := ⟨PySem.W.mg_of X G m_NoDegree, ⟨x_NoDegree⟩, e_NoDegree⟩
  have X_NoSteps : ExT K mg "NoSteps" C_NoSteps := ⟨PySem.W.mg_of X G m_NoSteps, ⟨x_NoSteps⟩, e_NoSteps⟩
  have X_NoBox : ExT K mg "NoBox" C_NoBox := ⟨PySem.W.mg_of X G m_NoBox, ⟨x_NoBox⟩, e_NoBox⟩
  have X_NoGain : ExT K mg "NoGain" C_NoGain := ⟨PySem.W.mg_of X G m_NoGain, ⟨x_NoGain⟩, e_NoGain⟩
  have X_NoText : ExT K mg "NoText" C_NoText := ⟨PySem.W.mg_of X G m_NoText, ⟨x_NoText⟩, e_NoText⟩
  have X_NoLine : ExT K mg "NoLine" C_NoLine := ⟨PySem.W.mg_of X G m_NoLine, ⟨x_NoLine⟩, e_NoLine⟩
  have X_NoName : ExT K mg "NoName" C_NoName := ⟨PySem.W.mg_of X G m_NoName, ⟨x_NoName⟩, e_NoName⟩
  have X_NoDeed : ExT K mg "NoDeed" C_NoDeed := ⟨PySem.W.mg_of X G m_NoDeed, ⟨x_NoDeed⟩, e_NoDeed⟩
  have X_RestError : ExT K mg "RestError" C_RestError := ⟨PySem.W.mg_of X G m_RestError, ⟨x_RestError⟩, e_RestError⟩
  have XX : XTx K mg (⟨C_NoFraction, C_NoPolynomial, C_NoStretch, C_NoRow, C_NoPair, C_NoBack, C_NoForm, C_NoParts, C_NoDegree, C_NoSteps, C_NoBox, C_NoGain, C_NoText, C_NoLine, C_NoName, C_NoDeed, C_RestError⟩ : CAd) := ⟨X_NoFraction, X_NoPolynomial, X_NoStretch, X_NoRow, X_NoPair, X_NoBack, X_NoForm, X_NoParts, X_NoDegree, X_NoSteps, X_NoBox, X_NoGain, X_NoText, X_NoLine, X_NoName, X_NoDeed⟩
  refine ⟨PySem.W.fnOf "law" "law" (i8 ac2) (g9 ac2) (d3 ac2) .none kV40 dc40 pm40 an40 cd40 ct40, fun s v => .of_eq rfl, fun base _ _ => ?_⟩
  have G_common_divisor := ag9 (P := l.prog) (w := w) (base := base) d_common_divisor ⟨_, c_SHORT⟩ n_abs
  have G_times := aV3 (P := l.prog) (w := w) (base := base) d_times G_common_divisor
  have G_over := bb0 (P := l.prog) (w := w) (base := base) d_over G_times
  have G_content_of := as6 (P := l.prog) (w := w) (base := base) d_content_of G_common_divisor
  have G_cleared := aH5 (P := l.prog) (w := w) (base := base) d_cleared G_common_divisor
  have GD_lifted := aH6 (P := l.prog) (w := w) (base := base) d_lifted G_cleared G_content_of c_ONE t_ONE
  have G_divisor_for_all := ae0 (P := l.prog) (w := w) (base := base) d_divisor_for_all G_common_divisor c_LONG n_max
  have G_lowered := aH4 (P := l.prog) (w := w) (base := base) d_lowered G_divisor_for_all G_common_divisor
  have G_trimmed := aH3 (P := l.prog) (w := w) (base := base) d_trimmed n_len
  have G_whole_divided := aj0 (P := l.prog) (w := w) (base := base) d_whole_divided G_trimmed n_len n_max n_list n_abs n_enumerate
  have GD_formed := aH7 (P := l.prog) (w := w) (base := base) d_formed G_content_of G_times c_ONE t_ONE
  have GD_form_divided := aj1 (P := l.prog) (w := w) (base := base) d_form_divided G_whole_divided G_over GD_formed
  have G_poly := ba9 (P := l.prog) (w := w) (base := base) d_poly c_NOUGHT t_NOUGHT n_len
  have G_by_turns := aD7 (P := l.prog) (w := w) (base := base) d_by_turns G_poly c_NOUGHT t_NOUGHT n_len n_enumerate
  have G__law_low := aD9 (P := l.prog) (w := w) (base := base) d__law_low n_abs
  have G__law_urn := aD8 (P := l.prog) (w := w) (base := base) d__law_urn n_len n_abs
  have G__law_draw := aA0 (P := l.prog) (w := w) (base := base) d__law_draw
  have G__law_kind := az9 (P := l.prog) (w := w) (base := base) d__law_kind G__law_draw
  have G__law_whole := as7 (P := l.prog) (w := w) (base := base) d__law_whole n_isinstance n_int n_bool
  have G__law_is_number := ah1 (P := l.prog) (w := w) (base := base) d__law_is_number G__law_whole G__law_low n_isinstance n_tuple n_len
  have G__law_trim := az6 (P := l.prog) (w := w) (base := base) d__law_trim n_list
  have G__law_is_poly := al6 (P := l.prog) (w := w) (base := base) d__law_is_poly G__law_is_number G__law_trim n_isinstance n_list n_all
  have G__law_plus := az8 (P := l.prog) (w := w) (base := base) d__law_plus G__law_low
  have G__law_times := as9 (P := l.prog) (w := w) (base := base) d__law_times G__law_low
  have G__law_poly_plus := ah0 (P := l.prog) (w := w) (base := base) d__law_poly_plus G__law_plus G__law_trim n_range n_max n_len
  have G__law_poly_times := ae1 (P := l.prog) (w := w) (base := base) d__law_poly_times G__law_plus G__law_times G__law_trim n_len n_enumerate
  have G_division_forms := ag8 (P := l.prog) (w := w) (base := base) d_division_forms G_by_turns GD_lifted GD_form_divided
  have G_divisions := az5 (P := l.prog) (w := w) (base := base) d_divisions G_division_forms G_lowered X_NoPolynomial
  have G__law_which := as8 (P := l.prog) (w := w) (base := base) d__law_which XX n_isinstance n_ValueError
  have G__law_folded := ap5 (P := l.prog) (w := w) (base := base) d__law_folded G__law_poly_plus G__law_poly_times n_reversed
  have G__law_said := az7 (P := l.prog) (w := w) (base := base) d__law_said G_divisions G__law_which X_RestError kt_NoPolynomial
  have G__law_alone := at4 (P := l.prog) (w := w) (base := base) d__law_alone n_all n_enumerate
  have G__law_is_row := ap4 (P := l.prog) (w := w) (base := base) d__law_is_row G__law_is_poly G__law_alone n_isinstance n_list n_tuple n_len
  have GD__law_number := al7 (P := l.prog) (w := w) (base := base) d__law_number G__law_draw G__law_low n_int
  have GD__law_other := ap6 (P := l.prog) (w := w) (base := base) d__law_other G__law_draw GD__law_number
  have GD__law_drawn_poly := ab7 (P := l.prog) (w := w) (base := base) d__law_drawn_poly G__law_draw GD__law_number GD__law_other n_range
  have G__law_sparse := ap3 (P := l.prog) (w := w) (base := base) d__law_sparse G__law_draw GD__law_number GD__law_other n_range
  have G__law_division_row := Y8 (P := l.prog) (w := w) (base := base) d__law_division_row G__law_draw G__law_sparse n_range n_len
  have G__law_drawn := at3 (P := l.prog) (w := w) (base := base) d__law_drawn G__law_draw G__law_kind G__law_division_row G__law_folded G__law_sparse GD__law_drawn_poly
  have G__law_right := at2 (P := l.prog) (w := w) (base := base) d__law_right G__law_draw G__law_said G__law_is_row G__law_folded n_list n_len
  exact bi1 (P := l.prog) (w := w) (base := base) F_law G__law_urn G__law_right G__law_drawn G__law_said n_range n_max n_min n_len
end
theorem bn5 {l : PySem.W.OpenLaw} {q : Program} {loose : List Str} {XP : (Str → Option Value) → Heap → Prop} {YP : World → Heap → Prop} {d : DefRec} {K : Params → PySem.W.Frag} (hn : l.most = some 63) (hdf : d.params.defaults = [])
    (hY : ∀ (w : World) (h : Heap), YP w h → (K w.params).In h)
    (F : ∀ (w : World) (mg : Str → Option Value) (fa : Addr) (h : Heap), (K w.params).In h → h.Ns mainGlobals mg → mg d.name = some (.ref fa) →
      ∃ fd : FuncData, (∀ (s : Shared) (u : Value), BindsTo s fd ⟨[u], []⟩ [("_law_script", u)]) ∧ ∀ base : Heap, (K w.params).In base → base.Ns mainGlobals mg → aa4 l.prog w (K w.params) mg base CX0 (8 + 1) fa fd ["_law_script"] (aJ9 (K w.params))) :
    PySem.W.WalkO q loose XP YP l.row.toRowW d [] (fun f vs => PySem.call f vs) :=
  L2.aJ6 (n := 63) (k := (8 + 1)) (x := "_law_script") (CX := fun _ => CX0) (sp := fun w => aJ9 (K w.params)) hn (by decide) hdf ⟨rfl, by decide, by decide⟩ hY F (fun _ _ a ns hl _ hS => ⟨a, ns, rfl, hS, hl, fun _ => rfl⟩) fun _ _ _ _ _ z => z
end R
open PySem PySem.W PyProof.Rows
set_option maxRecDepth 100000 in
set_option maxHeartbeats 0 in
theorem PySem.Challenge.cw_restward_k13_divisions_told_holds : PySem.Challenge.rw_restward_k13_divisions_told.Holds := by
  w_on; o_law; k_head; (case hw => w_witness2)
  k_fill
  refine R.bn5 (l := PySem.Challenge.rw_restward_k13_divisions_told) rfl rfl (fun w h Y => PySem.W.kIn_of Y) ?F
  case F =>
    intro w mg fa h KX G hmg
    refine' R.bj8 KX G hmg ?a0 ?l0 ?c0 ?k0 ?a1 ?l1 ?c1 ?k1 ?a2 ?l2 ?c2 ?k2 ?a3 ?l3 ?c3 ?k3 ?a4 ?l4 ?c4 ?k4 ?a5 ?l5 ?c5 ?k5 ?a6 ?l6 ?c6 ?k6 ?a7 ?l7 ?c7 ?k7 ?a8 ?l8 ?c8 ?k8 ?a9 ?l9 ?c9 ?k9 ?a10 ?l10 ?c10 ?k10 ?a11 ?l11 ?c11 ?k11 ?a12 ?l12 ?c12 ?k12 ?a13 ?l13 ?c13 ?k13 ?a14 ?l14 ?c14 ?k14 ?a15 ?l15 ?c15 ?k15 ?a16 ?l16 ?c16 ?k16 ?a17 ?l17 ?c17 ?k17 ?a18 ?l18 ?c18 ?k18 ?a19 ?l19 ?c19 ?k19 ?a20 ?l20 ?c20 ?k20 ?a21 ?l21 ?c21 ?k21 ?a22 ?l22 ?c22 ?k22 ?a23 ?l23 ?c23 ?k23 ?a24 ?l24 ?c24 ?k24 ?a25 ?l25 ?c25 ?k25 ?a26 ?l26 ?c26 ?k26 ?a27 ?l27 ?c27 ?k27 ?a28 ?l28 ?c28 ?k28 ?a29 ?l29 ?c29 ?k29 ?a30 ?l30 ?c30 ?k30 ?a31 ?l31 ?c31 ?k31 ?a32 ?l32 ?c32 ?k32 ?a33 ?l33 ?c33 ?k33 ?a34 ?l34 ?c34 ?k34 ?a35 ?l35 ?c35 ?k35 ?a36 ?l36 ?c36 ?k36 ?a37 ?l37 ?c37 ?k37 ?a38 ?l38 ?c38 ?k38 ?a39 ?l39 ?c39 ?k39 ?a40 ?l40 ?c40 ?k40 ?z_ValueError ?z_abs ?z_all ?z_bool ?z_enumerate ?z_int ?z_isinstance ?z_len ?z_list ?z_max ?z_min ?z_range ?z_reversed ?z_tuple ?y_SHORT ?y_LONG ?y_ONE ?u_ONE ?y_NOUGHT ?u_NOUGHT ?m_NoFraction ?x_NoFraction ?e_NoFraction ?m_NoPolynomial ?x_NoPolynomial ?e_NoPolynomial ?m_NoStretch ?x_NoStretch ?e_NoStretch ?m_NoRow ?x_NoRow ?e_NoRow ?m_NoPair ?x_NoPair ?e_NoPair ?m_NoBack ?x_NoBack ?e_NoBack ?m_NoForm ?x_NoForm ?e_NoForm ?m_NoParts ?x_NoParts ?e_NoParts ?m_NoDegree ?x_NoDegree ?e_NoDegree ?m_NoSteps ?x_NoSteps ?e_NoSteps ?m_NoBox ?x_NoBox ?e_NoBox ?m_NoGain ?x_NoGain ?e_NoGain ?m_NoText ?x_NoText ?e_NoText ?m_NoLine ?x_NoLine ?e_NoLine ?m_NoName ?x_NoName ?e_NoName ?m_NoDeed ?x_NoDeed ?e_NoDeed ?m_RestError ?x_RestError ?e_RestError ?kt_NoPolynomial
    (case a0 => k_is); (case l0 => k_is); (case c0 => k_is); (case k0 => k_is)
    (case a1 => k_is); (case l1 => k_is); (case c1 => k_is); (case k1 => k_is)
    (case a2 => k_is); (case l2 => k_is); (case c2 => k_is); (case k2 => k_is)
    (case a3 => k_is); (case l3 => k_is); (case c3 => k_is); (case k3 => k_is)
    (case a4 => k_is); (case l4 => k_is); (case c4 => k_is); (case k4 => k_is)
    (case a5 => k_is); (case l5 => k_is); (case c5 => k_is); (case k5 => k_is)
    (case a6 => k_is); (case l6 => k_is); (case c6 => k_is); (case k6 => k_is)
    (case a7 => k_is); (case l7 => k_is); (case c7 => k_is); (case k7 => k_is)
    (case a8 => k_is); (case l8 => k_is); (case c8 => k_is); (case k8 => k_is)
    (case a9 => k_is); (case l9 => k_is); (case c9 => k_is); (case k9 => k_is)
    (case a10 => k_is); (case l10 => k_is); (case c10 => k_is); (case k10 => k_is)
    (case a11 => k_is); (case l11 => k_is); (case c11 => k_is); (case k11 => k_is)
    (case a12 => k_is); (case l12 => k_is); (case c12 => k_is); (case k12 => k_is)
    (case a13 => k_is); (case l13 => k_is); (case c13 => k_is); (case k13 => k_is)
    (case a14 => k_is); (case l14 => k_is); (case c14 => k_is); (case k14 => k_is)
    (case a15 => k_is); (case l15 => k_is); (case c15 => k_is); (case k15 => k_is)
    (case a16 => k_is); (case l16 => k_is); (case c16 => k_is); (case k16 => k_is)
    (case a17 => k_is); (case l17 => k_is); (case c17 => k_is); (case k17 => k_is)
    (case a18 => k_is); (case l18 => k_is); (case c18 => k_is); (case k18 => k_is)
    (case a19 => k_is); (case l19 => k_is); (case c19 => k_is); (case k19 => k_is)
    (case a20 => k_is); (case l20 => k_is); (case c20 => k_is); (case k20 => k_is)
    (case a21 => k_is); (case l21 => k_is); (case c21 => k_is); (case k21 => k_is)
    (case a22 => k_is); (case l22 => k_is); (case c22 => k_is); (case k22 => k_is)
    (case a23 => k_is); (case l23 => k_is); (case c23 => k_is); (case k23 => k_is)
    (case a24 => k_is); (case l24 => k_is); (case c24 => k_is); (case k24 => k_is)
    (case a25 => k_is); (case l25 => k_is); (case c25 => k_is); (case k25 => k_is)
    (case a26 => k_is); (case l26 => k_is); (case c26 => k_is); (case k26 => k_is)
    (case a27 => k_is); (case l27 => k_is); (case c27 => k_is); (case k27 => k_is)
    (case a28 => k_is); (case l28 => k_is); (case c28 => k_is); (case k28 => k_is)
    (case a29 => k_is); (case l29 => k_is); (case c29 => k_is); (case k29 => k_is)
    (case a30 => k_is); (case l30 => k_is); (case c30 => k_is); (case k30 => k_is)
    (case a31 => k_is); (case l31 => k_is); (case c31 => k_is); (case k31 => k_is)
    (case a32 => k_is); (case l32 => k_is); (case c32 => k_is); (case k32 => k_is)
    (case a33 => k_is); (case l33 => k_is); (case c33 => k_is); (case k33 => k_is)
    (case a34 => k_is); (case l34 => k_is); (case c34 => k_is); (case k34 => k_is)
    (case a35 => k_is); (case l35 => k_is); (case c35 => k_is); (case k35 => k_is)
    (case a36 => k_is); (case l36 => k_is); (case c36 => k_is); (case k36 => k_is)
    (case a37 => k_is); (case l37 => k_is); (case c37 => k_is); (case k37 => k_is)
    (case a38 => k_is); (case l38 => k_is); (case c38 => k_is); (case k38 => k_is)
    (case a39 => k_is); (case l39 => k_is); (case c39 => k_is); (case k39 => k_is)
    (case a40 => k_is); (case l40 => k_is); (case c40 => k_is); (case k40 => k_is)
    (case z_ValueError => k_is)
    (case z_abs => k_is)
    (case z_all => k_is)
    (case z_bool => k_is)
    (case z_enumerate => k_is)
    (case z_int => k_is)
    (case z_isinstance => k_is)
    (case z_len => k_is)
    (case z_list => k_is)
    (case z_max => k_is)
    (case z_min => k_is)
    (case z_range => k_is)
    (case z_reversed => k_is)
    (case z_tuple => k_is)
    (case y_SHORT => k_is)
    (case y_LONG => k_is)
    (case y_ONE => k_is); (case u_ONE => k_is)
    (case y_NOUGHT => k_is); (case u_NOUGHT => k_is)
    (case m_NoFraction => k_is); (case x_NoFraction => k_exc); (case e_NoFraction => (refine ⟨?_, ?_, ?_, ?_, ?_, ?_⟩ <;> first | k_is | kernel_rfl))
    (case m_NoPolynomial => k_is); (case x_NoPolynomial => k_exc); (case e_NoPolynomial => (refine ⟨?_, ?_, ?_, ?_, ?_, ?_⟩ <;> first | k_is | kernel_rfl))
    (case m_NoStretch => k_is); (case x_NoStretch => k_exc); (case e_NoStretch => (refine ⟨?_, ?_, ?_, ?_, ?_, ?_⟩ <;> first | k_is | kernel_rfl))
    (case m_NoRow => k_is); (case x_NoRow => k_exc); (case e_NoRow => (refine ⟨?_, ?_, ?_, ?_, ?_, ?_⟩ <;> first | k_is | kernel_rfl))
    (case m_NoPair => k_is); (case x_NoPair => k_exc); (case e_NoPair => (refine ⟨?_, ?_, ?_, ?_, ?_, ?_⟩ <;> first | k_is | kernel_rfl))
    (case m_NoBack => k_is); (case x_NoBack => k_exc); (case e_NoBack => (refine ⟨?_, ?_, ?_, ?_, ?_, ?_⟩ <;> first | k_is | kernel_rfl))
    (case m_NoForm => k_is); (case x_NoForm => k_exc); (case e_NoForm => (refine ⟨?_, ?_, ?_, ?_, ?_, ?_⟩ <;> first | k_is | kernel_rfl))
    (case m_NoParts => k_is); (case x_NoParts => k_exc); (case e_NoParts => (refine ⟨?_, ?_, ?_, ?_, ?_, ?_⟩ <;> first | k_is | kernel_rfl))
    (case m_NoDegree => k_is); (case x_NoDegree => k_exc); (case e_NoDegree => (refine ⟨?_, ?_, ?_, ?_, ?_, ?_⟩ <;> first | k_is | kernel_rfl))
    (case m_NoSteps => k_is); (case x_NoSteps => k_exc); (case e_NoSteps => (refine ⟨?_, ?_, ?_, ?_, ?_, ?_⟩ <;> first | k_is | kernel_rfl))
    (case m_NoBox => k_is); (case x_NoBox => k_exc); (case e_NoBox => (refine ⟨?_, ?_, ?_, ?_, ?_, ?_⟩ <;> first | k_is | kernel_rfl))
    (case m_NoGain => k_is); (case x_NoGain => k_exc); (case e_NoGain => (refine ⟨?_, ?_, ?_, ?_, ?_, ?_⟩ <;> first | k_is | kernel_rfl))
    (case m_NoText => k_is); (case x_NoText => k_exc); (case e_NoText => (refine ⟨?_, ?_, ?_, ?_, ?_, ?_⟩ <;> first | k_is | kernel_rfl))
    (case m_NoLine => k_is); (case x_NoLine => k_exc); (case e_NoLine => (refine ⟨?_, ?_, ?_, ?_, ?_, ?_⟩ <;> first | k_is | kernel_rfl))
    (case m_NoName => k_is); (case x_NoName => k_exc); (case e_NoName => (refine ⟨?_, ?_, ?_, ?_, ?_, ?_⟩ <;> first | k_is | kernel_rfl))
    (case m_NoDeed => k_is); (case x_NoDeed => k_exc); (case e_NoDeed => (refine ⟨?_, ?_, ?_, ?_, ?_, ?_⟩ <;> first | k_is | kernel_rfl))
    (case m_RestError => k_is); (case x_RestError => k_exc); (case e_RestError => (refine ⟨?_, ?_, ?_, ?_, ?_, ?_⟩ <;> first | k_is | kernel_rfl))
    (case kt_NoPolynomial => (refine ⟨?_, ?_, ?_, ?_, ?_, ?_, ?_, ?_, ?_, ?_, ?_, ?_, ?_, ?_, ?_, ?_, ?_, ?_, ?_⟩ <;> first | kernel_rfl | (refine ⟨?_, ?_, ?_, ?_, ?_, ?_⟩ <;> first | k_is | kernel_rfl)))
