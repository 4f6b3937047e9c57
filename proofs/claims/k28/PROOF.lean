import PyProof.Rows.All
import Wide.All
import OpenK.AllK
import Wide.FinOn
import PyProof.EqAt
import PyProof.EqKinds
import PyProof.TupleCall
import KE.KTryMore
import KE.KIsNot
import PyProof.MeetsStr
import PyProof.Rows.RuleM_int
import PyProof.CompFree
import PyProof.WalksEnum
import PyProof.EnumMake
import PyProof.NeKinds
import PyProof.ConsumeWalk
import PyProof.CompMap
import PyProof.Rows.EqBoolInt
import KE.IntBitsLaws
import PyProof.ZipIter
import PyProof.Rows.ZipGen
import PyProof.MinMaxWalk
import PyProof.WalkInts
import PyProof.Rows.CallKwBuiltin
import PyProof.CompUse
import KE.KRevIter
import PyProof.Rows.Range3
import PyProof.NsDelKeeps
import PyProof.SumAny
import PyProof.TupleIter
import PyProof.WalksMore
import PyProof.ListRange
import PyProof.CollectStr
import PyProof.TupleOfStr
import PySem.Challenge.RW_restward_k28_steep_tables
set_option Elab.async false
set_option linter.all false
-- CHANGE: your row's module here, as the last of these rows
set_option maxRecDepth 100000
namespace L2
open PySem PySem.Spec PyProof.Rows
abbrev Key := Sum Int Str
def ba4 : Key → Value → Bool
  | .inl k, v => Value.isInt k v
  | .inr x, v => Value.isStrOf x v
def bh8 (w : World) : Key → Int
  | .inl k => hashInt k
  | .inr x => hashStr w x
theorem C6 : ∀ {k : Key} {v : Value}, ba4 k v = true → (∃ i t, k = Sum.inl i ∧ v = Value.int i t) ∨ (∃ x t, k = Sum.inr x ∧ v = Value.str x t)
  | .inl i, v, h => by
    obtain ⟨t, e⟩ := Value.isInt_shape (k := i) (v := v) h
    exact .inl ⟨i, t, rfl, e⟩
  | .inr x, v, h => by
    obtain ⟨t, e⟩ := Value.isStrOf_shape (x := x) (v := v) h
    exact .inr ⟨x, t, rfl, e⟩
theorem be2 (a b : Int) : decide ((Sum.inl a : Key) = Sum.inl b) = (a == b) := by
  by_cases e : a = b
  · subst e; simp
  · have h : ¬ (Sum.inl a : Key) = Sum.inl b := fun q => e (Sum.inl.inj q)
    rw [decide_eq_false h]
    exact (beq_eq_false_iff_ne.mpr e).symm
theorem bd9 (a b : Str) : decide ((Sum.inr a : Key) = Sum.inr b) = decide (a = b) := by
  by_cases e : a = b
  · subst e; simp
  · have h : ¬ (Sum.inr a : Key) = Sum.inr b := fun q => e (Sum.inr.inj q)
    rw [decide_eq_false h, decide_eq_false e]
theorem be1 (a : Int) (b : Str) : decide ((Sum.inl a : Key) = Sum.inr b) = false := decide_eq_false (fun q => nomatch q)
theorem be0 (a : Str) (b : Int) : decide ((Sum.inr a : Key) = Sum.inl b) = false := decide_eq_false (fun q => nomatch q)
def az8 (prog : Program) (w : World) : PySem.KeyKind prog w Key where
  is := ba4
  hash := bh8 w
  inj := fun v a b ha hb => by
    rcases C6 ha with ⟨i, t, rfl, rfl⟩ | ⟨x, t, rfl, rfl⟩
    · rcases C6 hb with ⟨j, u, rfl, e⟩ | ⟨y, u, rfl, e⟩
      · injection e with e1 _; rw [e1]
      · exact nomatch e
    · rcases C6 hb with ⟨j, u, rfl, e⟩ | ⟨y, u, rfl, e⟩
      · exact nomatch e
      · injection e with e1 _; rw [e1]
  byValue := fun k v h => by
    rcases C6 h with ⟨i, t, rfl, rfl⟩ | ⟨x, t, rfl, rfl⟩ <;> rfl
  pyHash := fun hv h => by
    rcases C6 hv with ⟨i, t, rfl, rfl⟩ | ⟨x, t, rfl, rfl⟩
    · exact wpAny_pyHash_int h
    · exact wpAny_pyHash_str h
  eqBool := fun hu hv h => by
    rcases C6 hu with ⟨i, t, rfl, rfl⟩ | ⟨x, t, rfl, rfl⟩
    · rcases C6 hv with ⟨j, u, rfl, rfl⟩ | ⟨y, u, rfl, rfl⟩
      · rw [be2] at h; exact wpAny_eqBool_int h
      · rw [be1] at h; exact SeqAt.EqAt.int_str i t y u _ _ _ _ h
    · rcases C6 hv with ⟨j, u, rfl, rfl⟩ | ⟨y, u, rfl, rfl⟩
      · rw [be0] at h; exact SeqAt.EqAt.str_int x t j u _ _ _ _ h
      · rw [bd9] at h; exact wpAny_eqBool_str h
  «strs» := fun k x t v h => by
    rcases C6 h with ⟨i, u, rfl, e⟩ | ⟨y, u, rfl, e⟩
    · exact nomatch e
    · injection e with e1 _
      subst e1
      cases v <;> rfl
inductive V where
  | non | bl (b : Bool) | int (i : Int) | str (x : Str) | byt (b : Array UInt8) | flt (b : UInt64) | ref (a : Addr) | ty (n : String)
  deriving DecidableEq
def z9 : V → Value → Prop
  | .non, u => u = Value.none
  | .bl b, u => u = Value.bool b
  | .int i, u => ∃ t, u = Value.int i t
  | .str x, u => ∃ t, u = Value.str x t
  | .byt b, u => ∃ t, u = Value.bytes b t
  | .flt b, u => ∃ t, u = Value.float b t
  | .ref a, u => u = Value.ref a
  | .ty n, u => u = Value.type n
abbrev t0 : List V → List Value → Prop := Paired z9
theorem t0.length {xs : List V} {us : List Value} (r : t0 xs us) : xs.length = us.length := Paired.length r
theorem t0.get : ∀ {xs : List V} {us : List Value} {i : Nat} {x : V}, t0 xs us → xs[i]? = some x → ∃ u, us[i]? = some u ∧ z9 x u
  | _, _, _, _, .nil, e => by simp at e
  | _, _, 0, _, .cons r _, e => by simp at e; subst e; exact ⟨_, rfl, r⟩
  | _, _, i + 1, x, .cons _ t, e => by
    obtain ⟨u, h1, h2⟩ := t0.get (i := i) (x := x) t (by simpa using e)
    exact ⟨u, by simpa using h1, h2⟩
theorem t0.set {x : V} {u : Value} (r : z9 x u) : ∀ {xs : List V} {us : List Value} (i : Nat), t0 xs us → t0 (xs.set i x) (us.set i u)
  | _, _, _, .nil => .nil
  | _, _, 0, .cons _ t => .cons r t
  | _, _, i + 1, .cons q t => .cons q (t0.set r i t)
theorem t0.append : ∀ {xs ys : List V} {us ws : List Value}, t0 xs us → t0 ys ws → t0 (xs ++ ys) (us ++ ws)
  | _, _, _, _, .nil, s => s
  | _, _, _, _, .cons r t, s => .cons r (t0.append t s)
theorem t0.take : ∀ {xs : List V} {us : List Value} (n : Nat), t0 xs us → t0 (xs.take n) (us.take n)
  | _, _, 0, _ => .nil
  | _, _, _ + 1, .nil => .nil
  | _, _, n + 1, .cons r t => .cons r (t0.take n t)
theorem t0.drop : ∀ {xs : List V} {us : List Value} (n : Nat), t0 xs us → t0 (xs.drop n) (us.drop n)
  | _, _, 0, r => r
  | _, _, _ + 1, .nil => .nil
  | _, _, n + 1, .cons _ t => t0.drop n t
def bf3 : Option V → Option Value → Prop
  | some v, some u => z9 v u
  | none, none => True
  | _, _ => False
def KV {κ : Type} : List (κ × V) → List (κ × Value) → Prop := Paired fun (p : κ × V) (q : κ × Value) => p.1 = q.1 ∧ z9 p.2 q.2
def kV : Key → V
  | .inl i => .int i
  | .inr x => .str x
inductive HO where
  /-- a list -/
  | lst (xs : List V)
  /-- a tuple (never changes) -/
  | tup (xs : List V)
  /-- a dict whose keys are ints and texts; one whose keys are tuples of ints and texts (the empty one is both) -/
  | dK (kvs : List (Key × V)) | dT (kvs : List (List Key × V))
  /-- a set of ints: its members, its size -/
  | set (S : Int → Bool) (n : Nat)
  /-- an instance of the class at C, its dict at dx, its attributes -/
  | ins (C dx : Addr) (fs : List (Str × V))
  /-- the dict of the instance at x -/
  | own (x : Addr)
  /-- the dict of an exception -/
  | xd (fs : List (Str × V))
  /-- a bound method, f of x -/
  | met (f x : Addr)
  /-- a range object lo, lo + 1, .. P2 hi -/
  | rng (lo hi : Int)
  /-- a thing that is known to the object (the script; a dict while a loop walks it): read, never written while it is so -/
  | frz (o : Obj) (u : HO)
  /-- a code object's table -/
  | tbl (ps : Array Value)
  /-- any other thing, by what is true of its one object (a def of one's own: SetO a S n := HO.ext fun h => ..) -/
  | ext (φ : Heap → Prop)
abbrev Hp := Addr → Option HO
def upd (H : Hp) (a : Addr) (o : HO) : Hp := fun b => if b = a then some o else H b
theorem d5 {H : Hp} {a : Addr} {o : HO} : upd H a o a = some o := by unfold upd; rw [if_pos rfl]
theorem i0 {H : Hp} {a b : Addr} {o : HO} (h : b ≠ a) : upd H a o b = H b := by unfold upd; rw [if_neg h]
theorem ba3 {H : Hp} {a b : Addr} {o u : HO} (h : H a = some o) (h' : H b = some u) (d : o ≠ u) : a ≠ b := by
  intro e; subst e; rw [h] at h'; exact d (Option.some.inj h')
theorem i6 {H : Hp} {a b : Addr} {o : HO} (h : H a = some o) (h' : H b = none) : a ≠ b := by
  intro e; subst e; rw [h] at h'; cases h'
section
variable (P : Program) (w : World)
def F4 (H : Hp) (h : Heap) (a : Addr) : HO → Prop
  | .lst xs => xs.length ≤ sizeLine ∧ ∃ (its : List Value) (n : Nat), t0 xs its ∧ h.get? a = some { cls := .type "list", data := .seq its.toArray n }
  | .tup xs => xs.length ≤ sizeLine ∧ ∃ its : List Value, t0 xs its ∧ IsTup h a its.toArray
  | .dK kvs => kvs.length ≤ sizeLine ∧ (a == sysModules) = false ∧ ∃ vs, KV kvs vs ∧ h.DictOf (az8 P w) a vs
  | .dT kvs => kvs.length ≤ sizeLine ∧ (a == sysModules) = false ∧ ∃ xs : List (List Key × Addr × Value),
      Paired (fun (p : List Key × V) (q : List Key × Addr × Value) => p.1 = q.1 ∧ H q.2.1 = some (.tup (p.1.map kV)) ∧ z9 p.2 q.2.2) kvs xs ∧
      ∃ o es ep, h.get? a = some o ∧ o.ExactDict ∧ o.data = .dict es ep ∧ es.toList = xs.map (entryOfKey (tupleKind (az8 P w))) ∧ (xs.map (·.1)).Nodup
  | .set S n => h.SetOf (intKind P w) a S n
  | .ins C dx fs => H dx = some (.own a) ∧ fs.length ≤ 1000 ∧ dx ≠ a ∧ h.get? a = some (PySem.W.instObj C dx) ∧
      ∃ mA, h.Ns1 dx mA ∧ (∀ f, bf3 (fs.lookup f) (mA f)) ∧ PySem.Within mA (fs.map (·.1))
  | .own _ => ∃ o, h.get? a = some o
  | .xd fs => ∃ mA, h.Ns1 a mA ∧ ∀ f, bf3 (fs.lookup f) (mA f)
  | .rng lo hi => ∃ t u v, h.get? a = some { cls := .type "range", data := .fields #[.int lo t, .int hi u, .int 1 v] }
  | .frz o u => h.get? a = some o ∧ F4 H h a u
  | .tbl ps => h.get? a = some { cls := .none, data := .fields ps }
  | .met f x => h.get? a = some (PySem.W.methodObj (.ref f) (.ref x))
  | .ext φ => φ h ∧ (∃ o, h.get? a = some o) ∧ ∀ h1 h2 : Heap, φ h1 → (∀ o, h1.get? a = some o → h2.get? a = some o) → φ h2
def HOk (H : Hp) (h : Heap) : Prop := ∀ a o, H a = some o → F4 P w H h a o
end
section
variable {P : Program} {w : World} {H H' : Hp} {h h' : Heap} {a : Addr} {o : HO}
theorem F4.lt (x : F4 P w H h a o) : a < h.objs.size := by
  cases o with
  | lst xs => obtain ⟨_, _, _, _, e⟩ := x; exact Heap.lt_size e
  | tup xs => obtain ⟨_, _, _, p⟩ := x; exact p.lt
  | dK kvs => obtain ⟨_, _, _, _, o, _, _, e, _⟩ := x; exact Heap.lt_size e
  | dT kvs => obtain ⟨_, _, _, _, o, _, _, e, _⟩ := x; exact Heap.lt_size e
  | set S n => obtain ⟨o, _, _, _, e, _⟩ := x; exact Heap.lt_size e
  | ins C dx fs => obtain ⟨_, _, _, e, _⟩ := x; exact Heap.lt_size e
  | own y => obtain ⟨_, e⟩ := x; exact Heap.lt_size e
  | xd fs => obtain ⟨_, ⟨_, _, _, e, _⟩, _⟩ := x; exact Heap.lt_size e
  | rng lo hi => obtain ⟨_, _, _, e⟩ := x; exact Heap.lt_size e
  | frz ob u => obtain ⟨e, _⟩ := x; exact Heap.lt_size e
  | tbl ps => exact Heap.lt_size (show h.get? a = some _ from x)
  | met f y => exact Heap.lt_size (show h.get? a = some _ from x)
  | ext φ => obtain ⟨_, ⟨_, e⟩, _⟩ := x; exact Heap.lt_size e
theorem Paired.mapP {α β : Type} {F G : α → β → Prop} : ∀ {l₁ : List α} {l₂ : List β}, Paired F l₁ l₂ → (∀ a b, F a b → G a b) → Paired G l₁ l₂
  | _, _, .nil, _ => .nil
  | _, _, .cons r t, f => .cons (f _ _ r) (Paired.mapP t f)
theorem F4.stay (x : F4 P w H h a o) (k : ∀ b u, (b = a ∨ H b = some (.own a)) → h.get? b = some u → h'.get? b = some u)
    (ho : ∀ b, H b = some (.own a) → H' b = some (.own a)) (ht : ∀ b xs, H b = some (.tup xs) → H' b = some (.tup xs)) : F4 P w H' h' a o := by
  induction o with
  | lst xs => obtain ⟨z, its, n, r, e⟩ := x; exact ⟨z, its, n, r, k _ _ (.inl rfl) e⟩
  | tup xs => obtain ⟨z, its, r, ob, e, c⟩ := x; exact ⟨z, its, r, ob, k _ _ (.inl rfl) e, c⟩
  | dK kvs => obtain ⟨z, y, vs, r, ob, es, ep, e, c⟩ := x; exact ⟨z, y, vs, r, ob, es, ep, k _ _ (.inl rfl) e, c⟩
  | dT kvs =>
    obtain ⟨z, y, xs, r, ob, es, ep, e, c⟩ := x
    exact ⟨z, y, xs, Paired.mapP r fun p q z => ⟨z.1, ht _ _ z.2.1, z.2.2⟩, ob, es, ep, k _ _ (.inl rfl) e, c⟩
  | set S n => obtain ⟨ob, es, ep, t, e, c⟩ := x; exact ⟨ob, es, ep, t, k _ _ (.inl rfl) e, c⟩
  | ins C dx fs =>
    obtain ⟨d, z, ne, e, mA, ⟨od, es, ep, e2, c⟩, r⟩ := x
    exact ⟨ho _ d, z, ne, k _ _ (.inl rfl) e, mA, ⟨od, es, ep, k _ _ (.inr d) e2, c⟩, r⟩
  | own y => obtain ⟨ob, e⟩ := x; exact ⟨ob, k _ _ (.inl rfl) e⟩
  | xd fs => obtain ⟨mA, ⟨od, es, ep, e, c⟩, r⟩ := x; exact ⟨mA, ⟨od, es, ep, k _ _ (.inl rfl) e, c⟩, r⟩
  | rng lo hi => obtain ⟨t, u, v, e⟩ := x; exact ⟨t, u, v, k _ _ (.inl rfl) e⟩
  | frz ob u ih => obtain ⟨e, q⟩ := x; exact ⟨k _ _ (.inl rfl) e, ih q⟩
  | tbl ps =>
    have e : h.get? a = some { cls := .none, data := .fields ps } := x
    show h'.get? a = some { cls := .none, data := .fields ps }
    exact k a _ (.inl rfl) e
  | met f y =>
    have e : h.get? a = some (PySem.W.methodObj (.ref f) (.ref y)) := x
    show h'.get? a = some (PySem.W.methodObj (.ref f) (.ref y))
    exact k a _ (.inl rfl) e
  | ext φ => obtain ⟨p, ⟨o, e⟩, st⟩ := x; exact ⟨st _ _ p fun o q => k _ _ (.inl rfl) q, ⟨o, k _ _ (.inl rfl) e⟩, st⟩
theorem HOk.lt (x : HOk P w H h) (e : H a = some o) : a < h.objs.size := (x a o e).lt
theorem HOk.fresh (x : HOk P w H h) (e : h.objs.size ≤ a) : H a = none := by
  cases q : H a with
  | none => rfl
  | some u => exact absurd (Nat.lt_of_lt_of_le (x.lt q) e) (Nat.lt_irrefl _)
theorem HOk.kept (x : HOk P w H h) (k : ∀ b u, h.get? b = some u → h'.get? b = some u) : HOk P w H h' := fun a o e =>
  (x a o e).stay (fun b u _ q => k b u q) (fun _ q => q) fun _ _ q => q
theorem HOk.laid (x : HOk P w H h) (k : ∀ b u, h.get? b = some u → h'.get? b = some u) (hp : h.objs.size ≤ a) (new : F4 P w (upd H a o) h' a o) : HOk P w (upd H a o) h' := fun b u e => by
  have hn := x.fresh hp
  by_cases hb : b = a
  · subst hb; rw [d5] at e; cases e; exact new
  · rw [i0 hb] at e
    exact (x b u e).stay (fun c v _ q => k c v q) (fun c q => by rw [i0 (i6 q hn)]; exact q) fun c xs q => by rw [i0 (i6 q hn)]; exact q
end
def Rd (H : Hp) (a : Addr) (u : HO) : Prop := H a = some u ∨ ∃ o, H a = some (.frz o u)
theorem Rd.ok {P : Program} {w : World} {H : Hp} {h : Heap} {a : Addr} {u : HO} (r : Rd H a u) (x : HOk P w H h) : F4 P w H h a u := by
  rcases r with r | ⟨o, r⟩
  · exact x a u r
  · obtain ⟨_, q⟩ := x a _ r
    exact q
def Mut : Option HO → Prop
  | some (.lst _) => True
  | some (.dK _) => True
  | some (.dT _) => True
  | some (.set _ _) => True
  | some (.ins _ _ _) => True
  | some (.ext _) => True
  | _ => False
section
variable {P : Program} {w : World} {H : Hp} {h h' : Heap} {x e : Addr} {o' : HO}
theorem HOk.write (ok : HOk P w H h) (mu : Mut (H x)) (he : e = x ∨ H e = some (.own x)) (k : ∀ b u, b ≠ e → h.get? b = some u → h'.get? b = some u) (heo : ∃ u, h'.get? e = some u)
    (new : F4 P w (upd H x o') h' x o') : HOk P w (upd H x o') h' := fun b u q => by
  have nown : ∀ c y, H c = some (.own y) → c ≠ x := fun c y r z => by subst z; rw [r] at mu; exact mu
  have ntup : ∀ c xs, H c = some (.tup xs) → c ≠ x := fun c xs r z => by subst z; rw [r] at mu; exact mu
  by_cases hb : b = x
  · subst hb; rw [d5] at q; cases q; exact new
  · rw [i0 hb] at q
    by_cases hbe : b = e
    · have q' : H b = some (.own x) := by
        rcases he with z | z
        · exact absurd (hbe.trans z) hb
        · rw [hbe]; exact z
      rw [q] at q'; cases q'
      obtain ⟨v, hv⟩ := heo
      exact ⟨v, by rw [hbe]; exact hv⟩
    · refine (ok b u q).stay (fun c v hc r => k c v ?_ r) (fun c r => by rw [i0 (nown c b r)]; exact r) fun c xs r => by rw [i0 (ntup c xs r)]; exact r
      rcases hc with rfl | hc
      · exact hbe
      · rintro rfl
        rcases he with z | z
        · exact nown c b hc z
        · rw [hc] at z; cases z; exact hb rfl
end
structure Un (fs ex : List Addr) (H H' : Hp) (h h' : Heap) : Prop where
  keep : ∀ b o, h.get? b = some o → H b = none → b ∉ fs → b ∉ ex → h'.get? b = some o
  slot : ∀ b o, h.get? b = some o → H b = none → b ∈ fs → b ∉ ex → ∃ sl, h'.get? b = some { o with slots := sl }
  free : ∀ b o, h.get? b = some o → H b = none → b ∉ ex → H' b = none
  there : ∀ b o, h.get? b = some o → b ∉ ex → ∃ o', h'.get? b = some o'
  tups : ∀ b xs, H b = some (.tup xs) → H' b = some (.tup xs)
  frzs : ∀ b o u, H b = some (.frz o u) → H' b = some (.frz o u)
  tbls : ∀ b ps, H b = some (.tbl ps) → ∃ more, H' b = some (.tbl (ps ++ more))
section
variable {fs fs' ex ex' : List Addr} {H H1 H2 : Hp} {h h1 h2 h' : Heap} {a x e : Addr} {o : HO}
theorem Un.any (u : Un fs ex H H1 h h1) {b : Addr} {ob : Obj} (q : h.get? b = some ob) (n : H b = none) (hx : b ∉ ex) : ∃ sl, h1.get? b = some { ob with slots := sl } := by
  by_cases hb : b ∈ fs
  · exact u.slot b ob q n hb hx
  · exact ⟨ob.slots, u.keep b ob q n hb hx⟩
theorem Un.kept (k : ∀ b u, h.get? b = some u → h'.get? b = some u) : Un fs ex H H h h' :=
  ⟨fun b ob q _ _ _ => k b ob q, fun b ob q _ _ _ => ⟨ob.slots, k b ob q⟩, fun _ _ _ n _ => n, fun b ob q _ => ⟨ob, k b ob q⟩, fun _ _ q => q, fun _ _ _ q => q, fun _ ps q => ⟨#[], by rw [q]; simp⟩⟩
theorem Un.refl : Un fs ex H H h h := Un.kept fun _ _ q => q
theorem Un.laid (k : ∀ b u, h.get? b = some u → h'.get? b = some u) (hp : h.objs.size ≤ a) (hn : H a = none) : Un fs ex H (upd H a o) h h' where
  keep := fun b u q _ _ _ => k b u q
  slot := fun b u q _ _ _ => ⟨u.slots, k b u q⟩
  free := fun b u q n _ => by rw [i0 (Nat.ne_of_lt (Nat.lt_of_lt_of_le (Heap.lt_size q) hp))]; exact n
  there := fun b u q _ => ⟨u, k b u q⟩
  tups := fun b xs q => by rw [i0 (i6 q hn)]; exact q
  frzs := fun b u xs q => by rw [i0 (i6 q hn)]; exact q
  tbls := fun b ps q => ⟨#[], by rw [i0 (i6 q hn), q]; simp⟩
theorem Un.write (mu : Mut (H x)) (he : e = x ∨ H e = some (.own x)) (k : ∀ b u, b ≠ e → h.get? b = some u → h'.get? b = some u) (heo : ∃ u, h'.get? e = some u) : Un fs ex H (upd H x o) h h' := by
  have hx : ∀ b, H b = none → b ≠ x := fun b n z => by subst z; rw [n] at mu; exact mu
  have hb : ∀ b, H b = none → b ≠ e := fun b n z => by
    subst z
    rcases he with r | r
    · exact hx b n r
    · rw [n] at r; cases r
  have hm : ∀ b u, H b = some u → ¬ Mut (some u) → b ≠ x := fun b u q nm z => by subst z; rw [q] at mu; exact nm mu
  refine ⟨fun b u q n _ _ => k b u (hb b n) q, fun b u q n _ _ => ⟨u.slots, k b u (hb b n) q⟩, fun b u q n _ => by rw [i0 (hx b n)]; exact n, fun b u q _ => ?_,
    fun b xs q => by rw [i0 (hm b _ q fun z => z)]; exact q, fun b u xs q => by rw [i0 (hm b _ q fun z => z)]; exact q, fun b ps q => ⟨#[], by rw [i0 (hm b _ q fun z => z), q]; simp⟩⟩
  by_cases hbe : b = e
  · subst hbe; exact heo
  · exact ⟨u, k b u hbe q⟩
end
def trk (h : Heap) (H : Hp) : List Addr := (List.range h.objs.size).filter fun a => (H a).isSome
def aA4 (h : Heap) (H : Hp) : Heap := PySem.W.hideAll h (trk h H)
theorem aN8 (h : Heap) (H : Hp) : (aA4 h H).objs.size = h.objs.size := PySem.W.hideAll_size _ _
theorem aT6 {h : Heap} {H : Hp} {b : Addr} {o : Obj} (e : h.get? b = some o) (n : H b = none) : (aA4 h H).get? b = some o :=
  PySem.W.hideAll_get _ e fun hm => by
    have q : (H b).isSome = true := (List.mem_filter.mp hm).2
    rw [n] at q; simp at q
theorem aX9 {h : Heap} {H : Hp} {b : Addr} {o : Obj} (e : (aA4 h H).get? b = some o) : h.get? b = some o ∧ H b = none := by
  have e' : h.get? b = some o := PySem.W.of_hideAll (trk h H) e
  refine ⟨e', ?_⟩
  cases q : H b with
  | none => rfl
  | some x =>
    have hm : b ∈ trk h H := List.mem_filter.mpr ⟨List.mem_range.mpr (Heap.lt_size e'), by simp [q]⟩
    have z : (aA4 h H).get? b = none := PySem.W.hideAll_none (trk h H) hm
    rw [z] at e; cases e
def aZ1 (g h : Heap) (L : Addr) : List (Addr × Obj) := (List.range h.objs.size).filterMap fun a => if a = L ∨ (g.get? a).isSome = true then none else (h.get? a).map fun o => (a, o)
def T1 (g h : Heap) (L d : Addr) : List (Addr × Obj) := (aZ1 g h L).filter fun p => decide (p.1 ≠ d)
structure Mod (K : PySem.W.Frag) (mg : Str → Option Value) (base : Heap) : Prop where
  kin : K.In base
  glob : base.Ns mainGlobals mg
  blt : ∃ mb, base.Ns builtinsNs mb ∧ ∀ x : Str, x ≠ "__name__" → mb x = bootBuiltins x
  nolimit : base.NoLimit
/-- the context: a def's body (or a comprehension's block) running. base: fixed through the whole law; s₀, H₀: the entry; outer: the frames whose slots others may change (a def's callers); stack: all frames that run;
   ex: iterators that were made ahead of the entry and are walked here (a comprehension's); fn: the names whose cells were made at the entry (a def: all; a comprehension's block: its own); calm: not within an except suite; pn: pins that every state bears; xe: what is wanted of an exception that leaves the code -/
structure Cx where
  prog : Program
  w : World
  K : PySem.W.Frag
  mg : Str → Option Value
  base : Heap
  A : Around
  N : List Str
  s₀ : Shared
  H₀ : Hp
  env : Env
  outer : List Env
  stack : List Env
  ex : List Addr
  fn : Str → Bool
  calm : Bool
  pn : List (Addr × Obj)
  xe : Value → Shared → Prop
def frs (l : List Env) : List Addr := l.filterMap (·.frame)
abbrev Cx.fs (X : Cx) : List Addr := frs X.outer
def Vis (sc : Scope) (x : Str) : Prop := sc.names.lookup x = some .local ∨ sc.names.lookup x = some .cell ∨ sc.names.lookup x = some .free
def Loc (sc : Scope) (x : Str) : Prop := sc.names.lookup x = some .local ∨ sc.names.lookup x = some .cell
def bi3 (env : Env) (h : Heap) (m : Str → Option Value) (x : Str) (u : Value) : Prop :=
  (env.kindOf x = some .local ∧ m x = some u) ∨ ((env.kindOf x = some .cell ∨ env.kindOf x = some .free) ∧ ∃ c, env.cells.lookup x = some c ∧ h.IsCell c (some u))
structure Cx.Ok (X : Cx) : Prop where
  mod : Mod X.K X.mg X.base
  kind : X.env.scope.kind = .function
  glob : X.env.globals = mainGlobals
  blt : X.env.builtins = builtinsNs
  above : X.s₀.heap.objs.size ≤ X.env.locals
  inj : ∀ x y c, X.env.cells.lookup x = some c → X.env.cells.lookup y = some c → x = y
  has : ∀ x, (X.env.kindOf x = some .cell ∨ X.env.kindOf x = some .free) → ∃ c, X.env.cells.lookup x = some c
  cab : ∀ x c, X.fn x = true → X.env.cells.lookup x = some c → X.s₀.heap.objs.size ≤ c
  hd : X.calm = true → X.A.handled = none
  frames : X.A.frames = some X.stack
  stk : X.stack = X.outer ∨ (X.stack = X.env :: X.outer ∧ X.env.frame = some X.env.locals)
  exf : ∀ b ∈ X.ex, b ≠ X.env.locals ∧ ∀ x c, X.env.cells.lookup x = some c → c ≠ b
  bs : ∀ b o, X.base.get? b = some o → X.s₀.heap.get? b = some o ∧ X.H₀ b = none
  bsz : X.base.objs.size ≤ X.s₀.heap.objs.size
  noex : ∀ b o, X.base.get? b = some o → b ∉ X.ex
  exfs : ∀ b ∈ X.ex, b ∉ X.fs
  funs : X.s₀.heap.FunFrames X.base X.outer
  frf : ∀ b ∈ X.fs, X.H₀ b = none
structure Inv (X : Cx) (pins : List (Addr × Obj)) (σ : List (Option V)) (H : Hp) (s : Shared) : Prop where
  ok : X.Ok
  os : s.os = X.s₀.os
  bare : AllBare s.gens
  base : Un X.fs X.ex X.H₀ H X.s₀.heap s.heap
  loc : ∃ m, s.heap.Ns X.env.locals m ∧ ∀ (i : Nat) (x : Str) (v : V), X.N[i]? = some x → σ[i]? = some (some v) → Vis X.env.scope x → ∃ u, z9 v u ∧ bi3 X.env s.heap m x u
  cell : ∀ x c, X.env.cells.lookup x = some c → ∃ v, s.heap.IsCell c v
  free : H X.env.locals = none
  freeC : ∀ x c, X.env.cells.lookup x = some c → H c = none
  pin : ∀ p ∈ X.pn ++ pins, s.heap.get? p.1 = some p.2 ∧ H p.1 = none ∧ p.1 ≠ X.env.locals ∧ p.1 ∉ X.fs ∧ ∀ v, p.2.data ≠ .cell v
  hok : HOk X.prog X.w H s.heap
  len : σ.length = X.N.length
section
variable {X : Cx} {pins : List (Addr × Obj)} {σ : List (Option V)} {H H' : Hp} {s : Shared} {h' : Heap}
theorem Cx.Ok.nofr (ok : X.Ok) {b : Addr} {o : Obj} (e : X.base.get? b = some o) : b ∉ X.fs := fun hb => by
  have := (ok.funs.mem hb).1
  rw [e] at this; cases this
theorem Inv.bs (I : Inv X pins σ H s) : ∀ b o, X.base.get? b = some o → s.heap.get? b = some o ∧ H b = none := fun b o e =>
  ⟨I.base.keep b o (I.ok.bs b o e).1 (I.ok.bs b o e).2 (I.ok.nofr e) (I.ok.noex b o e), I.base.free b o (I.ok.bs b o e).1 (I.ok.bs b o e).2 (I.ok.noex b o e)⟩
theorem Inv.bk (I : Inv X pins σ H s) : ∀ b o, X.base.get? b = some o → s.heap.get? b = some o := fun b o e => (I.bs b o e).1
theorem Inv.mod (I : Inv X pins σ H s) : Mod X.K X.mg X.base := I.ok.mod
theorem Inv.kIn (I : Inv X pins σ H s) : X.K.In s.heap := I.ok.mod.kin.keeps I.bk
theorem Inv.fr (I : Inv X pins σ H s) : ∃ m, Fr X.base X.env.locals s.heap m :=
  let ⟨m, hn, _⟩ := I.loc
  ⟨m, hn, I.bk, Nat.le_trans I.ok.bsz I.ok.above⟩
theorem Inv.lt (I : Inv X pins σ H s) : X.env.locals < s.heap.objs.size := let ⟨_, hn, _⟩ := I.loc; hn.lt
theorem Inv.sz (I : Inv X pins σ H s) : X.s₀.heap.objs.size ≤ s.heap.objs.size := Nat.le_trans I.ok.above (Nat.le_of_lt I.lt)
theorem Inv.nofs (I : Inv X pins σ H s) {a : Addr} (h : s.heap.objs.size ≤ a) : a ∉ X.fs := fun hb => by
  obtain ⟨_, o, ho, _⟩ := I.ok.funs.mem hb
  exact absurd (Nat.lt_of_lt_of_le (Heap.lt_size ho) (Nat.le_trans I.sz h)) (Nat.lt_irrefl _)
theorem Inv.cne (I : Inv X pins σ H s) : ∀ x c, X.env.cells.lookup x = some c → c ≠ X.env.locals := fun x c e z => by
  obtain ⟨v, o, ho, hd⟩ := I.cell x c e
  obtain ⟨m, ⟨o', es, ep, ho', hd', _⟩, _⟩ := I.loc
  rw [z, ho'] at ho; cases ho; rw [hd'] at hd; cases hd
theorem Inv.funs (I : Inv X pins σ H s) : s.heap.FunFrames X.base X.outer := by
  have all : ∀ (l : List Env), (∀ b ∈ frs l, b ∈ X.fs) → X.s₀.heap.FunFrames X.base l → s.heap.FunFrames X.base l := by
    intro l
    induction l with
    | nil => intro _ _; trivial
    | cons env r ih =>
      intro hs hl
      obtain ⟨hk, ⟨L, o, hf, hn, ho, hd⟩, hr⟩ := hl
      have hL : L ∈ X.fs := hs L (by unfold frs; rw [List.filterMap_cons, hf]; exact List.mem_cons_self)
      obtain ⟨sl, e⟩ := I.base.slot L o ho (I.ok.frf L hL) hL fun z => I.ok.exfs L z hL
      exact ⟨hk, ⟨L, _, hf, hn, e, hd⟩, ih (fun b hb => hs b (by unfold frs; rw [List.filterMap_cons, hf]; exact List.mem_cons_of_mem _ hb)) hr⟩
  exact all X.outer (fun _ hb => hb) I.ok.funs
theorem Inv.stack (I : Inv X pins σ H s) : s.heap.FunFrames X.base X.stack := by
  rcases I.ok.stk with e | ⟨e, hf⟩
  · rw [e]; exact I.funs
  · rw [e]
    obtain ⟨m, hn, _⟩ := I.loc
    refine .cons (by rw [I.ok.kind]; decide) hf hn ?_ I.funs
    exact Heap.get?_none_of_le (Nat.le_trans I.ok.bsz I.ok.above)
theorem Inv.stkSub (I : Inv X pins σ H s) : ∀ b ∈ frs X.stack, b ∈ X.env.locals :: X.fs := fun b hb => by
  rcases I.ok.stk with e | ⟨e, hf⟩
  · rw [e] at hb; exact List.mem_cons_of_mem _ hb
  · rw [e] at hb
    unfold frs at hb
    rw [List.filterMap_cons, hf] at hb
    exact hb
theorem Inv.stkFree (I : Inv X pins σ H s) : ∀ b ∈ frs X.stack, H b = none := fun b hb => by
  rcases List.mem_cons.mp (I.stkSub b hb) with e | hb
  · rw [e]; exact I.free
  · obtain ⟨_, o, ho, _⟩ := I.ok.funs.mem hb
    exact I.base.free b o ho (I.ok.frf b hb) fun z => I.ok.exfs b z hb
theorem Inv.step {g' : Array GenState} {t' : Nat} {d' : Drawn} {ch : List Addr} (I : Inv X pins σ H s)
    (hch : ∀ b ∈ ch, (b ∈ X.ex ∨ X.s₀.heap.objs.size ≤ b) ∧ b ≠ X.env.locals ∧ (∀ x c, X.env.cells.lookup x = some c → c ≠ b) ∧ ∀ p ∈ X.pn ++ pins, p.1 ≠ b)
    (keep : ∀ b o, b ≠ X.env.locals → b ∉ X.fs → b ∉ ch → s.heap.get? b = some o → H b = none → h'.get? b = some o)
    (slot : ∀ b o, b ≠ X.env.locals → b ∈ X.fs → b ∉ ch → s.heap.get? b = some o → H b = none → ∃ sl, h'.get? b = some { o with slots := sl }) (free : ∀ b o, b ∉ ch → s.heap.get? b = some o → H b = none → H' b = none)
    (there : ∀ b o, b ∉ ch → s.heap.get? b = some o → ∃ o', h'.get? b = some o')
    (tups : ∀ b xs, H b = some (.tup xs) → H' b = some (.tup xs)) (frzs : ∀ b o u, H b = some (.frz o u) → H' b = some (.frz o u)) (tbls : ∀ b ps, H b = some (.tbl ps) → ∃ more, H' b = some (.tbl (ps ++ more)))
    (ns : ∀ m, s.heap.Ns X.env.locals m → h'.Ns X.env.locals m) (hok : HOk X.prog X.w H' h') (hg : AllBare g') :
    Inv X pins σ H' { s with heap := h', gens := g', drawn := d', toks := t' } := by
  have neL : ∀ b o, X.s₀.heap.get? b = some o → b ≠ X.env.locals := fun b o e => Nat.ne_of_lt (Nat.lt_of_lt_of_le (Heap.lt_size e) I.ok.above)
  have neC : ∀ b o, X.s₀.heap.get? b = some o → b ∉ X.ex → b ∉ ch := fun b o e hx hb => by
    rcases (hch b hb).1 with z | z
    · exact hx z
    · exact absurd (Nat.lt_of_lt_of_le (Heap.lt_size e) z) (Nat.lt_irrefl _)
  have cellK : ∀ x c, X.env.cells.lookup x = some c → ∀ v, s.heap.IsCell c v → h'.IsCell c v := fun x c e v ⟨o, ho, hd⟩ => by
    have nch : c ∉ ch := fun z => (hch c z).2.2.1 x c e rfl
    by_cases hc : c ∈ X.fs
    · obtain ⟨sl, q⟩ := slot c o (I.cne x c e) hc nch ho (I.freeC x c e)
      exact ⟨_, q, hd⟩
    · exact ⟨o, keep c o (I.cne x c e) hc nch ho (I.freeC x c e), hd⟩
  refine ⟨I.ok, I.os, hg, ⟨fun b o e n hb hx => ?_, fun b o e n hb hx => ?_, fun b o e n hx => ?_, fun b o e hx => ?_, fun b xs e => tups b xs (I.base.tups b xs e), fun b o xs e => frzs b o xs (I.base.frzs b o xs e), fun b ps e => ?_⟩, ?_, fun x c e => ?_, ?_, fun x c e => ?_, fun p hp => ?_, hok, I.len⟩
  · exact keep b o (neL b o e) hb (neC b o e hx) (I.base.keep b o e n hb hx) (I.base.free b o e n hx)
  · obtain ⟨sl, e1⟩ := I.base.slot b o e n hb hx
    obtain ⟨sl', e2⟩ := slot b _ (neL b o e) hb (neC b o e hx) e1 (I.base.free b o e n hx)
    exact ⟨sl', e2⟩
  · obtain ⟨o', e1⟩ := I.base.there b o e hx
    exact free b o' (neC b o e hx) e1 (I.base.free b o e n hx)
  · obtain ⟨o', e1⟩ := I.base.there b o e hx
    exact there b o' (neC b o e hx) e1
  · obtain ⟨m1, e1⟩ := I.base.tbls b ps e
    obtain ⟨m2, e2⟩ := tbls b _ e1
    exact ⟨m1 ++ m2, by rw [e2, Array.append_assoc]⟩
  · obtain ⟨m, hn, hl⟩ := I.loc
    refine ⟨m, ns m hn, fun i x v e1 e2 e3 => ?_⟩
    obtain ⟨u, r, l⟩ := hl i x v e1 e2 e3
    refine ⟨u, r, ?_⟩
    rcases l with l | ⟨k, c, e, z⟩
    · exact .inl l
    · exact .inr ⟨k, c, e, cellK x c e _ z⟩
  · obtain ⟨v, z⟩ := I.cell x c e
    exact ⟨v, cellK x c e v z⟩
  · obtain ⟨m, ⟨o, _, _, ho, _⟩, _⟩ := I.loc
    exact free _ o (fun z => (hch _ z).2.1 rfl) ho I.free
  · obtain ⟨v, o, ho, hd⟩ := I.cell x c e
    exact free c o (fun z => (hch c z).2.2.1 x c e rfl) ho (I.freeC x c e)
  · obtain ⟨e, n, ne, nf, d⟩ := I.pin p hp
    have nch : p.1 ∉ ch := fun z => (hch p.1 z).2.2.2 p hp rfl
    exact ⟨keep p.1 p.2 ne nf nch e n, free p.1 p.2 nch e n, ne, nf, d⟩
theorem Inv.un {t' : Nat} (I : Inv X pins σ H s) (u : Un X.fs [] H H' s.heap h') (hok : HOk X.prog X.w H' h') : Inv X pins σ H' { s with heap := h', toks := t' } := by
  obtain ⟨m, ⟨o, es, ep, ho, r⟩, _⟩ := id I.loc
  obtain ⟨sl, hL⟩ := u.any ho I.free (by simp)
  exact I.step (g' := s.gens) (d' := s.drawn) (ch := []) (fun _ z => nomatch z) (fun b o _ hb _ e n => u.keep b o e n hb (by simp)) (fun b o _ hb _ e n => u.slot b o e n hb (by simp)) (fun b o _ e n => u.free b o e n (by simp)) (fun b o _ e => u.there b o e (by simp)) u.tups u.frzs u.tbls (fun m' hm => by
    obtain ⟨o', es', ep', ho', r'⟩ := hm
    rw [ho] at ho'; cases ho'
    exact ⟨_, es', ep', hL, r'⟩) hok I.bare
theorem Inv.call {g' : Array GenState} {t' : Nat} {d' : Drawn} {ch : List Addr} (I : Inv X pins σ H s) (u : Un (frs X.stack) ch H H' s.heap h') (hok : HOk X.prog X.w H' h') (hg : AllBare g')
    (hch : ∀ b ∈ ch, (b ∈ X.ex ∨ X.s₀.heap.objs.size ≤ b) ∧ b ≠ X.env.locals ∧ (∀ x c, X.env.cells.lookup x = some c → c ≠ b) ∧ ∀ p ∈ X.pn ++ pins, p.1 ≠ b) :
    Inv X pins σ H' { s with heap := h', gens := g', drawn := d', toks := t' } := by
  obtain ⟨m, ⟨o, es, ep, ho, r⟩, _⟩ := id I.loc
  obtain ⟨sl, hL⟩ := u.any ho I.free fun z => (hch _ z).2.1 rfl
  exact I.step (ch := ch) hch (fun b o hL hb hc e n => u.keep b o e n (fun z => (List.mem_cons.mp (I.stkSub b z)).elim hL hb) hc) (fun b o _ _ hc e n => u.any e n hc) (fun b o hc e n => u.free b o e n hc) (fun b o hc e => u.there b o e hc) u.tups u.frzs u.tbls (fun m' hm => by
    obtain ⟨o', es', ep', ho', r'⟩ := hm
    rw [ho] at ho'; cases ho'
    exact ⟨_, es', ep', hL, r'⟩) hok hg
theorem Inv.turned {t' : Nat} {it : Addr} (I : Inv X pins σ H s) (k : ∀ b o, b ≠ it → s.heap.get? b = some o → h'.get? b = some o) (hn : H it = none) (hL : it ≠ X.env.locals)
    (h1 : it ∈ X.ex ∨ X.s₀.heap.objs.size ≤ it) (h2 : ∀ x c, X.env.cells.lookup x = some c → c ≠ it) (h3 : ∀ p ∈ X.pn ++ pins, p.1 ≠ it) : Inv X pins σ H { s with heap := h', toks := t' } := by
  have nit : ∀ b u, H b = some u → b ≠ it := fun b u e z => by rw [z, hn] at e; cases e
  refine I.step (g' := s.gens) (d' := s.drawn) (ch := [it]) (fun b hb => ?_) (fun b o _ _ hc e _ => k b o (fun z => hc (by simp [z])) e) (fun b o _ _ hc e _ => ⟨o.slots, k b o (fun z => hc (by simp [z])) e⟩) (fun _ _ _ _ n => n)
    (fun b o hc e => ⟨o, k b o (fun z => hc (by simp [z])) e⟩) (fun _ _ e => e) (fun _ _ _ e => e) (fun b ps e => ⟨#[], by rw [e]; simp⟩) (fun m hm => ?_) (fun b u e => ?_) I.bare
  · have e : b = it := by simpa using hb
    subst e
    exact ⟨h1, hL, h2, h3⟩
  · obtain ⟨o, es, ep, ho, r⟩ := hm
    exact ⟨o, es, ep, k _ o (Ne.symm hL) ho, r⟩
  · refine (I.hok b u e).stay (fun c v hc q => k c v ?_ q) (fun _ q => q) fun _ _ q => q
    rcases hc with z | z
    · rw [z]; exact nit b u e
    · exact nit c _ z
theorem Inv.tok (I : Inv X pins σ H s) (t : Nat) : Inv X pins σ H { s with toks := t } := I.un (h' := s.heap) (t' := t) Un.refl I.hok
theorem Inv.kept {t' : Nat} (I : Inv X pins σ H s) (k : ∀ b u, s.heap.get? b = some u → h'.get? b = some u) : Inv X pins σ H { s with heap := h', toks := t' } := I.un (Un.kept k) (I.hok.kept k)
theorem Inv.laid {a : Addr} {o : HO} {t' : Nat} (I : Inv X pins σ H s) (k : ∀ b u, s.heap.get? b = some u → h'.get? b = some u) (hp : s.heap.objs.size ≤ a) (new : F4 X.prog X.w (upd H a o) h' a o) :
    Inv X pins σ (upd H a o) { s with heap := h', toks := t' } := I.un (Un.laid k hp (I.hok.fresh hp)) (I.hok.laid k hp new)
theorem Inv.write {x e : Addr} {o : HO} {t' : Nat} (I : Inv X pins σ H s) (mu : Mut (H x)) (he : e = x ∨ H e = some (.own x)) (k : ∀ b u, b ≠ e → s.heap.get? b = some u → h'.get? b = some u) (heo : ∃ u, h'.get? e = some u)
    (new : F4 X.prog X.w (upd H x o) h' x o) : Inv X pins σ (upd H x o) { s with heap := h', toks := t' } := I.un (Un.write mu he k heo) (I.hok.write mu he k heo new)
theorem Inv.weak {σ' : List (Option V)} (I : Inv X pins σ H s) (hl : σ'.length = σ.length) (w : ∀ (i : Nat) v, σ'[i]? = some (some v) → σ[i]? = some (some v)) : Inv X pins σ' H s :=
  ⟨I.ok, I.os, I.bare, I.base, let ⟨m, hn, hl'⟩ := I.loc; ⟨m, hn, fun i x v e1 e2 e3 => hl' i x v e1 (w i v e2) e3⟩, I.cell, I.free, I.freeC, I.pin, I.hok, hl.trans I.len⟩
theorem Inv.pins_of {pins' : List (Addr × Obj)} (I : Inv X pins σ H s) (h : ∀ p ∈ pins', s.heap.get? p.1 = some p.2 ∧ H p.1 = none ∧ p.1 ≠ X.env.locals ∧ p.1 ∉ X.fs ∧ ∀ v, p.2.data ≠ .cell v) : Inv X pins' σ H s :=
  ⟨I.ok, I.os, I.bare, I.base, I.loc, I.cell, I.free, I.freeC, fun p hp => (List.mem_append.mp hp).elim (fun z => I.pin p (List.mem_append_left _ z)) (h p), I.hok, I.len⟩
theorem aD5 {N : List Str} (hN : N.Nodup) {i j : Nat} {x : Str} (a : N[i]? = some x) (b : N[j]? = some x) : i = j := by
  obtain ⟨h1, e1⟩ := List.getElem?_eq_some_iff.mp a
  obtain ⟨h2, e2⟩ := List.getElem?_eq_some_iff.mp b
  exact (List.getElem_inj hN).mp (e1.trans e2.symm)
theorem aM5 {M : Model} {A : Around} {E : Value → Shared → Prop} {i : Nat} {x : Str} {v : V} {u : Value} {Q : Unit → Shared → Prop} (I : Inv X pins σ H s) (hN : X.N.Nodup) (hi : X.N[i]? = some x) (hx : Loc X.env.scope x) (r : z9 v u)
    (h : ∀ s', Inv X pins (σ.set i (some v)) H s' → (∃ a, Heap.SameBut a s.heap s'.heap ∧ (a = X.env.locals ∨ X.env.cells.lookup x = some a)) → Q () s') (hf : X.fn x = true ∨ X.env.scope.names.lookup x = some .local := by first | exact .inl rfl | exact .inr rfl | assumption) : wpAny M A (storeName X.env x u) Q E s := by
  obtain ⟨m, hn, hl⟩ := id I.loc
  have hcls : (X.env.scope.kind == .class || (X.env.scope.kind == .module && X.env.locals != X.env.globals)) = false := by rw [I.ok.kind]; rfl
  have hiσ : i < σ.length := by rw [I.len]; exact (List.getElem?_eq_some_iff.mp hi).1
  have cne := I.cne
  have tracked : ∀ {a : Addr} {h' : Heap}, (∃ o, s.heap.get? a = some o ∧ H a = none) → Heap.SameBut a s.heap h' → HOk X.prog X.w H h' := fun {a h'} ha hs b ob e => by
    obtain ⟨_, _, hfree⟩ := ha
    refine (I.hok b ob e).stay (fun c w' hc q => (hs.2 c ?_).trans q) (fun _ q => q) fun _ _ q => q
    rintro rfl
    rcases hc with rfl | hc
    · rw [hfree] at e; cases e
    · rw [hfree] at hc; cases hc
  rcases hx with hk | hk
  · refine wpAny_storeName_local hk hn (fun h' hn' hs => ?_) hcls
    obtain ⟨oL, _, _, hoL, _⟩ := id hn
    refine h _ ⟨I.ok, I.os, I.bare, ⟨fun b o e n hb hx => ?_, fun b o e n hb hx => ?_, I.base.free, fun b o e hx => ?_, I.base.tups, I.base.frzs, I.base.tbls⟩, ⟨_, hn', fun j y v' e1 e2 e3 => ?_⟩, fun y c e => ?_, I.free, I.freeC, fun p hp => ?_, tracked ⟨oL, hoL, I.free⟩ hs, by simpa using I.len⟩ ⟨_, hs, .inl rfl⟩
    · exact (hs.2 b (Nat.ne_of_lt (Nat.lt_of_lt_of_le (Heap.lt_size e) I.ok.above))).trans (I.base.keep b o e n hb hx)
    · obtain ⟨sl, e1⟩ := I.base.slot b o e n hb hx
      exact ⟨sl, (hs.2 b (Nat.ne_of_lt (Nat.lt_of_lt_of_le (Heap.lt_size e) I.ok.above))).trans e1⟩
    · obtain ⟨o', e1⟩ := I.base.there b o e hx
      exact ⟨o', (hs.2 b (Nat.ne_of_lt (Nat.lt_of_lt_of_le (Heap.lt_size e) I.ok.above))).trans e1⟩
    · by_cases hj : j = i
      · subst hj
        rw [hi] at e1; cases e1
        rw [List.getElem?_set_self hiσ] at e2
        cases e2
        exact ⟨u, r, .inl ⟨hk, by simp⟩⟩
      · rw [List.getElem?_set_ne (Ne.symm hj)] at e2
        obtain ⟨u', r', q⟩ := hl j y v' e1 e2 e3
        refine ⟨u', r', ?_⟩
        rcases q with ⟨k, e⟩ | ⟨k, c, e, z⟩
        · refine .inl ⟨k, ?_⟩
          have : y ≠ x := fun e => hj (aD5 hN e1 (e ▸ hi))
          simp [this, e]
        · exact .inr ⟨k, c, e, z.sameBut hs (cne y c e)⟩
    · obtain ⟨w', z⟩ := I.cell y c e
      exact ⟨w', z.sameBut hs (cne y c e)⟩
    · obtain ⟨e, n, ne, nf, d⟩ := I.pin p hp
      exact ⟨(hs.2 p.1 ne).trans e, n, ne, nf, d⟩
  · have hfn : X.fn x = true := by
      rcases hf with z | z
      · exact z
      · rw [z] at hk; cases hk
    obtain ⟨c, hc⟩ := I.ok.has x (.inl hk)
    obtain ⟨w', z⟩ := I.cell x c hc
    refine wpAny_storeName_cell I.ok.kind hk hc z (fun h' hc' hs => ?_)
    obtain ⟨oc, hoc, hocd⟩ := id z
    refine h { s with heap := h' } ⟨I.ok, I.os, I.bare, ⟨fun b o e n hb hx => ?_, fun b o e n hb hx => ?_, I.base.free, fun b o e hx => ?_, I.base.tups, I.base.frzs, I.base.tbls⟩, ⟨m, hn.sameBut hs (Ne.symm (cne x c hc)), fun j y v' e1 e2 e3 => ?_⟩, fun y c' e => ?_, I.free, I.freeC, fun p hp => ?_, tracked ⟨oc, hoc, I.freeC x c hc⟩ hs, by simpa using I.len⟩ ⟨c, hs, .inr hc⟩
    · exact (hs.2 b (Nat.ne_of_lt (Nat.lt_of_lt_of_le (Heap.lt_size e) (I.ok.cab x c hfn hc)))).trans (I.base.keep b o e n hb hx)
    · obtain ⟨sl, e1⟩ := I.base.slot b o e n hb hx
      exact ⟨sl, (hs.2 b (Nat.ne_of_lt (Nat.lt_of_lt_of_le (Heap.lt_size e) (I.ok.cab x c hfn hc)))).trans e1⟩
    · obtain ⟨o', e1⟩ := I.base.there b o e hx
      exact ⟨o', (hs.2 b (Nat.ne_of_lt (Nat.lt_of_lt_of_le (Heap.lt_size e) (I.ok.cab x c hfn hc)))).trans e1⟩
    · by_cases hj : j = i
      · subst hj
        rw [hi] at e1; cases e1
        rw [List.getElem?_set_self hiσ] at e2
        cases e2
        exact ⟨u, r, .inr ⟨.inl hk, c, hc, hc'⟩⟩
      · rw [List.getElem?_set_ne (Ne.symm hj)] at e2
        obtain ⟨u', r', q⟩ := hl j y v' e1 e2 e3
        refine ⟨u', r', ?_⟩
        rcases q with q | ⟨k, c', e, z'⟩
        · exact .inl q
        · refine .inr ⟨k, c', e, z'.sameBut hs ?_⟩
          rintro rfl
          exact hj (aD5 hN e1 (I.ok.inj _ _ _ e hc ▸ hi))
    · by_cases hcc : c' = c
      · subst hcc; exact ⟨_, hc'⟩
      · obtain ⟨w2, z2⟩ := I.cell y c' e
        exact ⟨w2, z2.sameBut hs hcc⟩
    · obtain ⟨e, n, ne, nf, d⟩ := I.pin p hp
      refine ⟨(hs.2 p.1 ?_).trans e, n, ne, nf, d⟩
      intro q
      rw [q, hoc] at e
      have q' : oc = p.2 := Option.some.inj e
      exact d w' (by rw [← q']; exact hocd)
theorem W7 {M : Model} {A : Around} {E : Value → Shared → Prop} {i : Nat} {x : Str} {v : V} {u : Value} {Q : Unit → Shared → Prop} (I : Inv X pins σ H s) (hN : X.N.Nodup) (hi : X.N[i]? = some x) (hx : Loc X.env.scope x) (r : z9 v u)
    (h : ∀ s', Inv X pins (σ.set i (some v)) H s' → Q () s') (hf : X.fn x = true ∨ X.env.scope.names.lookup x = some .local := by first | exact .inl rfl | exact .inr rfl | assumption) : wpAny M A (storeName X.env x u) Q E s :=
  aM5 I hN hi hx r (fun s' I' _ => h s' I') hf
theorem Inv.call' {s' : Shared} {ch : List Addr} (I : Inv X pins σ H s) (ho : s'.os = s.os) (u : Un (frs X.stack) ch H H' s.heap s'.heap) (hok : HOk X.prog X.w H' s'.heap) (hg : AllBare s'.gens)
    (hch : ∀ b ∈ ch, (b ∈ X.ex ∨ X.s₀.heap.objs.size ≤ b) ∧ b ≠ X.env.locals ∧ (∀ x c, X.env.cells.lookup x = some c → c ≠ b) ∧ ∀ p ∈ X.pn ++ pins, p.1 ≠ b) : Inv X pins σ H' s' := by
  obtain ⟨h', g', d', t', o'⟩ := s'
  have e : o' = s.os := ho
  subst e
  exact I.call (g' := g') (t' := t') (d' := d') u hok hg hch
end
abbrev XK := Value → Option Addr → Hp → Prop
abbrev St := List (Option V)
abbrev VK := V → Hp → Prop
abbrev TE := St → Hp → VK → Prop
abbrev TT := St → Hp → (Bool → Hp → Prop) → Prop
abbrev TA := St → Hp → (List V → Hp → Prop) → Prop
structure au1 where
  nx : St → Hp → Prop
  rt : VK
  bk : St → Hp → Prop := fun _ _ => False
  ct : St → Hp → Prop := fun _ _ => False
abbrev TS := au1 → St → Hp → Prop
def EP (X : Cx) (pins : List (Addr × Obj)) (σ : St) (Q : VK) (u : Value) (s' : Shared) : Prop := ∃ v H', Inv X pins σ H' s' ∧ z9 v u ∧ Q v H'
def TP (X : Cx) (pins : List (Addr × Obj)) (σ : St) (Q : Bool → Hp → Prop) (b : Bool) (s' : Shared) : Prop := ∃ H', Inv X pins σ H' s' ∧ Q b H'
def AP (X : Cx) (pins : List (Addr × Obj)) (σ : St) (Q : List V → Hp → Prop) (us : List Value) (s' : Shared) : Prop := ∃ vs H', Inv X pins σ H' s' ∧ t0 vs us ∧ Q vs H'
def SP (X : Cx) (pins : List (Addr × Obj)) (D : au1) (f : Flow) (s' : Shared) : Prop :=
  match f with
  | .next => ∃ σ' H', Inv X pins σ' H' s' ∧ D.nx σ' H'
  | .brk => ∃ σ' H', Inv X pins σ' H' s' ∧ D.bk σ' H'
  | .cont => ∃ σ' H', Inv X pins σ' H' s' ∧ D.ct σ' H'
  | .ret u => ∃ v σ' H', Inv X pins σ' H' s' ∧ z9 v u ∧ D.rt v H'
def PE (X : Cx) (e : Expr) (t : TE) : Prop :=
  ∀ (pins : List (Addr × Obj)) (s : Shared) (σ : St) (H : Hp) (Q : VK), Inv X pins σ H s → t σ H Q → wpAny (model X.prog X.w) X.A (eval e X.env) (EP X pins σ Q) X.xe s
def PT (X : Cx) (e : Expr) (t : TT) : Prop :=
  ∀ (pins : List (Addr × Obj)) (s : Shared) (σ : St) (H : Hp) (Q : Bool → Hp → Prop), Inv X pins σ H s → t σ H Q → wpAny (model X.prog X.w) X.A (isTrue e X.env (eval e X.env)) (TP X pins σ Q) X.xe s
def PW (X : Cx) (e : Expr) (t : TT) : Prop :=
  ∀ (whole : Sem Value) (pins : List (Addr × Obj)) (s : Shared) (σ : St) (H : Hp) (Q : Bool → Hp → Prop), Inv X pins σ H s → t σ H Q → wpAny (model X.prog X.w) X.A (isTrue e X.env whole) (TP X pins σ Q) X.xe s
theorem PW.pt {X : Cx} {e : Expr} {t : TT} (h : PW X e t) : PT X e t := h _
def PA (X : Cx) (es : List Expr) (t : TA) : Prop :=
  ∀ (pos : Pos) (pins : List (Addr × Obj)) (s : Shared) (σ : St) (H : Hp) (Q : List V → Hp → Prop), Inv X pins σ H s → t σ H Q → wpAny (model X.prog X.w) X.A (spliced (backTo pos (starEach es X.env))) (AP X pins σ Q) X.xe s
def PS (X : Cx) (st : Stmt) (t : TS) : Prop :=
  ∀ (pins : List (Addr × Obj)) (s : Shared) (σ : St) (H : Hp) (D : au1), Inv X pins σ H s → t D σ H → wpAny (model X.prog X.w) X.A (exec st X.env) (SP X pins D) X.xe s
def PSs (X : Cx) (st : List Stmt) (t : TS) : Prop :=
  ∀ (pins : List (Addr × Obj)) (s : Shared) (σ : St) (H : Hp) (D : au1), Inv X pins σ H s → t D σ H → wpAny (model X.prog X.w) X.A (execs st X.env) (SP X pins D) X.xe s
theorem thn {α : Type} {t : Sem α} {Q Q' : α → Shared → Prop} {M : Model} {A : Around} {E : Value → Shared → Prop} {s : Shared} (h : wpAny M A t Q E s) (hQ : ∀ a s, Q a s → Q' a s) : wpAny M A t Q' E s := wpAny_mono h hQ fun _ _ x => x
section
variable {X : Cx}
def ai9 (i : Nat) : TE := fun σ H Q => ∃ v, σ[i]? = some (some v) ∧ Q v H
def tC (v : V) : TE := fun _ H Q => Q v H
theorem bd0 {i : Nat} {x : Str} {pos : Pos} (hN : X.N[i]? = some x) (hv : Vis X.env.scope x) (hd : (x == ("__debug__" : Str)) = false := by decide) (hcd : (x == ("__classdict__" : Str)) = false := by decide) : PE X (.Name x pos) (ai9 i) := by
  intro pins s σ H Q I h
  obtain ⟨v, e, h⟩ := h
  obtain ⟨m, hn, hl⟩ := I.loc
  obtain ⟨u, r, l⟩ := hl i x v hN e hv
  have fin : EP X pins σ Q u s := ⟨v, H, I, r, h⟩
  rcases l with ⟨hk, hm⟩ | ⟨hk, c, hc, hcell⟩
  · exact wpAny_Name (wpAny_loadName_local I.ok.kind hk hn hm fin) hd
  · rcases hk with hk | hk
    · exact wpAny_Name (wpAny_loadName_cell I.ok.kind hk hc hcell fin) hd
    · exact wpAny_Name (wpAny_loadName_free I.ok.kind hk hc hcell fin hcd) hd
theorem d4 {i j pos} : PE X (.Constant (.int i) j pos) (tC (.int i)) := fun _ _ _ H _ I h => wpAny_Constant_int ⟨.int i, H, I.tok _, ⟨_, rfl⟩, h⟩
theorem Q3 {b j pos} : PE X (.Constant (.bool b) j pos) (tC (.bl b)) := fun _ _ _ H _ I h => Constant_bool ⟨.bl b, H, I, rfl, h⟩
theorem ay6 {j pos} : PE X (.Constant .none j pos) (tC .non) := fun _ _ _ H _ I h => Constant_none ⟨.non, H, I, rfl, h⟩
theorem K1 {x j pos} : PE X (.Constant (.str x) j pos) (tC (.str x)) := fun _ _ _ H _ I h => Calls.Constant_str ⟨.str x, H, I.tok _, ⟨_, rfl⟩, h⟩
def Gl (X : Cx) (x : Str) : Prop := X.env.kindOf x = some .globalImplicit
theorem ah8 {E : Value → Shared → Prop} {pins : List (Addr × Obj)} {s : Shared} {σ : St} {H : Hp} {x : Str} {u : Value} {pos : Pos} {Q : Value → Shared → Prop} (I : Inv X pins σ H s) (hg : Gl X x) (hm : X.mg x = some u) (h : Q u s)
    (hd : (x == ("__debug__" : Str)) = false := by decide) : wpAny (model X.prog X.w) X.A (eval (.Name x pos) X.env) Q E s :=
  Calls.Name_function_global I.ok.kind hg (Calls.loadGlobal_global (by rw [I.ok.glob]; exact I.mod.glob.keeps I.bk) hm h) hd
theorem Q9 {E : Value → Shared → Prop} {pins : List (Addr × Obj)} {s : Shared} {σ : St} {H : Hp} {x : Str} {u : Value} {pos : Pos} {Q : Value → Shared → Prop} (I : Inv X pins σ H s) (hg : Gl X x) (hm : X.mg x = none) (hv : bootBuiltins x = some u) (h : Q u s)
    (hn : x ≠ "__name__" := by decide) (hd : (x == ("__debug__" : Str)) = false := by decide) : wpAny (model X.prog X.w) X.A (eval (.Name x pos) X.env) Q E s := by
  obtain ⟨mb, h1, h2⟩ := I.mod.blt
  exact Calls.Name_function_global I.ok.kind hg (Calls.loadGlobal_builtin (by rw [I.ok.glob]; exact I.mod.glob.keeps I.bk) hm (by rw [I.ok.blt]; exact h1.keeps I.bk) ((h2 x hn).trans hv) h) hd
theorem A7 {x : Str} {v : V} {u : Value} {pos : Pos} (hg : Gl X x) (hm : X.mg x = some u) (r : z9 v u) (hd : (x == ("__debug__" : Str)) = false := by decide) : PE X (.Name x pos) (tC v) :=
  fun _ _ _ H _ I h => ah8 I hg hm ⟨v, H, I, r, h⟩ hd
theorem R9 {x : Str} {v : V} {u : Value} {pos : Pos} (hg : Gl X x) (hm : X.mg x = none) (hv : bootBuiltins x = some u) (r : z9 v u) (hn : x ≠ "__name__" := by decide) (hd : (x == ("__debug__" : Str)) = false := by decide) : PE X (.Name x pos) (tC v) :=
  fun _ _ _ H _ I h => Q9 I hg hm hv ⟨v, H, I, r, h⟩ hn hd
variable {a b : Expr} {ta tb : TE} {pos : Pos}
def PC (X : Cx) (op : CmpOp) (a b : Expr) (t : TE) : Prop :=
  ∀ (pins : List (Addr × Obj)) (s : Shared) (σ : St) (H : Hp) (Q : VK), Inv X pins σ H s → t σ H Q →
    wpAny (model X.prog X.w) X.A (eval a X.env) (fun v s₁ => wpAny (model X.prog X.w) X.A (eval b X.env) (fun u s₂ => wpAny (model X.prog X.w) X.A (compareOp op v u) (EP X pins σ Q) X.xe s₂) X.xe s₁) X.xe s
def tB (t : TE) : TT := fun σ H Q => t σ H fun x H1 => ∃ c, x = .bl c ∧ Q c H1
theorem N3 {e : Expr} {t : TE} (h : PE X e t) (he : ∀ whole, isTrue e X.env whole = (do let v ← whole; standAt e.pos; holding [v] (truthy v)) := by intro _; rfl) : PT X e (tB t) := by
  intro pins s σ H Q I hw
  refine isTrue_plain (thn (h pins s σ H _ I hw) fun v s1 ⟨x, H1, I1, r1, q1⟩ => ?_) (he _)
  obtain ⟨d, rfl, q⟩ := q1
  cases r1
  exact wpAny_truthy_bool ⟨H1, I1, q⟩
variable {tA tB' : TT} {T1 : List Expr}
def bb8 (t u : TT) : TT := fun σ H Q => t σ H fun c H1 => if c = true then u σ H1 Q else Q false H1
def tOr (t u : TT) : TT := fun σ H Q => t σ H fun c H1 => if c = true then Q true H1 else u σ H1 Q
def bb3 (t : TT) : TT := fun σ H Q => t σ H fun c H1 => Q (!c) H1
theorem aX2 (ha : PT X a tA) : PW X (.BoolOp .And [a] pos) tA := by
  intro wh pins s σ H Q I h
  refine isTrue_and (thn (ha pins s σ H Q I h) fun c s1 e => ?_)
  cases c with
  | true => exact isTrue_and_nil e
  | false => exact e
theorem V4 (ha : PT X a tA) : PW X (.BoolOp .Or [a] pos) tA := by
  intro wh pins s σ H Q I h
  refine isTrue_or (thn (ha pins s σ H Q I h) fun c s1 e => ?_)
  cases c with
  | false => exact isTrue_or_nil e
  | true => exact e
theorem bc5 (ha : PT X a tA) (hb : PW X (.BoolOp .And (b :: T1) pos) tB') : PW X (.BoolOp .And (a :: b :: T1) pos) (bb8 tA tB') := by
  intro wh pins s σ H Q I h
  refine isTrue_and (thn (ha pins s σ H _ I h) fun c s1 ⟨H1, I1, q1⟩ => ?_)
  cases c with
  | true => exact hb wh pins s1 σ H1 Q I1 q1
  | false => exact ⟨H1, I1, q1⟩
theorem R0 (ha : PT X a tA) (hb : PW X (.BoolOp .Or (b :: T1) pos) tB') : PW X (.BoolOp .Or (a :: b :: T1) pos) (tOr tA tB') := by
  intro wh pins s σ H Q I h
  refine isTrue_or (thn (ha pins s σ H _ I h) fun c s1 ⟨H1, I1, q1⟩ => ?_)
  cases c with
  | true => exact ⟨H1, I1, q1⟩
  | false => exact hb wh pins s1 σ H1 Q I1 q1
theorem M0 (ha : PT X a tA) : PT X (.UnaryOp .Not a pos) (bb3 tA) := by
  intro pins s σ H Q I h
  exact isTrue_not (ha pins s σ H (fun c H1 => Q (!c) H1) I h)
def aQ0 (ta tb : TE) : TE := fun σ H Q => ta σ H fun x H1 => ∃ c, x = .bl c ∧ if c = true then tb σ H1 Q else Q (.bl false) H1
def bb2 (ta tb : TE) : TE := fun σ H Q => ta σ H fun x H1 => ∃ c, x = .bl c ∧ if c = true then Q (.bl true) H1 else tb σ H1 Q
def aP7 (ta : TE) : TE := fun σ H Q => ta σ H fun x H1 => ∃ c, x = .bl c ∧ Q (.bl (!c)) H1
theorem ap3 {op} {t : TE} (h : PE X a t) : PE X (.BoolOp op [a] pos) t := fun pins s σ H Q I hw => BoolOp_one (h pins s σ H Q I hw)
theorem ay8 (ha : PE X a ta) (hb : PE X (.BoolOp .And (b :: T1) pos) tb) : PE X (.BoolOp .And (a :: b :: T1) pos) (aQ0 ta tb) := by
  intro pins s σ H Q I h
  refine BoolOp_and (thn (ha pins s σ H _ I h) fun v s1 ⟨x, H1, I1, r1, q1⟩ => ?_)
  obtain ⟨c, rfl, q1⟩ := q1
  cases r1
  refine wpAny_truthy_bool ?_
  cases c with
  | true => exact hb pins s1 σ H1 Q I1 q1
  | false => exact ⟨.bl false, H1, I1, rfl, q1⟩
theorem bg4 (ha : PE X a ta) (hb : PE X (.BoolOp .Or (b :: T1) pos) tb) : PE X (.BoolOp .Or (a :: b :: T1) pos) (bb2 ta tb) := by
  intro pins s σ H Q I h
  refine BoolOp_or (thn (ha pins s σ H _ I h) fun v s1 ⟨x, H1, I1, r1, q1⟩ => ?_)
  obtain ⟨c, rfl, q1⟩ := q1
  cases r1
  refine wpAny_truthy_bool ?_
  cases c with
  | false => exact hb pins s1 σ H1 Q I1 q1
  | true => exact ⟨.bl true, H1, I1, rfl, q1⟩
theorem aR6 (ha : PE X a ta) : PE X (.UnaryOp .Not a pos) (aP7 ta) := by
  intro pins s σ H Q I h
  refine UnaryOp_ (thn (ha pins s σ H _ I h) fun v s1 ⟨x, H1, I1, r1, q1⟩ => ?_)
  obtain ⟨c, rfl, q1⟩ := q1
  cases r1
  exact not_of (wpAny_truthy_bool ⟨.bl (!c), H1, I1, rfl, q1⟩)
def tIf (t : TT) (ta tb : TE) : TE := fun σ H Q => t σ H fun c H1 => if c = true then ta σ H1 Q else tb σ H1 Q
theorem ah3 {c : Expr} (hc : PT X c tA) (ha : PE X a ta) (hb : PE X b tb) : PE X (.IfExp c a b pos) (tIf tA ta tb) := by
  intro pins s σ H Q I h
  refine wpAny_IfExp (thn (hc pins s σ H _ I h) fun d s1 ⟨H1, I1, q1⟩ => ?_)
  cases d with
  | true => exact ha pins s1 σ H1 Q I1 q1
  | false => exact hb pins s1 σ H1 Q I1 q1
end
def SqL (K : PySem.W.Frag) (H : Hp) (a : Addr) (xs : List V) : Prop :=
  Rd H a (.lst xs) ∨
    ∃ (o : Obj) (its : Array Value) (n : Nat), K.lookup a = some o ∧ o.cls = .type "list" ∧ o.dict = none ∧ o.data = .seq its n ∧ its.size ≤ sizeLine ∧ t0 xs its.toList
def SqT (K : PySem.W.Frag) (H : Hp) (a : Addr) (xs : List V) : Prop :=
  Rd H a (.tup xs) ∨
    ∃ (o : Obj) (its : Array Value) (n : Nat), K.lookup a = some o ∧ o.cls = .type "tuple" ∧ o.data = .seq its n ∧ its.size ≤ sizeLine ∧ t0 xs its.toList
def bi1 : Value → Option V
  | .none => some .non
  | .bool b => some (.bl b)
  | .int i _ => some (.int i)
  | .str x _ => some (.str x)
  | .bytes b _ => some (.byt b)
  | .float b _ => some (.flt b)
  | .ref a => some (.ref a)
  | .type n => some (.ty n)
  | _ => none
theorem z9.abs {x : V} {u : Value} (r : z9 x u) : bi1 u = some x := by
  cases x with
  | non => cases r; rfl
  | bl _ => cases r; rfl
  | int _ => obtain ⟨t, rfl⟩ := r; rfl
  | str _ => obtain ⟨t, rfl⟩ := r; rfl
  | byt _ => obtain ⟨t, rfl⟩ := r; rfl
  | flt _ => obtain ⟨t, rfl⟩ := r; rfl
  | ref _ => cases r; rfl
  | ty _ => cases r; rfl
theorem z9.inj {x y : V} {u : Value} (r : z9 x u) (q : z9 y u) : x = y := Option.some.inj (r.abs.symm.trans q.abs)
theorem t0.inj : ∀ {xs ys : List V} {us : List Value}, t0 xs us → t0 ys us → xs = ys
  | _, _, _, .nil, .nil => rfl
  | _, _, _, .cons r t, .cons r' t' => by rw [r.inj r', t0.inj t t']
section
variable {X : Cx} {pins : List (Addr × Obj)} {σ : St} {H : Hp} {s : Shared} {a : Addr} {xs ys : List V}
theorem SqL.of {K : PySem.W.Frag} (h : H a = some (.lst xs)) : SqL K H a xs := .inl (.inl h)
theorem SqT.of {K : PySem.W.Frag} (h : H a = some (.tup xs)) : SqT K H a xs := .inl (.inl h)
theorem Inv.list (I : Inv X pins σ H s) (h : SqL X.K H a xs) : ∃ its : List Value, t0 xs its ∧ PlainL s.heap a its.toArray ∧ xs.length ≤ sizeLine := by
  rcases h with h | ⟨o, its, n, hk, hc, hd, hs, hz, r⟩
  · obtain ⟨z, its, n, r, e⟩ := h.ok I.hok
    exact ⟨its, r, ⟨_, n, e, rfl, rfl, rfl⟩, z⟩
  · refine ⟨its.toList, r, ⟨o, n, I.kIn a o hk, hc, hd, by simpa using hs⟩, ?_⟩
    have e := r.length
    simp only [Array.length_toList] at e
    omega
theorem Inv.tuple (I : Inv X pins σ H s) (h : SqT X.K H a xs) : ∃ its : List Value, t0 xs its ∧ IsTup s.heap a its.toArray ∧ xs.length ≤ sizeLine := by
  rcases h with h | ⟨o, its, n, hk, hc, hs, hz, r⟩
  · obtain ⟨z, its, r, p⟩ := h.ok I.hok
    exact ⟨its, r, p, z⟩
  · refine ⟨its.toList, r, ⟨o, I.kIn a o hk, hc, n, by simpa using hs⟩, ?_⟩
    have e := r.length
    simp only [Array.length_toList] at e
    omega
theorem Inv.list_inj (I : Inv X pins σ H s) (h : SqL X.K H a xs) (h' : SqL X.K H a ys) : xs = ys := by
  obtain ⟨its, r, ⟨o, n, e, _, _, d⟩, _⟩ := I.list h
  obtain ⟨its', r', ⟨o', n', e', _, _, d'⟩, _⟩ := I.list h'
  rw [e] at e'; cases e'
  rw [d] at d'
  injection d' with d1 _
  have : its = its' := by simpa using congrArg Array.toList d1
  subst this
  exact r.inj r'
theorem Inv.tuple_inj (I : Inv X pins σ H s) (h : SqT X.K H a xs) (h' : SqT X.K H a ys) : xs = ys := by
  obtain ⟨its, r, ⟨o, e, _, n, d⟩, _⟩ := I.tuple h
  obtain ⟨its', r', ⟨o', e', _, n', d'⟩, _⟩ := I.tuple h'
  rw [e] at e'; cases e'
  rw [d] at d'
  injection d' with d1 _
  have : its = its' := by simpa using congrArg Array.toList d1
  subst this
  exact r.inj r'
end
abbrev Cx.wish (X : Cx) (E : Value → Shared → Prop) : Cx := { X with xe := E }
abbrev Cx.nox (X : Cx) : Cx := X.wish fun _ _ => False
theorem Cx.Ok.wish {X : Cx} (ok : X.Ok) (E : Value → Shared → Prop) : (X.wish E).Ok :=
  ⟨ok.mod, ok.kind, ok.glob, ok.blt, ok.above, ok.inj, ok.has, ok.cab, ok.hd, ok.frames, ok.stk, ok.exf, ok.bs, ok.bsz, ok.noex, ok.exfs, ok.funs, ok.frf⟩
theorem Cx.Ok.unwish {X : Cx} {E : Value → Shared → Prop} (ok : (X.wish E).Ok) : X.Ok :=
  ⟨ok.mod, ok.kind, ok.glob, ok.blt, ok.above, ok.inj, ok.has, ok.cab, ok.hd, ok.frames, ok.stk, ok.exf, ok.bs, ok.bsz, ok.noex, ok.exfs, ok.funs, ok.frf⟩
section
variable {X : Cx} {pins : List (Addr × Obj)} {σ : St} {H : Hp} {s : Shared} {E : Value → Shared → Prop}
theorem Inv.wish (I : Inv X pins σ H s) (E : Value → Shared → Prop) : Inv (X.wish E) pins σ H s := ⟨I.ok.wish E, I.os, I.bare, I.base, I.loc, I.cell, I.free, I.freeC, I.pin, I.hok, I.len⟩
theorem Inv.unwish (I : Inv (X.wish E) pins σ H s) : Inv X pins σ H s := ⟨I.ok.unwish, I.os, I.bare, I.base, I.loc, I.cell, I.free, I.freeC, I.pin, I.hok, I.len⟩
theorem SP.unwish {D : au1} {f : Flow} {s' : Shared} (h : SP (X.wish E) pins D f s') : SP X pins D f s' := by
  cases f with
  | next => obtain ⟨σ', H', I, q⟩ := h; exact ⟨σ', H', I.unwish, q⟩
  | brk => obtain ⟨σ', H', I, q⟩ := h; exact ⟨σ', H', I.unwish, q⟩
  | cont => obtain ⟨σ', H', I, q⟩ := h; exact ⟨σ', H', I.unwish, q⟩
  | ret u => obtain ⟨v, σ', H', I, r, q⟩ := h; exact ⟨v, σ', H', I.unwish, r, q⟩
theorem PSs.nox {st : List Stmt} {t : TS} (h : PSs X.nox st t) : PSs X st t := fun pins s σ H D I hw =>
  wpAny_mono (h pins s σ H D (I.wish _) hw) (fun _ _ q => q.unwish) fun _ _ z => False.elim z
end
section
variable {X : Cx} {st : Stmt} {T1 : List Stmt} {t u : TS} {e : Expr} {te : TE} {pos : Pos}
def aP8 : TS := fun D σ H => D.nx σ H
def aW2 (t u : TS) : TS := fun D σ H => t { D with nx := u D } σ H
theorem v0 : PSs X [] aP8 := fun _ _ σ H _ I h => wpAny_execs_nil ⟨σ, H, I, h⟩
theorem d6 (h1 : PS X st t) (h2 : PSs X T1 u) : PSs X (st :: T1) (aW2 t u) := by
  intro pins s σ H D I h
  refine wpAny_execs_cons (thn (h1 pins s σ H { D with nx := u D } I h) fun f s1 q => ?_)
  cases f with
  | next =>
    obtain ⟨σ', H', I', q⟩ := q
    exact h2 pins s1 σ' H' D I' q
  | ret v => exact q
  | brk => exact q
  | cont => exact q
theorem d8 (h1 : PS X st t) : PSs X [st] t := by
  intro pins s σ H D I h
  refine wpAny_execs_cons (thn (h1 pins s σ H D I h) fun f s1 q => ?_)
  cases f with
  | next => exact wpAny_execs_nil q
  | ret v => exact q
  | brk => exact q
  | cont => exact q
theorem Inv.quiet {pins : List (Addr × Obj)} {σ : St} {H : Hp} {s : Shared} (I : Inv X pins σ H s) : interactive X.env = false := by simp [interactive, I.ok.kind]
def aP9 (te : TE) : TS := fun D σ H => te σ H fun _ H1 => D.nx σ H1
theorem ah2 (he : PE X e te) (hs : swapsWith e none pos.line X.env = pure false := by rfl) : PS X (.Expr e pos) (aP9 te) := by
  intro pins s σ H D I h
  exact wpAny_Expr_any (thn (he pins s σ H _ I h) fun v s1 ⟨x, H1, I1, r1, q1⟩ => ⟨σ, H1, I1, q1⟩) I.quiet hs
def aW3 (te : TE) : TS := fun D σ H => te σ H D.rt
theorem j1 (he : PE X e te) : PS X (.Return (some e) pos) (aW3 te) := by
  intro pins s σ H D I h
  exact wpAny_Return_some (thn (he pins s σ H _ I h) fun v s1 ⟨x, H1, I1, r1, q1⟩ => ⟨x, σ, H1, I1, r1, q1⟩)
def bb5 (c : TT) (t u : TS) : TS := fun D σ H => c σ H fun b H1 => if b = true then t D σ H1 else u D σ H1
theorem C2 {c : Expr} {a b : List Stmt} {tc : TT} (hc : PT X c tc) (ha : PSs X a t) (hb : PSs X b u) : PS X (.If c a b pos) (bb5 tc t u) := by
  intro pins s σ H D I h
  refine wpAny_If (thn (hc pins s σ H _ I h) fun d s1 ⟨H1, I1, q1⟩ => ?_)
  cases d with
  | true => exact ha pins s1 σ H1 D I1 q1
  | false => exact hb pins s1 σ H1 D I1 q1
def aF7 : TS := fun _ _ _ => False
theorem aC6 : PS X st aF7 := fun _ _ _ _ _ _ h => h.elim
end
abbrev TG := V → St → Hp → (St → Hp → Prop) → Prop
abbrev TGs := List V → St → Hp → (St → Hp → Prop) → Prop
def PG (X : Cx) (target : Expr) (t : TG) : Prop :=
  ∀ (pins : List (Addr × Obj)) (s : Shared) (σ : St) (H : Hp) (v : V) (u : Value) (Q : St → Hp → Prop), Inv X pins σ H s → z9 v u → t v σ H Q →
    wpAny (model X.prog X.w) X.A (assign target X.env u) (fun _ s' => ∃ σ' H', Inv X pins σ' H' s' ∧ Q σ' H') X.xe s
def PGs (X : Cx) (ts : List Expr) (t : TGs) : Prop :=
  ∀ (pins : List (Addr × Obj)) (s : Shared) (σ : St) (H : Hp) (vs : List V) (us : List Value) (Q : St → Hp → Prop), Inv X pins σ H s → t0 vs us → t vs σ H Q →
    wpAny (model X.prog X.w) X.A (assignInOrder ((assignEach ts X.env).map (·.2)) us) (fun _ s' => ∃ σ' H', Inv X pins σ' H' s' ∧ Q σ' H') X.xe s
abbrev bf2 := V → V → V → Hp → (Hp → Prop) → Prop
def bh3 (X : Cx) (t : bf2) : Prop :=
  ∀ (pins : List (Addr × Obj)) (s : Shared) (σ : St) (H : Hp) (o i v : V) (ov iv u : Value) (Q : Hp → Prop), Inv X pins σ H s → z9 o ov → z9 i iv → z9 v u → t o i v H Q →
    wpAny (model X.prog X.w) X.A (setItem ov iv u) (fun _ s' => ∃ H', Inv X pins σ H' s' ∧ Q H') X.xe s
abbrev TIp := V → V → Hp → VK → Prop
def PIp (X : Cx) (op : Operator) (t : TIp) : Prop :=
  ∀ (pins : List (Addr × Obj)) (s : Shared) (σ : St) (H : Hp) (x y : V) (v u : Value) (Q : VK), Inv X pins σ H s → z9 x v → z9 y u → t x y H Q →
    wpAny (model X.prog X.w) X.A (inplaceOp op v u) (EP X pins σ Q) X.xe s
section
variable {X : Cx} {pos : Pos}
def C7 (i : Nat) : TG := fun v σ H Q => Q (σ.set i (some v)) H
theorem i7 {i : Nat} {x : Str} (hN : X.N.Nodup) (hi : X.N[i]? = some x) (hx : Loc X.env.scope x) (hf : X.fn x = true ∨ X.env.scope.names.lookup x = some .local := by first | exact .inl rfl | exact .inr rfl | assumption) : PG X (.Name x pos) (C7 i) := by
  intro pins s σ H v u Q I r h
  exact wpAny_assign_Name (W7 I hN hi hx r (fun s' I' => ⟨_, H, I', h⟩) hf)
def ak4 : TGs := fun vs σ H Q => vs = [] ∧ Q σ H
def K3 (t : TG) (u : TGs) : TGs := fun vs σ H Q => ∃ v r, vs = v :: r ∧ t v σ H fun σ' H' => u r σ' H' Q
theorem P7 : PGs X [] ak4 := by
  intro pins s σ H vs us Q I r h
  obtain ⟨e, h⟩ := h
  subst e
  cases r
  exact assignInOrder_nil ⟨σ, H, I, h⟩
theorem v5 {e : Expr} {es : List Expr} {t : TG} {u : TGs} (h1 : PG X e t) (h2 : PGs X es u)
    (hs : (assignEach (e :: es) X.env).map (·.2) = assign e X.env :: (assignEach es X.env).map (·.2) := by rfl) : PGs X (e :: es) (K3 t u) := by
  intro pins s σ H vs us Q I r h
  obtain ⟨v, vr, e1, h⟩ := h
  subst e1
  cases r with
  | cons r rr =>
    rw [hs]
    refine assignInOrder_cons (thn (h1 pins s σ H _ _ _ I r h) fun _ s1 ⟨σ1, H1, I1, q1⟩ => ?_)
    exact h2 pins s1 σ1 H1 _ _ Q I1 rr q1
def ak3 (K : PySem.W.Frag) (n : Nat) (t : TGs) : TG := fun v σ H Q => ∃ a xs, v = .ref a ∧ SqT K H a xs ∧ xs.length = n ∧ t xs σ H Q
theorem V6 {es : List Expr} {k : Nat} {t : TGs} {n : Nat} (hc : X.calm = true) (h : PGs X es t)
    (hn : (assignEach es X.env).length = n := by rfl) (hst : (assignEach es X.env).findIdx? (·.1) = none := by rfl) : PG X (.Tuple es k pos) (ak3 X.K n t) := by
  intro pins s σ H v u Q I r hw
  obtain ⟨a, xs, e1, hq, hl, hw⟩ := hw
  subst e1
  cases r
  obtain ⟨its, rv, ht, hz⟩ := I.tuple hq
  refine assign_Tuple_tuple (I.ok.hd hc) ht (by simp [hn, ← hl, rv.length]) hst fun h' hx => ?_
  have I1 : Inv X pins σ H { s with heap := h' } := I.kept (t' := s.toks) fun b o e => hx b o (Nat.ne_of_lt (Heap.lt_size e)) e
  exact h pins _ σ H xs _ Q I1 (by simpa using rv) hw
def aT8 (to ti : TE) (t : bf2) : TG := fun v σ H Q => to σ H fun o H1 => ti σ H1 fun i H2 => t o i v H2 fun H3 => Q σ H3
theorem ap2 {o i : Expr} {to ti : TE} {t : bf2} (ho : PE X o to) (hi : PE X i ti) (hs : bh3 X t)
    (ha : ∀ v, assign (.Subscript o i pos) X.env v = (do
      let ov ← holding [v] (eval o X.env)
      let iv ← holding [v, ov] (eval i X.env)
      standAt pos
      holding [v, ov, iv] (setItem ov iv v)
      release [v, ov, iv] []) := by intro _; rfl) : PG X (.Subscript o i pos) (aT8 to ti t) := by
  intro pins s σ H v u Q I r h
  rw [ha]
  refine wpAny_bind (wpAny_holding (thn (ho pins s σ H _ I h) fun ov s1 ⟨x, H1, I1, r1, q1⟩ => ?_))
  refine wpAny_bind (wpAny_holding (thn (hi pins s1 σ H1 _ I1 q1) fun iv s2 ⟨y, H2, I2, r2, q2⟩ => ?_))
  refine wpAny_bind (wpAny_standAt (wpAny_bind (wpAny_holding (thn (hs pins s2 σ H2 x y v ov iv u _ I2 r1 r2 r q2) fun _ s3 ⟨H3, I3, q3⟩ => ?_))))
  exact wpAny_release ⟨σ, H3, I3, q3⟩
def aF8 (te : TE) (g : TG) : TS := fun D σ H => te σ H fun x H1 => g x σ H1 D.nx
theorem ac3 {tg e : Expr} {te : TE} {g : TG} (he : PE X e te) (hg : PG X tg g) (hs : swapsWithSole [tg] e pos.line X.env = pure false := by rfl) (hw : swappedStores [tg] e X.env = pure none := by rfl)
    (h1 : (assignEach [tg] X.env).map (·.2) = [assign tg X.env] := by rfl) : PS X (.Assign [tg] e pos) (aF8 te g) := by
  intro pins s σ H D I h
  refine wpAny_Assign_stores (thn (he pins s σ H _ I h) fun v s1 ⟨x, H1, I1, r1, q1⟩ => ?_) hs hw
  rw [h1]
  exact thn (hg pins s1 σ H1 x v _ I1 r1 q1) fun _ s2 q => q
theorem m6 {i : Nat} {x : Str} {e : Expr} {te : TE} {pos' : Pos} (hN : X.N.Nodup) (hi : X.N[i]? = some x) (hx : Loc X.env.scope x) (he : PE X e te) (hs : swapsWith e (some (.Name x pos')) pos.line X.env = pure false := by rfl) (hf : X.fn x = true ∨ X.env.scope.names.lookup x = some .local := by first | exact .inl rfl | exact .inr rfl | assumption) :
    PS X (.Assign [.Name x pos'] e pos) (aF8 te (C7 i)) := by
  intro pins s σ H D I h
  refine wpAny_Assign_Name (thn (he pins s σ H _ I h) fun v s1 ⟨y, H1, I1, r1, q1⟩ => ?_) hs
  exact W7 I1 hN hi hx r1 (fun s2 I2 => ⟨_, H1, I2, q1⟩) hf
def aW4 (i j : Nat) (ta : TA) : TS := fun D σ H => ta σ H fun vs H1 => ∃ v w, vs = [v, w] ∧ D.nx ((σ.set i (some v)).set j (some w)) H1
theorem aG8 {i j : Nat} {x y : Str} {a b : Expr} {ta : TA} {px py pt : Pos} {kt k2 pt2} (hc : X.calm = true) (hN : X.N.Nodup) (hi : X.N[i]? = some x) (hj : X.N[j]? = some y) (hij : i ≠ j)
    (hx : X.env.scope.names.lookup x = some .local) (hy : X.env.scope.names.lookup y = some .local) (ha : PA X [a, b] ta)
    (hw : swappedStores [.Tuple [.Name x px, .Name y py] kt pt] (.Tuple [a, b] k2 pt2) X.env = pure (some [x, y]))
    (hs : swapsWithSole [.Tuple [.Name x px, .Name y py] kt pt] (.Tuple [a, b] k2 pt2) pos.line X.env = pure false := by rfl) :
    PS X (.Assign [.Tuple [.Name x px, .Name y py] kt pt] (.Tuple [a, b] k2 pt2) pos) (aW4 i j ta) := by
  intro pins s σ H D I h
  rw [exec_Assign_arm]
  refine wpAny_bind (wpAny_standAt ?_)
  rw [hs]
  refine wpAny_bind (wpAny_pure ?_)
  rw [if_neg (by decide)]
  refine wpAny_bind (Tuple_ (thn (ha _ pins s σ H _ I h) fun us s1 ⟨vs, H1, I1, r1, q1⟩ => ?_))
  obtain ⟨v, w, e1, q1⟩ := q1
  subst e1
  obtain ⟨u1, u2, rfl, rv, rw'⟩ : ∃ u1 u2, us = [u1, u2] ∧ z9 v u1 ∧ z9 w u2 := by
    cases r1 with
    | cons p q =>
      cases q with
      | cons p' q' =>
        cases q'
        exact ⟨_, _, rfl, p, p'⟩
  refine wpAny_newObj_type ?_ (by show 2 ≤ sizeLine; decide)
  have I2 : Inv X pins σ H1 { s1 with heap := s1.heap.push { cls := .type "tuple", data := .seq [u1, u2].toArray } } := I1.kept (t' := s1.toks) fun b o e => Heap.get?_push_of_some _ e
  rw [hw]
  refine wpAny_bind (wpAny_pure ?_)
  show wpAny (model X.prog X.w) X.A (do rule "assign.swapped-stores"; let items ← unpackItems (.ref s1.heap.objs.size) 2 none; assignInOrder [fun v => bindName X.env y v, fun v => bindName X.env x v] items.reverse; pure Flow.next) _ _ _
  refine wpAny_bind (wpAny_rule (wpAny_bind (unpackItems_tuple (items := #[u1, u2]) (I.ok.hd hc) (IsTup.new s1.heap _) fun h' hx' => ?_)))
  have I3 := I2.kept (h' := h') (t' := s1.toks) fun b o e => hx' b o (Nat.ne_of_lt (Heap.lt_size e)) e
  show wpAny _ _ (assignInOrder [fun v => bindName X.env y v, fun v => bindName X.env x v] [u2, u1] >>= fun _ => pure Flow.next) _ _ _
  refine wpAny_bind (assignInOrder_cons (wpAny_bindName (W7 I3 hN hj (.inl hy) rw' (fun s2 I4 => ?_) (.inr hy))))
  refine assignInOrder_cons (wpAny_bindName (W7 I4 hN hi (.inl hx) rv (fun s3 I5 => assignInOrder_nil (wpAny_pure ?_)) (.inr hx)))
  rw [List.set_comm _ _ (Ne.symm hij)] at I5
  exact ⟨_, H1, I5, q1⟩
def bb7 (i : Nat) (te : TE) (ti : TIp) : TS := fun D σ H => ∃ x, σ[i]? = some (some x) ∧ te σ H fun y H1 => ti x y H1 fun z H2 => D.nx (σ.set i (some z)) H2
theorem bc6 {i : Nat} {x : Str} {e : Expr} {te : TE} {op : Operator} {ti : TIp} {pos' : Pos} (hN : X.N.Nodup) (hi : X.N[i]? = some x) (hx : Loc X.env.scope x) (he : PE X e te) (ho : PIp X op ti) (hf : X.fn x = true ∨ X.env.scope.names.lookup x = some .local := by first | exact .inl rfl | exact .inr rfl | assumption) :
    PS X (.AugAssign (.Name x pos') op e pos) (bb7 i te ti) := by
  intro pins s σ H D I h
  obtain ⟨v, e1, h⟩ := h
  obtain ⟨m, hn, hl⟩ := I.loc
  have vis : Vis X.env.scope x := by rcases hx with k | k; exact .inl k; exact .inr (.inl k)
  obtain ⟨u, r, l⟩ := hl i x v hi e1 vis
  refine wpAny_AugAssign_Name ?_
  have go : wpAny (model X.prog X.w) X.A (eval e X.env) (fun w s₂ => wpAny (model X.prog X.w) X.A (inplaceOp op u w) (fun r s₃ => wpAny (model X.prog X.w) X.A (storeName X.env x r) (fun _ => SP X pins D .next) X.xe s₃) X.xe s₂) X.xe s := by
    refine thn (he pins s σ H _ I h) fun w s1 ⟨y, H1, I1, r1, q1⟩ => ?_
    refine thn (ho pins s1 σ H1 v y u w _ I1 r r1 q1) fun z s2 ⟨zv, H2, I2, r2, q2⟩ => ?_
    exact W7 I2 hN hi hx r2 (fun s3 I3 => ⟨_, H2, I3, q2⟩) hf
  rcases l with ⟨hk, hm⟩ | ⟨hk, c, hc, hcell⟩
  · exact wpAny_loadName_local I.ok.kind hk hn hm go
  · rcases hk with hk | hk
    · exact wpAny_loadName_cell I.ok.kind hk hc hcell go
    · rcases hx with k | k
      · have : X.env.scope.names.lookup x = some .free := hk
        rw [k] at this; cases this
      · have : X.env.scope.names.lookup x = some .free := hk
        rw [k] at this; cases this
end
section
variable {X : Cx} {pos : Pos}
def aF5 (c : TT) (tb : TS) : TS := fun D σ H => ∃ W : Nat → St → Hp → Prop, (∃ m, W m σ H) ∧ ∀ m σ H, W m σ H →
  c σ H fun b H1 => if b = true then ∃ N : St → Hp → Prop, (∀ σ' H', N σ' H' → ∃ m', m' < m ∧ W m' σ' H') ∧ tb { D with nx := N, ct := N, bk := D.nx } σ H1 else D.nx σ H1
theorem aC3 {c : Expr} {body : List Stmt} {tc : TT} {tb : TS} (hp : PassesOwn (model X.prog X.w) X.A X.env X.xe) (hc : PT X c tc) (hb : PSs X body tb) : PS X (.While c body [] pos) (aF5 tc tb) := by
  intro pins s σ H D I h
  obtain ⟨W, ⟨m0, w0⟩, turn⟩ := h
  refine wpAny_While (codeAny_whileLoop (fun n s' => ∃ σ' H', Inv X pins σ' H' s' ∧ W n σ' H') ?_ m0 ⟨σ, H, I, w0⟩)
  rintro n s1 ⟨σ1, H1, I1, w1⟩
  refine wpAny_passesOwn hp (thn (hc pins s1 σ1 H1 _ I1 (turn n σ1 H1 w1)) fun b s2 ⟨H2, I2, q2⟩ => ?_)
  cases b with
  | true =>
    obtain ⟨N, hN, q2⟩ := q2
    rw [if_pos rfl]
    refine wpAny_passesOwn hp (thn (hb pins s2 σ1 H2 _ I2 q2) fun f s3 q3 => ?_)
    cases f with
    | next =>
      obtain ⟨σ3, H3, I3, n3⟩ := q3
      obtain ⟨m', hm, w3⟩ := hN σ3 H3 n3
      exact ⟨m', hm, σ3, H3, I3, w3⟩
    | cont =>
      obtain ⟨σ3, H3, I3, n3⟩ := q3
      obtain ⟨m', hm, w3⟩ := hN σ3 H3 n3
      exact ⟨m', hm, σ3, H3, I3, w3⟩
    | brk => exact q3
    | ret v => exact q3
  | false =>
    rw [if_neg Bool.false_ne_true]
    exact wpAny_execs_nil ⟨σ1, H2, I2, q2⟩
end
structure It where
  go : Nat → Hp → Prop
  yld : Nat → Hp → V → Hp → Prop
  stop : Nat → Hp → Prop
def ab4 (X : Cx) (pins : List (Addr × Obj)) (H : Hp) (b : Addr) : Prop :=
  H b = none ∧ b ≠ X.env.locals ∧ b ∉ X.fs ∧ (b ∈ X.ex ∨ X.s₀.heap.objs.size ≤ b) ∧ (∀ x c, X.env.cells.lookup x = some c → c ≠ b) ∧ ∀ p ∈ X.pn ++ pins, p.1 ≠ b
theorem Inv.fpOk {X : Cx} {pins : List (Addr × Obj)} {σ : St} {H H' : Hp} {s : Shared} {b : Addr} (I : Inv X pins σ H s) (hb : s.heap.objs.size ≤ b) (hn : H' b = none) : ab4 X pins H' b := by
  refine ⟨hn, Nat.ne_of_gt (Nat.lt_of_lt_of_le I.lt hb), I.nofs hb, .inr (Nat.le_trans I.sz hb), fun x c e z => ?_, fun p hp z => ?_⟩
  · obtain ⟨v, q⟩ := I.cell x c e
    exact absurd (Nat.lt_of_lt_of_le q.lt (by rw [z]; exact hb)) (Nat.lt_irrefl _)
  · exact absurd (Nat.lt_of_lt_of_le (Heap.lt_size (I.pin p hp).1) (by rw [z]; exact hb)) (Nat.lt_irrefl _)
structure aI8 (P : Program) (w : World) (K : PySem.W.Frag) (tg : Expr) (J : It) (fp : List Addr) (it : Addr) (tn : Nat → Heap → Prop) : Prop where
  mem : it ∈ fp
  obj : ∀ i h, tn i h → ∀ b ∈ fp, ∃ o, h.get? b = some o ∧ ∀ v, o.data ≠ .cell v
  keep : ∀ i h h', tn i h → (∀ b ∈ fp, ∀ o, h.get? b = some o → h'.get? b = some o) → tn i h'
  item : ∀ (X : Cx), X.prog = P → X.w = w → X.K = K → X.calm = true → ∀ (i : Nat) (pins : List (Addr × Obj)) (s : Shared) (σ : St) (H : Hp) (E : Value → Shared → Prop), Inv X pins σ H s → (∀ b ∈ fp, ab4 X pins H b) → tn i s.heap → J.go i H →
    wpAny (model P w) X.A (pyNext (.ref it)) (fun r s1 => ∃ u, r = some u ∧
      wpAny (model P w) X.A (letOwnedTupleGo tg (.ref it) u) (fun _ s2 => ∃ x H', Inv X pins σ H' s2 ∧ z9 x u ∧ J.yld i H x H' ∧ tn (i + 1) s2.heap ∧ ∀ b ∈ fp, H' b = none) E s1) E s
  done : ∀ (X : Cx), X.prog = P → X.w = w → X.K = K → X.calm = true → ∀ (i : Nat) (pins : List (Addr × Obj)) (s : Shared) (σ : St) (H : Hp) (E : Value → Shared → Prop), Inv X pins σ H s → (∀ b ∈ fp, ab4 X pins H b) → tn i s.heap → J.stop i H →
    wpAny (model P w) X.A (pyNext (.ref it)) (fun r s1 => r = none ∧ Inv X pins σ H s1) E s
  self : ∀ (A : Around) (i : Nat) (s : Shared) (Q : Value → Shared → Prop) (E : Value → Shared → Prop), tn i s.heap → Q (.ref it) s → wpAny (model P w) A (pyIter (.ref it)) Q E s
abbrev TI := St → Hp → (It → Hp → Prop) → Prop
def PIE (X : Cx) (pins : List (Addr × Obj)) (σ : St) (tg : Expr) (R : It → Hp → Prop) (itv : Value) (s2 : Shared) : Prop :=
  ∃ (it : Addr) (fp : List Addr) (tn : Nat → Heap → Prop) (J : It) (H' : Hp), itv = .ref it ∧ Inv X pins σ H' s2 ∧ aI8 X.prog X.w X.K tg J fp it tn ∧ tn 0 s2.heap ∧ (∀ b ∈ fp, ab4 X pins H' b) ∧ R J H'
def PI (X : Cx) (tg iter : Expr) (wi : TI) : Prop :=
  ∀ (pins : List (Addr × Obj)) (s : Shared) (σ : St) (H : Hp) (R : It → Hp → Prop), Inv X pins σ H s → wi σ H R →
    wpAny (model X.prog X.w) X.A (eval iter X.env) (fun v s1 => wpAny (model X.prog X.w) X.A (pyIter v) (PIE X pins σ tg R) X.xe s1) X.xe s
theorem aT7 {M : Model} {A : Around} {E : Value → Shared → Prop} {s : Shared} {tg : Expr} {it : Addr} {u : Value} {o : Obj} {n : String} {vs : Array Value} {Q : Unit → Shared → Prop} (ho : s.heap.get? it = some o) (hc : o.cls = .type n) (hd : o.data = .fields vs)
    (hn : ["enumerate", "zip", "dict_itemiterator", "dict_reverseitemiterator", "odict_iterator", "itertools.zip_longest", "itertools.pairwise"].contains n = false) (hQ : Q () s) : wpAny M A (letOwnedTupleGo tg (.ref it) u) Q E s := by
  unfold letOwnedTupleGo
  cases tg <;> first
    | exact wpAny_pure hQ
    | (cases u <;> first
        | exact wpAny_pure hQ
        | (refine wpAny_bind (wpAny_load ho ?_)
           rw [hc, hd]
           show wpAny M A (if (["enumerate", "zip", "dict_itemiterator", "dict_reverseitemiterator", "odict_iterator", "itertools.zip_longest", "itertools.pairwise"].contains n && vs[0]? == some (rawInt _)) = true then _ else _) Q E s
           rw [if_neg (by intro h; rw [hn, Bool.false_and] at h; cases h)]
           exact wpAny_pure hQ))
def Itl (K : PySem.W.Frag) (a : Addr) : It :=
  ⟨fun i H => ∃ xs x, SqL K H a xs ∧ xs[i]? = some x, fun i H x H' => H' = H ∧ ∀ xs, SqL K H a xs → xs[i]? = some x, fun i H => ∃ xs, SqL K H a xs ∧ xs.length ≤ i⟩
def Itt (K : PySem.W.Frag) (a : Addr) : It :=
  ⟨fun i H => ∃ xs x, SqT K H a xs ∧ xs[i]? = some x, fun i H x H' => H' = H ∧ ∀ xs, SqT K H a xs → xs[i]? = some x, fun i H => ∃ xs, SqT K H a xs ∧ xs.length ≤ i⟩
def Itr (lo : Int) (n : Nat) : It := ⟨fun i _ => i < n, fun i H x H' => H' = H ∧ x = .int (lo + i), fun i _ => n ≤ i⟩
theorem aM2 {P : Program} {w : World} {K : PySem.W.Frag} {tg : Expr} (a it : Addr) : aI8 P w K tg (Itl K a) [it] it (fun i h => h.IsListIter it a i) where
  mem := by simp
  obj := fun i h st b hb => by
    have e : b = it := by simpa using hb
    subst e
    obtain ⟨o, e, c, d⟩ := st
    exact ⟨o, e, fun v z => by rw [d] at z; cases z⟩
  keep := fun i h h' st k => st.at fun o e => k it (by simp) o e
  item := by
    intro X hP hw hK hc i pins s σ H E I hf st hg
    subst hP hw hK
    obtain ⟨xs, x, hq, hx⟩ := hg
    obtain ⟨its, rv, p, hz⟩ := I.list hq
    obtain ⟨u, hu, ru⟩ := rv.get hx
    obtain ⟨f0, f1, f2, f3, f4, f5⟩ := hf it (by simp)
    refine wpAny_pyNext_list_item st p.isList (x := u) (by simpa using hu) fun h' st' sb => ?_
    have I1 : Inv X pins σ H { s with heap := h' } := I.turned (t' := s.toks) (fun b o hb e => (sb.2 b hb).trans e) f0 f1 f3 f4 f5
    obtain ⟨o, e, c, d⟩ := id st'
    exact ⟨u, rfl, aT7 (s := { s with heap := h' }) e c d (by decide) ⟨x, H, I1, ru, ⟨rfl, fun ys hy => by rw [I.list_inj hy hq]; exact hx⟩, st', fun b hb => (hf b hb).1⟩⟩
  done := by
    intro X hP hw hK hc i pins s σ H E I hf st hg
    subst hP hw hK
    obtain ⟨xs, hq, hx⟩ := hg
    obtain ⟨its, rv, p, hz⟩ := I.list hq
    obtain ⟨f0, f1, f2, f3, f4, f5⟩ := hf it (by simp)
    have hl := rv.length
    exact wpAny_pyNext_list_end (I.ok.hd hc) st p.isList (by simp; omega) fun h' eb => ⟨rfl, I.turned (t' := s.toks) (fun b o hb e => eb b o hb e) f0 f1 f3 f4 f5⟩
  self := fun _ _ _ _ _ st h => wpAny_pyIter_listiter st h
theorem aF2 {P : Program} {w : World} {K : PySem.W.Frag} {tg : Expr} (a it : Addr) : aI8 P w K tg (Itt K a) [it] it (fun i h => h.IsTupleIter it a i) where
  mem := by simp
  obj := fun i h st b hb => by
    have e : b = it := by simpa using hb
    subst e
    obtain ⟨o, e, c, d⟩ := st
    exact ⟨o, e, fun v z => by rw [d] at z; cases z⟩
  keep := fun i h h' st k => st.at fun o e => k it (by simp) o e
  item := by
    intro X hP hw hK hc i pins s σ H E I hf st hg
    subst hP hw hK
    obtain ⟨xs, x, hq, hx⟩ := hg
    obtain ⟨its, rv, p, hz⟩ := I.tuple hq
    obtain ⟨u, hu, ru⟩ := rv.get hx
    obtain ⟨f0, f1, f2, f3, f4, f5⟩ := hf it (by simp)
    refine wpAny_pyNext_tuple_item st (show s.heap.IsTuple a its.toArray from p) (x := u) (by simpa using hu) fun h' st' sb => ?_
    have I1 : Inv X pins σ H { s with heap := h' } := I.turned (t' := s.toks) (fun b o hb e => (sb.2 b hb).trans e) f0 f1 f3 f4 f5
    obtain ⟨o, e, c, d⟩ := id st'
    exact ⟨u, rfl, aT7 (s := { s with heap := h' }) e c d (by decide) ⟨x, H, I1, ru, ⟨rfl, fun ys hy => by rw [I.tuple_inj hy hq]; exact hx⟩, st', fun b hb => (hf b hb).1⟩⟩
  done := by
    intro X hP hw hK hc i pins s σ H E I hf st hg
    subst hP hw hK
    obtain ⟨xs, hq, hx⟩ := hg
    obtain ⟨its, rv, p, hz⟩ := I.tuple hq
    obtain ⟨f0, f1, f2, f3, f4, f5⟩ := hf it (by simp)
    have hl := rv.length
    exact wpAny_pyNext_tuple_end (I.ok.hd hc) st (show s.heap.IsTuple a its.toArray from p) (by simp; omega) fun h' eb => ⟨rfl, I.turned (t' := s.toks) (fun b o hb e => eb b o hb e) f0 f1 f3 f4 f5⟩
  self := fun _ _ _ _ _ st h => wpAny_pyIter_tupleiter st h
theorem aF3 {P : Program} {w : World} {K : PySem.W.Frag} {tg : Expr} (it : Addr) (lo : Int) (n : Nat) : aI8 P w K tg (Itr lo n) [it] it (fun i h => IsRangeIter h it (lo + (i : Nat) * 1) ((n : Int) - (i : Nat)) 1) where
  mem := by simp
  obj := fun i h st b hb => by
    have e : b = it := by simpa using hb
    subst e
    exact ⟨_, st, fun v z => by
      have z' : Data.fields _ = Data.cell v := z
      cases z'⟩
  keep := fun i h h' st k => k it (by simp) _ st
  item := by
    intro X hP hw hK hc i pins s σ H E I hf st hg
    subst hP hw hK
    obtain ⟨f0, f1, f2, f3, f4, f5⟩ := hf it (by simp)
    have W := Walks.range (prog := X.prog) (w := X.w) (I.ok.hd hc) it lo 1 n
    refine W.item i s _ _ hg st fun v h' tk hv st' kk => ?_
    obtain ⟨t, rfl⟩ := hv
    have I1 : Inv X pins σ H { s with heap := h', toks := tk } := I.turned (fun b o hb e => kk b o (by simpa using hb) e) f0 f1 f3 f4 f5
    refine ⟨_, rfl, aT7 (s := { s with heap := h', toks := tk }) (n := "range_iterator") st' rfl rfl (by decide) ⟨.int (lo + i), H, I1, ⟨t, ?_⟩, ⟨rfl, rfl⟩, st', fun b hb => (hf b hb).1⟩⟩
    rw [Int.mul_one]
  done := by
    intro X hP hw hK hc i pins s σ H E I hf st hg
    subst hP hw hK
    obtain ⟨f0, f1, f2, f3, f4, f5⟩ := hf it (by simp)
    exact wpAny_pyNext_range_end (I.ok.hd hc) st (by have : n ≤ i := hg; omega) fun h' eb => ⟨rfl, I.turned (t' := s.toks) (fun b o hb e => eb b o hb e) f0 f1 f3 f4 f5⟩
  self := fun _ _ _ _ _ st h => wpAny_pyIter_rangeiter st h
section
variable {X : Cx} {tg : Expr}
def aE2 (K : PySem.W.Frag) (tl : TE) : TI := fun σ H R => tl σ H fun x H1 => ∃ a, x = .ref a ∧ (∃ xs, SqL K H1 a xs) ∧ R (Itl K a) H1
def aT2 (K : PySem.W.Frag) (tl : TE) : TI := fun σ H R => tl σ H fun x H1 => ∃ a, x = .ref a ∧ (∃ xs, SqT K H1 a xs) ∧ R (Itt K a) H1
theorem O7 {l : Expr} {tl : TE} (hl : PE X l tl) : PI X tg l (aE2 X.K tl) := by
  intro pins s σ H R I h
  refine thn (hl pins s σ H _ I h) fun v s1 ⟨x, H1, I1, r1, q1⟩ => ?_
  obtain ⟨a, e, ⟨xs, hq⟩, q⟩ := q1
  subst e
  cases r1
  obtain ⟨its, rv, p, hz⟩ := I1.list hq
  refine wpAny_pyIter_list p.isList ?_
  refine ⟨s1.heap.objs.size, [s1.heap.objs.size], _, _, H1, rfl, I1.kept (t' := s1.toks) fun b o e => Heap.get?_push_of_some _ e, aM2 a _, ⟨_, Heap.get?_push_size _ rfl, rfl, rfl⟩, fun b hb => ?_, q⟩
  have e : b = s1.heap.objs.size := by simpa using hb
  subst e
  exact I1.fpOk (Nat.le_refl _) (I1.hok.fresh (Nat.le_refl _))
theorem ap1 {l : Expr} {tl : TE} (hl : PE X l tl) : PI X tg l (aT2 X.K tl) := by
  intro pins s σ H R I h
  refine thn (hl pins s σ H _ I h) fun v s1 ⟨x, H1, I1, r1, q1⟩ => ?_
  obtain ⟨a, e, ⟨xs, hq⟩, q⟩ := q1
  subst e
  cases r1
  obtain ⟨its, rv, p, hz⟩ := I1.tuple hq
  refine wpAny_pyIter_tuple (show s1.heap.IsTuple a its.toArray from p) ?_
  refine ⟨s1.heap.objs.size, [s1.heap.objs.size], _, _, H1, rfl, I1.kept (t' := s1.toks) fun b o e => Heap.get?_push_of_some _ e, aF2 a _, ⟨_, Heap.get?_push_size _ rfl, rfl, rfl⟩, fun b hb => ?_, q⟩
  have e : b = s1.heap.objs.size := by simpa using hb
  subst e
  exact I1.fpOk (Nat.le_refl _) (I1.hok.fresh (Nat.le_refl _))
theorem aC0 {pins : List (Addr × Obj)} {σ : St} {H : Hp} {s : Shared} {R : It → Hp → Prop} {E : Value → Shared → Prop} {lo hi : Int} {t u v : Tok} {tk : Nat} (I : Inv X pins σ H s) (h1 : -(2 ^ 62) ≤ lo) (h2 : lo < 2 ^ 62) (h3 : -(2 ^ 62) ≤ hi) (h4 : hi < 2 ^ 62)
    (q : R (Itr lo (hi - lo).toNat) H) : wpAny (model X.prog X.w) X.A (pyIter (.ref s.heap.objs.size)) (PIE X pins σ tg R) E { s with heap := s.heap.push { cls := .type "range", data := .fields #[.int lo t, .int hi u, .int 1 v] }, toks := tk } := by
  refine wpAny_pyIter_range (IsRange.new ..) (small_one h1 h2 h3 h4) ?_
  have I1 : Inv X pins σ H { s with heap := s.heap.push { cls := .type "range", data := .fields #[.int lo t, .int hi u, .int 1 v] }, toks := tk } := I.kept fun b o e => Heap.get?_push_of_some _ e
  refine ⟨(s.heap.push { cls := .type "range", data := .fields #[.int lo t, .int hi u, .int 1 v] }).objs.size, [(s.heap.push { cls := .type "range", data := .fields #[.int lo t, .int hi u, .int 1 v] }).objs.size], _, _, H, rfl,
    I1.kept (t' := tk) fun b o e => Heap.get?_push_of_some _ e, aF3 _ lo (hi - lo).toNat, ?_, fun b hb => ?_, q⟩
  · have e1 : lo + ((0 : Nat) : Int) * 1 = lo := by simp
    have e2 : (((hi - lo).toNat : Nat) : Int) - ((0 : Nat) : Int) = Builtin.Range.rangeSize lo hi 1 := by rw [rangeSize_one]; split <;> omega
    show IsRangeIter _ _ (lo + ((0 : Nat) : Int) * 1) ((((hi - lo).toNat : Nat) : Int) - ((0 : Nat) : Int)) 1
    rw [e1, e2]
    exact Heap.get?_push_size _ rfl
  · have e : b = (s.heap.push { cls := .type "range", data := .fields #[.int lo t, .int hi u, .int 1 v] }).objs.size := by simpa using hb
    subst e
    exact I1.fpOk (Nat.le_refl _) (I1.hok.fresh (Nat.le_refl _))
def aT4 (ta : TA) : TI := fun σ H R => ta σ H fun vs H1 => ∃ j : Int, vs = [.int j] ∧ -(2 ^ 62) ≤ j ∧ j < 2 ^ 62 ∧ R (Itr 0 j.toNat) H1
def aT3 (ta : TA) : TI := fun σ H R => ta σ H fun vs H1 => ∃ i j : Int, vs = [.int i, .int j] ∧ (-(2 ^ 62) ≤ i ∧ i < 2 ^ 62 ∧ -(2 ^ 62) ≤ j ∧ j < 2 ^ 62) ∧ R (Itr i (j - i).toNat) H1
theorem C3 {a : Expr} {ta : TA} {p pos : Pos} (hg : Gl X "range") (hm : X.mg "range" = none) (ha : PA X [a] ta) (hs : starEach [a] X.env = [(false, eval a X.env)] := by rfl) : PI X tg (.Call (.Name "range" p) [a] [] pos) (aT4 ta) := by
  intro pins s σ H R I h
  refine Call_ (Q9 I hg hm boot_range (PyProof.Rows.callWith_type1 (thn (ha pos pins s σ H _ I h) fun us s1 ⟨vs, H1, I1, r1, q1⟩ => ?_) hs rfl))
  obtain ⟨j, e, q1, q2, q⟩ := q1
  subst e
  cases r1 with
  | cons r rr =>
    cases rr
    obtain ⟨t, rfl⟩ := r
    exact call_range_1 (aC0 I1 (by omega) (by omega) q1 q2 (by simpa using q))
theorem Y1 {a b : Expr} {ta : TA} {p pos : Pos} (hg : Gl X "range") (hm : X.mg "range" = none) (ha : PA X [a, b] ta) (hs : starEach [a, b] X.env = [(false, eval a X.env), (false, eval b X.env)] := by rfl) (hs2 : starEach [b] X.env = [(false, eval b X.env)] := by rfl) :
    PI X tg (.Call (.Name "range" p) [a, b] [] pos) (aT3 ta) := by
  intro pins s σ H R I h
  refine Call_ (Q9 I hg hm boot_range (PyProof.Rows.callWith_type1 (thn (ha pos pins s σ H _ I h) fun us s1 ⟨vs, H1, I1, r1, q1⟩ => ?_) (by rw [hs, hs2]) (by rw [hs2]; rfl)))
  obtain ⟨i, j, e, ⟨q1, q2, q3, q4⟩, q⟩ := q1
  subst e
  cases r1 with
  | cons r rr =>
    cases rr with
    | cons r' rr =>
      cases rr
      obtain ⟨t, rfl⟩ := r
      obtain ⟨t', rfl⟩ := r'
      exact call_range_2 (aC0 I1 q1 q2 q3 q4 q)
def bh6 (wi : TI) (g : TG) (tb : TS) : TS := fun D σ H => wi σ H fun J H1 => ∃ W : Nat → Nat → St → Hp → Prop, (∃ m, W 0 m σ H1) ∧ ∀ i m σ H, W i m σ H →
  (J.stop i H ∧ D.nx σ H) ∨ (J.go i H ∧ ∃ N : St → Hp → Prop, (∀ σ' H', N σ' H' → ∃ m', m' < m ∧ W (i + 1) m' σ' H') ∧ ∀ x H', J.yld i H x H' → g x σ H' fun σ2 H2 => tb { D with nx := N, ct := N, bk := D.nx } σ2 H2)
def ay5 (fp : List Addr) (h : Heap) : List (Addr × Obj) := fp.filterMap fun b => (h.get? b).map fun o => (b, o)
theorem t8 {fp : List Addr} {h : Heap} {b : Addr} {o : Obj} (hb : b ∈ fp) (e : h.get? b = some o) : (b, o) ∈ ay5 fp h := List.mem_filterMap.mpr ⟨b, hb, by rw [e]; rfl⟩
theorem aN1 {fp : List Addr} {h : Heap} {p : Addr × Obj} (hp : p ∈ ay5 fp h) : p.1 ∈ fp ∧ h.get? p.1 = some p.2 := by
  obtain ⟨b, hb, e⟩ := List.mem_filterMap.mp hp
  cases q : h.get? b with
  | none => rw [q] at e; cases e
  | some o =>
    rw [q] at e
    have e' : (b, o) = p := Option.some.inj e
    subst e'
    exact ⟨hb, q⟩
theorem Inv.pinned {pins : List (Addr × Obj)} {σ : St} {H : Hp} {s : Shared} {fp : List Addr} (I : Inv X pins σ H s) (hf : ∀ b ∈ fp, ab4 X pins H b) (ho : ∀ b ∈ fp, ∃ o, s.heap.get? b = some o ∧ ∀ v, o.data ≠ .cell v) : Inv X (pins ++ ay5 fp s.heap) σ H s :=
  I.pins_of fun p hp => (List.mem_append.mp hp).elim (fun z => I.pin p (List.mem_append_right _ z)) fun z => by
    obtain ⟨hb, e⟩ := aN1 z
    obtain ⟨f0, f1, f2, _⟩ := hf p.1 hb
    obtain ⟨o, e', d⟩ := ho p.1 hb
    rw [e] at e'; cases e'
    exact ⟨e, f0, f1, f2, d⟩
theorem Inv.unpinned {pins pl : List (Addr × Obj)} {σ : St} {H : Hp} {s : Shared} (I : Inv X (pins ++ pl) σ H s) : Inv X pins σ H s := I.pins_of fun p hp => I.pin p (List.mem_append_right _ (List.mem_append_left _ hp))
theorem T4 {iter : Expr} {body : List Stmt} {wi : TI} {g : TG} {tb : TS} {pos : Pos} (hp : PassesOwn (model X.prog X.w) X.A X.env X.xe) (hc : X.calm = true) (hi : PI X tg iter wi) (hg : PG X tg g) (hb : PSs X body tb)
    (hs : ∀ x, foldedSetIterable iter X.env x = pure x := by intro _; rfl) : PS X (.For tg iter body [] pos) (bh6 wi g tb) := by
  intro pins s σ H D I h
  refine wpAny_For (thn (hi pins s σ H _ I h) fun v s1 h1 => thn h1 fun itv s2 h2 => ?_) hs
  obtain ⟨it, fp, tn, J, H2, e, I2, T, st2, f2, W, ⟨m0, w0⟩, turn⟩ := h2
  subst e
  -- what stays true of the iterator's objects through the loop
  have stat : ∀ {H' : Hp}, (∀ b ∈ fp, H' b = none) → ∀ b ∈ fp, ab4 X pins H' b := fun hn b hb => ⟨hn b hb, (f2 b hb).2⟩
  refine codeAny_forLoop_any (fun n s' => ∃ i σ' H', Inv X pins σ' H' s' ∧ tn i s'.heap ∧ (∀ b ∈ fp, H' b = none) ∧ W i n σ' H') ?_ m0 ⟨0, σ, H2, I2, st2, fun b hb => (f2 b hb).1, w0⟩
  rintro n s3 ⟨i, σ3, H3, I3, st3, fr3, w3⟩
  rcases turn i n σ3 H3 w3 with ⟨stop, qn⟩ | ⟨go, N, hN, step⟩
  · refine wpAny_passesOwn hp (thn (T.done X rfl rfl rfl hc i pins s3 σ3 H3 X.xe I3 (stat fr3) st3 stop) fun r s4 ⟨hr, I4⟩ => ?_)
    subst hr
    exact wpAny_execs_nil ⟨σ3, H3, I4, qn⟩
  · refine wpAny_passesOwn hp (thn (T.item X rfl rfl rfl hc i pins s3 σ3 H3 X.xe I3 (stat fr3) st3 go) fun r s4 ⟨u, hr, h4⟩ => ?_)
    subst hr
    refine wpAny_passesOwn hp (thn h4 fun _ s5 ⟨x, H5, I5, r5, y5, st5, fr5⟩ => ?_)
    have I5' := I5.pinned (stat fr5) (T.obj _ _ st5)
    refine wpAny_passesOwn hp (thn (hg _ s5 σ3 H5 x u _ I5' r5 (step x H5 y5)) fun _ s6 ⟨σ6, H6, I6, q6⟩ => ?_)
    refine wpAny_passesOwn hp (thn (hb _ s6 σ6 H6 _ I6 q6) fun f s7 q7 => ?_)
    have again : ∀ {σ7 : St} {H7 : Hp}, Inv X (pins ++ ay5 fp s5.heap) σ7 H7 s7 → N σ7 H7 → ∃ m, m < n ∧ ∃ i σ' H', Inv X pins σ' H' s7 ∧ tn i s7.heap ∧ (∀ b ∈ fp, H' b = none) ∧ W i m σ' H' := fun {σ7 H7} I7 n7 => by
      obtain ⟨m', hm, w7⟩ := hN σ7 H7 n7
      refine ⟨m', hm, i + 1, σ7, H7, I7.unpinned, T.keep _ _ _ st5 fun b hb o e => (I7.pin (b, o) (List.mem_append_right _ (List.mem_append_right _ (t8 hb e)))).1, fun b hb => ?_, w7⟩
      obtain ⟨o, e, d⟩ := T.obj _ _ st5 b hb
      exact (I7.pin (b, o) (List.mem_append_right _ (List.mem_append_right _ (t8 hb e)))).2.1
    cases f with
    | next => obtain ⟨σ7, H7, I7, n7⟩ := q7; exact again I7 n7
    | cont => obtain ⟨σ7, H7, I7, n7⟩ := q7; exact again I7 n7
    | brk => obtain ⟨σ7, H7, I7, q7⟩ := q7; exact ⟨σ7, H7, I7.unpinned, q7⟩
    | ret v => obtain ⟨x7, σ7, H7, I7, r7, q7⟩ := q7; exact ⟨x7, σ7, H7, I7.unpinned, r7, q7⟩
end
theorem ar2 {K : PySem.W.Frag} {a : Addr} {xs : List V} {g : TG} {tb : TS} {D : au1} {σ : St} {H : Hp} (Pv : Nat → St → Hp → Prop) (h0 : Pv 0 σ H) (hl : ∀ i σ H, i ≤ xs.length → Pv i σ H → SqL K H a xs)
    (hs : ∀ i x σ H, xs[i]? = some x → Pv i σ H → g x σ H fun σ2 H2 => tb { D with nx := Pv (i + 1), ct := Pv (i + 1), bk := D.nx } σ2 H2) (hd : ∀ σ H, Pv xs.length σ H → D.nx σ H) :
    ∃ W : Nat → Nat → St → Hp → Prop, (∃ m, W 0 m σ H) ∧ ∀ i m σ H, W i m σ H →
      ((Itl K a).stop i H ∧ D.nx σ H) ∨ ((Itl K a).go i H ∧ ∃ N : St → Hp → Prop, (∀ σ' H', N σ' H' → ∃ m', m' < m ∧ W (i + 1) m' σ' H') ∧ ∀ x H', (Itl K a).yld i H x H' → g x σ H' fun σ2 H2 => tb { D with nx := N, ct := N, bk := D.nx } σ2 H2) := by
  refine ⟨fun i m σ H => m = xs.length - i ∧ i ≤ xs.length ∧ Pv i σ H, ⟨xs.length, by simp, Nat.zero_le _, h0⟩, ?_⟩
  rintro i m σ H ⟨rfl, hi, p⟩
  have q := hl i σ H hi p
  by_cases hlt : i < xs.length
  · refine .inr ⟨⟨xs, xs[i], q, by simp [hlt]⟩, Pv (i + 1), fun σ' H' p' => ⟨xs.length - (i + 1), by omega, rfl, hlt, p'⟩, fun x H' y => ?_⟩
    obtain ⟨e, y⟩ := y
    subst e
    exact hs i x σ _ (y xs q) p
  · have e : i = xs.length := by omega
    subst e
    exact .inl ⟨⟨xs, q, Nat.le_refl _⟩, hd σ H p⟩
theorem O1 {lo : Int} {n : Nat} {g : TG} {tb : TS} {D : au1} {σ : St} {H : Hp} (Pv : Nat → St → Hp → Prop) (h0 : Pv 0 σ H)
    (hs : ∀ i σ H, i < n → Pv i σ H → g (.int (lo + i)) σ H fun σ2 H2 => tb { D with nx := Pv (i + 1), ct := Pv (i + 1), bk := D.nx } σ2 H2) (hd : ∀ σ H, Pv n σ H → D.nx σ H) :
    ∃ W : Nat → Nat → St → Hp → Prop, (∃ m, W 0 m σ H) ∧ ∀ i m σ H, W i m σ H →
      ((Itr lo n).stop i H ∧ D.nx σ H) ∨ ((Itr lo n).go i H ∧ ∃ N : St → Hp → Prop, (∀ σ' H', N σ' H' → ∃ m', m' < m ∧ W (i + 1) m' σ' H') ∧ ∀ x H', (Itr lo n).yld i H x H' → g x σ H' fun σ2 H2 => tb { D with nx := N, ct := N, bk := D.nx } σ2 H2) := by
  refine ⟨fun i m σ H => m = n - i ∧ i ≤ n ∧ Pv i σ H, ⟨n, by simp, Nat.zero_le _, h0⟩, ?_⟩
  rintro i m σ H ⟨rfl, hi, p⟩
  by_cases hlt : i < n
  · refine .inr ⟨hlt, Pv (i + 1), fun σ' H' p' => ⟨n - (i + 1), by omega, rfl, hlt, p'⟩, fun x H' y => ?_⟩
    obtain ⟨e, y⟩ := y
    subst e y
    exact hs i σ _ hlt p
  · have e : i = n := by omega
    subst e
    exact .inl ⟨Nat.le_refl _, hd σ H p⟩
theorem aB4 {c : TT} {tb : TS} {D : au1} {σ : St} {H : Hp} (Pv : St → Hp → Prop) (μ : St → Hp → Nat) (h0 : Pv σ H)
    (hs : ∀ σ H, Pv σ H → c σ H fun b H1 => if b = true then tb { D with nx := fun σ' H' => Pv σ' H' ∧ μ σ' H' < μ σ H, ct := fun σ' H' => Pv σ' H' ∧ μ σ' H' < μ σ H, bk := D.nx } σ H1 else D.nx σ H1)
    (mono : ∀ σ H Q Q', (∀ b H1, Q b H1 → Q' b H1) → c σ H Q → c σ H Q') : aF5 c tb D σ H := by
  refine ⟨fun m σ H => m = μ σ H ∧ Pv σ H, ⟨_, rfl, h0⟩, ?_⟩
  rintro m σ H ⟨rfl, p⟩
  refine mono σ H _ _ (fun b H1 q => ?_) (hs σ H p)
  cases b with
  | true => exact ⟨_, fun σ' H' ⟨p', l⟩ => ⟨_, l, rfl, p'⟩, q⟩
  | false => exact q
abbrev R2 := V → V → Hp → VK → Prop
def OpR (X : Cx) (f : Value → Value → Sem Value) (r : R2) : Prop :=
  ∀ (pins : List (Addr × Obj)) (s : Shared) (σ : St) (H : Hp) (x y : V) (v u : Value) (Q : VK), Inv X pins σ H s → z9 x v → z9 y u → r x y H Q →
    wpAny (model X.prog X.w) X.A (f v u) (EP X pins σ Q) X.xe s
def UnR (X : Cx) (f : Value → Sem Value) (r : V → Hp → VK → Prop) : Prop :=
  ∀ (pins : List (Addr × Obj)) (s : Shared) (σ : St) (H : Hp) (x : V) (v : Value) (Q : VK), Inv X pins σ H s → z9 x v → r x H Q →
    wpAny (model X.prog X.w) X.A (f v) (EP X pins σ Q) X.xe s
def aa3 (X : Cx) (f : Value) (r : List V → Hp → VK → Prop) : Prop :=
  ∀ (pins : List (Addr × Obj)) (s : Shared) (σ : St) (H : Hp) (xs : List V) (us : List Value) (Q : VK), Inv X pins σ H s → t0 xs us → r xs H Q →
    wpAny (model X.prog X.w) X.A (call f us) (EP X pins σ Q) X.xe s
def bi2 (X : Cx) (r : V → Hp → (Bool → Hp → Prop) → Prop) : Prop :=
  ∀ (pins : List (Addr × Obj)) (s : Shared) (σ : St) (H : Hp) (x : V) (v : Value) (Q : Bool → Hp → Prop), Inv X pins σ H s → z9 x v → r x H Q →
    wpAny (model X.prog X.w) X.A (truthy v) (TP X pins σ Q) X.xe s
def tOp (r : R2) (ta tb : TE) : TE := fun σ H Q => ta σ H fun x H1 => tb σ H1 fun y H2 => r x y H2 Q
def tUn (r : V → Hp → VK → Prop) (ta : TE) : TE := fun σ H Q => ta σ H fun x H1 => r x H1 Q
def rI (C : Int → Int → Prop) (g : Int → Int → V) : R2 := fun x y H Q => ∃ i j, x = .int i ∧ y = .int j ∧ C i j ∧ Q (g i j) H
def rI0 (g : Int → Int → V) : R2 := fun x y H Q => ∃ i j, x = .int i ∧ y = .int j ∧ Q (g i j) H
def rU (g : Int → V) : V → Hp → VK → Prop := fun x H Q => ∃ i, x = .int i ∧ Q (g i) H
section
variable {X : Cx} {a b c : Expr} {ta tb tc : TE} {pos : Pos}
theorem be9 (ha : PE X a ta) (hb : PE X b tb) {pins : List (Addr × Obj)} {s : Shared} {σ : St} {H : Hp} {R : V → V → Hp → Prop} (I : Inv X pins σ H s)
    (h : ta σ H fun x H1 => tb σ H1 fun y H2 => R x y H2) {Q : Value → Shared → Prop} {f : Value → Value → Sem Value}
    (hf : ∀ v u s2 x y H2, Inv X pins σ H2 s2 → z9 x v → z9 y u → R x y H2 → wpAny (model X.prog X.w) X.A (f v u) Q X.xe s2) :
    wpAny (model X.prog X.w) X.A (eval a X.env) (fun v s₁ => wpAny (model X.prog X.w) X.A (eval b X.env) (fun u s₂ => wpAny (model X.prog X.w) X.A (f v u) Q X.xe s₂) X.xe s₁) X.xe s := by
  refine thn (ha pins s σ H _ I h) fun v s1 ⟨x, H1, I1, r1, q1⟩ => ?_
  refine thn (hb pins s1 σ H1 _ I1 q1) fun u s2 ⟨y, H2, I2, r2, q2⟩ => ?_
  exact hf v u s2 x y H2 I2 r1 r2 q2
theorem i4 {op : Operator} {r : R2} (ho : OpR X (binaryOp op) r) (ha : PE X a ta) (hb : PE X b tb) : PE X (.BinOp a op b pos) (tOp r ta tb) := by
  intro pins s σ H Q I h
  exact wpAny_BinOp (be9 ha hb I h fun v u s2 x y H2 I2 rx ry q => ho pins s2 σ H2 x y v u Q I2 rx ry q)
theorem au9 {op : UnaryOp} {r : V → Hp → VK → Prop} (ho : UnR X (unaryOp op) r) (ha : PE X a ta) : PE X (.UnaryOp op a pos) (tUn r ta) := by
  intro pins s σ H Q I h
  exact UnaryOp_ (thn (ha pins s σ H _ I h) fun v s1 ⟨x, H1, I1, r1, q1⟩ => ho pins s1 σ H1 x v Q I1 r1 q1)
theorem opI {f : Value → Value → Sem Value} {C : Int → Int → Prop} {g : Int → Int → Int}
    (rule : ∀ (i j : Int) (t u : Tok) (s : Shared) (Q : Value → Shared → Prop) (E : Value → Shared → Prop), C i j → Q (.int (g i j) s.toks) { s with toks := s.toks + 1 } → wpAny (model X.prog X.w) X.A (f (.int i t) (.int j u)) Q E s) :
    OpR X f (rI C fun i j => .int (g i j)) := by
  intro pins s σ H x y v u Q I rx ry h
  obtain ⟨i, j, rfl, rfl, hc, q⟩ := h
  obtain ⟨t, rfl⟩ := rx
  obtain ⟨t', rfl⟩ := ry
  exact rule i j t t' s _ _ hc ⟨.int (g i j), H, I.tok _, ⟨_, rfl⟩, q⟩
theorem bg7 {f : Value → Value → Sem Value} {g : Int → Int → Int}
    (rule : ∀ (i j : Int) (t u : Tok) (s : Shared) (Q : Value → Shared → Prop) (E : Value → Shared → Prop), Q (.int (g i j) s.toks) { s with toks := s.toks + 1 } → wpAny (model X.prog X.w) X.A (f (.int i t) (.int j u)) Q E s) :
    OpR X f (rI0 fun i j => .int (g i j)) := by
  intro pins s σ H x y v u Q I rx ry h
  obtain ⟨i, j, rfl, rfl, q⟩ := h
  obtain ⟨t, rfl⟩ := rx
  obtain ⟨t', rfl⟩ := ry
  exact rule i j t t' s _ _ ⟨.int (g i j), H, I.tok _, ⟨_, rfl⟩, q⟩
theorem aX8 {f : Value → Value → Sem Value} {g : Int → Int → Bool}
    (rule : ∀ (i j : Int) (t u : Tok) (s : Shared) (Q : Value → Shared → Prop) (E : Value → Shared → Prop), Q (.bool (g i j)) s → wpAny (model X.prog X.w) X.A (f (.int i t) (.int j u)) Q E s) :
    OpR X f (rI0 fun i j => .bl (g i j)) := by
  intro pins s σ H x y v u Q I rx ry h
  obtain ⟨i, j, rfl, rfl, q⟩ := h
  obtain ⟨t, rfl⟩ := rx
  obtain ⟨t', rfl⟩ := ry
  exact rule i j t t' s _ _ ⟨.bl (g i j), H, I, rfl, q⟩
def bf8 (i j : Int) : Prop := 0 ≤ j ∧ j ≤ 1000000 ∧ i.natAbs < 2 ^ 64
theorem E4 : OpR X (binaryOp .Add) (rI0 fun i j => .int (i + j)) := bg7 fun _ _ _ _ _ _ _ q => add_int q
theorem U1 : OpR X (binaryOp .Sub) (rI0 fun i j => .int (i - j)) := bg7 fun _ _ _ _ _ _ _ q => sub_int q
theorem S0 : OpR X (binaryOp .Mod) (rI (fun _ j => j ≠ 0) fun i j => .int (i.fmod j)) := opI fun _ _ _ _ _ _ _ hc q => mod_int' hc q
theorem ac4 : OpR X (binaryOp .Pow) (rI bf8 fun i j => .int (i ^ j.toNat)) := opI fun _ _ _ _ _ _ _ hc q => pow_int_small hc.1 hc.2.1 hc.2.2 q
theorem unI {f : Value → Sem Value} {g : Int → Int}
    (rule : ∀ (i : Int) (t : Tok) (s : Shared) (Q : Value → Shared → Prop) (E : Value → Shared → Prop), Q (.int (g i) s.toks) { s with toks := s.toks + 1 } → wpAny (model X.prog X.w) X.A (f (.int i t)) Q E s) :
    UnR X f (rU fun i => .int (g i)) := by
  intro pins s σ H x v Q I rx h
  obtain ⟨i, rfl, q⟩ := h
  obtain ⟨t, rfl⟩ := rx
  exact rule i t s _ _ ⟨.int (g i), H, I.tok _, ⟨_, rfl⟩, q⟩
theorem ai8 : UnR X (unaryOp .USub) (rU fun i => .int (-i)) := unI fun _ _ _ _ _ q => neg_int q
end
def aG1 : V → V → Bool
  | .non, .non => true | .non, .int _ => true | .int _, .non => true | .non, .bl _ => true | .bl _, .non => true | .non, .str _ => true | .str _, .non => true
  | .int _, .int _ => true | .bl _, .bl _ => true | .str _, .str _ => true | .byt _, .byt _ => true
  | .int _, .str _ => true | .str _, .int _ => true | .bl _, .str _ => true | .str _, .bl _ => true
  | _, _ => false
def rEq : R2 := fun x y H Q => aG1 x y = true ∧ Q (.bl (decide (x = y))) H
def rNe : R2 := fun x y H Q => aG1 x y = true ∧ Q (.bl (!decide (x = y))) H
theorem aK9 {i j : Int} : decide (V.int i = V.int j) = (i == j) := by
  rw [Bool.eq_iff_iff]
  simp
theorem aU9 {i j : Bool} : decide (V.bl i = V.bl j) = (i == j) := by
  rw [Bool.eq_iff_iff]
  simp
theorem aK8 {i j : Str} : decide (V.str i = V.str j) = (i == j) := by
  rw [Bool.eq_iff_iff]
  simp
theorem aL0 {i j : Array UInt8} : decide (V.byt i = V.byt j) = (i.toList == j.toList) := by
  rw [Bool.eq_iff_iff]
  cases i
  cases j
  simp
section
variable {X : Cx} {a b c : Expr} {ta tb tc : TE} {pos : Pos}
theorem w4 {pins : List (Addr × Obj)} {σ : St} {H : Hp} {s : Shared} {Q : VK} {k k' : Bool} (I : Inv X pins σ H s) (q : Q (.bl k) H) (e : k = k') : EP X pins σ Q (.bool k') s := by
  subst e
  exact ⟨.bl k, H, I, rfl, q⟩
theorem al2 : OpR X (compareOp .Eq) rEq := by
  intro pins s σ H x y v u Q I rx ry h
  obtain ⟨hs, q⟩ := h
  cases x with
  | non =>
    cases rx
    cases y with
    | non => cases ry; exact PySem.EqNone.eq_none_none (w4 I q (by simp))
    | bl j => cases ry; exact PySem.EqNone.eq_none_bool (w4 I q (by simp))
    | int j => obtain ⟨t', rfl⟩ := ry; exact PySem.EqNone.eq_none_int (w4 I q (by simp))
    | str j => obtain ⟨t', rfl⟩ := ry; exact PySem.EqNone.eq_none_str (w4 I q (by simp))
    | _ => exact absurd (show false = true from hs) Bool.false_ne_true
  | bl i =>
    cases rx
    cases y with
    | non => cases ry; exact PySem.EqNone.eq_bool_none (w4 I q (by simp))
    | bl j => cases ry; exact eq_bool (w4 I q aU9)
    | str j => obtain ⟨t', rfl⟩ := ry; exact PySem.EqMixed.eq_bool_str (w4 I q (by simp))
    | _ => exact absurd (show false = true from hs) Bool.false_ne_true
  | int i =>
    obtain ⟨t, rfl⟩ := rx
    cases y with
    | non => cases ry; exact PySem.EqNone.eq_int_none (w4 I q (by simp))
    | int j => obtain ⟨t', rfl⟩ := ry; exact eq_int (w4 I q aK9)
    | str j => obtain ⟨t', rfl⟩ := ry; exact PySem.EqMixed.eq_int_str (w4 I q (by simp))
    | _ => exact absurd (show false = true from hs) Bool.false_ne_true
  | str i =>
    obtain ⟨t, rfl⟩ := rx
    cases y with
    | non => cases ry; exact PySem.EqNone.eq_str_none (w4 I q (by simp))
    | bl j => cases ry; exact PySem.EqMixed.eq_str_bool (w4 I q (by simp))
    | int j => obtain ⟨t', rfl⟩ := ry; exact PySem.EqMixed.eq_str_int (w4 I q (by simp))
    | str j => obtain ⟨t', rfl⟩ := ry; exact eq_str (w4 I q aK8)
    | _ => exact absurd (show false = true from hs) Bool.false_ne_true
  | byt i =>
    obtain ⟨t, rfl⟩ := rx
    cases y with
    | byt j => obtain ⟨t', rfl⟩ := ry; exact PySem.W.eq_bytes (w4 I q aL0)
    | _ => exact absurd (show false = true from hs) Bool.false_ne_true
  | _ => cases y <;> exact absurd (show false = true from hs) Bool.false_ne_true
theorem ap5 : OpR X (compareOp .NotEq) rNe := by
  intro pins s σ H x y v u Q I rx ry h
  obtain ⟨hs, q⟩ := h
  cases x with
  | non =>
    cases rx
    cases y with
    | non => cases ry; exact PySem.EqNone.ne_none_none (w4 I q (by simp))
    | bl j => cases ry; exact PySem.EqNone.ne_none_bool (w4 I q (by simp))
    | int j => obtain ⟨t', rfl⟩ := ry; exact PySem.EqNone.ne_none_int (w4 I q (by simp))
    | str j => obtain ⟨t', rfl⟩ := ry; exact PySem.EqNone.ne_none_str (w4 I q (by simp))
    | _ => exact absurd (show false = true from hs) Bool.false_ne_true
  | bl i =>
    cases rx
    cases y with
    | non => cases ry; exact PySem.EqNone.ne_bool_none (w4 I q (by simp))
    | bl j => cases ry; exact ne_bool (w4 I q (congrArg not aU9))
    | str j => obtain ⟨t', rfl⟩ := ry; exact PySem.EqMixed.ne_bool_str (w4 I q (by simp))
    | _ => exact absurd (show false = true from hs) Bool.false_ne_true
  | int i =>
    obtain ⟨t, rfl⟩ := rx
    cases y with
    | non => cases ry; exact PySem.EqNone.ne_int_none (w4 I q (by simp))
    | int j => obtain ⟨t', rfl⟩ := ry; exact ne_int (w4 I q (congrArg not aK9))
    | str j => obtain ⟨t', rfl⟩ := ry; exact PySem.EqMixed.ne_int_str (w4 I q (by simp))
    | _ => exact absurd (show false = true from hs) Bool.false_ne_true
  | str i =>
    obtain ⟨t, rfl⟩ := rx
    cases y with
    | non => cases ry; exact PySem.EqNone.ne_str_none (w4 I q (by simp))
    | bl j => cases ry; exact PySem.EqMixed.ne_str_bool (w4 I q (by simp))
    | int j => obtain ⟨t', rfl⟩ := ry; exact PySem.EqMixed.ne_str_int (w4 I q (by simp))
    | str j => obtain ⟨t', rfl⟩ := ry; exact ne_str (w4 I q (congrArg not aK8))
    | _ => exact absurd (show false = true from hs) Bool.false_ne_true
  | byt i =>
    obtain ⟨t, rfl⟩ := rx
    cases y with
    | byt j => obtain ⟨t', rfl⟩ := ry; exact PySem.W.ne_bytes (w4 I q (congrArg not aL0))
    | _ => exact absurd (show false = true from hs) Bool.false_ne_true
  | _ => cases y <;> exact absurd (show false = true from hs) Bool.false_ne_true
theorem ap6 : OpR X (compareOp .Lt) (rI0 fun i j => .bl (decide (i < j))) := aX8 fun _ _ _ _ _ _ _ q => lt_int q
theorem aJ9 : OpR X (compareOp .LtE) (rI0 fun i j => .bl (decide (i ≤ j))) := aX8 fun _ _ _ _ _ _ _ q => le_int q
theorem ap7 : OpR X (compareOp .Gt) (rI0 fun i j => .bl (decide (j < i))) := aX8 fun _ _ _ _ _ _ _ q => gt_int q
theorem bg6 : OpR X (compareOp .GtE) (rI0 fun i j => .bl (decide (j ≤ i))) := aX8 fun _ _ _ _ _ _ _ q => ge_int q
theorem bd1 : OpR X (compareOp .Is) (fun x y H Q => y = .non ∧ Q (.bl (decide (x = .non))) H) := by
  intro pins s σ H x y v u Q I rx ry h
  obtain ⟨rfl, q⟩ := h
  cases ry
  refine is_none_gen (w4 I q ?_)
  cases x <;> first
    | (cases rx; rfl)
    | (obtain ⟨t, rfl⟩ := rx; rfl)
theorem t5 (b : Expr) {op : CmpOp} (h : op ≠ .In := by decide) (h2 : op ≠ .NotIn := by decide) : behindInMarks op b = false := by
  have e1 : (op == CmpOp.In) = false := by cases op <;> first | rfl | exact absurd rfl h
  have e2 : (op == CmpOp.NotIn) = false := by cases op <;> first | rfl | exact absurd rfl h2
  cases b <;> simp [behindInMarks, e1, e2]
theorem R7 {op : CmpOp} {r : R2} (ho : OpR X (compareOp op) r) (ha : PE X a ta) (hb : PE X b tb) (hm : behindInMarks op b = false) : PE X (.Compare a [op] [b] pos) (tOp r ta tb) := by
  intro pins s σ H Q I h
  exact wpAny_Compare1 (be9 ha hb I h fun v u s2 x y H2 I2 rx ry q => ho pins s2 σ H2 x y v u Q I2 rx ry q) hm
def aJ0 (t : TE) : TT := fun σ H Q => t σ H fun x H' => ∃ k, x = .bl k ∧ Q k H'
theorem t6 {op : CmpOp} {r : R2} (ho : OpR X (compareOp op) r) (ha : PE X a ta) (hb : PE X b tb) (hm : behindInMarks op b = false) : PT X (.Compare a [op] [b] pos) (aJ0 (tOp r ta tb)) := by
  intro pins s σ H Q I h
  refine wpAny_isTrue_Compare1 (thn (ha pins s σ H _ I h) fun v s1 ⟨x, H1, I1, r1, q1⟩ => thn (hb pins s1 σ H1 _ I1 q1) fun u s2 ⟨y, H2, I2, r2, q2⟩ =>
    thn (ho pins s2 σ H2 x y v u _ I2 r1 r2 q2) fun c s3 ⟨z, H3, I3, r3, k, e, q3⟩ => ?_) hm
  subst e
  cases r3
  exact wpAny_truthy_bool ⟨H3, I3, q3⟩
def aw6 (r r' : R2) (ta tb tc : TE) : TE := fun σ H Q => ta σ H fun x H1 => tb σ H1 fun y H2 => r x y H2 fun z H3 => ∃ k, z = .bl k ∧
  (if k = true then tc σ H3 fun w' H4 => r' y w' H4 Q else Q (.bl false) H3)
theorem aR7 {op op' : CmpOp} {r r' : R2} (ho : OpR X (compareOp op) r) (ho' : OpR X (compareOp op') r') (ha : PE X a ta) (hb : PE X b tb) (hc : PE X c tc)
    (hm : lastMarks [op, op'] [b, c] = false := by with_unfolding_all rfl) : PE X (.Compare a [op, op'] [b, c] pos) (aw6 r r' ta tb tc) := by
  intro pins s σ H Q I h
  refine Compare_chain (thn (ha pins s σ H _ I h) fun v s1 ⟨x, H1, I1, r1, q1⟩ => chain_link (thn (hb pins s1 σ H1 _ I1 q1) fun u s2 ⟨y, H2, I2, r2, q2⟩ =>
    thn (ho pins s2 σ H2 x y v u _ I2 r1 r2 q2) fun d s3 ⟨z, H3, I3, r3, k, e, q3⟩ => ?_)) hm
  subst e
  cases r3
  refine wpAny_truthy_bool ?_
  cases k with
  | false => exact ite_ff ⟨.bl false, H3, I3, rfl, q3⟩
  | true => exact ite_tt (chain_last (thn (hc pins s3 σ H3 _ I3 q3) fun w' s4 ⟨z', H4, I4, r4, q4⟩ => ho' pins s4 σ H4 y z' u w' Q I4 r2 r4 q4))
theorem aC2 {op op' : CmpOp} {r r' : R2} (ho : OpR X (compareOp op) r) (ho' : OpR X (compareOp op') r') (ha : PE X a ta) (hb : PE X b tb) (hc : PE X c tc)
    (hm : lastMarks [op, op'] [b, c] = false := by with_unfolding_all rfl) : PT X (.Compare a [op, op'] [b, c] pos) (aJ0 (aw6 r r' ta tb tc)) := by
  intro pins s σ H Q I h
  refine isTrue_chain (thn (ha pins s σ H _ I h) fun v s1 ⟨x, H1, I1, r1, q1⟩ => test_link (thn (hb pins s1 σ H1 _ I1 q1) fun u s2 ⟨y, H2, I2, r2, q2⟩ =>
    thn (ho pins s2 σ H2 x y v u _ I2 r1 r2 q2) fun d s3 ⟨z, H3, I3, r3, k, e, q3⟩ => ?_)) hm
  subst e
  cases r3
  refine wpAny_truthy_bool ?_
  cases k with
  | false =>
    obtain ⟨k', e', q'⟩ := q3
    cases e'
    exact ite_ff ⟨H3, I3, q'⟩
  | true =>
    refine ite_tt (test_last (thn (hc pins s3 σ H3 _ I3 q3) fun w' s4 ⟨z', H4, I4, r4, q4⟩ => thn (ho' pins s4 σ H4 y z' u w' _ I4 r2 r4 q4) fun d' s5 ⟨z2, H5, I5, r5, k2, e2, q5⟩ => ?_))
    subst e2
    cases r5
    exact wpAny_truthy_bool ⟨H5, I5, q5⟩
def aZ2 (K : PySem.W.Frag) (x : V) (H : Hp) (k : Bool) : Prop :=
  match x with
  | .non => k = false
  | .bl b => k = b
  | .int i => k = (i != 0)
  | .str y => y.length ≤ sizeLine ∧ k = ((y.length : Int) != 0)
  | .byt y => y.size ≤ sizeLine ∧ k = ((y.size : Int) != 0)
  | .ref p => (∃ xs, SqL K H p xs ∧ k = !xs.isEmpty) ∨ (∃ xs, SqT K H p xs ∧ k = !xs.isEmpty) ∨ ∃ kvs, H p = some (.dK kvs) ∧ k = !kvs.isEmpty
  | _ => False
theorem aH8 {κ : Type} {kvs : List (κ × V)} {vs : List (κ × Value)} (r : KV kvs vs) : (!vs.isEmpty) = !kvs.isEmpty := by
  cases r <;> rfl
theorem aq8 {xs : List V} {its : List Value} (r : t0 xs its) : (!its.toArray.isEmpty) = !xs.isEmpty := by
  cases r <;> simp
theorem ak2 : (sizeLine : Nat) < 2 ^ 63 := by rw [sizeLine_eq]; decide
theorem ba8 : bi2 X (fun x H Q => ∃ k, aZ2 X.K x H k ∧ Q k H) := by
  intro pins s σ H x v Q I rx h
  obtain ⟨k, e, q⟩ := h
  have hl := ak2
  have hs : sizeLine = 16777216 := sizeLine_eq
  cases x with
  | non =>
    cases rx
    have e' : k = false := e
    subst e'
    exact truthy_none ⟨H, I, q⟩
  | bl b =>
    cases rx
    have e' : k = b := e
    subst e'
    exact wpAny_truthy_bool ⟨H, I, q⟩
  | int i =>
    obtain ⟨t, rfl⟩ := rx
    have e' : k = (i != 0) := e
    subst e'
    exact PySem.P.truthy_int ⟨H, I, q⟩
  | str y =>
    obtain ⟨t, rfl⟩ := rx
    obtain ⟨hy, e'⟩ : y.length ≤ sizeLine ∧ k = ((y.length : Int) != 0) := e
    subst e'
    exact PySem.P.truthy_str (by omega) ⟨H, I.tok _, q⟩
  | byt y =>
    obtain ⟨t, rfl⟩ := rx
    obtain ⟨hy, e'⟩ : y.size ≤ sizeLine ∧ k = ((y.size : Int) != 0) := e
    subst e'
    exact PySem.W.truthy_bytes (by omega) ⟨H, I.tok _, q⟩
  | ref p =>
    cases rx
    have e' : (∃ xs, SqL X.K H p xs ∧ k = !xs.isEmpty) ∨ (∃ xs, SqT X.K H p xs ∧ k = !xs.isEmpty) ∨ ∃ kvs, H p = some (.dK kvs) ∧ k = !kvs.isEmpty := e
    rcases e' with ⟨xs, hx, e'⟩ | ⟨xs, hx, e'⟩ | ⟨kvs, hx, e'⟩
    · subst e'
      obtain ⟨its, r, pl, hz⟩ := I.list hx
      have hlen := r.length
      exact wpAny_truthy_list pl.isList (by simp only [List.size_toArray]; omega) ⟨H, I.tok _, by rw [aq8 r]; exact q⟩
    · subst e'
      obtain ⟨its, r, pl, hz⟩ := I.tuple hx
      have hlen := r.length
      exact truthy_tuple pl (by simp only [List.size_toArray]; omega) ⟨H, I.tok _, by rw [aq8 r]; exact q⟩
    · subst e'
      obtain ⟨hz, hS, vs, r, m⟩ : kvs.length ≤ sizeLine ∧ (p == sysModules) = false ∧ ∃ vs, KV kvs vs ∧ s.heap.DictOf (az8 X.prog X.w) p vs := I.hok p _ hx
      have hlen : kvs.length = vs.length := Paired.length r
      exact wpAny_truthy_dict hS m (by omega) ⟨H, I.tok _, by rw [aH8 r]; exact q⟩
  | _ => exact (show False from e).elim
theorem ao9 (ha : PE X a ta) (he : ∀ whole, isTrue a X.env whole = (do let v ← whole; standAt a.pos; holding [v] (truthy v))) :
    PT X a (fun σ H Q => ta σ H fun x H' => ∃ k, aZ2 X.K x H' k ∧ Q k H') := by
  intro pins s σ H Q I h
  exact isTrue_plain (thn (ha pins s σ H _ I h) fun v s1 ⟨x, H1, I1, r1, q1⟩ => ba8 pins s1 σ H1 x v Q I1 r1 q1) (he _)
theorem ak9 {x : V} {us : List Value} (r : t0 [x] us) : ∃ u, us = [u] ∧ z9 x u := by
  cases r with
  | cons r1 r2 => cases r2; exact ⟨_, rfl, r1⟩
theorem aZ6 {x y : V} {us : List Value} (r : t0 [x, y] us) : ∃ u w', us = [u, w'] ∧ z9 x u ∧ z9 y w' := by
  cases r with
  | cons r1 r2 =>
    cases r2 with
    | cons r3 r4 => cases r4; exact ⟨_, _, rfl, r1, r3⟩
theorem ad1 : aa3 X (.builtin "abs") (fun xs H Q => ∃ i, xs = [.int i] ∧ Q (.int (if i < 0 then -i else i)) H) := by
  intro pins s σ H xs us Q I r h
  obtain ⟨i, rfl, q⟩ := h
  obtain ⟨u, rfl, t, rfl⟩ := ak9 r
  exact call_abs_int fun u tk => ⟨.int (if i < 0 then -i else i), H, I.tok _, ⟨_, rfl⟩, q⟩
theorem aO7 (hc : X.calm = true) : aa3 X (.builtin "max") (fun xs H Q => ∃ i j, xs = [.int i, .int j] ∧ Q (.int (if j > i then j else i)) H) := by
  intro pins s σ H xs us Q I r h
  obtain ⟨i, j, rfl, q⟩ := h
  obtain ⟨u, w', rfl, ⟨t, rfl⟩, ⟨t', rfl⟩⟩ := aZ6 r
  refine max_two_ints (I.ok.hd hc) fun h' tk k => ⟨_, H, I.kept k, ?_, q⟩
  by_cases hj : j > i
  · rw [if_pos hj, if_pos hj]; exact ⟨_, rfl⟩
  · rw [if_neg hj, if_neg hj]; exact ⟨_, rfl⟩
theorem aO6 (hc : X.calm = true) : aa3 X (.builtin "min") (fun xs H Q => ∃ i j, xs = [.int i, .int j] ∧ Q (.int (if j < i then j else i)) H) := by
  intro pins s σ H xs us Q I r h
  obtain ⟨i, j, rfl, q⟩ := h
  obtain ⟨u, w', rfl, ⟨t, rfl⟩, ⟨t', rfl⟩⟩ := aZ6 r
  refine min_two_ints (I.ok.hd hc) fun h' tk k => ⟨_, H, I.kept k, ?_, q⟩
  by_cases hj : j < i
  · rw [if_pos hj, if_pos hj]; exact ⟨_, rfl⟩
  · rw [if_neg hj, if_neg hj]; exact ⟨_, rfl⟩
theorem ak7 : aa3 X (.type "int") (fun xs H Q => (∃ i, xs = [.int i] ∧ Q (.int i) H) ∨ ∃ k, xs = [.bl k] ∧ Q (.int (if k then 1 else 0)) H) := by
  intro pins s σ H xs us Q I r h
  rcases h with ⟨i, rfl, q⟩ | ⟨k, rfl, q⟩
  · obtain ⟨u, rfl, t, rfl⟩ := ak9 r
    exact call_int_int ⟨.int i, H, I, ⟨_, rfl⟩, q⟩
  · obtain ⟨u, rfl, r1⟩ := ak9 r
    cases r1
    exact call_int_bool ⟨.int (if k then 1 else 0), H, I.tok _, ⟨_, rfl⟩, q⟩
end
structure bf6 (h : Heap) (x dx C : Addr) (mA : Str → Option Value) : Prop where
  obj : h.get? x = some (PySem.W.instObj C dx)
  ns : h.Ns1 dx mA
  ne : dx ≠ x
theorem aN2 {h : Heap} {dx : Addr} {mA : Str → Option Value} (n : h.Ns1 dx mA) : ∃ od, h.get? dx = some od ∧ ∀ name, PySem.W.lookIn name od = some (mA name) := by
  obtain ⟨o, es, ep, ho, hd, hk, _, hm⟩ := n
  refine ⟨o, ho, fun name => ?_⟩
  have e := hm name
  unfold nsFind findBy at e
  rw [← Array.find?_toList] at e
  unfold PySem.W.lookIn
  rw [hd]
  dsimp only
  split
  · rename_i y q
    rw [q] at e
    exact congrArg some e
  · rename_i q
    rw [q] at e
    have a : es.toList.any (·.refKey) = false := by
      rw [List.any_eq_false]
      intro y hy
      obtain ⟨z, t, hkey⟩ := hk y (Array.mem_toList_iff.mp hy)
      simp [DictEntry.refKey, hkey]
    have a' : ¬ es.toList.any (·.refKey) = true := by rw [a]; exact Bool.false_ne_true
    rw [if_neg a']
    exact congrArg some e
theorem bf6.look {h : Heap} {x dx C : Addr} {mA : Str → Option Value} (I : bf6 h x dx C mA) : ∃ od, PySem.W.InstAt h x (PySem.W.instObj C dx) C (some od) ∧ ∀ name, PySem.W.lookIn name od = some (mA name) :=
  let ⟨od, ho, hl⟩ := aN2 I.ns
  ⟨od, ⟨I.obj, rfl, rfl, ho⟩, hl⟩
section
variable {P : Program} {w : World} {H H' : Hp} {h h' : Heap} {a C dx : Addr} {fs fs' : List (Str × V)}
theorem aY2 (hok : HOk P w H h) (e : H a = some (.ins C dx fs)) : ∃ mA, bf6 h a dx C mA ∧ (∀ f, bf3 (fs.lookup f) (mA f)) ∧ PySem.Within mA (fs.map (·.1)) ∧ fs.length ≤ 1000 ∧ H dx = some (.own a) := by
  obtain ⟨d, z, ne, ob, mA, n, r, q⟩ := (show F4 P w H h a (.ins C dx fs) from hok a _ e)
  exact ⟨mA, ⟨ob, n, ne⟩, r, q, z, d⟩
end
structure Cls (K : PySem.W.Frag) (C : Addr) : Prop where
  pg : PySem.W.plainGet K C Str.empty = true
  hd : PySem.W.hasDictIn K C = true
  po : PySem.W.plainOver K C = true
  sa : PySem.W.findIn K (.ref C) "__setattr__" = some (some (.builtin "object.__setattr__"))
theorem Cls.get {K : PySem.W.Frag} {C : Addr} (c : Cls K C) (f : Str) : PySem.W.plainGet K C f = true := c.pg
structure Con (K : PySem.W.Frag) (C : Addr) (f : Str) (v : V) (u : Value) : Prop where
  at_ : PySem.W.findIn K (.ref C) f = some (some u)
  rel : z9 v u
  get : PySem.W.specialIn K u "__get__" = some none
  cp : PySem.W.copiedNames.contains f = false
structure Meth (K : PySem.W.Frag) (C : Addr) (m : Str) (f : Addr) : Prop where
  at_ : PySem.W.findIn K (.ref C) m = some (some (.ref f))
  fn : PySem.W.isFn K (.ref f) = true
  kp : PySem.W.keepIn K (.ref f) = true
section
variable {X : Cx} {pins : List (Addr × Obj)} {σ : St} {H : Hp} {s : Shared} {A : Around} {E : Value → Shared → Prop} {Q : Value → Shared → Prop} {c : Value} {b : Bool}
inductive ak8 (K : PySem.W.Frag) (H : Hp) : V → Value → Prop where
  | non : ak8 K H .non (.type "NoneType")
  | bl (x : Bool) : ak8 K H (.bl x) (.type "bool")
  | int (i : Int) : ak8 K H (.int i) (.type "int")
  | str (x : Str) : ak8 K H (.str x) (.type "str")
  | flt (x : UInt64) : ak8 K H (.flt x) (.type "float")
  | lst {a : Addr} {xs : List V} (e : H a = some (.lst xs)) : ak8 K H (.ref a) (.type "list")
  | frz {a : Addr} {o : Obj} {xs : List V} (e : H a = some (.frz o (.lst xs))) : ak8 K H (.ref a) (.type "list")
  | tup {a : Addr} {xs : List V} (e : H a = some (.tup xs)) : ak8 K H (.ref a) (.type "tuple")
  | dK {a : Addr} {kvs : List (Key × V)} (e : H a = some (.dK kvs)) : ak8 K H (.ref a) (.type "dict")
  | dT {a : Addr} {kvs : List (List Key × V)} (e : H a = some (.dT kvs)) : ak8 K H (.ref a) (.type "dict")
  | ins {a C dx : Addr} {fs : List (Str × V)} (e : H a = some (.ins C dx fs)) (cl : Cls K C) (ha : PySem.W.findIn K (.ref C) "__class__" = some (some (.builtin "object.__class__")))
      (hn : PySem.W.specialIn K (.builtin "object.__class__") "__get__" = some (some (.builtin "getset_descriptor.__get__"))) (htk : PySem.W.takesIn K (.builtin "object.__class__") = some true)
      (hm : PySem.W.mroIn K C (.type "object") = some true) : ak8 K H (.ref a) (.ref C)
theorem aN5 {x : V} {u t : Value} (I : Inv X pins σ H s) (rx : z9 x u) (ty : ak8 X.K H x t) (e : PySem.W.kitOne X.K t c = some b) (h : ∀ tk, Q (.bool b) { s with toks := tk }) :
    wpAny (model X.prog X.w) A (call (.builtin "isinstance") [u, c]) Q E s := by
  cases ty with
  | non => cases (show u = Value.none from rx); exact PySem.W.kia_one PySem.W.kitx_none I.kIn True.intro e (fun z => nomatch z) h
  | bl y => cases (show u = Value.bool y from rx); exact PySem.W.kia_one PySem.W.kitx_bool I.kIn True.intro e (fun z => nomatch z) h
  | int i => obtain ⟨t, q⟩ := (show ∃ t, u = Value.int i t from rx); cases q; exact PySem.W.kia_one PySem.W.kitx_int I.kIn True.intro e (fun z => nomatch z) h
  | str y => obtain ⟨t, q⟩ := (show ∃ t, u = Value.str y t from rx); cases q; exact PySem.W.kia_one PySem.W.kitx_str I.kIn True.intro e (fun z => nomatch z) h
  | flt y => obtain ⟨t, q⟩ := (show ∃ t, u = Value.float y t from rx); cases q; exact PySem.W.kia_one PySem.W.kitx_float I.kIn True.intro e (fun z => nomatch z) h
  | @lst a xs ea =>
    cases (show u = Value.ref a from rx)
    obtain ⟨_, _, n, _, h1⟩ := (show F4 X.prog X.w H s.heap a (.lst xs) from I.hok a _ ea)
    exact PySem.W.kia_one PySem.W.kitx_list I.kIn ⟨_, h1, rfl⟩ e (fun z => nomatch z) h
  | @frz a ob xs ea =>
    cases (show u = Value.ref a from rx)
    obtain ⟨_, _, _, n, _, h1⟩ := (show F4 X.prog X.w H s.heap a (.frz ob (.lst xs)) from I.hok a _ ea)
    exact PySem.W.kia_one PySem.W.kitx_list I.kIn ⟨_, h1, rfl⟩ e (fun z => nomatch z) h
  | @tup a xs ea =>
    cases (show u = Value.ref a from rx)
    obtain ⟨_, _, _, p⟩ := (show F4 X.prog X.w H s.heap a (.tup xs) from I.hok a _ ea)
    obtain ⟨o, h1, h2, _⟩ := p
    exact PySem.W.kia_one PySem.W.kitx_tuple I.kIn ⟨o, h1, h2⟩ e (fun z => nomatch z) h
  | @dK a kvs ea =>
    cases (show u = Value.ref a from rx)
    obtain ⟨_, _, vs, _, p⟩ := (show F4 X.prog X.w H s.heap a (.dK kvs) from I.hok a _ ea)
    obtain ⟨o, es, ep, h1, h2, _⟩ := p
    exact PySem.W.kia_one PySem.W.kitx_dict I.kIn ⟨o, h1, h2.1⟩ e (fun z => nomatch z) h
  | @dT a kvs ea =>
    cases (show u = Value.ref a from rx)
    obtain ⟨_, _, xs, _, o, es, ep, h1, h2, _⟩ := (show F4 X.prog X.w H s.heap a (.dT kvs) from I.hok a _ ea)
    exact PySem.W.kia_one PySem.W.kitx_dict I.kIn ⟨o, h1, h2.1⟩ e (fun z => nomatch z) h
  | @ins a C dx fs ea cl ha hn htk hm =>
    cases (show u = Value.ref a from rx)
    obtain ⟨mA, O, _⟩ := aY2 I.hok ea
    obtain ⟨od, J, _⟩ := O.look
    exact PySem.W.kia_one (PySem.W.kitx_own (cl.get _) cl.hd ha hn htk hm) I.kIn J e (fun z => nomatch z) h
end
structure U4 (k : Nat) (A : Around) : Prop where
  hd : A.handled = none
  dp : A.depth + 3 * k + 5 < recursionLimit
  un : A.units + 16 * k + 200 < cLine
theorem U4.mono {j k : Nat} {A : Around} (r : U4 k A) (h : j ≤ k) : U4 j A := ⟨r.hd, by have := r.dp; omega, by have := r.un; omega⟩
theorem U4.deeper {k : Nat} {A : Around} (r : U4 (k + 1) A) (env : Env) : U4 k (A.deeper env) :=
  ⟨r.hd, by have := r.dp; show A.depth + 1 + 3 * k + 5 < _; omega, by have := r.un; show A.units + 3 + 16 * k + 200 < _; omega⟩
theorem U4.depth {k : Nat} {A : Around} (r : U4 k A) : A.depth < recursionLimit := by have := r.dp; omega
theorem U4.units {k : Nat} {A : Around} (r : U4 k A) : A.units + 64 < cLine := by have := r.un; omega
def aM4 : TA := fun _ H Q => Q [] H
def ao2 (ta : TE) (tr : TA) : TA := fun σ H Q => ta σ H fun x H1 => tr σ H1 fun xs H2 => Q (x :: xs) H2
section
variable {X : Cx} {e : Expr} {es : List Expr} {te : TE} {t : TA} {pos : Pos}
theorem d2 : PA X [] aM4 := fun _ _ _ _ H Q I h => Calls.spliced_nil ⟨[], H, I, .nil, h⟩
theorem b7 (ha : PE X e te) (hr : PA X es t) (hs : starEach (e :: es) X.env = (false, eval e X.env) :: starEach es X.env := by rfl) : PA X (e :: es) (ao2 te t) := by
  intro pos pins s σ H Q I h
  rw [hs]
  show wpAny _ _ (spliced ((false, eval e X.env) :: backTo pos (starEach es X.env))) _ _ s
  refine Calls.spliced_cons (thn (ha pins s σ H _ I h) fun u s1 ⟨x, H1, I1, r1, q1⟩ => ?_)
  exact thn (hr pos pins s1 σ H1 _ I1 q1) fun us s2 ⟨xs, H2, I2, r2, q2⟩ => ⟨x :: xs, H2, I2, .cons r1 r2, q2⟩
def bb0 (t : TA) : TE := fun σ H Q => t σ H fun xs H1 => xs.length ≤ sizeLine ∧ ∀ p, H1 p = none → Q (.ref p) (upd H1 p (.tup xs))
def bb4 (t : TA) : TE := fun σ H Q => t σ H fun xs H1 => xs.length ≤ sizeLine ∧ ∀ p, H1 p = none → Q (.ref p) (upd H1 p (.lst xs))
theorem A3 {x1} (h : PA X es t) : PE X (.Tuple es x1 pos) (bb0 t) := by
  intro pins s σ H Q I hq
  refine wpAny_Tuple_spliced (thn (h pos pins s σ H _ I hq) fun us s1 ⟨xs, H1, I1, r, z, q⟩ => ⟨by rw [← r.length]; exact z, ?_⟩)
  have hf : H1 s1.heap.objs.size = none := I1.hok.fresh (Nat.le_refl _)
  refine ⟨.ref s1.heap.objs.size, upd H1 s1.heap.objs.size (.tup xs), I1.laid (t' := s1.toks) (fun b u e => Heap.get?_push_of_some _ e) (Nat.le_refl _) ?_, rfl, q _ hf⟩
  exact ⟨z, us, r, ⟨_, Heap.get?_push_size _ rfl, rfl, _, rfl⟩⟩
theorem L7 (h : PA X es t) : PE X (.List es pos) (bb4 t) := by
  intro pins s σ H Q I hq
  refine wpAny_List_spliced (thn (h pos pins s σ H _ I hq) fun us s1 ⟨xs, H1, I1, r, z, q⟩ => ⟨by rw [← r.length]; exact z, ?_⟩)
  have hf : H1 s1.heap.objs.size = none := I1.hok.fresh (Nat.le_refl _)
  refine ⟨.ref s1.heap.objs.size, upd H1 s1.heap.objs.size (.lst xs), I1.laid (t' := s1.toks) (fun b u e => Heap.get?_push_of_some _ e) (Nat.le_refl _) ?_, rfl, q _ hf⟩
  exact ⟨z, us, 0, r, Heap.get?_push_size _ rfl⟩
end
abbrev Sp := List V → Hp → VK → XK → Prop
abbrev CXT := List Env → Hp → Shared → XK → Value → Shared → Prop
structure aO9 (P : Program) (w : World) (K : PySem.W.Frag) (mg : Str → Option Value) (base : Heap) (A : Around) (outer : List Env) (s : Shared) (H : Hp) : Prop where
  frames : A.frames = some outer
  mod : Mod K mg base
  bs : ∀ b o, base.get? b = some o → s.heap.get? b = some o ∧ H b = none
  bsz : base.objs.size ≤ s.heap.objs.size
  funs : s.heap.FunFrames base outer
  frf : ∀ b ∈ frs outer, H b = none
  hok : HOk P w H s.heap
  bare : AllBare s.gens
def CE (outer : List Env) (P : Program) (w : World) (H : Hp) (s : Shared) (Q : VK) (u : Value) (s' : Shared) : Prop :=
  ∃ v H', s'.os = s.os ∧ AllBare s'.gens ∧ Un (frs outer) [] H H' s.heap s'.heap ∧ HOk P w H' s'.heap ∧ z9 v u ∧ Q v H'
def CR (CX : CXT) (outer : List Env) (P : Program) (w : World) (H : Hp) (s : Shared) (Q : VK) (E : XK) (r : Result) (s' : Shared) : Prop :=
  match r with
  | .ok (.ret u) => CE outer P w H s Q u s'
  | .ok _ => False
  | .error e => CX outer H s E e s'
structure ai6 (P : Program) (w : World) (K : PySem.W.Frag) (mg : Str → Option Value) (base : Heap) (CX : CXT) (k : Nat) (f : Addr) (fd : FuncData) (ps : List Str) (sp : Sp) : Prop where
  len : ∀ vs H Q E, sp vs H Q E → vs.length = ps.length
  run : ∀ (A : Around) (outer : List Env) (s : Shared) (H : Hp) (args : Args) (us : List Value) (vs : List V) (Q : VK) (E : XK), U4 k A → aO9 P w K mg base A outer s H → BindsTo s fd args (ps.zip us) → t0 vs us → sp vs H Q E →
    codeAny (model P w) A (.call (.ref f) args) (CR CX outer P w H s Q E) s
theorem ai6.mono {P : Program} {w : World} {K : PySem.W.Frag} {mg : Str → Option Value} {base : Heap} {CX : CXT} {j k : Nat} {f : Addr} {fd : FuncData} {ps : List Str} {sp : Sp} (F : ai6 P w K mg base CX j f fd ps sp) (h : j ≤ k) :
    ai6 P w K mg base CX k f fd ps sp := ⟨F.len, fun A outer s H args us vs Q E hr => F.run A outer s H args us vs Q E (hr.mono h)⟩
section
variable {X : Cx} {pins : List (Addr × Obj)} {σ : St} {H : Hp} {s s' : Shared}
theorem Inv.env0 (I : Inv X pins σ H s) : aO9 X.prog X.w X.K X.mg X.base X.A X.stack s H :=
  ⟨I.ok.frames, I.ok.mod, I.bs, Nat.le_trans I.ok.bsz I.sz, I.stack, I.stkFree, I.hok, I.bare⟩
theorem Inv.after {Q : VK} {u : Value} (I : Inv X pins σ H s) (h : CE X.stack X.prog X.w H s Q u s') : EP X pins σ Q u s' := by
  obtain ⟨v, H', os, bare, un, hok, r, q⟩ := h
  obtain ⟨hh, g, d, t, os'⟩ := s'
  obtain rfl : os' = s.os := os
  exact ⟨v, H', I.call (h' := hh) (g' := g) (d' := d) (t' := t) (ch := []) un hok bare (fun b z => absurd z (by simp)), r, q⟩
end
def ba0 (sp : Sp) (dvs : List V) (E : XK) (t : TA) : TE := fun σ H Q => t σ H fun vs H1 => sp (vs ++ dvs) H1 Q E
def ad4 (K : PySem.W.Frag) (fd : FuncData) (ps : List Str) (ds : List Value) : Prop :=
  ∀ (s : Shared) (us : List Value), K.In s.heap → (us ++ ds).length = ps.length → BindsTo s fd ⟨us, []⟩ (ps.zip (us ++ ds))
theorem ad4.all {K : PySem.W.Frag} {fd : FuncData} {ps : List Str} (h : ∀ us : List Value, us.length = ps.length → bindArgs fd ⟨us, []⟩ = pure (ps.zip us)) : ad4 K fd ps [] := fun s us _ hl => by
  rw [List.append_nil] at hl ⊢
  exact .of_eq (h us hl)
def as3 (CX : CXT) (X : Cx) (E : XK) : Prop := ∀ (pins : List (Addr × Obj)) (σ : St) (H : Hp) (s : Shared) (e : Value) (s' : Shared), Inv X pins σ H s → CX X.stack H s E e s' → X.xe e s'
section
variable {X : Cx} {CX : CXT} {k : Nat} {f C : Addr} {fd : FuncData} {ps : List Str} {sp : Sp} {dvs : List V} {ds : List Value} {E : XK} {x m : Str} {p pos apos : Pos} {e o : Expr} {es : List Expr} {ta : TE} {t : TA}
theorem bc2 {pins : List (Addr × Obj)} {σ : St} {H : Hp} {s : Shared} {Q : VK} {us : List Value} {vs : List V} (F : ai6 X.prog X.w X.K X.mg X.base CX k f fd ps sp) (hr : U4 k X.A) (hb : ad4 X.K fd ps ds) (hd : t0 dvs ds) (hx : as3 CX X E)
    (I : Inv X pins σ H s) (r : t0 vs us) (h : sp (vs ++ dvs) H Q E) : wpAny (model X.prog X.w) X.A (call (.ref f) us) (EP X pins σ Q) X.xe s := by
  have r2 : t0 (vs ++ dvs) (us ++ ds) := r.append hd
  have hl : (us ++ ds).length = ps.length := by rw [← r2.length]; exact F.len _ _ _ _ h
  refine wpAny_call (codeAny_mono (F.run X.A X.stack s H ⟨us, []⟩ (us ++ ds) (vs ++ dvs) Q E hr I.env0 (hb s us I.kIn hl) r2 h) fun r s' hq => ?_)
  cases r with
  | error e => exact hx pins σ H s e s' I hq
  | ok fl =>
    cases fl with
    | ret u => exact I.after hq
    | next => exact False.elim hq
    | brk => exact False.elim hq
    | cont => exact False.elim hq
theorem aX6 (F : ai6 X.prog X.w X.K X.mg X.base CX k f fd ps sp) (hr : U4 k X.A) (hg : Gl X x) (hm : X.mg x = some (.ref f)) (hk : PySem.W.keepIn X.K (.ref f) = true) (hb : ad4 X.K fd ps ds) (hd : t0 dvs ds) (hx : as3 CX X E)
    (ha : PA X (e :: es) t) (hdb : (x == ("__debug__" : Str)) = false := by decide) (he : starEach (e :: es) X.env = (false, eval e X.env) :: starEach es X.env := by rfl) (hpl : (backTo pos (starEach es X.env)).any (·.1) = false := by rfl) :
    PE X (.Call (.Name x p) (e :: es) [] pos) (ba0 sp dvs E t) := by
  intro pins s σ H Q I h
  refine wpAny_Call_Name_kw (ah8 I hg hm ?_ hdb)
  refine PySem.W.callWith_K (h₀ := X.base) I.ok.mod.kin hk (thn (ha pos pins s σ H _ I h) fun us s1 ⟨vs, H1, I1, r, q⟩ => ⟨I1.kIn, ?_⟩) he hpl
  exact bc2 F hr hb hd hx I1 r q
structure Mk (K : PySem.W.Frag) (C f : Addr) : Prop where
  makes : PySem.W.makesIn K C = true
  init : PySem.W.findIn K (.ref C) "__init__" = some (some (.ref f))
  fn : PySem.W.isFn K (.ref f) = true
  kp : PySem.W.keepIn K (.ref C) = true
end
section
variable {X : Cx} {CX : CXT} {k : Nat} {f C : Addr} {fd : FuncData} {ps ks : List Str} {sp : Sp} {E : XK} {x m : Str} {p pos apos kpos : Pos} {e o : Expr} {es : List Expr} {kws : List Keyword} {te ta : TE} {t tk : TA} {nm : Option Str}
structure KBinds (K : PySem.W.Frag) (fd : FuncData) (ps ks : List Str) (g : List Value → List Value → List Value) (gV : List V → List V → List V) : Prop where
  to : ∀ (s : Shared) (us ws : List Value), K.In s.heap → (g us ws).length = ps.length → BindsTo s fd ⟨us, ks.zip ws⟩ (ps.zip (g us ws))
  rel : ∀ {vs : List V} {us : List Value} {zs : List V} {ws : List Value}, t0 vs us → t0 zs ws → t0 (gV vs zs) (g us ws)
variable {g : List Value → List Value → List Value} {gV : List V → List V → List V}
end
structure j7 (N P : List Str) (sc : Scope) : Prop where
  kind : sc.kind = .function
  co : sc.isCoroutine = false
  gen : sc.isGenerator = false
  nd : N.Nodup
  pre : N.take P.length = P
  par : ∀ x ∈ P, sc.names.lookup x = some .local ∨ sc.names.lookup x = some .cell
  nofree : ∀ y ∈ sc.names, y.2 ≠ .free
theorem aw0 {kindOf : Str → Option NameKind} {x : Str} : ∀ {binds : List (Str × Value)} {m : Str → Option Value}, (∀ v, (x, v) ∉ binds) → bindL kindOf binds m x = m x
  | [], _, _ => rfl
  | (n, v) :: r, m, h => by
    unfold bindL
    rw [aw0 fun w hw => h w (List.mem_cons_of_mem _ hw)]
    split
    · have : x ≠ n := by rintro rfl; exact h v List.mem_cons_self
      simp [this]
    · rfl
theorem aw2 {kindOf : Str → Option NameKind} {x : Str} : ∀ {binds : List (Str × Value)} {m : Str → Option Value}, (∀ v, (x, v) ∉ binds) → bindC kindOf binds m x = m x
  | [], _, _ => rfl
  | (n, v) :: r, m, h => by
    unfold bindC
    rw [aw2 fun w hw => h w (List.mem_cons_of_mem _ hw)]
    split
    · rfl
    · have : x ≠ n := by rintro rfl; exact h v List.mem_cons_self
      simp [this]
theorem aw1 {kindOf : Str → Option NameKind} {x : Str} {v : Value} : ∀ {P : List Str} {vs : List Value} {i : Nat} {m : Str → Option Value}, P.Nodup → P[i]? = some x → vs[i]? = some v → kindOf x = some .local →
    bindL kindOf (P.zip vs) m x = some v
  | [], _, _, _, _, h, _, _ => by simp at h
  | _ :: _, [], _, _, _, _, h, _ => by simp at h
  | p :: P, w :: vs, 0, m, nd, h1, h2, hk => by
    simp at h1 h2; subst h1; subst h2
    show bindL kindOf ((p, w) :: P.zip vs) m p = _
    unfold bindL
    rw [aw0 fun v hv => (List.nodup_cons.mp nd).1 (List.of_mem_zip hv).1, if_pos hk]
    simp
  | p :: P, w :: vs, i + 1, m, nd, h1, h2, hk => by
    show bindL kindOf ((p, w) :: P.zip vs) m x = _
    unfold bindL
    exact aw1 (i := i) (List.nodup_cons.mp nd).2 (by simpa using h1) (by simpa using h2) hk
theorem aw3 {kindOf : Str → Option NameKind} {x : Str} {v : Value} : ∀ {P : List Str} {vs : List Value} {i : Nat} {m : Str → Option Value}, P.Nodup → P[i]? = some x → vs[i]? = some v → kindOf x ≠ some .local →
    bindC kindOf (P.zip vs) m x = some v
  | [], _, _, _, _, h, _, _ => by simp at h
  | _ :: _, [], _, _, _, _, h, _ => by simp at h
  | p :: P, w :: vs, 0, m, nd, h1, h2, hk => by
    simp at h1 h2; subst h1; subst h2
    show bindC kindOf ((p, w) :: P.zip vs) m p = _
    unfold bindC
    rw [aw2 fun v hv => (List.nodup_cons.mp nd).1 (List.of_mem_zip hv).1, if_neg hk]
    simp
  | p :: P, w :: vs, i + 1, m, nd, h1, h2, hk => by
    show bindC kindOf ((p, w) :: P.zip vs) m x = _
    unfold bindC
    exact aw3 (i := i) (List.nodup_cons.mp nd).2 (by simpa using h1) (by simpa using h2) hk
def start (N : List Str) (vs : List V) : St := vs.map some ++ List.replicate (N.length - vs.length) none
def am1 (CX : CXT) (P : Program) (w : World) (K : PySem.W.Frag) (mg : Str → Option Value) (base : Heap) (N : List Str) (qual : Str) (scope : Scope) (f : Addr) (cd : Value) (A : Around) (outer : List Env) (s : Shared) (H : Hp) (E : XK) : Cx where
  prog := P
  w := w
  K := K
  mg := mg
  base := base
  A := A.deeper (envOfC qual scope s.heap.objs.size f cd)
  N := N
  s₀ := s
  H₀ := H
  env := envOfC qual scope s.heap.objs.size f cd
  outer := outer
  stack := envOfC qual scope s.heap.objs.size f cd :: outer
  ex := []
  calm := true
  fn := fun _ => true
  pn := []
  xe := fun e s' => wpAny (model P w) (A.deeper (envOfC qual scope s.heap.objs.size f cd)) (leaving (envOfC qual scope s.heap.objs.size f cd) e) (fun _ s'' => CX outer H s E e s'') (fun e' s'' => CX outer H s E e' s'') s'
theorem aE8 {sc : Scope} {n : Nat} {x : Str} (h : sc.names.lookup x = some .cell) : ∃ c, (cellsFrom n sc.names []).lookup x = some c := by
  have q := PySem.W.cellsFrom_some sc.names n [] (.inl h)
  exact Option.isSome_iff_exists.mp q
theorem av4 {CX : CXT} {P : Program} {w : World} {K : PySem.W.Frag} {mg : Str → Option Value} {base : Heap} {N ps : List Str} {qual : Str} {scope : Scope} {f : Addr} {cd : Value} {A : Around} {outer : List Env} {s s1 : Shared} {H : Hp} {E : XK} {us : List Value} {vs : List V}
    (S : j7 N ps scope) (hd : A.handled = none) (e0 : aO9 P w K mg base A outer s H) (hl : vs.length = ps.length) (r : t0 vs us)
    (x : InCallC s s.heap.objs.size (bindL (envOfC qual scope s.heap.objs.size f cd).kindOf (ps.zip us) fun _ => none) (cellsFrom (s.heap.objs.size + 1) scope.names []) (bindC (envOfC qual scope s.heap.objs.size f cd).kindOf (ps.zip us) fun _ => none) s1) :
    Inv (am1 CX P w K mg base N qual scope f cd A outer s H E) [] (start N vs) H s1 := by
  have hpl : ps.length ≤ N.length := by have := congrArg List.length S.pre; rw [List.length_take] at this; omega
  obtain ⟨h1, tk, rfl, hk⟩ := x.done
  have noA : ∀ b : Addr, b ∉ (am1 CX P w K mg base N qual scope f cd A outer s H E).ex := fun b z => absurd (show b ∈ ([] : List Addr) from z) (by simp)
  refine ⟨⟨e0.mod, S.kind, rfl, rfl, Nat.le_refl _, fun y z c h1 h2 => ?_, fun y hy => ?_, fun y c _ h => ?_, fun _ => hd, Around.frames_deeper e0.frames, .inr ⟨rfl, rfl⟩, fun b z => absurd z (noA b), e0.bs, e0.bsz, fun b _ _ => noA b, fun b z => absurd z (noA b), e0.funs, e0.frf⟩,
    rfl, e0.bare, Un.kept hk, ⟨_, x.toInCall.ns, fun i y v h1 h2 h3 => ?_⟩, fun y c h => ⟨_, x.cell y c h⟩, e0.hok.fresh (Nat.le_refl _), fun y c h => ?_, fun p hp => absurd (show p ∈ ([] : List (Addr × Obj)) from hp) (by simp), e0.hok.kept hk, ?_⟩
  · exact name_of_addr x.apart (PySem.mem_of_lookup h1) (PySem.mem_of_lookup h2)
  · have hy : scope.names.lookup y = some .cell ∨ scope.names.lookup y = some .free := hy
    rcases hy with hy | hy
    · exact aE8 hy
    · exact absurd rfl (S.nofree _ (PySem.mem_of_lookup hy))
  · exact Nat.le_of_lt (x.above y c (PySem.mem_of_lookup h))
  · have hi : i < vs.length := by
      unfold start at h2
      by_cases hi : i < vs.length
      · exact hi
      · rw [List.getElem?_append_right (by simpa using hi)] at h2
        rw [List.getElem?_replicate] at h2
        split at h2 <;> cases h2
    have ha : vs[i]? = some v := by
      unfold start at h2
      rw [List.getElem?_append_left (by simpa using hi), List.getElem?_map] at h2
      cases e : vs[i]? with
      | none => rw [e] at h2; cases h2
      | some a => rw [e] at h2; cases h2; rfl
    obtain ⟨u, hu, rv⟩ := r.get ha
    have hp : ps[i]? = some y := by
      rw [← S.pre, List.getElem?_take_of_lt (by omega)]; exact h1
    have ndP : ps.Nodup := by rw [← S.pre]; exact S.nd.sublist (List.take_sublist _ _)
    refine ⟨u, rv, ?_⟩
    rcases S.par y (List.mem_of_getElem? hp) with k | k
    · exact .inl ⟨k, aw1 ndP hp hu k⟩
    · obtain ⟨c, e⟩ := aE8 (n := s.heap.objs.size + 1) k
      refine .inr ⟨.inl k, c, e, ?_⟩
      have q := x.cell y c e
      rw [aw3 ndP hp hu (by show scope.names.lookup y ≠ _; rw [k]; decide)] at q
      exact q
  · exact e0.hok.fresh (Nat.le_of_lt (x.above y c (PySem.mem_of_lookup h)))
  · unfold start
    show _ = N.length
    rw [List.length_append, List.length_map, List.length_replicate]
    omega
theorem ba6 {CX : CXT} {P : Program} {w : World} {K : PySem.W.Frag} {mg : Str → Option Value} {base : Heap} {k : Nat} {f : Addr} {name qual : Str} {params : Arguments} {body : List Stmt} {scope : Scope} {dV kV doc pm cdv ct oc : Value} {an od : Option Addr}
    {osl : Array (Option Value)} {N ps : List Str} {sp : Sp} (lk : K.lookup f = some ⟨oc, od, .func (PySem.W.fnOf name qual params body scope dV kV doc pm an cdv ct), osl⟩) (hcd : PySem.W.codeIn K cdv qual = true) (S : j7 N ps scope)
    (len : ∀ vs H Q E, sp vs H Q E → vs.length = ps.length)
    (hbody : ∀ (A : Around) (outer : List Env) (s : Shared) (H : Hp) (vs : List V) (Q : VK) (E : XK), U4 k (A.deeper (envOfC qual scope s.heap.objs.size f cdv)) → sp vs H Q E →
      ∃ t, PSs (am1 CX P w K mg base N qual scope f cdv A outer s H E) body t ∧ t { nx := fun _ H' => Q .non H', rt := Q } (start N vs) H) :
    ai6 P w K mg base CX (k + 1) f (PySem.W.fnOf name qual params body scope dV kV doc pm an cdv ct) ps sp := by
  refine ⟨len, fun A outer s H args us vs Q E hr e0 hb r hsp => ?_⟩
  have hl := len _ _ _ _ hsp
  have KX : K.In s.heap := e0.mod.kin.keeps fun b o e => (e0.bs b o e).1
  have lim : s.heap.NoLimit := e0.mod.nolimit.keeps fun b o e => (e0.bs b o e).1
  have hkind : ∀ y ∈ ps.zip us, scope.names.lookup y.1 = some .local ∨ (scope.names.lookup y.1 = some .cell ∧ ((cellsFrom (s.heap.objs.size + 1) scope.names []).lookup y.1).isSome = true) := fun ⟨n, v⟩ hy => by
    rcases S.par n (List.of_mem_zip hy).1 with q | q
    · exact .inl q
    · exact .inr ⟨q, PySem.W.cellsFrom_some _ _ _ (.inl q)⟩
  refine codeAny_call_function hr.depth (KX _ _ lk) rfl S.co S.gen rfl (PySem.W.codeRec_of KX hcd) (hb _ _ _ _ ?_)
  refine wpAny_newFunctionEnv_cells S.kind hkind fun env he s1 x => ?_
  subst he
  refine ⟨lim.keeps x.toInCall.keep, codeAny_func ?_⟩
  obtain ⟨t, ht, hq⟩ := hbody A outer s H vs Q E (hr.deeper _) hsp
  have I : Inv (am1 CX P w K mg base N qual scope f cdv A outer s H E) [] (start N vs) H s1 := av4 S hr.hd e0 hl r x
  refine wpAny_mono (ht [] s1 (start N vs) H _ I hq) (fun fl s' hs => ?_) fun e s' hs => hs
  have fin : ∀ {σ' : St} {H' : Hp} {v : V} {u : Value}, Inv (am1 CX P w K mg base N qual scope f cdv A outer s H E) [] σ' H' s' → z9 v u → Q v H' → CE outer P w H s Q u s' :=
    fun {σ' H' v u} J rv q => ⟨v, H', J.os, J.bare, J.base, J.hok, rv, q⟩
  cases fl with
  | ret u =>
    obtain ⟨v, σ', H', J, rv, q⟩ := hs
    exact fin J rv q
  | next =>
    obtain ⟨σ', H', J, q⟩ := hs
    exact fin (v := V.non) (u := Value.none) J rfl q
  | brk =>
    obtain ⟨_, _, _, q⟩ := hs
    exact False.elim q
  | cont =>
    obtain ⟨_, _, _, q⟩ := hs
    exact False.elim q
section
variable {X : Cx} {x : Str} {p pos : Pos} {e : Expr} {es : List Expr} {t : TA} {id T : String} {r : List V → Hp → VK → Prop}
def tCB (r : List V → Hp → VK → Prop) (t : TA) : TE := fun σ H Q => t σ H fun vs H1 => r vs H1 Q
theorem d9 (hc : aa3 X (.builtin id) r) (hg : Gl X x) (hm : X.mg x = none) (hv : bootBuiltins x = some (.builtin id)) (ha : PA X (e :: es) t) (hn : x ≠ "__name__" := by decide) (hdb : (x == ("__debug__" : Str)) = false := by decide)
    (he : starEach (e :: es) X.env = (false, eval e X.env) :: starEach es X.env := by rfl) (hpl : (backTo pos (starEach es X.env)).any (·.1) = false := by rfl) : PE X (.Call (.Name x p) (e :: es) [] pos) (tCB r t) := by
  intro pins s σ H Q I h
  refine wpAny_Call_Name_kw (Q9 I hg hm hv ?_ hn hdb)
  exact PyProof.Rows.callWith_builtin1 (thn (ha pos pins s σ H _ I h) fun us s1 ⟨vs, H1, I1, r1, q1⟩ => hc pins s1 σ H1 vs us Q I1 r1 q1) he hpl
theorem N9 (hc : aa3 X (.type T) r) (hg : Gl X x) (hm : X.mg x = none) (hv : bootBuiltins x = some (.type T)) (ha : PA X (e :: es) t) (hn : x ≠ "__name__" := by decide) (hdb : (x == ("__debug__" : Str)) = false := by decide)
    (he : starEach (e :: es) X.env = (false, eval e X.env) :: starEach es X.env := by rfl) (hpl : (backTo pos (starEach es X.env)).any (·.1) = false := by rfl) : PE X (.Call (.Name x p) (e :: es) [] pos) (tCB r t) := by
  intro pins s σ H Q I h
  refine wpAny_Call_Name_kw (Q9 I hg hm hv ?_ hn hdb)
  exact PyProof.Rows.callWith_type1 (thn (ha pos pins s σ H _ I h) fun us s1 ⟨vs, H1, I1, r1, q1⟩ => hc pins s1 σ H1 vs us Q I1 r1 q1) he hpl
end
end L2
namespace HT
open PySem PyProof.Rows
section
open PySem.SeqAt
open PySem.AutoSeq1 (wpAny_loadPart')
open PySem.MeetsSeq PySem.MeetsSeq2 PySem.MeetsSeq3
end
section
variable {prog : Program} {w : World} {A : Around} {E : Value → Shared → Prop} {s : Shared}
theorem cat_tup {t b : Addr} {vs ws : List Value} {Q : Value → Shared → Prop} (ht : IsTup s.heap t vs.toArray) (hb : IsTup s.heap b ws.toArray) (hv : vs ≠ [])
    (h1 : ws = [] → Q (.ref t) s) (h2 : ws ≠ [] → Q (.ref s.heap.objs.size) { s with heap := s.heap.push { cls := .type "tuple", data := .seq (vs ++ ws).toArray } })
    (hsz : vs.length + ws.length ≤ sizeLine) : wpAny (model prog w) A (binaryOp .Add (.ref t) (.ref b)) Q E s := by
  obtain ⟨⟨cls, dd, data, sl⟩, ho, hc, n, hd⟩ := id ht
  obtain ⟨⟨cls2, dd2, data2, sl2⟩, ho2, hc2, n2, hd2⟩ := id hb
  simp only at hc hd hc2 hd2
  subst hc hd hc2 hd2
  have e : vs.toArray ++ ws.toArray = (vs ++ ws).toArray := by simp
  by_cases hw : ws = []
  · exact concat_meets ⟨_, ho, rfl⟩ ⟨_, ho2, rfl⟩ noFill_tuple_add seq_tuple_add PySem.F.slot_tuple_add PySem.F.entry_tuple_add (PySem.F.args_tuple_add_2 _ _)
      (tuple_addW1 t b vs.toArray ws.toArray n n2 dd dd2 sl sl2 (by simpa using hv) (by simp [hw])) ⟨ho, ho2, h1 hw⟩
  · refine concat_meets ⟨_, ho, rfl⟩ ⟨_, ho2, rfl⟩ noFill_tuple_add seq_tuple_add PySem.F.slot_tuple_add PySem.F.entry_tuple_add (PySem.F.args_tuple_add_2 _ _)
      (tuple_addW2 t b vs.toArray ws.toArray n n2 dd dd2 sl sl2 (by simpa using hv) (by simpa using hw) (by rw [List.size_toArray, List.size_toArray]; exact hsz)) ⟨ho, ho2, ?_⟩
    rw [e]
    exact h2 hw
def sIx (n d : Nat) : Option Int → Nat
  | none => d
  | some v => if v < 0 then (v + (n : Int)).toNat else min v.toNat n
theorem sIx_none (n d : Nat) : sIx n d none = d := rfl
theorem bc1 (n d : Nat) (hd : d ≤ n) (o : Option Int) : sIx n d o ≤ n := by
  cases o with
  | none => exact hd
  | some v =>
    show (if v < 0 then (v + (n : Int)).toNat else min v.toNat n) ≤ n
    by_cases hv : v < 0
    · rw [if_pos hv]; omega
    · rw [if_neg hv]; exact Nat.min_le_right _ _
theorem aL1 (v : Int) (n d : Nat) : (if v < 0 then max (v + (n : Int)) 0 else min v (n : Int)) = ((sIx n d (some v) : Nat) : Int) := by
  show (if v < 0 then max (v + (n : Int)) 0 else min v (n : Int)) = (((if v < 0 then (v + (n : Int)).toNat else min v.toNat n) : Nat) : Int)
  by_cases hv : v < 0
  · simp only [if_pos hv]; omega
  · simp only [if_neg hv]; omega
theorem aI7 (lo hi : Option Int) (n : Nat) : Builtin.Slice.sliceAdjust lo hi 1 (n : Int) = (((sIx n 0 lo : Nat) : Int), ((sIx n n hi : Nat) : Int)) := by
  have h1 : ¬ ((1 : Int) < 0) := by omega
  unfold Builtin.Slice.sliceAdjust
  simp only [h1, if_false]
  refine Prod.ext ?_ ?_
  · cases lo with
    | none => rfl
    | some v => exact aL1 v n 0
  · cases hi with
    | none => rfl
    | some v => exact aL1 v n n
theorem aH0 (i j : Nat) : Builtin.Slice.slicePlaces (i : Int) (j : Int) 1 = j - i := by
  unfold Builtin.Slice.slicePlaces
  have h1 : (1 : Int) > 0 := by omega
  simp only [h1, if_true, Int.ediv_one]
  split <;> omega
theorem S5 {v : Value} {o : Option Int} {Q : Option Int → Shared → Prop} (p : IsPart v o) (h : Q o s) : wpAny (model prog w) A (Builtin.Slice.slicePartIndex v) Q E s := by
  cases p with
  | none => exact slicePart_none h
  | int i t => exact slicePart_int h
theorem W9 {sl : Addr} {vl vu : Value} {lo hi : Option Int} {n : Nat} {Q : Int × Int × Nat → Shared → Prop} (hs : s.heap.IsSliceOf sl vl vu .none) (pl : IsPart vl lo) (pu : IsPart vu hi)
    (h : Q (((sIx n 0 lo : Nat) : Int), 1, sIx n n hi - sIx n 0 lo) s) : wpAny (model prog w) A (Builtin.Slice.sliceApplied (.ref sl) (pure (n : Int))) Q E s := by
  obtain ⟨os, hos, hcs, hds⟩ := id hs
  unfold Builtin.Slice.sliceApplied Builtin.Slice.sliceFields
  refine wpAny_bind (wpAny_bind (wpAny_field hos hds (x := vl) rfl (wpAny_bind (wpAny_field hos hds (x := vu) rfl (wpAny_bind (wpAny_field hos hds (x := .none) rfl (wpAny_pure ?_)))))))
  refine wpAny_bind (slicePart_none ?_)
  show wpAny _ _ (if ((1 : Int) == 0) = true then _ else _) _ _ s
  rw [if_neg (by decide)]
  refine wpAny_bind (S5 pl (wpAny_bind (S5 pu (wpAny_bind (wpAny_pure ?_)))))
  show wpAny _ _ (match Builtin.Slice.sliceAdjust lo hi 1 (n : Int) with | (lo, hi) => pure (lo, (1 : Int), Builtin.Slice.slicePlaces lo hi 1)) _ _ s
  rw [aI7 lo hi n]
  show wpAny _ _ (pure (((sIx n 0 lo : Nat) : Int), (1 : Int), Builtin.Slice.slicePlaces ((sIx n 0 lo : Nat) : Int) ((sIx n n hi : Nat) : Int) 1)) _ _ s
  rw [aH0]
  exact wpAny_pure h
theorem aR4 (xs : Array Value) (i k : Nat) : ((List.range k).filterMap fun (m : Nat) => xs[((i : Int) + (m : Int) * 1).toNat]?).toArray = ((xs.toList.drop i).take k).toArray := by
  have e : (fun (m : Nat) => xs[((i : Int) + (m : Int) * 1).toNat]?) = fun m => xs[i + m]? := by
    funext m
    have : ((i : Int) + (m : Int) * 1).toNat = i + m := by omega
    rw [this]
  rw [e]
  have := pick_run xs i k
  rw [List.filterMap_map] at this
  have e2 : ((fun x => xs[x]?) ∘ fun x => i + x) = fun m => xs[i + m]? := rfl
  rw [e2] at this
  rw [this]
theorem getItem_tuple_cut {t sl : Addr} {items : Array Value} {vl vu : Value} {lo hi : Option Int} {Q : Value → Shared → Prop} (ht : IsTup s.heap t items) (hs : s.heap.IsSliceOf sl vl vu .none) (pl : IsPart vl lo) (pu : IsPart vu hi)
    (hw : ¬ (sIx items.size 0 lo = 0 ∧ sIx items.size items.size hi = items.size))
    (h : Q (.ref s.heap.objs.size) { s with heap := s.heap.push { cls := .type "tuple", data := .seq ((items.toList.drop (sIx items.size 0 lo)).take (sIx items.size items.size hi - sIx items.size 0 lo)).toArray } })
    (hsz : items.size ≤ sizeLine) : wpAny (model prog w) A (getItem (.ref t) (.ref sl)) Q E s := by
  have htake : sizeOk (.seq ((items.toList.drop (sIx items.size 0 lo)).take (sIx items.size items.size hi - sIx items.size 0 lo)).toArray) := by
    show ((items.toList.drop (sIx items.size 0 lo)).take (sIx items.size items.size hi - sIx items.size 0 lo)).toArray.size ≤ sizeLine
    rw [List.size_toArray, List.length_take, List.length_drop, Array.length_toList]
    omega
  have hj : sIx items.size items.size hi ≤ items.size := bc1 _ _ (Nat.le_refl _) hi
  obtain ⟨os, hos, hcs, hds⟩ := id hs
  have hTs : s.TypeIs (.ref sl) "slice" := ⟨os, hos, hcs⟩
  unfold getItem
  try with_reducible refine wpAny_holding ?_
  first | refine wpAny_bind (wpAny_pure ?_) | skip
  refine wpAny_bind (wpAny_sequenceKey ht.typeIs (by decide) ?_)
  refine wpAny_bind (wpAny_callSpecial?_slot (name := Str.ofString "__getitem__") ht.typeIs PyProof.Rows.slot_tuple_getitem
    (wpAny_call_entry PyProof.Rows.slot_tuple_getitem ht.typeIs entry_tuple_getitem ?_ (args_tuple_getitem _ _)))
  show wpAny _ _ (Builtin.Tuple.tupleItemsOf (.ref t) >>= _) _ _ s
  refine wpAny_bind (tupleItemsOf_ ht ?_)
  refine wpAny_bind (wpAny_typeOf hTs ?_)
  rw [if_pos (by decide)]
  refine wpAny_bind (W9 hs pl pu ?_)
  have hno : ¬ ((((sIx items.size 0 lo : Nat) : Int) == 0 && (1 : Int) == 1 && (sIx items.size items.size hi - sIx items.size 0 lo) == items.size) = true) := by
    intro q
    rw [Bool.and_eq_true, Bool.and_eq_true] at q
    have q1 : ((sIx items.size 0 lo : Nat) : Int) = 0 := eq_of_beq q.1.1
    have q2 : sIx items.size items.size hi - sIx items.size 0 lo = items.size := eq_of_beq q.2
    exact hw ⟨by omega, by omega⟩
  show wpAny _ _ (if (((sIx items.size 0 lo : Nat) : Int) == 0 && (1 : Int) == 1 && (sIx items.size items.size hi - sIx items.size 0 lo) == items.size) = true then _ else _) _ _ s
  rw [if_neg hno, aR4]
  first
    | exact wpAny_bind (m := Builtin.Tuple.tupleExact _) (wpAny_newObj_type (wpAny_pure ⟨_, rfl, wpAny_pure h⟩) htake)
    | exact wpAny_bind (m := Builtin.Tuple.tupleExact _) (wpAny_newObj_type (wpAny_bind (wpAny_pure (wpAny_pure ⟨_, rfl, wpAny_pure h⟩))) htake)
    | exact wpAny_bind (wpAny_bind (m := Builtin.Tuple.tupleExact _) (wpAny_newObj_type (wpAny_pure (wpAny_pure ⟨_, rfl, wpAny_pure h⟩)) htake))
    | exact wpAny_bind (wpAny_bind (m := Builtin.Tuple.tupleExact _) (wpAny_newObj_type (wpAny_pure ⟨_, rfl, wpAny_pure h⟩) htake))
end
end HT
namespace L2
open PySem PySem.Spec PyProof.Rows
abbrev TO := St → Hp → (Option Int → Hp → Prop) → Prop
def PO (X : Cx) (e : Option Expr) (t : TO) : Prop :=
  ∀ (pins : List (Addr × Obj)) (s : Shared) (σ : St) (H : Hp) (Q : Option Int → Hp → Prop), Inv X pins σ H s → t σ H Q →
    wpAny (model X.prog X.w) X.A (evalPart e X.env) (fun u s' => ∃ o H', Inv X pins σ H' s' ∧ IsPart u o ∧ Q o H') X.xe s
def ag3 : TO := fun _ H Q => Q none H
def aP6 (t : TE) : TO := fun σ H Q => t σ H fun x H1 => ∃ i, x = .int i ∧ Q (some i) H1
section
variable {X : Cx} {e : Expr} {te : TE} {lo hi : Option Expr} {tl th : TO} {pos p2 : Pos}
theorem C1 : PO X none ag3 := by
  intro pins s σ H Q I h
  rw [evalPart_none]
  exact wpAny_pure ⟨none, H, I, .none, h⟩
theorem B6 (h : PE X e te) : PO X (some e) (aP6 te) := by
  intro pins s σ H Q I hw
  rw [evalPart_some]
  refine thn (h pins s σ H _ I hw) fun u s1 ⟨x, H1, I1, r1, q1⟩ => ?_
  obtain ⟨i, rfl, q⟩ := q1
  obtain ⟨t, rfl⟩ := r1
  exact ⟨some i, H1, I1, .int i t, q⟩
def SlR (X : Cx) (r : V → Option Int → Option Int → Hp → VK → Prop) : Prop :=
  ∀ (pins : List (Addr × Obj)) (s : Shared) (σ : St) (H : Hp) (x : V) (v vl vu : Value) (lo hi : Option Int) (sl : Addr) (Q : VK), Inv X pins σ H s → z9 x v → s.heap.IsSliceOf sl vl vu .none → IsPart vl lo → IsPart vu hi → r x lo hi H Q →
    ∃ T id, typeLookup (.type T) "__getitem__" = pure (some (.builtin id)) ∧ s.TypeIs v T ∧ wpAny (model X.prog X.w) X.A (getItem v (.ref sl)) (EP X pins σ Q) X.xe s
def tSl (r : V → Option Int → Option Int → Hp → VK → Prop) (te : TE) (tl th : TO) : TE := fun σ H Q => te σ H fun x H1 => tl σ H1 fun l H2 => th σ H2 fun u H3 => r x l u H3 Q
theorem A4 {r : V → Option Int → Option Int → Hp → VK → Prop} (hr : SlR X r) (he : PE X e te) (hl : PO X lo tl) (hu : PO X hi th) : PE X (.Subscript e (.Slice lo hi none p2) pos) (tSl r te tl th) := by
  intro pins s σ H Q I h
  refine Subscript_ (thn (he pins s σ H _ I h) fun v s1 ⟨x, H1, I1, r1, q1⟩ => ?_)
  refine wpAny_Slice (thn (hl pins s1 σ H1 _ I1 q1) fun vl s2 ⟨l, H2, I2, pl, q2⟩ => thn (hu pins s2 σ H2 _ I2 q2) fun vu s3 ⟨u, H3, I3, pu, q3⟩ => ?_)
  rw [evalPart_none]
  refine wpAny_pure ?_
  have I4 : Inv X pins σ H3 { s3 with heap := s3.heap.push { cls := .type "slice", data := .fields #[vl, vu, .none] } } := I3.kept (t' := s3.toks) fun b ob q => Heap.get?_push_of_some _ q
  obtain ⟨T, id, hT, ht, hg⟩ := hr pins { s3 with heap := s3.heap.push { cls := .type "slice", data := .fields #[vl, vu, .none] } } σ H3 x v vl vu l u s3.heap.objs.size Q I4 r1 (Heap.IsSliceOf.new ..) pl pu q3
  show wpAny (model X.prog X.w) X.A (subscriptTail e (.Slice lo hi none p2) v (.ref s3.heap.objs.size)) (EP X pins σ Q) X.xe { s3 with heap := s3.heap.push { cls := .type "slice", data := .fields #[vl, vu, .none] } }
  exact tail_any (ops := [.ref s3.heap.objs.size, v]) ht hT hg (by with_unfolding_all rfl)
def P1 (xs : List V) (lo hi : Option Int) : List V := (xs.drop (HT.sIx xs.length 0 lo)).take (HT.sIx xs.length xs.length hi - HT.sIx xs.length 0 lo)
theorem V2 (xs : List V) (lo hi : Option Int) : (P1 xs lo hi).length ≤ xs.length := by
  unfold P1
  rw [List.length_take, List.length_drop]
  omega
def bg1 (K : PySem.W.Frag) : V → Option Int → Option Int → Hp → VK → Prop := fun x lo hi H Q => ∃ a xs, x = .ref a ∧ SqT K H a xs ∧
  ¬ (HT.sIx xs.length 0 lo = 0 ∧ HT.sIx xs.length xs.length hi = xs.length) ∧ ∀ p, H p = none → Q (.ref p) (upd H p (.tup (P1 xs lo hi)))
theorem aQ2 : SlR X (bg1 X.K) := by
  intro pins s σ H x v vl vu lo hi sl Q I rx hs pl pu h
  obtain ⟨a, xs, rfl, hx, hw, q⟩ := h
  cases rx
  obtain ⟨its, r, ht, hz⟩ := I.tuple hx
  have hlen : its.toArray.size = xs.length := by rw [List.size_toArray]; exact r.length.symm
  refine ⟨"tuple", _, PyProof.Rows.slot_tuple_getitem.lookup, ht.typeIs, ?_⟩
  refine HT.getItem_tuple_cut ht hs pl pu (by rw [hlen]; exact hw) ?_ (by rw [hlen]; exact hz)
  rw [hlen]
  refine ⟨.ref s.heap.objs.size, _, I.laid (t' := s.toks) (o := .tup (P1 xs lo hi)) (fun b ob q => Heap.get?_push_of_some _ q) (Nat.le_refl _) ?_, rfl, q _ (I.hok.fresh (Nat.le_refl _))⟩
  exact ⟨Nat.le_trans (V2 xs lo hi) hz, _, (r.drop (HT.sIx xs.length 0 lo)).take (HT.sIx xs.length xs.length hi - HT.sIx xs.length 0 lo), IsTup.new _ _⟩
def bg3 (K : PySem.W.Frag) : R2 := fun x y H Q => ∃ a b xs ys, x = .ref a ∧ y = .ref b ∧ SqT K H a xs ∧ SqT K H b ys ∧ xs ≠ [] ∧ xs.length + ys.length ≤ sizeLine ∧
  (ys = [] → Q (.ref a) H) ∧ (ys ≠ [] → ∀ p, H p = none → Q (.ref p) (upd H p (.tup (xs ++ ys))))
theorem t0.nil_iff {xs : List V} {us : List Value} (r : t0 xs us) : us = [] ↔ xs = [] := by
  cases r with
  | nil => simp
  | cons _ _ => simp
theorem aX7 : OpR X (binaryOp .Add) (bg3 X.K) := by
  intro pins s σ H x y v u Q I rx ry h
  obtain ⟨a, b, xs, ys, rfl, rfl, ha, hb, hx, hz, q1, q2⟩ := h
  cases rx
  cases ry
  obtain ⟨its, r1, p1, _⟩ := I.tuple ha
  obtain ⟨its2, r2, p2, _⟩ := I.tuple hb
  refine HT.cat_tup p1 p2 (fun z => hx (r1.nil_iff.mp z)) (fun z => ⟨.ref a, H, I, rfl, q1 (r2.nil_iff.mp z)⟩) (fun z => ?_) (by rw [← r1.length, ← r2.length]; exact hz)
  refine ⟨.ref s.heap.objs.size, _, I.laid (t' := s.toks) (o := .tup (xs ++ ys)) (fun b ob q => Heap.get?_push_of_some _ q) (Nat.le_refl _) ?_, rfl, q2 (fun w => z (r2.nil_iff.mpr w)) _ (I.hok.fresh (Nat.le_refl _))⟩
  exact ⟨by rw [List.length_append]; exact hz, _, r1.append r2, IsTup.new _ _⟩
end
def ixN (n : Nat) (i : Int) : Option Nat := if 0 ≤ i then (if i < n then some i.toNat else none) else if -(n : Int) ≤ i then some (i + n).toNat else none
def atI {α : Type} (xs : List α) (i : Int) : Option α := (ixN xs.length i).bind fun j => xs[j]?
theorem aA0 {n : Nat} {i : Int} {j : Nat} (h : ixN n i = some j) : seqIndex? i n = some j ∧ j < n ∧ -(n : Int) ≤ i ∧ i < n := by
  unfold ixN at h
  by_cases h0 : 0 ≤ i
  · rw [if_pos h0] at h
    by_cases h1 : i < n
    · rw [if_pos h1] at h
      have e : i.toNat = j := Option.some.inj h
      exact ⟨by rw [seqIndex_of h0 h1, e], by omega, by omega, h1⟩
    · rw [if_neg h1] at h; cases h
  · rw [if_neg h0] at h
    by_cases h1 : -(n : Int) ≤ i
    · rw [if_pos h1] at h
      have e : (i + n).toNat = j := Option.some.inj h
      exact ⟨by rw [seqIndex_neg (by omega) h1, e], by omega, h1, by omega⟩
    · rw [if_neg h1] at h; cases h
theorem aL5 {α : Type} {xs : List α} {i : Int} {v : α} (h : atI xs i = some v) : ∃ j, seqIndex? i xs.length = some j ∧ xs[j]? = some v ∧ j < xs.length ∧ -(xs.length : Int) ≤ i ∧ i < xs.length := by
  unfold atI at h
  cases e : ixN xs.length i with
  | none => rw [e] at h; cases h
  | some j =>
    rw [e] at h
    obtain ⟨h1, h2, h3, h4⟩ := aA0 e
    exact ⟨j, h1, h, h2, h3, h4⟩
theorem u0 {α : Type} {xs : List α} {j : Nat} {v : α} (h : xs[j]? = some v) : atI xs (j : Int) = some v := by
  have hj : j < xs.length := (List.getElem?_eq_some_iff.mp h).1
  have e : ixN xs.length (j : Int) = some j := by
    unfold ixN
    rw [if_pos (by omega), if_pos (by omega)]; simp
  unfold atI; rw [e]; exact h
def aZ3 (b : Expr) : Prop := ∀ o i, subscripted b false o i = operate [o, i] (getItem o i)
def IxR (X : Cx) (r : R2) : Prop :=
  ∀ (value slice : Expr) (pins : List (Addr × Obj)) (s : Shared) (σ : St) (H : Hp) (x y : V) (v u : Value) (Q : VK), Inv X pins σ H s → z9 x v → z9 y u → r x y H Q →
    subscripted slice false v u = operate [v, u] (getItem v u) → wpAny (model X.prog X.w) X.A (subscriptTail value slice v u) (EP X pins σ Q) X.xe s
def MtR (X : Cx) (id : String) (r : V → List V → Hp → VK → Prop) : Prop :=
  ∀ (pins : List (Addr × Obj)) (s : Shared) (σ : St) (H : Hp) (x : V) (xs : List V) (v : Value) (us : List Value) (Q : VK), Inv X pins σ H s → z9 x v → t0 xs us → r x xs H Q →
    wpAny (model X.prog X.w) X.A (call (.builtin id) (v :: us)) (EP X pins σ Q) X.xe s
section
variable {X : Cx} {a b : Expr} {ta tb : TE} {pos : Pos}
theorem j9 {r : R2} (hr : IxR X r) (ha : PE X a ta) (hb : PE X b tb) (hs : aZ3 b) : PE X (.Subscript a b pos) (tOp r ta tb) := by
  intro pins s σ H Q I h
  exact Subscript_ (be9 ha hb I h fun v u s2 x y H2 I2 rx ry q => hr a b pins s2 σ H2 x y v u Q I2 rx ry q (hs _ _))
def ah1 (K : PySem.W.Frag) : R2 := fun x y H Q => ∃ p xs i v, x = .ref p ∧ y = .int i ∧ SqL K H p xs ∧ atI xs i = some v ∧ Q v H
def aX1 (K : PySem.W.Frag) : R2 := fun x y H Q => ∃ p xs i v, x = .ref p ∧ y = .int i ∧ SqT K H p xs ∧ atI xs i = some v ∧ Q v H
theorem j5 : IxR X (ah1 X.K) := by
  intro value slice pins s σ H x y v u Q I rx ry h hs
  obtain ⟨p, xs, i, z, rfl, rfl, hq, he, q⟩ := h
  cases rx
  obtain ⟨t, rfl⟩ := ry
  obtain ⟨its, r, pl, hz⟩ := I.list hq
  obtain ⟨j, h1, h2, h3, h4, h5⟩ := aL5 he
  obtain ⟨w, ew, rw'⟩ := r.get h2
  have hl := r.length
  have hn := ak2
  have fin : EP X pins σ Q w s := ⟨z, H, I, rw', q⟩
  by_cases h0 : 0 ≤ i
  · have hj : i.toNat = j := by
      rw [seqIndex_of h0 h5] at h1
      exact Option.some.inj h1
    exact item_listR pl.isList h0 (by omega) (by rw [hj]; simpa using ew) fin hs
  · have hj : (i + (its.toArray.size : Int)).toNat = j := by
      rw [seqIndex_neg (by omega) h4] at h1
      rw [List.size_toArray, ← hl]
      exact Option.some.inj h1
    exact subscriptTail_builtinR (x := w) pl.isList.typeIs slot_list_getitem.lookup
      (wpAny_getItem_list_neg (Q := fun r s' => r = w ∧ EP X pins σ Q r s') pl.isList (by omega) (by rw [List.size_toArray] <;> omega) (by omega) (by rw [hj]; simpa using ew) ⟨rfl, fin⟩) hs
theorem A5 : IxR X (aX1 X.K) := by
  intro value slice pins s σ H x y v u Q I rx ry h hs
  obtain ⟨p, xs, i, z, rfl, rfl, hq, he, q⟩ := h
  cases rx
  obtain ⟨t, rfl⟩ := ry
  obtain ⟨its, r, pl, hz⟩ := I.tuple hq
  obtain ⟨j, h1, h2, h3, h4, h5⟩ := aL5 he
  obtain ⟨w, ew, rw'⟩ := r.get h2
  have hl := r.length
  have hn := ak2
  have fin : EP X pins σ Q w s := ⟨z, H, I, rw', q⟩
  exact subscriptTail_builtinR (x := w) pl.typeIs slot_tuple_getitem.lookup
    (getItem_tuple (j := j) (Q := fun r s' => r = w ∧ EP X pins σ Q r s') pl (by omega) (by omega) (by rw [List.size_toArray, ← hl]; exact h1) (by simpa using ew) ⟨rfl, fin⟩) hs
theorem aH6 (its : List Value) (n j : Nat) (u : Value) : Obj.mapSeq (·.setIfInBounds j u) { cls := .type "list", data := .seq its.toArray n } = { cls := .type "list", data := .seq (its.set j u).toArray n } := by
  simp [Obj.mapSeq]
theorem Inv.lst {pins : List (Addr × Obj)} {σ : St} {H : Hp} {s : Shared} {p : Addr} {xs : List V} (I : Inv X pins σ H s) (h : H p = some (.lst xs)) :
    ∃ (its : List Value) (n : Nat), t0 xs its ∧ s.heap.get? p = some { cls := .type "list", data := .seq its.toArray n } ∧ xs.length ≤ sizeLine := by
  obtain ⟨z, its, n, r, e⟩ := I.hok p _ h
  exact ⟨its, n, r, e, z⟩
theorem Inv.lstUpd {pins : List (Addr × Obj)} {σ : St} {H : Hp} {s : Shared} {p : Addr} {xs ys : List V} {its its' : List Value} {n n' : Nat} {f : Obj → Obj} (I : Inv X pins σ H s) (h : H p = some (.lst xs))
    (ho : s.heap.get? p = some { cls := .type "list", data := .seq its.toArray n }) (hf : f { cls := .type "list", data := .seq its.toArray n } = { cls := .type "list", data := .seq its'.toArray n' }) (r : t0 ys its') (hz : ys.length ≤ sizeLine) (t : Nat) :
    Inv X pins σ (upd H p (.lst ys)) { s with heap := s.heap.update p f, toks := t } := by
  have e : (s.heap.update p f).get? p = some { cls := .type "list", data := .seq its'.toArray n' } := by
    rw [Heap.get?_update_self f ho (by rw [hf] <;> rfl), hf]
  refine I.write (x := p) (e := p) (by rw [h]; trivial) (.inl rfl) (fun b u hb q => (Heap.get?_update_other _ _ (Ne.symm hb)).trans q) ⟨_, e⟩ ?_
  exact ⟨hz, its', n', r, e⟩
def aC1 : V → V → V → Hp → (Hp → Prop) → Prop := fun o i v H Q => ∃ p xs k j, o = .ref p ∧ i = .int k ∧ H p = some (.lst xs) ∧ ixN xs.length k = some j ∧ Q (upd H p (.lst (xs.set j v)))
theorem ab8 : bh3 X aC1 := by
  intro pins s σ H o i v ov iv u Q I ro ri rv h
  obtain ⟨p, xs, k, j, rfl, rfl, hp, hj, q⟩ := h
  cases ro
  obtain ⟨t, rfl⟩ := ri
  obtain ⟨its, n, r, ho, hz⟩ := I.lst hp
  obtain ⟨h1, h2, h3, h4⟩ := aA0 hj
  have hl := r.length
  have hn := ak2
  have I' : Inv X pins σ (upd H p (.lst (xs.set j v))) { s with heap := s.heap.update p (Obj.mapSeq (·.setIfInBounds j u)) } :=
    I.lstUpd hp ho (aH6 its n j u) (r.set rv j) (by rw [List.length_set]; exact hz) s.toks
  by_cases h0 : 0 ≤ k
  · have hk : k.toNat = j := by
      rw [seqIndex_of h0 h4] at h1
      exact Option.some.inj h1
    exact PySem.W.ki_setAt ho h0 (by omega) (by rw [List.size_toArray, ← hl]; exact h4) (by rw [hk]; exact ⟨_, I', q⟩)
  · have hk : (k + (its.toArray.size : Int)).toNat = j := by
      rw [seqIndex_neg (by omega) h3] at h1
      rw [List.size_toArray, ← hl]
      exact Option.some.inj h1
    exact PySem.W.ki_setBack ho (by omega) (by rw [List.size_toArray, ← hl]; exact h3) (by omega) (by rw [hk]; exact ⟨_, I', q⟩)
theorem ax5 (lo hi : Option Int) (n : Nat) : (sliceBounds lo hi none n).1 = ((HT.sIx n 0 lo : Nat) : Int) ∧ (sliceBounds lo hi none n).2.1 = ((HT.sIx n n hi : Nat) : Int) ∧ (sliceBounds lo hi none n).2.2 = 1 := by
  refine ⟨?_, ?_, rfl⟩
  · cases lo with
    | none => simp [sliceBounds, HT.sIx]
    | some i =>
      simp only [sliceBounds, HT.sIx, Option.getD_none, show (1 : Int) > 0 by decide, if_true]
      by_cases h : i < 0
      · simp only [h, if_true] <;> omega
      · simp only [h, if_false] <;> omega
  · cases hi with
    | none => simp [sliceBounds, HT.sIx]
    | some i =>
      simp only [sliceBounds, HT.sIx, Option.getD_none, show (1 : Int) > 0 by decide, if_true]
      by_cases h : i < 0
      · simp only [h, if_true] <;> omega
      · simp only [h, if_false] <;> omega
theorem as5 (its : List Value) (lo hi : Option Int) : slicePick its.toArray lo hi none = ((its.drop (HT.sIx its.length 0 lo)).take (HT.sIx its.length its.length hi - HT.sIx its.length 0 lo)).toArray := by
  obtain ⟨h1, h2, h3⟩ := ax5 lo hi its.toArray.size
  unfold slicePick
  rw [h1, h2, h3]
  simp only [sliceRange_one, pick_run, List.size_toArray] <;> rfl
def aG4 (K : PySem.W.Frag) : V → Option Int → Option Int → Hp → VK → Prop := fun x lo hi H Q => ∃ a xs, x = .ref a ∧ SqL K H a xs ∧ ∀ p, H p = none → Q (.ref p) (upd H p (.lst (P1 xs lo hi)))
theorem M6 : SlR X (aG4 X.K) := by
  intro pins s σ H x v vl vu lo hi sl Q I rx hs pl pu h
  obtain ⟨a, xs, rfl, hx, q⟩ := h
  cases rx
  obtain ⟨its, r, ht, hz⟩ := I.list hx
  have hlen := r.length
  refine ⟨"list", _, slot_list_getitem.lookup, ht.isList.typeIs, ?_⟩
  refine wpAny_getItem_list_slice ht.isList hs pl pu .none (by simp) ?_ (by rw [List.size_toArray] <;> omega)
  rw [as5, ← hlen]
  refine ⟨.ref s.heap.objs.size, _, I.laid (t' := s.toks) (o := .lst (P1 xs lo hi)) (fun b ob q => Heap.get?_push_of_some _ q) (Nat.le_refl _) ?_, rfl, q _ (I.hok.fresh (Nat.le_refl _))⟩
  exact ⟨Nat.le_trans (V2 xs lo hi) hz, _, 0, (r.drop (HT.sIx xs.length 0 lo)).take (HT.sIx xs.length xs.length hi - HT.sIx xs.length 0 lo), Heap.get?_push_size _ rfl⟩
def V1 : V → Bool
  | .non => true
  | .bl _ => true
  | .int _ => true
  | .str _ => true
  | _ => false
def eqV : V → V → Bool
  | .non, .non => true
  | .bl a, .bl b => a == b
  | .bl a, .int b => (if a then 1 else 0) == b
  | .int a, .bl b => a == (if b then 1 else 0)
  | .int a, .int b => a == b
  | .str a, .str b => a == b
  | _, _ => false
theorem aU2 {A : Around} {s : Shared} {y x : V} {u v : Value} (ry : z9 y u) (rx : z9 x v) (fy : V1 y = true) (fx : V1 x = true) : SeqAt.EqAt A s u v (eqV y x) := by
  cases y with
  | non =>
    cases ry
    cases x with
    | non => cases rx; exact SeqAt.EqAt.same _
    | bl b => cases rx; exact SeqAt.EqAt.none_bool b
    | int b => obtain ⟨t, rfl⟩ := rx; exact SeqAt.EqAt.none_int b t
    | str b => obtain ⟨t, rfl⟩ := rx; exact SeqAt.EqAt.none_str b t
    | _ => exact absurd (show false = true from fx) Bool.false_ne_true
  | bl a =>
    cases ry
    cases x with
    | non => cases rx; exact SeqAt.EqAt.bool_none a
    | bl b => cases rx; exact SeqAt.EqAt.bool_bool a b
    | int b => obtain ⟨t, rfl⟩ := rx; exact SeqAt.EqAt.bool_int a b t
    | str b => obtain ⟨t, rfl⟩ := rx; exact SeqAt.EqAt.bool_str a b t
    | _ => exact absurd (show false = true from fx) Bool.false_ne_true
  | int a =>
    obtain ⟨t', rfl⟩ := ry
    cases x with
    | non => cases rx; exact SeqAt.EqAt.int_none a t'
    | bl b => cases rx; exact SeqAt.EqAt.int_bool a t' b
    | int b => obtain ⟨t, rfl⟩ := rx; exact SeqAt.EqAt.int_int a t' b t
    | str b => obtain ⟨t, rfl⟩ := rx; exact SeqAt.EqAt.int_str a t' b t
    | _ => exact absurd (show false = true from fx) Bool.false_ne_true
  | str a =>
    obtain ⟨t', rfl⟩ := ry
    cases x with
    | non => cases rx; exact SeqAt.EqAt.str_none a t'
    | bl b => cases rx; exact SeqAt.EqAt.str_bool a t' b
    | int b => obtain ⟨t, rfl⟩ := rx; exact SeqAt.EqAt.str_int a t' b t
    | str b => obtain ⟨t, rfl⟩ := rx; exact SeqAt.EqAt.str_str a t' b t
    | _ => exact absurd (show false = true from fx) Bool.false_ne_true
  | _ => exact absurd (show false = true from fy) Bool.false_ne_true
def eqU (x : V) (u : Value) : Bool := match u with
  | .none => eqV .non x
  | .bool b => eqV (.bl b) x
  | .int i _ => eqV (.int i) x
  | .str z _ => eqV (.str z) x
  | _ => false
theorem aI0 {x y : V} {u : Value} (r : z9 y u) (f : V1 y = true) : eqU x u = eqV y x := by
  cases y with
  | non => cases r; rfl
  | bl b => cases r; rfl
  | int i => obtain ⟨t, rfl⟩ := r; rfl
  | str z => obtain ⟨t, rfl⟩ := r; rfl
  | _ => exact absurd (show false = true from f) Bool.false_ne_true
theorem aq6 {A : Around} {s : Shared} {x : V} {v : Value} (rx : z9 x v) (fx : V1 x = true) : ∀ {xs : List V} {us : List Value}, t0 xs us → xs.all V1 = true → ∀ u ∈ us, SeqAt.EqAt A s u v (eqU x u)
  | _, _, .nil, _ => fun u hu => by cases hu
  | y :: xs, u :: us, .cons r t, f => fun u' hu => by
    rw [List.all_cons, Bool.and_eq_true] at f
    rcases List.mem_cons.mp hu with rfl | hu
    · rw [aI0 r f.1]; exact aU2 r rx f.1 fx
    · exact aq6 rx fx t f.2 u' hu
theorem m4 : aa3 X (.builtin "len") (fun xs H Q => ∃ p ys, xs = [.ref p] ∧ (SqL X.K H p ys ∨ SqT X.K H p ys) ∧ Q (.int ys.length) H) := by
  intro pins s σ H xs us Q I r h
  obtain ⟨p, ys, rfl, hq, q⟩ := h
  obtain ⟨u, rfl, rx⟩ := ak9 r
  cases rx
  have hn := ak2
  rcases hq with hq | hq
  · obtain ⟨its, r', pl, hz⟩ := I.list hq
    have hlen := r'.length
    exact Calls.call_len_list pl.isList (by simp only [List.size_toArray] <;> omega) ⟨.int ys.length, H, I.tok _, ⟨s.toks + 1, by rw [List.size_toArray, hlen]⟩, q⟩
  · obtain ⟨its, r', pl, hz⟩ := I.tuple hq
    have hlen := r'.length
    exact len_tuple pl (by simp only [List.size_toArray] <;> omega) ⟨.int ys.length, H, I.tok _, ⟨s.toks + 1, by rw [List.size_toArray, hlen]⟩, q⟩
theorem S3 : aa3 X (.type "list") (fun xs H Q => ∃ p ys, xs = [.ref p] ∧ (SqL X.K H p ys ∨ SqT X.K H p ys) ∧ ∀ l, H l = none → Q (.ref l) (upd H l (.lst ys))) := by
  intro pins s σ H xs us Q I r h
  obtain ⟨p, ys, rfl, hq, q⟩ := h
  obtain ⟨u, rfl, rx⟩ := ak9 r
  cases rx
  have fin : ∀ (its : List Value), t0 ys its → ys.length ≤ sizeLine → ∀ (h' : Heap) (c' : Nat), (∀ b o', s.heap.get? b = some o' → h'.get? b = some o') →
      h'.get? s.heap.objs.size = some { cls := .type "list", dict := none, data := .seq its.toArray c', slots := #[] } → EP X pins σ Q (.ref s.heap.objs.size) { s with heap := h' } := fun its r' hz h' c' kp e =>
    ⟨.ref s.heap.objs.size, _, I.laid (t' := s.toks) kp (Nat.le_refl _) (show F4 X.prog X.w _ h' _ (.lst ys) from ⟨hz, its, c', r', e⟩), rfl, q _ (I.hok.fresh (Nat.le_refl _))⟩
  rcases hq with hq | hq
  · obtain ⟨its, r', pl, hz⟩ := I.list hq
    have hlen := r'.length
    obtain ⟨o, ho, hc, n, hd⟩ := pl.isList
    exact call_list_seq p (.inl rfl) ho hc hd (fun h' c' kp e => fin its r' hz h' c' kp e) (by simp only [List.size_toArray] <;> omega)
  · obtain ⟨its, r', pl, hz⟩ := I.tuple hq
    have hlen := r'.length
    obtain ⟨o, ho, hc, n, hd⟩ := pl
    exact call_list_seq p (.inr rfl) ho hc hd (fun h' c' kp e => fin its r' hz h' c' kp e) (by simp only [List.size_toArray] <;> omega)
theorem at9 : aa3 X (.type "tuple") (fun xs H Q => ∃ p ys, xs = [.ref p] ∧ ((SqL X.K H p ys ∧ ∀ l, H l = none → Q (.ref l) (upd H l (.tup ys))) ∨ (SqT X.K H p ys ∧ Q (.ref p) H))) := by
  intro pins s σ H xs us Q I r h
  obtain ⟨p, ys, rfl, h⟩ := h
  obtain ⟨u, rfl, rx⟩ := ak9 r
  cases rx
  rcases h with ⟨hq, q⟩ | ⟨hq, q⟩
  · obtain ⟨its, r', pl, hz⟩ := I.list hq
    have hlen := r'.length
    refine call_tuple_list pl.isList (fun h' kp => ?_) (by simp only [List.size_toArray] <;> omega)
    have I1 : Inv X pins σ H { s with heap := h' } := I.kept (t' := s.toks) kp
    have I2 : Inv X pins σ (upd H h'.objs.size (.tup ys)) { s with heap := h'.push { cls := .type "tuple", data := .seq its.toArray } } :=
      I1.laid (t' := s.toks) (fun b o e => Heap.get?_push_of_some _ e) (Nat.le_refl _) (show F4 X.prog X.w _ _ _ (.tup ys) from ⟨hz, its, r', IsTup.new _ _⟩)
    exact ⟨.ref h'.objs.size, _, I2, rfl, q _ (I1.hok.fresh (Nat.le_refl _))⟩
  · obtain ⟨its, r', pl, hz⟩ := I.tuple hq
    exact call_tuple_same pl ⟨.ref p, H, I, rfl, q⟩
def tyV (K : PySem.W.Frag) (T : String) (x : V) (H : Hp) : Prop := match x with
  | .str _ => T = "str"
  | .int _ => T = "int"
  | .ref p => (T = "list" ∧ ∃ xs, SqL K H p xs) ∨ (T = "tuple" ∧ ∃ o, K.lookup p = some o ∧ o.cls = .type "tuple" ∧ o.dict = none) ∨
      (T = "dict" ∧ ((∃ kvs, H p = some (.dK kvs)) ∨ ∃ kvs, H p = some (.dT kvs))) ∨ (T = "set" ∧ ∃ S n, H p = some (.set S n))
  | _ => False
theorem aP2 {pins : List (Addr × Obj)} {σ : St} {H : Hp} {s : Shared} {T : String} {x : V} {v : Value} (I : Inv X pins σ H s) (r : z9 x v) (ty : tyV X.K T x H) :
    s.TypeIs v T ∧ ∀ a, v = .ref a → ∃ ob, s.heap.get? a = some ob ∧ ob.dict = none := by
  cases x with
  | str z =>
    obtain ⟨t, rfl⟩ := r
    cases (show T = "str" from ty)
    exact ⟨typeIs_str s z t, fun _ e => nomatch e⟩
  | int i =>
    obtain ⟨t, rfl⟩ := r
    cases (show T = "int" from ty)
    exact ⟨typeIs_int s i t, fun _ e => nomatch e⟩
  | ref p =>
    cases r
    rcases ty with ⟨rfl, xs, hq⟩ | ⟨rfl, o, hk, hc, hd⟩ | ⟨rfl, hk⟩ | ⟨rfl, S, n, hk⟩
    · obtain ⟨its, _, pl, _⟩ := I.list hq
      refine ⟨pl.isList.typeIs, fun a e => ?_⟩
      cases e
      obtain ⟨o, n, e, c, hd, _⟩ := pl
      exact ⟨o, e, hd⟩
    · refine ⟨⟨o, I.kIn p o hk, hc⟩, fun a e => ?_⟩
      cases e
      exact ⟨o, I.kIn _ o hk, hd⟩
    · have z : ∃ o, s.heap.get? p = some o ∧ o.ExactDict := by
        rcases hk with ⟨kvs, hk⟩ | ⟨kvs, hk⟩
        · obtain ⟨_, _, _, _, o, _, _, e, ex, _⟩ := I.hok p _ hk
          exact ⟨o, e, ex⟩
        · obtain ⟨_, _, _, _, o, _, _, e, ex, _⟩ := I.hok p _ hk
          exact ⟨o, e, ex⟩
      obtain ⟨o, e, ex⟩ := z
      refine ⟨⟨o, e, ex.1⟩, fun a e2 => ?_⟩
      cases e2
      exact ⟨o, e, ex.2.1⟩
    · obtain ⟨o, _, _, _, e, ex, _⟩ := I.hok p _ hk
      refine ⟨⟨o, e, ex.1⟩, fun a e2 => ?_⟩
      cases e2
      exact ⟨o, e, ex.2.1⟩
  | _ => exact False.elim ty
def bb6 (K : PySem.W.Frag) (T : String) (r : V → List V → Hp → VK → Prop) (to : TE) : TE := fun σ H Q => to σ H fun x H1 => tyV K T x H1 ∧ r x [] H1 Q
def tBM (K : PySem.W.Frag) (T : String) (r : V → List V → Hp → VK → Prop) (to : TE) (t : TA) : TE := fun σ H Q => to σ H fun x H1 => tyV K T x H1 ∧ t σ H1 fun xs H2 => r x xs H2 Q
variable {o e : Expr} {es : List Expr} {to : TE} {t : TA} {name : Str} {apos cpos : Pos} {T id : String} {r : V → List V → Hp → VK → Prop}
theorem aH1 (pa : PlainAttrs T) (slot : Slot T name id) (hty : typeOf (.builtin id) = pure (.type "method_descriptor")) (hm : MtR X id r) (ho : PE X o to)
    (hbase : attributeBase o name X.env (eval o X.env) = eval o X.env := by rfl) (hline : (apos.endLine == cpos.line) = true := by rfl) : PE X (.Call (.Attribute o name apos) [] [] cpos) (bb6 X.K T r to) := by
  intro pins s σ H Q I h
  refine wpAny_Call_method0_late hbase hline (thn (ho pins s σ H _ I h) fun v s1 ⟨x, H1, I1, r1, ty, q1⟩ => ?_)
  obtain ⟨h1, h2⟩ := aP2 I1 r1 ty
  exact ⟨T, id, pa, slot, hty, h1, h2, Calls.callWith_builtin rfl (PySem.evalArgs_none (hm pins s1 σ H1 x [] v [] Q I1 r1 .nil q1))⟩
theorem ap4 (pa : PlainAttrs T) (slot : Slot T name id) (hty : typeOf (.builtin id) = pure (.type "method_descriptor")) (hm : MtR X id r) (ho : PE X o to) (ha : PA X (e :: es) t)
    (hbase : attributeBase o name X.env (eval o X.env) = eval o X.env := by rfl)
    (hfew : ((backTo cpos (starEach (e :: es) X.env)).all (fun x => !x.1) && (backToKw cpos (keywordEach [] X.env)).all (fun x => x.1.isSome)
      && decide ((e :: es).length + ([] : List Keyword).length + (if ([] : List Keyword).isEmpty then 0 else 1) < 30)) = true := by rfl)
    (hline : (apos.endLine == cpos.line) = true := by rfl) (hs : starEach (e :: es) X.env = (false, eval e X.env) :: starEach es X.env := by rfl) (hplain : (backTo cpos (starEach es X.env)).any (·.1) = false := by rfl) :
    PE X (.Call (.Attribute o name apos) (e :: es) [] cpos) (tBM X.K T r to t) := by
  intro pins s σ H Q I h
  refine wpAny_Call_method_late hbase hfew hline rfl (thn (ho pins s σ H _ I h) fun v s1 ⟨x, H1, I1, r1, ty, q1⟩ => ?_)
  obtain ⟨h1, h2⟩ := aP2 I1 r1 ty
  refine ⟨T, id, pa, slot, hty, h1, h2, ?_⟩
  have hA := ha cpos pins s1 σ H1 _ I1 q1
  rw [hs] at hA ⊢
  refine Calls.callWith_builtin (by show (false || (backTo cpos (starEach es X.env)).any (·.1)) = false; rw [hplain] <;> rfl) (Calls.evalArgs_plain ?_)
  exact thn hA fun us s2 ⟨vs, H2, I2, r2, q2⟩ => hm pins s2 σ H2 x vs v us Q I2 r1 r2 q2
/- xs.append(e), list.index on a module's tuple .. are MtR facts of 06m -/
end
def MtM (X : Cx) (id : String) (r : V → List V → Hp → VK → Prop) : Prop :=
  ∀ (pins : List (Addr × Obj)) (s : Shared) (σ : St) (H : Hp) (x : V) (xs : List V) (v : Value) (us : List Value) (Q : VK), Inv X pins σ H s → z9 x v → t0 xs us → r x xs H Q →
    wpAny (model X.prog X.w) X.A (call (.builtin id) (v :: us)) (EP X pins σ Q) X.xe s
theorem t0.one : ∀ {x : V} {us : List Value}, t0 [x] us → ∃ u, us = [u] ∧ z9 x u
  | _, _, .cons r .nil => ⟨_, rfl, r⟩
theorem t0.two : ∀ {x y : V} {us : List Value}, t0 [x, y] us → ∃ u v, us = [u, v] ∧ z9 x u ∧ z9 y v
  | _, _, _, .cons r (.cons q .nil) => ⟨_, _, rfl, r, q⟩
theorem t0.zero : ∀ {us : List Value}, t0 [] us → us = []
  | _, .nil => rfl
theorem t0.eraseIdx : ∀ {xs : List V} {us : List Value} (i : Nat), t0 xs us → t0 (xs.eraseIdx i) (us.eraseIdx i)
  | _, _, _, .nil => .nil
  | _, _, 0, .cons _ t => t
  | _, _, i + 1, .cons r t => .cons r (t0.eraseIdx i t)
theorem t0.reverse {xs : List V} {us : List Value} (h : t0 xs us) : t0 xs.reverse us.reverse := by
  induction h with
  | nil => exact .nil
  | cons r t ih => rw [List.reverse_cons, List.reverse_cons]; exact t0.append ih (.cons r .nil)
theorem av3 {α : Type} : ∀ (l : List α) (i : Nat), (l.eraseIdx i).length ≤ l.length
  | [], _ => Nat.le_refl _
  | _ :: _, 0 => Nat.le_succ _
  | _ :: r, i + 1 => Nat.succ_le_succ (av3 r i)
section
variable {X : Cx} {pins : List (Addr × Obj)} {σ : St} {H : Hp} {s : Shared} {l b : Addr} {xs ys zs : List V}
theorem Inv.lset {its its' : List Value} {n : Nat} {f : Array Value → Array Value} {t' : Nat} (I : Inv X pins σ H s) (hH : H l = some (.lst xs))
    (e : s.heap.get? l = some { cls := .type "list", data := .seq its.toArray n }) (hf : f its.toArray = its'.toArray) (hv : t0 ys its') (hz : ys.length ≤ sizeLine) :
    Inv X pins σ (upd H l (.lst ys)) { s with heap := s.heap.update l (Obj.mapSeq f), toks := t' } := by
  have q := PySem.IsL.update e f
  rw [hf] at q
  refine I.write (x := l) (e := l) (by rw [hH]; exact trivial) (.inl rfl) (fun b' u hb hu => (Heap.get?_update_other s.heap (Obj.mapSeq f) (Ne.symm hb)).trans hu) ⟨_, q⟩ ?_
  exact ⟨hz, its', _, hv, q⟩
theorem Inv.lnew {its : List Value} {t' : Nat} (I : Inv X pins σ H s) (hv : t0 ys its) (hz : ys.length ≤ sizeLine) :
    Inv X pins σ (upd H s.heap.objs.size (.lst ys)) { s with heap := s.heap.push { cls := .type "list", data := .seq its.toArray }, toks := t' } :=
  I.laid (fun _ _ q => Heap.get?_push_of_some _ q) (Nat.le_refl _) ⟨hz, its, 0, hv, Heap.get?_push_size _ rfl⟩
theorem Inv.fresh (I : Inv X pins σ H s) : H s.heap.objs.size = none := I.hok.fresh (Nat.le_refl _)
theorem Inv.lstM (I : Inv X pins σ H s) (hH : H l = some (.lst xs)) : xs.length ≤ sizeLine ∧ ∃ (its : List Value) (n : Nat), t0 xs its ∧ xs.length = its.length ∧ s.heap.get? l = some { cls := .type "list", data := .seq its.toArray n } := by
  obtain ⟨z, its, n, r, e⟩ := I.hok l _ hH
  exact ⟨z, its, n, r, r.length, e⟩
end
section
variable {X : Cx}
def ay3 : V → List V → Hp → VK → Prop := fun x vs H Q => ∃ l xs y, x = .ref l ∧ vs = [y] ∧ H l = some (.lst xs) ∧ xs.length < sizeLine ∧ Q .non (upd H l (.lst (xs ++ [y])))
theorem O0 : MtM X "list.append" ay3 := by
  intro pins s σ H x vs v us Q I rx rv h
  obtain ⟨l, xs, y, rfl, rfl, hH, hz, q⟩ := h
  cases rx
  obtain ⟨u, rfl, ru⟩ := rv.one
  obtain ⟨z, its, n, r, hl, e⟩ := I.lstM hH
  refine call_meets F.slot_list_append ⟨_, e, rfl⟩ F.entry_list_append (F.args_list_append_2 _ _) (PySem.list_append l its.toArray n u (by rw [List.size_toArray]; omega)) ⟨e, ?_⟩
  refine ⟨.non, _, I.lset (its' := its ++ [u]) hH e (by simp) (r.append (.cons ru .nil)) ?_, rfl, q⟩
  rw [List.length_append, List.length_singleton]
  omega
def rExtend : V → List V → Hp → VK → Prop := fun x vs H Q => ∃ l b xs zs, x = .ref l ∧ vs = [.ref b] ∧ H l = some (.lst xs) ∧ H b = some (.lst zs) ∧ xs.length + zs.length ≤ sizeLine ∧ Q .non (upd H l (.lst (xs ++ zs)))
def rPop : V → List V → Hp → VK → Prop := fun x vs H Q => ∃ l xs y, x = .ref l ∧ vs = [] ∧ H l = some (.lst xs) ∧ xs[xs.length - 1]? = some y ∧ Q y (upd H l (.lst xs.dropLast))
def aQ5 : V → List V → Hp → VK → Prop := fun x vs H Q => ∃ l xs i k y, x = .ref l ∧ vs = [.int i] ∧ H l = some (.lst xs) ∧ -(2 ^ 63) ≤ i ∧ i < 2 ^ 63 ∧ seqIndex? i xs.length = some k ∧ xs[k]? = some y ∧ Q y (upd H l (.lst (xs.eraseIdx k)))
theorem aS5 : MtM X "list.pop" aQ5 := by
  intro pins s σ H x vs v us Q I rx rv h
  obtain ⟨l, xs, i, k, y, rfl, rfl, hH, h1, h2, hk, hy, q⟩ := h
  cases rx
  obtain ⟨u, rfl, ru⟩ := rv.one
  obtain ⟨t, rfl⟩ := ru
  obtain ⟨z, its, n, r, hl, e⟩ := I.lstM hH
  obtain ⟨w, hw, rw'⟩ := r.get hy
  refine call_meets F.slot_list_pop ⟨_, e, rfl⟩ F.entry_list_pop (F.args_list_pop_2 _ _)
    (MeetsSeq.list_pop_at l its.toArray n i t k w (fitsIndex_both h1 h2) (by rw [List.size_toArray, ← hl]; exact hk) (by rw [← Array.getElem?_toList]; exact hw) (by rw [List.size_toArray]; omega)) ⟨e, ?_⟩
  refine ⟨y, _, I.lset (its' := its.eraseIdx k) hH e ?_ (r.eraseIdx k) ?_, rw', q⟩
  · show its.toArray.eraseIdxIfInBounds k = (its.eraseIdx k).toArray
    rw [List.eraseIdxIfInBounds_toArray]
  · have := av3 xs k
    omega
def aQ7 : V → List V → Hp → VK → Prop := fun x vs H Q => ∃ l xs, x = .ref l ∧ vs = [] ∧ H l = some (.lst xs) ∧ Q .non (upd H l (.lst []))
theorem aS8 : MtM X "list.clear" aQ7 := by
  intro pins s σ H x vs v us Q I rx rv h
  obtain ⟨l, xs, rfl, rfl, hH, q⟩ := h
  cases rx
  have hus := rv.zero
  subst hus
  obtain ⟨z, its, n, r, hl, e⟩ := I.lstM hH
  refine call_meets F.slot_list_clear ⟨_, e, rfl⟩ F.entry_list_clear (F.args_list_clear_1 _) (AutoSeq1.list_clear_list_0 l its.toArray n (by rw [List.size_toArray]; omega)) ⟨e, ?_⟩
  exact ⟨.non, _, I.lset (its' := []) (ys := []) hH e rfl .nil (Nat.zero_le _), rfl, q⟩
def bc4 : R2 := fun x y H Q => ∃ l b xs zs, x = .ref l ∧ y = .ref b ∧ H l = some (.lst xs) ∧ H b = some (.lst zs) ∧ xs.length + zs.length ≤ sizeLine ∧ ∀ p, H p = none → Q (.ref p) (upd H p (.lst (xs ++ zs)))
theorem W3 : OpR X (binaryOp .Add) bc4 := by
  intro pins s σ H x y v u Q I rx ry h
  obtain ⟨l, b, xs, zs, rfl, rfl, hH, hB, hz, q⟩ := h
  cases rx
  cases ry
  obtain ⟨z, its, n, r, hl, e⟩ := I.lstM hH
  obtain ⟨z2, its2, n2, r2, hl2, e2⟩ := I.lstM hB
  refine PySem.P.add_list e e2 ?_ (by rw [List.size_toArray, List.size_toArray]; omega)
  have ea : its.toArray ++ its2.toArray = (its ++ its2).toArray := by simp
  rw [ea]
  exact ⟨.ref _, _, I.lnew (t' := s.toks) (r.append r2) (by rw [List.length_append]; omega), rfl, q _ I.fresh⟩
end
end L2
namespace Att
open PySem PySem.W PySem.Calls PyProof.Rows
theorem am0 {P : Params} {h : Heap} : ∀ (ns : List Int) (vs : List Value), WellAll P h vs (ns.map WData.int) → IntsAre vs ns := by
  intro ns
  induction ns with
  | nil =>
    intro vs w
    rw [List.map_nil] at w
    cases w
    exact .nil
  | cons n ns ih =>
    intro vs w
    rw [List.map_cons] at w
    cases w with
    | cons a b =>
      cases a
      exact .cons _ _ (ih _ b)
theorem aM8 {l : OpenLaw} {n : Nat} (hn : l.most = some n) {P : Params} {h : Heap} {args : List WData} {vals : List Value}
    (hpre : l.row.toRowW.claim.pre args = true) (hwl : WellAll P h vals args) :
    ∃ a vs ns, vals = [Value.ref a] ∧ args = [WData.list (ns.map WData.int)] ∧ h.get? a = some { cls := .type "list", data := .seq vs.toArray } ∧ IntsAre vs ns ∧ ns.length ≤ n := by
  have hsh : WShape.hasAll [] args [.list .int] = true := (pre_splitW hpre).1
  have hc : l.pre.holds [] { args := args } = true := (pre_splitW hpre).2
  obtain ⟨d, r, rfl, h1, h2⟩ := hasAllW_cons hsh
  obtain rfl := hasAllW_nil h2
  obtain ⟨xs, rfl, h3⟩ := hasW_list h1
  obtain ⟨ns, rfl⟩ := items_int h3
  have hlen : ns.length ≤ n := by
    unfold OpenLaw.pre at hc
    have h4 : (WTm.not (.lt (.lit (.int (n : Int))) (.len (.arg 0)))).holds [] { args := [.list (ns.map .int)] } = true := by
      have h4 := (holds_andW hc).1
      rw [hn] at h4
      exact h4
    have h5 := condW_of h4 (w_not (w_lt w_lit (w_len_list (w_arg rfl))))
    rw [List.length_map] at h5
    refine Nat.le_of_not_lt fun q => ?_
    have q' : (n : Int) < ((ns.length : Nat) : Int) := by omega
    first
      | (rw [decide_eq_true q'] at h5; exact absurd h5 (by decide))
      | (simp at h5; omega)
  cases hwl with
  | cons w1 w2 =>
    cases w2
    cases w1 with
    | list ho hall => exact ⟨_, _, ns, rfl, rfl, ho, am0 ns _ hall, hlen⟩
theorem aM9 (l : OpenLaw) (args : List WData) : l.row.toRowW.claim.post args (.bool true) args = true :=
  postW_of (r := l.row.toRowW) (X := (true == true))
    (show WShape.has [] (.bool true) .bool = true by first | rfl | decide | simp [WShape.has, WShape.arms, WShape.armsAll])
    (show (WTm.eq .res (.lit (.bool true))).value [] { args := args, res := some (.bool true), after := args } = some (.bool (true == true)) from w_eq_bool (w_res rfl) w_lit) rfl
theorem attach_call {l : OpenLaw} {n : Nat} {q : Program} {loose : List Str} {XP : (Str → Option Value) → Heap → Prop} {YP : World → Heap → Prop} {d : DefRec}
    (hn : l.most = some n) (hdf : d.params.defaults = [])
    (call : ∀ (w : World) (s₀ s₁ : Shared) (mg mb : Str → Option Value) (fa : Addr) (o : Obj) (pm cd doc : Value) (a : Addr) (vs : List Value) (ns : List Int),
      Ground q loose [] XP w s₀ mg mb s₁.heap → YP w s₁.heap →
      s₁.heap.get? fa = some o → o.data = .func (docDef d.name d.params d.body d.scope pm cd doc) → s₁.heap.CodeRec cd d.name → mg d.name = some (.ref fa) →
      s₁.heap.get? a = some { cls := .type "list", data := .seq vs.toArray } → IntsAre vs ns → ns.length ≤ n → s₁.gens = #[] →
      codeAny (model l.prog w) callerA (.call (.ref fa) ⟨[.ref a], []⟩) (fun r s' => r = .ok (.ret (.bool true)) ∧ OldK s₁.heap s'.heap ∧ s'.os = s₁.os ∧ AllBare s'.gens) s₁) :
    WalkO q loose XP YP l.row.toRowW d [] (fun f vs => PySem.call f vs) := by
  intro w s₀ s₁ mg mb G Y fa o pm cd doc dV kV ho hd hcd hD hmg hg args vals as hpre hlay hrd hwl hlo
  obtain rfl : dV = .none := Dflts.none hD hdf
  obtain rfl : kV = .none := Dflts.noKw hD
  obtain ⟨a, vs, ns, rfl, rfl, hobj, hints, hlen⟩ := aM8 hn hpre hwl
  refine enter_call (codeAny_mono (call w s₀ s₁ mg mb fa o pm cd doc a vs ns G Y ho (fd_plain hd) hcd hmg hobj hints hlen hg) fun r s' hq => ?_)
  obtain ⟨rfl, h2, h3, h4⟩ := hq
  exact ⟨.inl ⟨.bool true, .bool true, [], rfl, fun _ => rfl, .bool true, aM9 l _, fun _ => ⟨List.Pairwise.nil, fun _ hm => (nomatch hm)⟩⟩, h2, h3, h4⟩
end Att
namespace L2
open PySem PySem.Spec PyProof.Rows
theorem au3 : ∀ {vs : List Value} {ns : List Int}, IntsAre vs ns → t0 (ns.map V.int) vs
  | _, _, .nil => .nil
  | _, _, .cons n t h => .cons ⟨t, rfl⟩ (au3 h)
def bf5 (H : Hp) : Prop := ∀ b, H b = none ∨ ∃ o xs, H b = some (.frz o (.lst xs))
theorem aS9 {P : Program} {w : World} {K : PySem.W.Frag} {mg mb : Str → Option Value} {CX : CXT} {k : Nat} {fa a : Addr} {fd : FuncData} {x : Str} {sp : Sp} {s₁ : Shared} {vs : List Value} {ns : List Int}
    (KX : K.In s₁.heap) (hns : s₁.heap.Ns mainGlobals mg) (hb : s₁.heap.Ns builtinsNs mb) (hbb : ∀ x : Str, x ≠ "__name__" → mb x = bootBuiltins x) (hlim : s₁.heap.NoLimit) (hg : s₁.gens = #[])
    (ha : s₁.heap.get? a = some { cls := .type "list", data := .seq vs.toArray }) (hi : IntsAre vs ns) (hl : ns.length ≤ sizeLine) (hr : U4 k callerA)
    (F : ∀ base : Heap, K.In base → base.Ns mainGlobals mg → ai6 P w K mg base CX k fa fd [x] sp) (hbind : ∀ (s : Shared) (u : Value), BindsTo s fd ⟨[u], []⟩ [(x, u)])
    (hsp : ∀ H : Hp, bf5 H → SqL K H a (ns.map V.int) → sp [.ref a] H (fun v _ => v = .bl true) fun _ _ _ => False)
    (hCX : ∀ H e s', CX [] H s₁ (fun _ _ _ => False) e s' → False) :
    codeAny (model P w) callerA (.call (.ref fa) ⟨[.ref a], []⟩) (fun r s' => r = .ok (.ret (.bool true)) ∧ OldK s₁.heap s'.heap ∧ s'.os = s₁.os ∧ AllBare s'.gens) s₁ := by
  have rv := au3 hi
  have lenV := hi.length
  -- from an abstract heap in which nothing but the script may be tracked
  have core : ∀ H : Hp, bf5 H → SqL K H a (ns.map V.int) → HOk P w H s₁.heap → (∀ b, H b ≠ none → b = a) → (H a ≠ none → K.lookup a = none) →
      codeAny (model P w) callerA (.call (.ref fa) ⟨[.ref a], []⟩) (fun r s' => r = .ok (.ret (.bool true)) ∧ OldK s₁.heap s'.heap ∧ s'.os = s₁.os ∧ AllBare s'.gens) s₁ := by
    intro H hO hS hok hA hK
    have base_of : ∀ {b : Addr} {o : Obj}, s₁.heap.get? b = some o → H b = none → (aA4 s₁.heap H).get? b = some o := fun e n => aT6 e n
    have noA : ∀ {b : Addr} {o : Obj} {es : Array DictEntry} {ep : Nat}, s₁.heap.get? b = some o → o.data = .dict es ep → H b = none := fun {b o es ep} e d => by
      cases q : H b with
      | none => rfl
      | some u =>
        have e' : b = a := hA b (by rw [q]; simp)
        subst e'
        rw [ha] at e; cases e
        have d' : Data.seq vs.toArray _ = Data.dict es ep := d
        cases d'
    have nsK : ∀ {b : Addr} {m : Str → Option Value}, s₁.heap.Ns b m → (aA4 s₁.heap H).Ns b m := fun {b m} ⟨o, es, ep, e, d, r⟩ => ⟨o, es, ep, base_of e (noA e d), d, r⟩
    have hKb : K.In (aA4 s₁.heap H) := fun b o e => base_of (KX b o e) (by
      cases q : H b with
      | none => rfl
      | some u =>
        have e' : b = a := hA b (by rw [q]; simp)
        subst e'
        rw [hK (by rw [q]; simp)] at e; cases e)
    have hM : Mod K mg (aA4 s₁.heap H) := ⟨hKb, nsK hns, ⟨mb, nsK hb, hbb⟩, let ⟨mc, h1, h2⟩ := hlim; ⟨mc, nsK h1, h2⟩⟩
    have e0 : aO9 P w K mg (aA4 s₁.heap H) callerA [] s₁ H := ⟨rfl, hM, fun b o e => aX9 e, Nat.le_of_eq (aN8 _ _), trivial, fun b hb => absurd (show b ∈ ([] : List Addr) from hb) (by simp), hok, .of_eq hg⟩
    refine codeAny_mono ((F _ hKb (nsK hns)).run callerA [] s₁ H ⟨[.ref a], []⟩ [.ref a] [.ref a] _ _ hr e0 (hbind s₁ (.ref a)) (.cons rfl .nil) (hsp H hO hS)) fun r s' h => ?_
    cases r with
    | error e => exact (hCX H e s' h).elim
    | ok fl =>
      cases fl with
      | next => exact False.elim h
      | brk => exact False.elim h
      | cont => exact False.elim h
      | ret u =>
        obtain ⟨v, H', os, bare, un, hok', r', q⟩ := h
        have q' : v = .bl true := q
        subst q'
        obtain rfl : u = Value.bool true := r'
        refine ⟨rfl, OldK.of_keep fun b o e => ?_, os, bare⟩
        cases q : H b with
        | none => exact un.keep b o e q (by intro z; exact absurd (show b ∈ ([] : List Addr) from z) (by simp)) (by simp)
        | some u =>
          rcases hO b with z | ⟨ob, xs, z⟩
          · rw [q] at z; cases z
          · have z2 := un.frzs b ob _ z
            obtain ⟨e1, _⟩ := hok b _ z
            obtain ⟨e2, _⟩ := hok' b _ z2
            rw [e] at e1; cases e1
            exact e2
  cases hk : K.lookup a with
  | some o =>
    -- the script is one of the module's own objects
    have e := KX a o hk
    rw [ha] at e
    cases e
    refine core (fun _ => none) (fun _ => .inl rfl) (.inr ⟨_, vs.toArray, _, hk, rfl, rfl, rfl, by rw [List.size_toArray, lenV]; exact hl, by simpa using rv⟩) (fun b u z => by have z' : (none : Option HO) = some u := z; cases z') (fun b z => absurd rfl z) fun z => absurd rfl z
  | none =>
    refine core (fun b => if b = a then some (.frz { cls := .type "list", data := .seq vs.toArray } (.lst (ns.map V.int))) else none) (fun b => ?_) (.inl (.inr ⟨{ cls := .type "list", data := .seq vs.toArray }, if_pos rfl⟩)) (fun b u z => ?_) (fun b z => ?_) fun _ => hk
    · by_cases hb : b = a
      · exact .inr ⟨_, _, if_pos hb⟩
      · exact .inl (if_neg hb)
    · by_cases hb : b = a
      · have z' := (if_pos hb).symm.trans z
        cases z'
        subst hb
        exact ⟨ha, by rw [List.length_map]; exact hl, vs, _, rv, ha⟩
      · have z' := (if_neg hb).symm.trans z
        cases z'
    · by_cases hb : b = a
      · exact hb
      · exact absurd (if_neg hb) z
abbrev KOf {K : PySem.W.Frag} {h : Heap} (_ : K.In h) : PySem.W.Frag := K
theorem aI9 {l : PySem.W.OpenLaw} {n k : Nat} {q : Program} {loose : List Str} {XP : (Str → Option Value) → Heap → Prop} {YP : World → Heap → Prop} {d : DefRec} {K : Params → PySem.W.Frag} {CX : World → CXT} {sp : World → Sp} {x : Str}
    (hn : l.most = some n) (hn2 : n ≤ sizeLine) (hdf : d.params.defaults = []) (hr : U4 k callerA)
    (hY : ∀ (w : World) (h : Heap), YP w h → (K w.params).In h)
    (F : ∀ (w : World) (mg : Str → Option Value) (fa : Addr) (h : Heap), (K w.params).In h → h.Ns mainGlobals mg → mg d.name = some (.ref fa) →
      ∃ fd : FuncData, (∀ (s : Shared) (u : Value), BindsTo s fd ⟨[u], []⟩ [(x, u)]) ∧
        ∀ base : Heap, (K w.params).In base → base.Ns mainGlobals mg → ai6 l.prog w (K w.params) mg base (CX w) k fa fd [x] (sp w))
    (hsp : ∀ (w : World) (H : Hp) (a : Addr) (ns : List Int), ns.length ≤ n → bf5 H → SqL (K w.params) H a (ns.map V.int) → sp w [.ref a] H (fun v _ => v = .bl true) fun _ _ _ => False)
    (hCX : ∀ (w : World) (H : Hp) (s : Shared) (e : Value) (s' : Shared), CX w [] H s (fun _ _ _ => False) e s' → False) :
    PySem.W.WalkO q loose XP YP l.row.toRowW d [] (fun f vs => PySem.call f vs) := by
  refine Att.attach_call hn hdf fun w s₀ s₁ mg mb fa o pm cd doc a vs ns G Y ho hd hcd hmg hobj hints hlen hg => ?_
  have KX := hY w _ Y
  obtain ⟨fd, hb, hF⟩ := F w mg fa _ KX G.T.g hmg
  exact aS9 KX G.T.g G.T.b G.T.builtins G.T.nolimit hg hobj hints (Nat.le_trans hlen hn2) hr hF hb (fun H hO hS => hsp w H a ns hlen hO hS) fun H e s' => hCX w H s₁ e s'
end L2
/- THE LAST THEOREM (shape; LID, My.* are yours):
   My.Adr: a structure of the addresses that your layer names (classes, functions); My.Txt K t: a structure (Prop) of the equations over K;
   My.txt_mk : {K} {implicit addresses ..} (e1 : nsIn K mainGlobals "law" = some (some (.ref f))) (e2 : K.lookup f = some ⟨oc, od, .func (fnOf "law" "law" params body scope dV kV doc pm an cdv ct), sl⟩) (e3 : codeIn K cdv "law" = true) .. : ∃ t, My.Txt K t
set_option maxRecDepth 100000 in
set_option maxHeartbeats 0 in
theorem PySem.Challenge.cw_LID_holds : PySem.Challenge.rw_LID.Holds := by
  w_on; o_law; k_head; (case hw => w_witness2)
  k_fill
  refine L2.aI9 (l := PySem.Challenge.rw_LID) (n := 63) (k := 40) (x := "script") (CX := fun w => ..) (sp := fun _ => My.sp_law) rfl (by decide) rfl ⟨rfl, by decide, by decide⟩ (fun w h Y => PySem.W.kIn_of Y) ?F ?S ?C
  case F =>
    intro w mg fa h KX G hmg
    have T : ∃ t, My.Txt (L2.KOf KX) t := by
      dsimp only [L2.KOf]                          -- K must stand as «<heap const> w.params» for k_is
      refine' My.txt_mk ?e1 ?e2 ?e3 ..
      (case e1 => PySem.W.k_is)                    -- in the order: a name -> its address -> its object -> its parts
      (case e2 => PySem.W.k_is)
      ..
    obtain ⟨t, T⟩ := T
    have e0 := hmg.symm.trans (PySem.W.mg_of KX G T.law)
    cases e0                                       -- fa is the law's own address
    exact ⟨_, fun s u => .of_eq rfl, fun base kb nb => My.law_fn T kb nb⟩     -- if «.of_eq rfl» comes too early: refine' ⟨_, ?b, fun base kb nb => My.law_fn T kb nb⟩; exact fun s u => .of_eq rfl
  case S => exact fun w H a ns hl hO hS => ..
  case C => exact ..
(the tactic k_is has no namespace: write k_is) -/
namespace L2
open PySem PySem.Spec PyProof.Rows
def m8 (s : Stmt) : Arguments := match s with
  | .FunctionDef _ a _ _ _ _ _ _ _ _ => a
  | _ => { posonlyargs := [], args := [], vararg := none, kwonlyargs := [], kw_defaults := [], kwarg := none, defaults := [] }
def j3 (s : Stmt) : List Stmt := match s with
  | .FunctionDef _ _ b _ _ _ _ _ _ _ => b
  | _ => []
def d3 (s : Stmt) : Scope := match s with
  | .FunctionDef _ _ _ _ _ _ sc _ _ _ => sc
  | _ => { kind := .function, names := [], isGenerator := false, isCoroutine := false }
abbrev CX0 : CXT := fun _ _ _ _ _ _ => False
abbrev E0 : XK := fun _ _ _ => False
theorem m3 {X : Cx} : as3 CX0 X E0 := fun _ _ _ _ _ _ _ h => h.elim
structure Fun (K : PySem.W.Frag) (x qual : Str) (st : Stmt) (f : Addr) (fd : FuncData) : Prop where
  ex : ∃ (oc : Value) (od : Option Addr) (kV doc pm : Value) (an : Option Addr) (cdv ct : Value) (osl : Array (Option Value)),
    fd = PySem.W.fnOf x qual (m8 st) (j3 st) (d3 st) .none kV doc pm an cdv ct ∧ K.lookup f = some ⟨oc, od, .func fd, osl⟩ ∧ PySem.W.codeIn K cdv qual = true
  kp : PySem.W.keepIn K (.ref f) = true
section
variable {P : Program} {w : World} {K : PySem.W.Frag} {mg : Str → Option Value} {base : Heap}
theorem Fun.ok {x qual : Str} {st : Stmt} {f : Addr} {fd : FuncData} {N ps : List Str} {k : Nat} {sp : Sp} (F : Fun K x qual st f fd) (S : j7 N ps (d3 st)) (len : ∀ vs H Q E, sp vs H Q E → vs.length = ps.length)
    (hbody : ∀ (cdv : Value) (A : Around) (outer : List Env) (s : Shared) (H : Hp) (vs : List V) (Q : VK) (E : XK), U4 k (A.deeper (envOfC qual (d3 st) s.heap.objs.size f cdv)) → sp vs H Q E →
      ∃ t, PSs (am1 CX0 P w K mg base N qual (d3 st) f cdv A outer s H E).nox (j3 st) t ∧ t { nx := fun _ H' => Q .non H', rt := Q } (start N vs) H) : ai6 P w K mg base CX0 (k + 1) f fd ps sp := by
  obtain ⟨oc, od, kV, doc, pm, an, cdv, ct, osl, rfl, lk, hcd⟩ := F.ex
  refine ba6 lk hcd S len fun A outer s H vs Q E hr hsp => ?_
  obtain ⟨t, h, q⟩ := hbody cdv A outer s H vs Q E hr hsp
  exact ⟨t, h.nox, q⟩
theorem Fun.binds {x qual : Str} {st : Stmt} {f : Addr} {fd : FuncData} {ps : List Str} (F : Fun K x qual st f fd)
    (h : ∀ (kV doc pm : Value) (an : Option Addr) (cdv ct : Value) (us : List Value), us.length = ps.length → bindArgs (PySem.W.fnOf x qual (m8 st) (j3 st) (d3 st) .none kV doc pm an cdv ct) ⟨us, []⟩ = pure (ps.zip us)) : ad4 K fd ps [] := by
  obtain ⟨oc, od, kV, doc, pm, an, cdv, ct, osl, rfl, lk, hcd⟩ := F.ex
  exact .all (h kV doc pm an cdv ct)
theorem v2 {x qual : Str} {st : Stmt} {f : Addr} {oc : Value} {od an : Option Addr} {osl : Array (Option Value)} {kV doc pm cdv ct : Value} (l : K.lookup f = some ⟨oc, od, .func (PySem.W.fnOf x qual (m8 st) (j3 st) (d3 st) .none kV doc pm an cdv ct), osl⟩)
    (c : PySem.W.codeIn K cdv qual = true) (k : PySem.W.keepIn K (.ref f) = true) : Fun K x qual st f (PySem.W.fnOf x qual (m8 st) (j3 st) (d3 st) .none kV doc pm an cdv ct) := ⟨⟨oc, od, kV, doc, pm, an, cdv, ct, osl, rfl, l, c⟩, k⟩
end
section
variable {X : Cx}
theorem pv (i : Nat) {x : Str} {pos : Pos} (hN : X.N[i]? = some x := by rfl) (hv : Vis X.env.scope x := by first | exact Or.inl rfl | exact Or.inr (Or.inl rfl) | exact Or.inr (Or.inr rfl)) (hd : (x == ("__debug__" : Str)) = false := by decide)
    (hcd : (x == ("__classdict__" : Str)) = false := by decide) : PE X (.Name x pos) (ai9 i) := bd0 hN hv hd hcd
end
theorem bh9 {A B : Prop} (h : A) : if true = true then A else B := by
  rw [if_pos rfl]
  exact h
theorem K5 {c A B : Prop} [Decidable c] (h1 : c → A) (h2 : ¬ c → B) : if c then A else B := by
  by_cases h : c
  · rw [if_pos h]
    exact h1 h
  · rw [if_neg h]
    exact h2 h
def d7 (H H' : Hp) : Prop := ∀ b o, H b = some o → H' b = some o
theorem d7.refl (H : Hp) : d7 H H := fun _ _ h => h
theorem d7.trans {H H1 H2 : Hp} (a : d7 H H1) (b : d7 H1 H2) : d7 H H2 := fun c o h => b c o (a c o h)
theorem d7.free {H H' : Hp} (e : d7 H H') {l : Addr} (h : H' l = Option.none) : H l = Option.none := by
  cases q : H l with
  | none => rfl
  | some o =>
    rw [e l o q] at h
    cases h
theorem d7.seq {K : PySem.W.Frag} {H H' : Hp} {a : Addr} {xs : List V} (e : d7 H H') (h : SqL K H a xs) : SqL K H' a xs := by
  rcases h with (h | ⟨o, h⟩) | h
  · exact .inl (.inl (e _ _ h))
  · exact .inl (.inr ⟨o, e _ _ h⟩)
  · exact .inr h
section
variable {P : Program} {w : World} {H : Hp} {h : Heap} {a : Addr} {o : HO}
theorem F4.there (x : F4 P w H h a o) : ∃ ob, h.get? a = some ob := by
  cases o with
  | lst xs => obtain ⟨_, _, _, _, e⟩ := x; exact ⟨_, e⟩
  | tup xs => obtain ⟨_, _, _, ob, e, _⟩ := x; exact ⟨_, e⟩
  | dK kvs => obtain ⟨_, _, _, _, o, _, _, e, _⟩ := x; exact ⟨_, e⟩
  | dT kvs => obtain ⟨_, _, _, _, o, _, _, e, _⟩ := x; exact ⟨_, e⟩
  | set S n => obtain ⟨o, _, _, _, e, _⟩ := x; exact ⟨_, e⟩
  | ins C dx fs => obtain ⟨_, _, _, e, _⟩ := x; exact ⟨_, e⟩
  | own y => obtain ⟨_, e⟩ := x; exact ⟨_, e⟩
  | xd fs => obtain ⟨_, ⟨_, _, _, e, _⟩, _⟩ := x; exact ⟨_, e⟩
  | rng lo hi => obtain ⟨_, _, _, e⟩ := x; exact ⟨_, e⟩
  | frz ob u => obtain ⟨e, _⟩ := x; exact ⟨_, e⟩
  | tbl ps => exact ⟨_, (show h.get? a = some _ from x)⟩
  | met f y => exact ⟨_, (show h.get? a = some _ from x)⟩
  | ext φ => obtain ⟨_, e, _⟩ := x; exact e
end
def CXR (P : Program) (w : World) : CXT := fun outer H s E e s' => ∃ (a : Addr) (cls a0 : Value) (H' : Hp) (B : Heap), e = .ref a ∧ s'.os = s.os ∧ AllBare s'.gens ∧
  Heap.FlyingW B outer a cls a0 s'.heap ∧ (∀ b o, s.heap.get? b = some o → H b = none → b ∉ frs outer → B.get? b = some o) ∧ (∀ b o, s.heap.get? b = some o → b ∉ frs outer → ∃ o', B.get? b = some o') ∧
  HOk P w H' B ∧ Un (frs outer) [] H H' s.heap s'.heap ∧ H' a = none ∧ E cls none H'
def aV5 (X : Cx) (R : Value → Hp → Prop) : Prop := ∀ (pins : List (Addr × Obj)) (σ : St) (H : Hp) (s : Shared) (h' : Heap) (e : Addr) (cls : Value) (vs : List Value), Inv X pins σ H s → Heap.MadeExcOf s.heap h' e cls vs → R cls H →
  X.xe (.ref e) { s with heap := h' }
section
variable {CX : CXT} {P : Program} {w : World} {K : PySem.W.Frag} {mg : Str → Option Value} {base : Heap} {N : List Str} {qual : Str} {scope : Scope} {f : Addr} {cd : Value} {A : Around} {outer : List Env} {s₀ : Shared} {H₀ : Hp} {E : XK}
abbrev cxR (P : Program) (w : World) (K : PySem.W.Frag) (mg : Str → Option Value) (base : Heap) (N : List Str) (qual : Str) (scope : Scope) (f : Addr) (cd : Value) (A : Around) (outer : List Env) (s₀ : Shared) (H₀ : Hp) (E : XK) : Cx := am1 (CXR P w) P w K mg base N qual scope f cd A outer s₀ H₀ E
theorem be6 {X : Cx} {pins : List (Addr × Obj)} {σ : St} {H : Hp} {s : Shared} (I : Inv X pins σ H s) : HOk X.prog X.w H (PySem.W.hideAll s.heap (frs X.stack)) := fun b u e => by
  refine (I.hok b u e).stay (fun c v hc q => PySem.W.hideAll_get _ q fun hm => ?_) (fun _ q => q) fun _ _ q => q
  have z := I.stkFree c hm
  rcases hc with rfl | hc
  · rw [z] at e; cases e
  · rw [z] at hc; cases hc
theorem au8 : aV5 (cxR P w K mg base N qual scope f cd A outer s₀ H₀ E) (fun cls H' => E cls none H') := by
  intro pins σ H s h' e cls vs I hx hE
  have frS := I.stack
  have hin : ∀ env ∈ (cxR P w K mg base N qual scope f cd A outer s₀ H₀ E).stack, ∀ b, env.frame = some b → b ∈ frs (cxR P w K mg base N qual scope f cd A outer s₀ H₀ E).stack := fun env he b hb => List.mem_filterMap.mpr ⟨env, he, hb⟩
  have lo : ∀ b o, s₀.heap.get? b = some o → b ∉ frs outer → b ∉ frs (cxR P w K mg base N qual scope f cd A outer s₀ H₀ E).stack := fun b o q hb hm => by
    rcases List.mem_cons.mp (I.stkSub b hm) with z | z
    · exact absurd z (Nat.ne_of_lt (Nat.lt_of_lt_of_le (Heap.lt_size q) I.ok.above))
    · exact hb z
  refine wpAny_leaves_madeW (base := PySem.W.hideAll s.heap (frs (cxR P w K mg base N qual scope f cd A outer s₀ H₀ E).stack)) I.ok.frames rfl (fun b o q => PySem.W.of_hideAll _ q) (PySem.W.funFrames_hide frS hin) hx fun h2 t x1 x2 x3 x4 => ?_
  have hk : ∀ b o, s.heap.get? b = some o → b ∉ frs (cxR P w K mg base N qual scope f cd A outer s₀ H₀ E).stack → h2.get? b = some o := fun b o q hb => x1.1 b o (PySem.W.hideAll_get _ q hb)
  have hfr : ∀ b o, s.heap.get? b = some o → b ∈ frs (cxR P w K mg base N qual scope f cd A outer s₀ H₀ E).stack → ∃ sl, h2.get? b = some { o with slots := sl } := fun b o q hb => by
    obtain ⟨_, ob, hob, hnf⟩ := frS.mem hb
    rw [q] at hob; cases hob
    exact x4 b o (hx.keeps b o q) hnf
  have hany : ∀ b o, s.heap.get? b = some o → ∃ o', h2.get? b = some o' := fun b o q => by
    by_cases hb : b ∈ frs (cxR P w K mg base N qual scope f cd A outer s₀ H₀ E).stack
    · obtain ⟨sl, z⟩ := hfr b o q hb; exact ⟨_, z⟩
    · exact ⟨_, hk b o q hb⟩
  have nx : ∀ b : Addr, b ∉ (cxR P w K mg base N qual scope f cd A outer s₀ H₀ E).ex := fun b z => absurd (show b ∈ ([] : List Addr) from z) (by simp)
  refine ⟨e, cls, .ref t, H, _, rfl, I.os, I.bare, x1, fun b o q n hb => PySem.W.hideAll_get _ (I.base.keep b o q n hb (nx b)) (lo b o q hb), fun b o q hb => ?_, be6 I, ⟨fun b o q n hb _ => ?_, fun b o q n hb _ => ?_, fun b o q n _ => I.base.free b o q n (nx b), fun b o q _ => ?_, I.base.tups, I.base.frzs, I.base.tbls⟩, ?_, hE⟩
  · obtain ⟨o', z⟩ := I.base.there b o q (nx b)
    exact ⟨o', PySem.W.hideAll_get _ z (lo b o q hb)⟩
  · exact hk b o (I.base.keep b o q n hb (nx b)) (lo b o q hb)
  · obtain ⟨sl, z⟩ := I.base.slot b o q n hb (nx b)
    have hm : b ∈ frs (cxR P w K mg base N qual scope f cd A outer s₀ H₀ E).stack := by
      show b ∈ frs (_ :: outer)
      unfold frs at hb ⊢
      rw [List.filterMap_cons]
      exact List.mem_cons_of_mem _ hb
    obtain ⟨sl', z'⟩ := hfr b _ z hm
    exact ⟨sl', z'⟩
  · obtain ⟨o', z⟩ := I.base.there b o q (nx b)
    exact hany b o' z
  · cases q : H e with
    | none => rfl
    | some u =>
      obtain ⟨ob, z⟩ := (I.hok e u q).there
      rw [hx.new] at z; cases z
end
structure aZ4 (K : PySem.W.Frag) (C : Addr) (bm : List Value) (newId : String) : Prop where
  ok : PySem.W.excIn K C bm newId = true
theorem aZ4.obj {K : PySem.W.Frag} {C : Addr} {bm : List Value} {newId : String} (O : aZ4 K C bm newId) {h : Heap} (X : K.In h) :
    ∃ tl N nm q bs hdct sn sub ab col dd k0 k1 k2 k3 k5 mN, h.get? C = some (excClassObj nm q C N bs tl hdct sn sub ab col dd k0 k1 k2 k3 k5 newId) ∧ h.Ns N mN ∧ mN "__init__" = none ∧ OwnTail h bm tl := by
  have q := O.ok
  unfold PySem.W.excIn at q
  split at q
  · rename_i dd cd sl ho
    split at q
    · rename_i C' bm' k0 k1 k2 k3 n k5 hm hs
      simp only [Bool.and_eq_true, beq_iff_eq, Bool.not_eq_true'] at q
      obtain ⟨⟨⟨⟨⟨rfl, rfl⟩, hdel⟩, ht⟩, hok⟩, hni⟩ := q
      obtain ⟨nm, bs, mro, ns, qn, hd, sn, sub, ab, col, del⟩ := cd
      dsimp only at hm hdel hok hni
      subst hm hdel
      have hsl : sl = #[k0, k1, k2, k3, some (.builtin n), k5] := by
        obtain ⟨l⟩ := sl
        simp only at hs
        rw [hs]
      subst hsl
      exact ⟨bm', ns, nm, qn, bs, hd, sn, sub, ab, col, dd, k0, k1, k2, k3, k5, _, X _ _ ho, .of_isNs (PySem.W.isNs_of_in X hok), PySem.W.nsMap_none_of_in X hok hni, PySem.W.tail_of_in X ht⟩
    · cases q
  · cases q
section
variable {X : Cx} {x : Str} {C : Addr} {bm : List Value} {newId B initId : String} {e : Expr} {es : List Expr} {te : TA} {np cpos pos : Pos} {R : Value → Hp → Prop}
def aF6 (C : Addr) (te : TA) (R : Value → Hp → Prop) : TS := fun _ σ H => te σ H fun vs H1 => vs.length ≤ sizeLine ∧ R (.ref C) H1
theorem aC5 (O : aZ4 X.K C bm newId) (FB : ExcBaseFacts B newId initId bm) (hc : X.calm = true) (hg : Gl X x) (hm : X.mg x = some (.ref C)) (hr : aV5 X R) (he : PA X (e :: es) te)
    (hst : starEach (e :: es) X.env = (false, eval e X.env) :: starEach es X.env := by rfl) (hplain : (backTo cpos (starEach es X.env)).any (·.1) = false := by rfl) (hd : (x == ("__debug__" : Str)) = false := by decide) :
    PS X (.Raise (some (.Call (.Name x np) (e :: es) [] cpos)) none pos) (aF6 C te R) := by
  intro pins s σ H D I h
  obtain ⟨tl, N, nm, q, bs, hdct, sn, sub, ab, col, dd, k0, k1, k2, k3, k5, mN, hC, hN, hni, T⟩ := O.obj I.ok.mod.kin
  refine wpAny_Raise_call_subT (C := C) (nm := nm) (q := q) (N := N) (bs := bs) (bm := tl) (hdct := hdct) (sn := sn) (sub := sub) (ab := ab) (col := col) (dd := dd) (k0 := k0) (k1 := k1) (k2 := k2) (k3 := k3) (k5 := k5)
    FB (mN := mN) (T.hasType FB.hasBase) (I.ok.hd hc) (by rw [hst]; show (false || (backTo cpos (starEach es X.env)).any (·.1)) = false; rw [hplain]; rfl) hni (ah8 I hg hm ⟨rfl, ?_⟩ hd)
  have hA := he cpos pins s σ H _ I h
  rw [hst] at hA ⊢
  refine Calls.evalArgs_plain (thn hA fun us s2 ⟨vs, H1, I1, r1, hl, q1⟩ => ⟨rfl, ?_, I1.bk _ _ hC, hN.keeps I1.bk, T.keeps I1.bk, fun h' a hx => hr pins σ H1 s2 h' a _ us I1 hx q1⟩)
  show us.length ≤ sizeLine
  rw [← r1.length]; exact hl
end
section
variable {X : Cx} {pins : List (Addr × Obj)} {σ : St} {H H' : Hp} {s s' : Shared}
theorem Inv.reA {A2 : Around} {c2 : Bool} {E2 : Value → Shared → Prop} (I : Inv X pins σ H s) (hf : A2.frames = X.A.frames) (hc : c2 = true → A2.handled = none) : Inv { X with A := A2, calm := c2, xe := E2 } pins σ H s :=
  ⟨⟨I.ok.mod, I.ok.kind, I.ok.glob, I.ok.blt, I.ok.above, I.ok.inj, I.ok.has, I.ok.cab, hc, hf.trans I.ok.frames, I.ok.stk, I.ok.exf, I.ok.bs, I.ok.bsz, I.ok.noex, I.ok.exfs, I.ok.funs, I.ok.frf⟩,
    I.os, I.bare, I.base, I.loc, I.cell, I.free, I.freeC, I.pin, I.hok, I.len⟩
theorem Inv.unA {A2 : Around} {c2 : Bool} {E2 : Value → Shared → Prop} (I : Inv { X with A := A2, calm := c2, xe := E2 } pins σ H s) (ok : X.Ok) : Inv X pins σ H s :=
  ⟨ok, I.os, I.bare, I.base, I.loc, I.cell, I.free, I.freeC, I.pin, I.hok, I.len⟩
theorem Inv.bear {E2 : Value → Shared → Prop} (I : Inv X pins σ H s) : Inv { X with xe := E2, pn := X.pn ++ pins } [] σ H s :=
  ⟨⟨I.ok.mod, I.ok.kind, I.ok.glob, I.ok.blt, I.ok.above, I.ok.inj, I.ok.has, I.ok.cab, I.ok.hd, I.ok.frames, I.ok.stk, I.ok.exf, I.ok.bs, I.ok.bsz, I.ok.noex, I.ok.exfs, I.ok.funs, I.ok.frf⟩,
    I.os, I.bare, I.base, I.loc, I.cell, I.free, I.freeC, fun p hp => I.pin p (by simpa using hp), I.hok, I.len⟩
theorem Inv.unbear {E2 : Value → Shared → Prop} {pins' : List (Addr × Obj)} (I : Inv { X with xe := E2, pn := X.pn ++ pins } pins' σ H s) : Inv X pins σ H s :=
  ⟨⟨I.ok.mod, I.ok.kind, I.ok.glob, I.ok.blt, I.ok.above, I.ok.inj, I.ok.has, I.ok.cab, I.ok.hd, I.ok.frames, I.ok.stk, I.ok.exf, I.ok.bs, I.ok.bsz, I.ok.noex, I.ok.exfs, I.ok.funs, I.ok.frf⟩,
    I.os, I.bare, I.base, I.loc, I.cell, I.free, I.freeC, fun p hp => I.pin p (List.mem_append_left _ hp), I.hok, I.len⟩
def al4 (X : Cx) : St := List.replicate X.N.length none
theorem Inv.forget (I : Inv X pins σ H s) : Inv X pins (al4 X) H s :=
  I.weak (by unfold al4; rw [List.length_replicate]; exact I.len.symm) fun i v e => by
    unfold al4 at e
    rw [List.getElem?_replicate] at e
    split at e <;> cases e
theorem Inv.relocal {h' : Heap} {m' : Str → Option Value} {t' : Nat} (I : Inv X pins σ H s) (hn' : h'.Ns X.env.locals m') (hs : Heap.SameBut X.env.locals s.heap h') : Inv X pins (al4 X) H { s with heap := h', toks := t' } := by
  have cne := I.cne
  refine ⟨I.ok, I.os, I.bare, ⟨fun b o e n hb hx => ?_, fun b o e n hb hx => ?_, I.base.free, fun b o e hx => ?_, I.base.tups, I.base.frzs, I.base.tbls⟩, ⟨_, hn', fun j y v' e1 e2 e3 => ?_⟩, fun y c e => ?_, I.free, I.freeC, fun p hp => ?_, fun b ob e => ?_, ?_⟩
  · exact (hs.2 b (Nat.ne_of_lt (Nat.lt_of_lt_of_le (Heap.lt_size e) I.ok.above))).trans (I.base.keep b o e n hb hx)
  · obtain ⟨sl, e1⟩ := I.base.slot b o e n hb hx
    exact ⟨sl, (hs.2 b (Nat.ne_of_lt (Nat.lt_of_lt_of_le (Heap.lt_size e) I.ok.above))).trans e1⟩
  · obtain ⟨o', e1⟩ := I.base.there b o e hx
    exact ⟨o', (hs.2 b (Nat.ne_of_lt (Nat.lt_of_lt_of_le (Heap.lt_size e) I.ok.above))).trans e1⟩
  · unfold al4 at e2
    rw [List.getElem?_replicate] at e2
    split at e2 <;> cases e2
  · obtain ⟨w', z⟩ := I.cell y c e
    exact ⟨w', z.sameBut hs (cne y c e)⟩
  · obtain ⟨e, n, ne, nf, d⟩ := I.pin p hp
    exact ⟨(hs.2 p.1 ne).trans e, n, ne, nf, d⟩
  · refine (I.hok b ob e).stay (fun c w' hc q => (hs.2 c ?_).trans q) (fun _ q => q) fun _ _ q => q
    rintro rfl
    rcases hc with rfl | hc
    · rw [I.free] at e; cases e
    · rw [I.free] at hc; cases hc
  · show (List.replicate X.N.length none).length = _
    exact List.length_replicate
def Exc (cls : Value) (a : Addr) : HO := .ext fun h => ∃ o vs, h.get? a = some o ∧ o.cls = cls ∧ o.data = .fields vs
end
theorem Exc.ok {P : Program} {w : World} {H : Hp} {h : Heap} {cls : Value} {a : Addr} {o : Obj} {vs : Array Value} (h1 : h.get? a = some o) (h2 : o.cls = cls) (h3 : o.data = .fields vs) : F4 P w H h a (Exc cls a) :=
  ⟨⟨o, vs, h1, h2, h3⟩, ⟨o, h1⟩, fun _ _ ⟨o, vs, q1, q2, q3⟩ k => ⟨o, vs, k o q1, q2, q3⟩⟩
theorem Inv.track {X : Cx} {pins : List (Addr × Obj)} {σ : St} {H : Hp} {s : Shared} {o : HO} {a : Addr} (I : Inv X pins σ H s) (hn : H a = none) (new : F4 X.prog X.w (upd H a o) s.heap a o)
    (h1 : ∀ b ob, X.s₀.heap.get? b = some ob → X.H₀ b = none → b ∉ X.ex → b ≠ a) (h2 : X.env.locals ≠ a) (h3 : ∀ x c, X.env.cells.lookup x = some c → c ≠ a) (h4 : ∀ p ∈ X.pn ++ pins, p.1 ≠ a) : Inv X pins σ (upd H a o) s :=
  ⟨I.ok, I.os, I.bare, ⟨I.base.keep, I.base.slot, fun b ob q n hx => by rw [i0 (h1 b ob q n hx)]; exact I.base.free b ob q n hx, I.base.there, fun b xs q => by rw [i0 (i6 (I.base.tups b xs q) hn)]; exact I.base.tups b xs q,
      fun b ob u q => by rw [i0 (i6 (I.base.frzs b ob u q) hn)]; exact I.base.frzs b ob u q, fun b ps q => by obtain ⟨m, z⟩ := I.base.tbls b ps q; exact ⟨m, by rw [i0 (i6 z hn)]; exact z⟩⟩,
    I.loc, I.cell, by rw [i0 h2]; exact I.free, fun x c q => by rw [i0 (h3 x c q)]; exact I.freeC x c q, fun p hp => let ⟨e1, e2, e3⟩ := I.pin p hp; ⟨e1, by rw [i0 (h4 p hp)]; exact e2, e3⟩,
    fun b u e => by
      by_cases hb : b = a
      · subst hb; rw [d5] at e; cases e; exact new
      · rw [i0 hb] at e
        exact (I.hok b u e).stay (fun _ _ _ q => q) (fun c q => by rw [i0 (i6 q hn)]; exact q) fun c xs q => by rw [i0 (i6 q hn)]; exact q,
    I.len⟩
theorem Inv.caught {X : Cx} {pins : List (Addr × Obj)} {σ : St} {H : Hp} {s s' : Shared} {a : Addr} {cls a0 : Value} {H' : Hp} {B h6 : Heap} (I : Inv X pins σ H s) (os : s'.os = s.os) (bare : AllBare s'.gens) (fl : Heap.FlyingW B X.stack a cls a0 s'.heap)
    (hB : ∀ b o, s.heap.get? b = some o → H b = none → b ∉ frs X.stack → B.get? b = some o) (hth : ∀ b o, s.heap.get? b = some o → b ∉ frs X.stack → ∃ o', B.get? b = some o') (hok : HOk X.prog X.w H' B)
    (un : Un (frs X.stack) [] H H' s.heap s'.heap) (st : B.StaysIn h6) (up : s'.heap.UpToSlots h6) : Inv X pins σ H' { s' with heap := h6 } := by
  have hfr : ∀ b o, s'.heap.get? b = some o → b ∈ frs X.stack → ∃ sl, h6.get? b = some { o with slots := sl } := fun b o q hb => by
    obtain ⟨_, ob, hob, hnf⟩ := fl.2.2.1.mem hb
    rw [q] at hob; cases hob
    exact up b o q hnf
  refine I.call' (s' := { s' with heap := h6 }) (ch := []) os ⟨fun b o q n hb _ => st b o (hB b o q n hb), fun b o q n hb _ => ?_, un.free, fun b o q _ => ?_, un.tups, un.frzs, un.tbls⟩ (hok.kept fun b u q => st b u q) bare (fun b z => absurd z (by simp))
  · obtain ⟨sl, z⟩ := un.slot b o q n hb (by simp)
    obtain ⟨sl2, z2⟩ := hfr b _ z hb
    exact ⟨sl2, z2⟩
  · by_cases hb : b ∈ frs X.stack
    · obtain ⟨o2, z2⟩ := un.there b o q (by simp)
      obtain ⟨sl, z3⟩ := hfr b o2 z2 hb
      exact ⟨_, z3⟩
    · obtain ⟨o2, z2⟩ := hth b o q hb
      exact ⟨o2, st b o2 z2⟩
abbrev Cx.body (X : Cx) (xe : Value → Shared → Prop) (pn : List (Addr × Obj)) : Cx := { X with xe := xe, pn := pn }
abbrev Cx.suite (X : Cx) (a : Addr) : Cx := { X with A := X.A.mark (some (.ref a)), calm := false, xe := fun _ _ => False }
def bb1 (K : PySem.W.Frag) (n C i : Nat) (tb : XK → TS) (th : Addr → TS) : TS := fun D σ H =>
  tb (fun cls _ H' => PySem.W.exmOne K cls (.ref C) = some true ∧ ∀ a, H' a = none → th a { nx := fun _ _ => False, rt := D.rt } ((List.replicate n none).set i (some (.ref a))) (upd H' a (Exc cls a))) D σ H
section
variable {X : Cx}
theorem aQ8 {body : List Stmt} {x n : Str} {C : Addr} {i : Nat} {b₀ : Stmt} {suite : List Stmt} {tb : XK → TS} {th : Addr → TS} {np hpos pos : Pos} {l : List Env} (hst : X.stack = X.env :: l) (hfr : X.env.frame = some X.env.locals)
    (hex0 : X.ex = []) (hN : X.N.Nodup) (hi : X.N[i]? = some n) (hl : X.env.kindOf n = some .local) (hg : Gl X x) (hm : X.mg x = some (.ref C)) 
    (hb : ∀ (E : XK) (xe : Value → Shared → Prop) (pn : List (Addr × Obj)), as3 (CXR X.prog X.w) (X.body xe pn) E → PSs (X.body xe pn) body (tb E))
    (hs : ∀ a, PSs (X.suite a) (b₀ :: suite) (th a)) (hd : (x == ("__debug__" : Str)) = false := by decide) :
    PS X (.Try body [.ExceptHandler (some (.Name x np)) (some n) (b₀ :: suite) hpos] [] [] pos) (bb1 X.K X.N.length C i tb th) := by
  intro pins s σ H D I h
  refine wpAny_Try_except ?_
  refine wpAny_mono (hb _ (fun e s₁ => wpAny (model X.prog X.w) X.A (noteFrame e X.env) (fun _ s₂ => wpAny (model X.prog X.w) X.A (setFlight e none) (fun _ s₃ => wpAny (model X.prog X.w) X.A (handleBy e X.env [.ExceptHandler (some (.Name x np)) (some n) (b₀ :: suite) hpos]) (SP X pins D) X.xe s₃) X.xe s₂) X.xe s₁) (X.pn ++ pins) ?_ [] s σ H D I.bear h) ?_ fun _ _ z => z
  case refine_2 =>
    intro f s1 hf
    cases f with
    | next =>
      obtain ⟨σ', H', J, q⟩ := hf
      exact wpAny_execs_nil ⟨σ', H', J.unbear, q⟩
    | brk =>
      obtain ⟨σ', H', J, q⟩ := hf
      exact ⟨σ', H', J.unbear, q⟩
    | cont =>
      obtain ⟨σ', H', J, q⟩ := hf
      exact ⟨σ', H', J.unbear, q⟩
    | ret u =>
      obtain ⟨v, σ', H', J, r, q⟩ := hf
      exact ⟨v, σ', H', J.unbear, r, q⟩
  case refine_1 =>
    intro pins' σ' H1 s1 e s2 J0 hcx
    have J : Inv X pins σ' H1 s1 := J0.unbear
    obtain ⟨a, cls, a0, H2, B, rfl, os, bare, fl, hB, hth, hok, un, hn, hE⟩ := hcx
    obtain ⟨hex, hsu⟩ := hE
    have fl' : Heap.FlyingW B (X.env :: l) a cls a0 s2.heap := by rw [← hst]; exact fl
    refine wpAny_looks_onW (by rw [J.ok.frames, hst]) hfr fl' fun h4 held4 up4 => ?_
    refine wpAny_landsW held4 fun h5 fl5 up5 => ?_
    have J5 : Inv X pins σ' H2 { s2 with heap := h5 } := J.caught os bare fl hB hth hok un fl5.1 (up4.trans up5)
    obtain ⟨ob, hob, hobc⟩ := fl5.there
    have LT : PySem.W.Looks (model X.prog X.w) h5 (typeOf (.ref a)) cls := hobc ▸ (PySem.W.Looks.ld hob).andThen .now
    have J5h : Inv (X.suite a) pins σ' H2 { s2 with heap := h5 } := J5.reA rfl (fun z => nomatch z)
    refine wpAny_handleBy_cons (codeAny_handlers_test (ah8 (X := X.suite a) J5h hg hm ?_ hd)) (by intro q; cases q)
    refine (PySem.W.exm_one (M := model X.prog X.w) J5.kIn LT hex).at ?_
    refine codeAny_handlers_suite_as ?_
    refine lands_againW fl5 fun h6 fl6 up6 => ?_
    have J6 : Inv X pins σ' H2 { s2 with heap := h6 } := J.caught os bare fl hB hth hok un fl6.1 ((up4.trans up5).trans up6)
    have J6h : Inv (X.suite a) pins (al4 X) H2 { s2 with heap := h6 } := (show Inv (X.suite a) pins σ' H2 { s2 with heap := h6 } from J6.reA rfl (fun z => nomatch z)).forget
    -- the exception is tracked
    obtain ⟨oe, ws, hoe, hoec, hoed, _⟩ := fl6.first
    have nfr : ∀ b ∈ frs X.stack, b ≠ a := fun b hb z => by
      obtain ⟨_, o', ho', hnf⟩ := fl6.2.2.1.mem (show b ∈ frs (X.env :: l) from hst ▸ hb)
      subst z
      have ho6 : h6.get? b = some o' := ho'
      rw [hoe] at ho6; cases ho6
      exact hnf ws hoed
    have nB : ∀ b o, B.get? b = some o → b ≠ a := fun b o q z => by rw [z, fl.2.1] at q; cases q
    have nL : X.env.locals ≠ a := nfr _ (by rw [hst]; unfold frs; rw [List.filterMap_cons, hfr]; exact List.mem_cons_self)
    have J7 : Inv (X.suite a) pins (al4 X) (upd H2 a (Exc cls a)) { s2 with heap := h6 } := by
      refine J6h.track hn (Exc.ok hoe hoec hoed) (fun b ob q n hx => ?_) nL (fun y c q => ?_) (fun p hp => ?_)
      · have hx' : b ∉ X.ex := hx
        by_cases hbf : b ∈ frs X.stack
        · exact nfr b hbf
        · have z1 : b ∉ X.fs := fun z => hbf (by
            rcases J.ok.stk with e | ⟨e, _⟩
            · rw [e]; exact z
            · rw [e]; unfold frs; rw [List.filterMap_cons, hfr]; exact List.mem_cons_of_mem _ z)
          exact nB b ob (hB b ob (J.base.keep b ob q n z1 hx') (J.base.free b ob q n hx') hbf)
      · obtain ⟨v, o', ho', hd'⟩ := J6h.cell y c q
        intro z
        subst z
        have z1 : h6.get? c = some o' := ho'
        rw [hoe] at z1; cases z1
        rw [hoed] at hd'; cases hd'
      · have hp' : p ∈ X.pn ++ pins := hp
        obtain ⟨e1, e2, e3, e4, _⟩ := J.pin p hp'
        refine nB p.1 p.2 (hB p.1 p.2 e1 e2 fun z => ?_)
        rcases List.mem_cons.mp (J.stkSub p.1 z) with y | y
        · exact e3 y
        · exact e4 y
    refine W7 (X := X.suite a) J7 hN hi (.inl hl) (v := .ref a) (u := .ref a) rfl (fun s8 J8 => ?_) (.inr hl)
    refine wpAny_mono (hs a pins s8 _ _ { nx := fun _ _ => False, rt := D.rt } J8 (hsu a hn)) (fun f s9 hf => ?_) fun _ _ z => False.elim z
    cases f with
    | next => obtain ⟨_, _, _, q⟩ := hf; exact False.elim q
    | brk => obtain ⟨_, _, _, q⟩ := hf; exact False.elim q
    | cont => obtain ⟨_, _, _, q⟩ := hf; exact False.elim q
    | ret u =>
      obtain ⟨v, σ9, H9, J9, r9, q9⟩ := hf
      obtain ⟨m9, hn9, _⟩ := id J9.loc
      have J9' : Inv X pins σ9 H9 s9 := J9.unA J.ok
      refine wpAny_nameGoes hl hn9 (by rw [J.ok.kind]; rfl) fun h' m' hn' hs' => ?_
      exact ⟨v, al4 X, H9, J9'.relocal hn' hs', r9, q9⟩
end
structure P4 (k : Nat) (A : Around) : Prop where
  dp : A.depth + 3 * k + 5 < recursionLimit
  un : A.units + 16 * k + 200 < cLine
theorem U4.toX {k : Nat} {A : Around} (r : U4 k A) : P4 k A := ⟨r.dp, r.un⟩
theorem P4.mono {j k : Nat} {A : Around} (r : P4 k A) (h : j ≤ k) : P4 j A := ⟨by have := r.dp; omega, by have := r.un; omega⟩
theorem P4.deeper {k : Nat} {A : Around} (r : P4 (k + 1) A) (env : Env) : P4 k (A.deeper env) :=
  ⟨by have := r.dp; show A.depth + 1 + 3 * k + 5 < _; omega, by have := r.un; show A.units + 3 + 16 * k + 200 < _; omega⟩
theorem P4.mark {k : Nat} {A : Around} (r : P4 k A) (v : Option Value) : P4 k (A.mark v) := ⟨r.dp, r.un⟩
theorem P4.depth {k : Nat} {A : Around} (r : P4 k A) : A.depth < recursionLimit := by have := r.dp; omega
structure aL6 (P : Program) (w : World) (K : PySem.W.Frag) (mg : Str → Option Value) (base : Heap) (k : Nat) (f : Addr) (fd : FuncData) (ps : List Str) (sp : Sp) : Prop where
  len : ∀ vs H Q E, sp vs H Q E → vs.length = ps.length
  run : ∀ (A : Around) (outer : List Env) (s : Shared) (H : Hp) (args : Args) (us : List Value) (vs : List V) (Q : VK) (E : XK), P4 k A → aO9 P w K mg base A outer s H → BindsTo s fd args (ps.zip us) → t0 vs us → sp vs H Q E →
    codeAny (model P w) A (.call (.ref f) args) (CR CX0 outer P w H s Q E) s
abbrev cxX (P : Program) (w : World) (K : PySem.W.Frag) (mg : Str → Option Value) (base : Heap) (N : List Str) (qual : Str) (scope : Scope) (f : Addr) (cd : Value) (A : Around) (outer : List Env) (s₀ : Shared) (H₀ : Hp) (E : XK) : Cx :=
  { am1 CX0 P w K mg base N qual scope f cd A outer s₀ H₀ E with calm := false, xe := fun _ _ => False }
theorem Fun.okX {P : Program} {w : World} {K : PySem.W.Frag} {mg : Str → Option Value} {base : Heap} {x qual : Str} {st : Stmt} {f : Addr} {fd : FuncData} {N ps : List Str} {k : Nat} {sp : Sp} (F : Fun K x qual st f fd) (S : j7 N ps (d3 st)) (len : ∀ vs H Q E, sp vs H Q E → vs.length = ps.length)
    (hbody : ∀ (cdv : Value) (A : Around) (outer : List Env) (s : Shared) (H : Hp) (vs : List V) (Q : VK) (E : XK), P4 k (A.deeper (envOfC qual (d3 st) s.heap.objs.size f cdv)) → sp vs H Q E →
      ∃ t, PSs (cxX P w K mg base N qual (d3 st) f cdv A outer s H E) (j3 st) t ∧ t { nx := fun _ H' => Q .non H', rt := Q } (start N vs) H) : aL6 P w K mg base (k + 1) f fd ps sp := by
  obtain ⟨oc, od, kV, doc, pm, an, cdv, ct, osl, rfl, lk, hcd⟩ := F.ex
  refine ⟨len, fun A outer s H args us vs Q E hr e0 hb r hsp => ?_⟩
  have hl := len _ _ _ _ hsp
  have KX : K.In s.heap := e0.mod.kin.keeps fun b o e => (e0.bs b o e).1
  have lim : s.heap.NoLimit := e0.mod.nolimit.keeps fun b o e => (e0.bs b o e).1
  have hkind : ∀ y ∈ ps.zip us, (d3 st).names.lookup y.1 = some .local ∨ ((d3 st).names.lookup y.1 = some .cell ∧ ((cellsFrom (s.heap.objs.size + 1) (d3 st).names []).lookup y.1).isSome = true) := fun ⟨n, v⟩ hy => by
    rcases S.par n (List.of_mem_zip hy).1 with q | q
    · exact .inl q
    · exact .inr ⟨q, PySem.W.cellsFrom_some _ _ _ (.inl q)⟩
  refine codeAny_call_function hr.depth (KX _ _ lk) rfl S.co S.gen rfl (PySem.W.codeRec_of KX hcd) (hb _ _ _ _ ?_)
  refine wpAny_newFunctionEnv_cells S.kind hkind fun env he s1 x => ?_
  subst he
  refine ⟨lim.keeps x.toInCall.keep, codeAny_func ?_⟩
  obtain ⟨t, ht, hq⟩ := hbody cdv A outer s H vs Q E (hr.deeper _) hsp
  have e0' : aO9 P w K mg base { A with handled := none } outer s H := ⟨e0.frames, e0.mod, e0.bs, e0.bsz, e0.funs, e0.frf, e0.hok, e0.bare⟩
  have I0 : Inv (am1 CX0 P w K mg base N qual (d3 st) f cdv { A with handled := none } outer s H E) [] (start N vs) H s1 := av4 S rfl e0' hl r x
  have I : Inv (cxX P w K mg base N qual (d3 st) f cdv A outer s H E) [] (start N vs) H s1 := I0.reA (A2 := A.deeper (envOfC qual (d3 st) s.heap.objs.size f cdv)) (by rfl) (fun z => nomatch z)
  refine wpAny_mono (ht [] s1 (start N vs) H _ I hq) (fun fl s' hs => ?_) fun e s' hs => False.elim hs
  have fin : ∀ {σ' : St} {H' : Hp} {v : V} {u : Value}, Inv (cxX P w K mg base N qual (d3 st) f cdv A outer s H E) [] σ' H' s' → z9 v u → Q v H' → CE outer P w H s Q u s' :=
    fun {σ' H' v u} J rv q => ⟨v, H', J.os, J.bare, J.base, J.hok, rv, q⟩
  cases fl with
  | ret u =>
    obtain ⟨v, σ', H', J, rv, q⟩ := hs
    exact fin J rv q
  | next =>
    obtain ⟨σ', H', J, q⟩ := hs
    exact fin (v := V.non) (u := Value.none) J rfl q
  | brk =>
    obtain ⟨_, _, _, q⟩ := hs
    exact False.elim q
  | cont =>
    obtain ⟨_, _, _, q⟩ := hs
    exact False.elim q
section
variable {X : Cx} {CX : CXT} {k : Nat} {f : Addr} {fd : FuncData} {ps : List Str} {sp : Sp} {E : XK} {x : Str} {p pos : Pos} {e : Expr} {es : List Expr} {t : TA}
theorem aW9 {pins : List (Addr × Obj)} {σ : St} {H : Hp} {s : Shared} {Q : VK} {us : List Value} {vs : List V} (F : aL6 X.prog X.w X.K X.mg X.base k f fd ps sp) (hr : P4 k X.A) (hb : ad4 X.K fd ps [])
    (I : Inv X pins σ H s) (r : t0 vs us) (h : sp vs H Q E) : wpAny (model X.prog X.w) X.A (call (.ref f) us) (EP X pins σ Q) X.xe s := by
  have hl : (us ++ []).length = ps.length := by rw [List.append_nil, ← r.length]; exact F.len _ _ _ _ h
  have hb' := hb s us I.kIn hl
  rw [List.append_nil] at hb'
  refine wpAny_call (codeAny_mono (F.run X.A X.stack s H ⟨us, []⟩ us vs Q E hr I.env0 hb' r h) fun r s' hq => ?_)
  cases r with
  | error e => exact False.elim hq
  | ok fl =>
    cases fl with
    | ret u => exact I.after hq
    | next => exact False.elim hq
    | brk => exact False.elim hq
    | cont => exact False.elim hq
def aw7 (sp : Sp) (t : TA) : TE := fun σ H Q => t σ H fun vs H1 => sp vs H1 Q E0
theorem aR8 (F : aL6 X.prog X.w X.K X.mg X.base k f fd ps sp) (hr : P4 k X.A) (hg : Gl X x) (hm : X.mg x = some (.ref f)) (hk : PySem.W.keepIn X.K (.ref f) = true) (hb : ad4 X.K fd ps [])
    (ha : PA X (e :: es) t) (hdb : (x == ("__debug__" : Str)) = false := by decide) (he : starEach (e :: es) X.env = (false, eval e X.env) :: starEach es X.env := by rfl) (hpl : (backTo pos (starEach es X.env)).any (·.1) = false := by rfl) :
    PE X (.Call (.Name x p) (e :: es) [] pos) (aw7 sp t) := by
  intro pins s σ H Q I h
  refine wpAny_Call_Name_kw (ah8 I hg hm ?_ hdb)
  refine PySem.W.callWith_K (h₀ := X.base) I.ok.mod.kin hk (thn (ha pos pins s σ H _ I h) fun us s1 ⟨vs, H1, I1, r, q⟩ => ⟨I1.kIn, ?_⟩) he hpl
  exact aW9 F hr hb I1 r q
structure FnV (P : Program) (w : World) (K : PySem.W.Frag) (mg : Str → Option Value) (base : Heap) (k : Nat) (f : Addr) (sp : Sp) : Prop where
  ex : ∃ fd ps, ai6 P w K mg base (CXR P w) k f fd ps sp ∧ ad4 K fd ps []
  kp : PySem.W.keepIn K (.ref f) = true
end
end L2
-- the class of an exception, isinstance, great numbers
set_option maxRecDepth 100000
namespace L2
open PySem PySem.W PySem.Spec PyProof.Rows Builtin Builtin.ObjectAttr Builtin.Getset_descriptor
section
variable {prog : Program} {w : World} {A : Around} {E : Value → Shared → Prop} {s : Shared} {K : Frag} {a C : Addr} {o : Obj}
theorem at7 {R : Result → Shared → Prop} {tp : Value} (X : K.In s.heap) (hx : s.heap.get? a = some o) (hc : o.cls = .ref C) (hm : mroIn K C (.type "object") = some true)
    (h : R (.ok (.ret (.ref C))) s) : codeAny (model prog w) A (.call (.builtin "getset_descriptor.__get__") ⟨[.builtin "object.__class__", .ref a, tp], []⟩) R s := by
  obtain ⟨hh, g, dr, t, os⟩ := s
  have L0 : Looks (model prog w) hh (typeOf (.ref a)) (.ref C) := hc ▸ (Looks.ld hx).andThen .now
  have L1 := looks_mroIn (M := model prog w) X hm
  refine codeAny_call_builtin KF.slot_gs.plain KF.entry_gs (KF.slot_gs.check _ _ _ _ _ _ _ _ KF.type_class (KF.args_gs _ _ _) ?_)
  unfold Builtin.«getset_descriptor.__get__» descrGet
  rw [dga_obj]
  refine wpAny_bind (wpAny_pure ?_)
  unfold descrGetter descrCheckInstance descrNameAndClass isInstance
  simp only [KF.owner_class]
  repeat lk
  refine ⟨Code.quiet_builtin _ (by decide +kernel), codeAny_builtin KF.entry_class ?_⟩
  unfold Builtin.«object.__class__» shownTypeOf
  repeat lk
  exact h
theorem aN9 {tk : Tok} {Q : Fin → Shared → Prop} (X : K.In s.heap) (hx : s.heap.get? a = some o) (hc : o.cls = .ref C) (g3 : findIn K (.ref C) "__class__" = some (some (.builtin "object.__class__"))) (hm : mroIn K C (.type "object") = some true)
    (hq : Q (.done (.ret (.ref C))) s) : wpAny (model prog w) A (Builtin.«object.__getattribute__» ⟨[.ref a, .str "__class__" tk], []⟩) Q E s := by
  obtain ⟨hh, g, dr, t, os⟩ := s
  have L0 : Looks (model prog w) hh (typeOf (.ref a)) (.ref C) := hc ▸ (Looks.ld hx).andThen .now
  have L1 := looks_findIn (M := model prog w) X g3
  have f5 : typeOf (.builtin "object.__class__") = pure (.type "getset_descriptor") := KF.type_class
  have f6 := F.slot_gs_get.lookup
  have f7 := F.slot_gs_set.lookup
  repeat (any_goals (first | assumption | (with_reducible refine wpAny_loadPart_at hx ?_; rw [hc]) | with_reducible refine L1.at ?_ | wp_step))
  refine at7 X hx hc hm ?_
  repeat (any_goals (first | assumption | wp_step))
theorem aO1 {M : Model} {nameV : Value} {Q : Unit → Shared → Prop} (X : K.In s.heap) (hx : s.heap.get? a = some o) (hc : o.cls = .ref C) (hmB : mroIn K C (.type "BaseException") = some true) (hq : Q () s) :
    wpAny M A (checkBuiltinCall "BaseException.__getattribute__" ⟨[.ref a, nameV], []⟩) Q E s := by
  obtain ⟨hh, g, d, t, os⟩ := s
  have L3 := looks_mroIn (M := M) X hmB
  have hk : builtinKind "BaseException.__getattribute__" = some .slot := by decide +kernel
  have hsplit : splitId "BaseException.__getattribute__" = some ("BaseException", "__getattribute__") := by decide +kernel
  have ha := F.args_bexc_ga (.ref a) nameV
  simp only [checkBuiltinCall, hk, hsplit]
  refine wpAny_bind ?_
  · unfold isInstance
    repeat (first | (with_reducible refine wpAny_loadPart_at hx ?_; rw [hc]) | with_reducible refine L3.at ?_ | wp_step)
    exact hq
theorem aO0 {Q : Option Value → Shared → Prop} (X : K.In s.heap) (hx : s.heap.get? a = some o) (hc : o.cls = .ref C) (g1 : findIn K (.ref C) "__getattribute__" = some (some (.builtin "BaseException.__getattribute__"))) (g2 : findIn K (.ref C) "__getattr__" = some none)
    (g3 : findIn K (.ref C) "__class__" = some (some (.builtin "object.__class__"))) (hm : mroIn K C (.type "object") = some true) (hmB : mroIn K C (.type "BaseException") = some true) 
    (h : Q (some (.ref C)) { s with toks := s.toks + 1 }) : wpAny (model prog w) A (getAttr? (.ref a) "__class__") Q E s := by
  obtain ⟨hh, g, d, t, os⟩ := s
  have L0 : Looks (model prog w) hh (typeOf (.ref a)) (.ref C) := hc ▸ (Looks.ld hx).andThen .now
  have L1 := looks_findIn (M := model prog w) X g1
  have L2 := looks_findIn (M := model prog w) X g2
  have L3 := looks_mroIn (M := model prog w) X hmB
  unfold getAttr? getAttrBy? getAttrBy
  refine wpAny_bind (wpAny_mkText (wpAny_bind (wpAny_attempt (wpAny_holding (wpAny_bind (L0.at (wpAny_bind (L1.at ?_))))))))
  have hx2 : (Value.builtin "BaseException.__getattribute__" == Value.builtin "object.__getattribute__") = false := by decide +kernel
  have hx1 : (onTheHeap (Value.ref C) && Value.builtin "BaseException.__getattribute__" == Value.builtin "object.__getattribute__") = false := by rw [hx2]; rfl
  show wpAny _ _ (if (onTheHeap (Value.ref C) && Value.builtin "BaseException.__getattribute__" == Value.builtin "object.__getattribute__") = true then _ else _) _ _ _
  rw [if_neg (by rw [hx1]; decide)]
  have f3 := PySem.F.attr_ValueError.ga.bind (.ref a)
  have hx0 : (false && onTheHeap (Value.builtin "BaseException.__getattribute__")) = false := rfl
  unfold getAttrByItsOwn hookBefore
  repeat (any_goals (first | assumption | (with_reducible refine wpAny_loadPart_at hx ?_; rw [hc]) | with_reducible refine L1.at ?_ | with_reducible refine L2.at ?_ | wp_step))
  refine codeAny_call_builtin PySem.F.attr_ValueError.ga.plain F.entry_bexc_ga (aO1 X hx hc hmB (aN9 X hx hc g3 hm ?_))
  dsimp only
  unfold handedOut
  exact wpAny_pure (wpAny_pure h)
structure E5 (K : Frag) (C : Addr) : Prop where
  cl : (clsIn K C).isSome = true
  g1 : findIn K (.ref C) "__getattribute__" = some (some (.builtin "BaseException.__getattribute__"))
  g2 : findIn K (.ref C) "__getattr__" = some none
  g3 : findIn K (.ref C) "__class__" = some (some (.builtin "object.__class__"))
  hm : mroIn K C (.type "object") = some true
  hB : mroIn K C (.type "BaseException") = some true
theorem aT0 (c : E5 K C) : KitX K (.ref a) (.ref C) (fun h => ∃ o, h.get? a = some o ∧ o.cls = .ref C) where
  ty := fun _ _ _ ⟨o, hx, hc⟩ => hc ▸ (Looks.ld hx).andThen .now
  it := fun _ _ X _ => by
    obtain ⟨cdD, hcD⟩ := Option.isSome_iff_exists.mp c.cl
    unfold clsIn at hcD
    split at hcD
    · rename_i c' d' cd' sl' ho
      intro A' Q' E' s' k q
      unfold isType loadHead
      exact wpAny_bind (wpAny_loadPart (k _ _ (X _ _ ho)) (wpAny_pure q))
    · cases hcD
  ne := fun h tp dd its n sl X htp => by
    obtain ⟨cdD, hcD⟩ := Option.isSome_iff_exists.mp c.cl
    refine Bool.eq_false_iff.mpr fun q => ?_
    have e : C = tp := Value.ref.inj (beq_iff_eq.mp q)
    subst e
    unfold clsIn at hcD
    split at hcD
    · rename_i c' d' cd' sl' ho
      have z := (X _ _ ho).symm.trans htp
      cases z
    · cases hcD
  ca := fun X ⟨o, hx, hc⟩ k => aO0 X hx hc c.g1 c.g2 c.g3 c.hm c.hB k
end
section
variable {X : Cx}
def bg9 : V → Value
  | .ty n => .type n
  | .ref a => .ref a
  | _ => .none
def isC : V → Prop
  | .ty _ => True
  | .ref _ => True
  | _ => False
inductive TyX (K : Frag) (H : Hp) : V → Value → Prop where
  | of {x : V} {t : Value} (h : ak8 K H x t) : TyX K H x t
  | exc {a C : Addr} (e : H a = some (Exc (.ref C) a)) (c : E5 K C) : TyX K H (.ref a) (.ref C)
  | sqt {a : Addr} {xs : List V} (h : SqT K H a xs) : TyX K H (.ref a) (.type "tuple")
  | sql {a : Addr} {xs : List V} (h : SqL K H a xs) : TyX K H (.ref a) (.type "list")
def bc3 (K : Frag) : List V → Hp → VK → Prop := fun xs H Q => ∃ x c t b, xs = [x, c] ∧ isC c ∧ TyX K H x t ∧ kitOne K t (bg9 c) = some b ∧ Q (.bl b) H
theorem j2 : aa3 X (.builtin "isinstance") (bc3 X.K) := by
  intro pins s σ H us vs Q I r h
  obtain ⟨x, c, t, b, rfl, ic, ty, e, q⟩ := h
  obtain ⟨u, cu, rfl, rx, rc⟩ := t0.two r
  have ec : cu = bg9 c := by
    cases c with
    | ty n => exact rc
    | ref a => exact rc
    | _ => exact False.elim ic
  subst ec
  have fin : ∀ tk, EP X pins σ Q (.bool b) { s with toks := tk } := fun tk => ⟨.bl b, H, I.tok tk, rfl, q⟩
  cases ty with
  | of ty => exact aN5 I rx ty e fin
  | @exc a C ea cl =>
    cases (show u = Value.ref a from rx)
    obtain ⟨⟨o, _, h1, h2, _⟩, _⟩ := (show F4 X.prog X.w H s.heap a (Exc (.ref C) a) from I.hok a _ ea)
    exact kia_one (aT0 cl) I.kIn ⟨o, h1, h2⟩ e (fun z => nomatch z) fin
  | @sqt a xs h =>
    cases (show u = Value.ref a from rx)
    obtain ⟨_, _, ⟨o, h1, h2, _⟩, _⟩ := I.tuple h
    exact kia_one kitx_tuple I.kIn ⟨o, h1, h2⟩ e (fun z => nomatch z) fin
  | @sql a xs h =>
    cases (show u = Value.ref a from rx)
    obtain ⟨_, _, ⟨o, n, h1, h2, _⟩, _⟩ := I.list h
    exact kia_one kitx_list I.kIn ⟨o, h1, h2⟩ e (fun z => nomatch z) fin
theorem B7 : OpR X (binaryOp .Mult) (rI IntMulOk fun i j => .int (i * j)) := opI fun _ _ _ _ _ _ _ hc q => mul_int q hc
def as4 (_ j : Int) : Prop := j ≠ 0 ∧ j.natAbs.log2 < 9000
theorem M5 : OpR X (binaryOp .FloorDiv) (rI as4 fun i j => .int (i.fdiv j)) := opI fun _ _ _ _ _ _ _ hc q => floordiv_int hc.1 q (.inl (PyProof.noPylong_of_log2 hc.2))
end
open PySem PySem.Spec PyProof.Rows
inductive D where
  | v (x : V)
  | tup (ds : List D)
  | lst (ds : List D)
mutual
def eqD : D → D → Bool
  | .v x, .v y => eqV x y
  | .tup a, .tup b => L8 a b
  | .lst a, .lst b => L8 a b
  | _, _ => false
def L8 : List D → List D → Bool
  | [], [] => true
  | x :: xs, y :: ys => eqD x y && L8 xs ys
  | _, _ => false
end
mutual
def okD : D → D → Bool
  | .v _, .v _ => true
  | .tup a, .tup b => Y2 a b
  | .lst a, .lst b => Y2 a b
  | _, _ => false
def Y2 : List D → List D → Bool
  | x :: xs, y :: ys => okD x y && Y2 xs ys
  | _, _ => true
end
mutual
def dpD : D → Nat
  | .v _ => 0
  | .tup a => ad0 a + 1
  | .lst a => ad0 a + 1
def ad0 : List D → Nat
  | [] => 0
  | x :: xs => max (dpD x) (ad0 xs)
end
mutual
inductive IsD (K : PySem.W.Frag) (H : Hp) : V → D → Prop where
  | v {x : V} (f : V1 x = true) : IsD K H x (.v x)
  | tup {p : Addr} {xs : List V} {ds : List D} (h : SqT K H p xs) (t : L9 K H xs ds) : IsD K H (.ref p) (.tup ds)
  | lst {p : Addr} {xs : List V} {ds : List D} (h : SqL K H p xs) (t : L9 K H xs ds) : IsD K H (.ref p) (.lst ds)
inductive L9 (K : PySem.W.Frag) (H : Hp) : List V → List D → Prop where
  | nil : L9 K H [] []
  | cons {x : V} {xs : List V} {d : D} {ds : List D} (h : IsD K H x d) (t : L9 K H xs ds) : L9 K H (x :: xs) (d :: ds)
end
theorem L9.length {K : PySem.W.Frag} {H : Hp} : ∀ {xs : List V} {ds : List D}, L9 K H xs ds → xs.length = ds.length
  | _, _, .nil => rfl
  | _, _, .cons _ t => congrArg (· + 1) t.length
theorem aT9 : ∀ {x : V}, V1 x = true → eqV x x = true
  | .non, _ => rfl
  | .bl a, _ => by simp [eqV]
  | .int a, _ => by simp [eqV]
  | .str a, _ => by simp [eqV]
  | .byt _, h => absurd (show false = true from h) Bool.false_ne_true
  | .flt _, h => absurd (show false = true from h) Bool.false_ne_true
  | .ref _, h => absurd (show false = true from h) Bool.false_ne_true
  | .ty _, h => absurd (show false = true from h) Bool.false_ne_true
section
variable {X : Cx} {pins : List (Addr × Obj)} {σ : St} {H : Hp} {s : Shared}
mutual
theorem ar4 (I : Inv X pins σ H s) : ∀ {x : V} {d d' : D}, IsD X.K H x d → IsD X.K H x d' → okD d d' = true → eqD d d' = true
  | _, _, _, .v f, .v _, _ => by rw [eqD]; exact aT9 f
  | _, _, _, .tup h t, .tup h' t', ok => by
    have e := I.tuple_inj h h'
    subst e
    rw [eqD]
    rw [okD] at ok
    exact ak5 I t t' ok
  | _, _, _, .lst h t, .lst h' t', ok => by
    have e := I.list_inj h h'
    subst e
    rw [eqD]
    rw [okD] at ok
    exact ak5 I t t' ok
  | _, _, _, .v f, .tup _ _, _ => absurd (show false = true from f) Bool.false_ne_true
  | _, _, _, .v f, .lst _ _, _ => absurd (show false = true from f) Bool.false_ne_true
  | _, _, _, .tup _ _, .v f, _ => absurd (show false = true from f) Bool.false_ne_true
  | _, _, _, .lst _ _, .v f, _ => absurd (show false = true from f) Bool.false_ne_true
  | _, _, _, .tup _ _, .lst _ _, ok => by simp [okD] at ok
  | _, _, _, .lst _ _, .tup _ _, ok => by simp [okD] at ok
theorem ak5 (I : Inv X pins σ H s) : ∀ {xs : List V} {ds ds' : List D}, L9 X.K H xs ds → L9 X.K H xs ds' → Y2 ds ds' = true → L8 ds ds' = true
  | _, _, _, .nil, .nil, _ => by rw [L8]
  | _, _, _, .cons h t, .cons h' t', ok => by
    rw [Y2, Bool.and_eq_true] at ok
    rw [L8, ar4 I h h' ok.1, ak5 I t t' ok.2]
    rfl
end
def ac9 (ds ds' : List D) (j : Nat) : Bool := match ds[j]?, ds'[j]? with
  | some d, some d' => eqD d d'
  | _, _ => true
theorem ad2 (n : Nat) (e : Nat → Bool) : (List.range (n + 1)).all e = (e 0 && (List.range n).all fun j => e (j + 1)) := by
  rw [List.range_succ_eq_map, List.all_cons, List.all_map]; rfl
theorem ae6 : ∀ (ds ds' : List D), ((List.range (min ds.length ds'.length)).all (ac9 ds ds') && ds.length == ds'.length) = L8 ds ds'
  | [], [] => by rw [L8]; rfl
  | [], _ :: _ => by simp [L8]
  | _ :: _, [] => by simp [L8]
  | x :: xs, y :: ys => by
    have ih := ae6 xs ys
    rw [L8, ← ih]
    have e1 : min (x :: xs).length (y :: ys).length = min xs.length ys.length + 1 := by simp only [List.length_cons]; omega
    rw [e1, ad2]
    have e2 : ((x :: xs).length == (y :: ys).length) = (xs.length == ys.length) := by
      by_cases h : xs.length = ys.length <;> simp [h]
    rw [e2, Bool.and_assoc]
    rfl
theorem af6 (ds ds' : List D) (h : ds.length = ds'.length) : (List.range ds.length).all (ac9 ds ds') = L8 ds ds' := by
  rw [← ae6, ← h, Nat.min_self]; simp
theorem ar3 : ∀ (ds ds' : List D), ds.length ≠ ds'.length → L8 ds ds' = false
  | [], [], h => absurd rfl h
  | [], _ :: _, _ => by simp [L8]
  | _ :: _, [], _ => by simp [L8]
  | x :: xs, y :: ys, h => by
    rw [L8, ar3 xs ys (fun e => h (by simp [e]))]; simp
theorem au6 (I : Inv X pins σ H s) {p p' : Addr} {xs ys : List V} {ds ds' : List D} {A : Around} (h : SqT X.K H p xs) (t : L9 X.K H xs ds) (h' : SqT X.K H p' ys) (t' : L9 X.K H ys ds') (hu : A.units < cLine)
    (q : ∀ {us vs : List Value}, t0 xs us → t0 ys vs → ∀ (j : Nat) (h1 : j < us.length) (h2 : j < vs.length), SeqAt.EqAt A.in1 s us[j] vs[j] (ac9 ds ds' j)) : SeqAt.RcAt A s (.ref p) (.ref p') (L8 ds ds') := by
    obtain ⟨its, r1, i1, _⟩ := I.tuple h
    obtain ⟨its', r2, i2, _⟩ := I.tuple h'
    have z := SeqAt.RcAt.tuples (A := A) (items := its.toArray) (items2 := its'.toArray) (e := ac9 ds ds') i1 i2 hu (fun j h1 h2 => q r1 r2 j (by simpa using h1) (by simpa using h2))
    have e1 : its.toArray.size = ds.length := by rw [List.size_toArray, ← r1.length, t.length]
    have e2 : its'.toArray.size = ds'.length := by rw [List.size_toArray, ← r2.length, t'.length]
    rw [e1, e2, ae6] at z
    exact z
theorem au7 (I : Inv X pins σ H s) {p p' : Addr} {xs ys : List V} {ds ds' : List D} {A : Around} (h : SqL X.K H p xs) (t : L9 X.K H xs ds) (h' : SqL X.K H p' ys) (t' : L9 X.K H ys ds') (hu : A.units < cLine)
    (q : ∀ {us vs : List Value}, t0 xs us → t0 ys vs → ∀ (j : Nat) (h1 : j < us.length) (h2 : j < vs.length), SeqAt.EqAt A.in1 s us[j] vs[j] (ac9 ds ds' j)) : SeqAt.RcAt A s (.ref p) (.ref p') (L8 ds ds') := by
    obtain ⟨its, r1, i1, _⟩ := I.list h
    obtain ⟨its', r2, i2, _⟩ := I.list h'
    have e1 : its.toArray.size = ds.length := by rw [List.size_toArray, ← r1.length, t.length]
    have e2 : its'.toArray.size = ds'.length := by rw [List.size_toArray, ← r2.length, t'.length]
    by_cases hl : ds.length = ds'.length
    · have z := SeqAt.RcAt.lists (A := A) (items := its.toArray) (items2 := its'.toArray) (e := ac9 ds ds') i1.isList i2.isList (by rw [e1, e2, hl]) hu (fun j h1 h2 => q r1 r2 j (by simpa using h1) (by simpa using h2))
      rw [e1, af6 ds ds' hl] at z
      exact z
    · rw [ar3 ds ds' hl]
      exact SeqAt.RcAt.lists_lengths i1.isList i2.isList (by rw [e1, e2]; simpa using hl) hu
mutual
theorem be7 (I : Inv X pins σ H s) : ∀ {x y : V} {d d' : D} {u v : Value} {A : Around}, IsD X.K H x d → IsD X.K H y d' → okD d d' = true → z9 x u → z9 y v → A.units + dpD d < cLine → SeqAt.EqAt A s u v (eqD d d')
  | _, _, _, _, _, _, _, .v f, .v f', _, r, r', _ => by rw [eqD]; exact aU2 r r' f f'
  | _, _, _, _, u, v, A, .tup (p := p) h t, .tup (p := p') h' t', ok, r, r', hu => by
    cases (show u = Value.ref p from r)
    cases (show v = Value.ref p' from r')
    by_cases hp : p = p'
    · subst hp
      rw [ar4 I (.tup h t) (.tup h' t') ok]
      exact SeqAt.EqAt.same _
    · rw [okD] at ok
      rw [dpD] at hu
      rw [eqD]
      exact SeqAt.EqAt.of_refs hp (au6 I h t h' t' (by omega) fun r1 r2 j h1 h2 => ab1 (A := A.in1) I t t' ok r1 r2 (by show A.units + 1 + _ < _; omega) j h1 h2)
  | _, _, _, _, u, v, A, .lst (p := p) h t, .lst (p := p') h' t', ok, r, r', hu => by
    cases (show u = Value.ref p from r)
    cases (show v = Value.ref p' from r')
    by_cases hp : p = p'
    · subst hp
      rw [ar4 I (.lst h t) (.lst h' t') ok]
      exact SeqAt.EqAt.same _
    · rw [okD] at ok
      rw [dpD] at hu
      rw [eqD]
      exact SeqAt.EqAt.of_refs hp (au7 I h t h' t' (by omega) fun r1 r2 j h1 h2 => ab1 (A := A.in1) I t t' ok r1 r2 (by show A.units + 1 + _ < _; omega) j h1 h2)
  | _, _, _, _, _, _, _, .v _, .tup _ _, ok, _, _, _ => by simp [okD] at ok
  | _, _, _, _, _, _, _, .v _, .lst _ _, ok, _, _, _ => by simp [okD] at ok
  | _, _, _, _, _, _, _, .tup _ _, .v _, ok, _, _, _ => by simp [okD] at ok
  | _, _, _, _, _, _, _, .lst _ _, .v _, ok, _, _, _ => by simp [okD] at ok
  | _, _, _, _, _, _, _, .tup _ _, .lst _ _, ok, _, _, _ => by simp [okD] at ok
  | _, _, _, _, _, _, _, .lst _ _, .tup _ _, ok, _, _, _ => by simp [okD] at ok
theorem ab1 (I : Inv X pins σ H s) : ∀ {xs ys : List V} {ds ds' : List D} {us vs : List Value} {A : Around}, L9 X.K H xs ds → L9 X.K H ys ds' → Y2 ds ds' = true → t0 xs us → t0 ys vs → A.units + ad0 ds < cLine →
    ∀ (j : Nat) (h1 : j < us.length) (h2 : j < vs.length), SeqAt.EqAt A s us[j] vs[j] (ac9 ds ds' j)
  | _, _, _, _, _, _, _, .nil, _, _, .nil, _, _ => fun j h1 _ => absurd h1 (Nat.not_lt_zero _)
  | _, _, _, _, _, _, _, .cons _ _, .nil, _, _, .nil, _ => fun j _ h2 => absurd h2 (Nat.not_lt_zero _)
  | _, _, _, _, _, _, A, .cons h t, .cons h' t', ok, .cons r rs, .cons r' rs', hu => fun j h1 h2 => by
    rw [Y2, Bool.and_eq_true] at ok
    rw [ad0] at hu
    cases j with
    | zero => exact be7 I h h' ok.1 r r' (by omega)
    | succ j => exact ab1 I t t' ok.2 rs rs' (by omega) j (by simpa using h1) (by simpa using h2)
end
def D.isV : D → Bool
  | .v _ => true
  | _ => false
def bh7 (K : PySem.W.Frag) : R2 := fun x y H Q => ∃ d d', d.isV = false ∧ IsD K H x d ∧ IsD K H y d' ∧ okD d d' = true ∧ dpD d ≤ 60 ∧ Q (.bl (eqD d d')) H
theorem az0 (hu : X.A.units + 64 < cLine) : OpR X (compareOp .Eq) (bh7 X.K) := by
  intro pins s σ H x y v u Q I rx ry h
  obtain ⟨d, d', nf, h1, h2, ok, dp, q⟩ := h
  have fin : EP X pins σ Q (.bool (eqD d d')) s := ⟨.bl _, H, I, rfl, q⟩
  cases h1 with
  | v f =>
    cases h2 with
    | v f' => exact absurd (show true = false from nf) (by decide)
    | tup _ _ => simp [okD] at ok
    | lst _ _ => simp [okD] at ok
  | @tup p xs ds h t =>
    cases h2 with
    | v f' => simp [okD] at ok
    | @tup p' ys ds' h' t' =>
      cases (show v = Value.ref p from rx)
      cases (show u = Value.ref p' from ry)
      rw [okD] at ok
      rw [dpD] at dp
      rw [eqD] at fin
      exact au6 I h t h' t' (by omega) (fun r1 r2 j h1 h2 => ab1 (A := X.A.in1) I t t' ok r1 r2 (by show X.A.units + 1 + _ < _; omega) j h1 h2) X.prog X.w X.xe _ fin
    | lst _ _ => simp [okD] at ok
  | @lst p xs ds h t =>
    cases h2 with
    | v f' => simp [okD] at ok
    | tup _ _ => simp [okD] at ok
    | @lst p' ys ds' h' t' =>
      cases (show v = Value.ref p from rx)
      cases (show u = Value.ref p' from ry)
      rw [okD] at ok
      rw [dpD] at dp
      rw [eqD] at fin
      exact au7 I h t h' t' (by omega) (fun r1 r2 j h1 h2 => ab1 (A := X.A.in1) I t t' ok r1 r2 (by show X.A.units + 1 + _ < _; omega) j h1 h2) X.prog X.w X.xe _ fin
end
open PySem PySem.Spec PyProof.Rows
section
variable {X : Cx}
def ay2 : V → List V → Hp → VK → Prop := fun x vs H Q => ∃ i, x = .int i ∧ vs = [] ∧ Q (.int (Builtin.Int.intBits i)) H
theorem av1 : MtM X "int.bit_length" ay2 := by
  intro pins s σ H x vs v us Q I rx rv h
  obtain ⟨i, rfl, rfl, q⟩ := h
  obtain ⟨t, rfl⟩ := rx
  cases t0.zero rv
  exact call_int_bit_length ⟨.int _, H, I.tok _, ⟨_, rfl⟩, q⟩
theorem av8 {x : V} : ∀ {xs : List V} {us : List Value}, t0 xs us → xs.all V1 = true → us.countP (eqU x) = xs.countP fun y => eqV y x
  | _, _, .nil, _ => rfl
  | y :: xs, u :: us, .cons r t, f => by
    rw [List.all_cons, Bool.and_eq_true] at f
    rw [List.countP_cons, List.countP_cons, aI0 r f.1, av8 t f.2]
def aG6 : V → List V → Hp → VK → Prop := fun x vs H Q => ∃ l xs y, x = .ref l ∧ vs = [y] ∧ H l = some (.lst xs) ∧ V1 y = true ∧ xs.all V1 = true ∧ Q (.int (xs.countP fun z => eqV z y)) H
theorem aS7 : MtM X "list.count" aG6 := by
  intro pins s σ H x vs v us Q I rx rv h
  obtain ⟨l, xs, y, rfl, rfl, hH, fy, fx, q⟩ := h
  cases rx
  obtain ⟨u, rfl, ru⟩ := rv.one
  obtain ⟨z, its, n, r, hl, e⟩ := I.lstM hH
  refine call_meets F.slot_list_count ⟨_, e, rfl⟩ F.entry_list_count (F.args_list_count_2 _ _) (SeqAt.list_countAt l its.toArray n none #[] u (eqU y)) ⟨e, fun w hw => aq6 ru fy r fx w (by simpa using hw), ?_⟩
  refine ⟨.int _, H, I.tok _, ⟨_, rfl⟩, ?_⟩
  rw [show its.toArray.toList = its from rfl, av8 r fx]
  exact q
theorem aK6 {y : V} {xs : List V} {us : List Value} (r : t0 xs us) (f : xs.all V1 = true) (j : Nat) (hj : j < us.length) (hx : j < xs.length) : eqU y us[j] = eqV xs[j] y := by
  obtain ⟨u, e1, e2⟩ := r.get (List.getElem?_eq_getElem hx)
  have e3 : us[j] = u := by rw [List.getElem?_eq_getElem hj] at e1; exact Option.some.inj e1
  rw [e3]
  exact aI0 e2 (List.all_eq_true.mp f _ (List.getElem_mem hx))
def aG5 : V → List V → Hp → VK → Prop := fun x vs H Q => ∃ l xs y j, x = .ref l ∧ vs = [y] ∧ H l = some (.lst xs) ∧ V1 y = true ∧ xs.all V1 = true ∧ (xs.findIdx? fun z => eqV z y) = some j ∧ Q (.int (j : Nat)) H
theorem aS6 : MtM X "list.index" aG5 := by
  intro pins s σ H x vs v us Q I rx rv h
  obtain ⟨l, xs, y, j, rfl, rfl, hH, fy, fx, hi, q⟩ := h
  cases rx
  obtain ⟨u, rfl, ru⟩ := rv.one
  obtain ⟨z, its, n, r, hl, e⟩ := I.lstM hH
  obtain ⟨hj, h1, h2⟩ := List.findIdx?_eq_some_iff_getElem.mp hi
  have hz : xs.length < 2 ^ 63 := Nat.lt_of_le_of_lt z ak2
  refine call_meets F.slot_list_index ⟨_, e, rfl⟩ F.entry_list_index (F.args_list_index_2 _ _) (SeqAt.list_indexAt l its.toArray n none #[] u (eqU y) j (by simpa [← hl] using hj) (by have : (xs.length : Int) < 2 ^ 63 := by exact_mod_cast hz
                                                                                                                                                                                       omega) ?_ ?_) ⟨e, fun w hw => aq6 ru fy r fx w (by simpa using hw), ?_⟩
  · rw [show its.toArray[j]'(by simpa [← hl] using hj) = its[j]'(by rw [← hl]; exact hj) from rfl, aK6 r fx j _ hj]; exact h1
  · intro m hm hlt
    have hm' : m < its.length := by simpa using hm
    rw [show its.toArray[m]'hm = its[m]'hm' from rfl, aK6 r fx m _ (by rw [hl]; exact hm')]
    have := h2 m hlt
    simpa using this
  · exact ⟨.int _, H, I.tok _, ⟨_, rfl⟩, q⟩
theorem au2 : ∀ (t : Nat) (ps : List Str), t0 (ps.map V.str) (strsFrom t ps)
  | _, [] => .nil
  | t, p :: ps => .cons ⟨_, rfl⟩ (au2 (t + 1) ps)
def ad8 (x y : Str) : List Str := Builtin.Str.partsBetween x (Builtin.Str.occurrences x y 0 x.length (x.length + 1)) y.length
def aG3 : V → List V → Hp → VK → Prop := fun v vs H Q => ∃ x y, v = .str x ∧ vs = [.str y] ∧ (decide (x.length < y.length) || decide (Builtin.Str.strKind x < Builtin.Str.strKind y)) = false ∧ (y.length == 0) = false ∧
  (Builtin.Str.occurrences x y 0 x.length (x.length + 1)).isEmpty = false ∧ x.length ≤ sizeLine ∧ (ad8 x y).length ≤ sizeLine ∧ ∀ l, H l = none → Q (.ref l) (upd H l (.lst ((ad8 x y).map V.str)))
theorem aS4 : MtM X "str.split" aG3 := by
  intro pins s σ H x vs v us Q I rx rv h
  obtain ⟨x', y, rfl, rfl, h1, h2, h3, h4, h5, q⟩ := h
  obtain ⟨t, rfl⟩ := rx
  obtain ⟨u, rfl, t', rfl⟩ := rv.one
  refine call_meets F.slot_str_split rfl F.entry_str_split (F.args_str_split_2 _ _) (meets_str_split_sep x' y t t' h1 h2 h3 h4 h5) ?_
  exact ⟨.ref _, _, I.lnew (ys := (ad8 x' y).map V.str) (au2 _ _) (by rw [List.length_map]; exact h5), rfl, q _ I.fresh⟩
end
open PySem PySem.Spec PyProof.Rows
structure Df (K : PySem.W.Frag) (mg : Str → Option Value) (x : Str) (st : Stmt) (ps : List Str) (f : Addr) : Prop where
  ex : ∃ fd, Fun K x x st f fd ∧ ad4 K fd ps []
  m : mg x = some (.ref f)
structure Def (P : Program) (w : World) (K : PySem.W.Frag) (mg : Str → Option Value) (base : Heap) (CX : CXT) (k : Nat) (x : Str) (f : Addr) (ps : List Str) (sp : Sp) : Prop where
  ex : ∃ fd, ai6 P w K mg base CX k f fd ps sp ∧ ad4 K fd ps []
  m : mg x = some (.ref f)
  kp : PySem.W.keepIn K (.ref f) = true
structure aW0 (P : Program) (w : World) (K : PySem.W.Frag) (mg : Str → Option Value) (base : Heap) (k : Nat) (x : Str) (f : Addr) (ps : List Str) (sp : Sp) : Prop where
  ex : ∃ fd, aL6 P w K mg base k f fd ps sp ∧ ad4 K fd ps []
  m : mg x = some (.ref f)
  kp : PySem.W.keepIn K (.ref f) = true
section
variable {P : Program} {w : World} {K : PySem.W.Frag} {mg : Str → Option Value} {base : Heap} {k : Nat} {x : Str} {f : Addr} {ps N : List Str} {sp : Sp} {st : Stmt} {CX : CXT}
theorem Df.ok (d : Df K mg x st ps f) (S : j7 N ps (d3 st)) (len : ∀ vs H Q E, sp vs H Q E → vs.length = ps.length)
    (hbody : ∀ (cdv : Value) (A : Around) (outer : List Env) (s : Shared) (H : Hp) (vs : List V) (Q : VK) (E : XK), U4 k (A.deeper (envOfC x (d3 st) s.heap.objs.size f cdv)) → sp vs H Q E →
      ∃ t, PSs (am1 CX0 P w K mg base N x (d3 st) f cdv A outer s H E).nox (j3 st) t ∧ t { nx := fun _ H' => Q .non H', rt := Q } (start N vs) H) : Def P w K mg base CX0 (k + 1) x f ps sp := by
  obtain ⟨fd, F, b⟩ := d.ex
  exact ⟨⟨fd, F.ok S len hbody, b⟩, d.m, F.kp⟩
theorem Df.okR (d : Df K mg x st ps f) (S : j7 N ps (d3 st)) (len : ∀ vs H Q E, sp vs H Q E → vs.length = ps.length)
    (hbody : ∀ (cdv : Value) (A : Around) (outer : List Env) (s : Shared) (H : Hp) (vs : List V) (Q : VK) (E : XK), U4 k (A.deeper (envOfC x (d3 st) s.heap.objs.size f cdv)) → sp vs H Q E →
      ∃ t, PSs (cxR P w K mg base N x (d3 st) f cdv A outer s H E) (j3 st) t ∧ t { nx := fun _ H' => Q .non H', rt := Q } (start N vs) H) : Def P w K mg base (CXR P w) (k + 1) x f ps sp := by
  obtain ⟨fd, F, b⟩ := d.ex
  have kp := F.kp
  obtain ⟨oc, od, kV, doc, pm, an, cdv, ct, osl, rfl, lk, hcd⟩ := F.ex
  exact ⟨⟨_, ba6 lk hcd S len fun A outer s H vs Q E hr hsp => hbody cdv A outer s H vs Q E hr hsp, b⟩, d.m, kp⟩
theorem Df.okX (d : Df K mg x st ps f) (S : j7 N ps (d3 st)) (len : ∀ vs H Q E, sp vs H Q E → vs.length = ps.length)
    (hbody : ∀ (cdv : Value) (A : Around) (outer : List Env) (s : Shared) (H : Hp) (vs : List V) (Q : VK) (E : XK), P4 k (A.deeper (envOfC x (d3 st) s.heap.objs.size f cdv)) → sp vs H Q E →
      ∃ t, PSs (cxX P w K mg base N x (d3 st) f cdv A outer s H E) (j3 st) t ∧ t { nx := fun _ H' => Q .non H', rt := Q } (start N vs) H) : aW0 P w K mg base (k + 1) x f ps sp := by
  obtain ⟨fd, F, b⟩ := d.ex
  exact ⟨⟨fd, F.okX S len hbody, b⟩, d.m, F.kp⟩
end
section
variable {X : Cx} {CX : CXT} {k j : Nat} {f : Addr} {ps : List Str} {sp : Sp} {E : XK} {x : Str} {p pos : Pos} {e : Expr} {es : List Expr} {t : TA}
def aW5 (sp : Sp) (E : XK) (t : TA) : TE := fun σ H Q => t σ H fun vs H1 => sp vs H1 Q E
theorem i5 (d : Def X.prog X.w X.K X.mg X.base CX j x f ps sp) (hr : U4 k X.A) (ha : PA X (e :: es) t) (hx : as3 CX X E) (hj : j ≤ k := by decide) (hg : Gl X x := by rfl)
    (hdb : (x == ("__debug__" : Str)) = false := by decide) (he : starEach (e :: es) X.env = (false, eval e X.env) :: starEach es X.env := by rfl) (hpl : (backTo pos (starEach es X.env)).any (·.1) = false := by rfl) :
    PE X (.Call (.Name x p) (e :: es) [] pos) (aW5 sp E t) := by
  obtain ⟨fd, F, b⟩ := d.ex
  have z := aX6 (E := E) (es := es) (e := e) (p := p) (pos := pos) (F.mono hj) hr hg d.m d.kp b .nil hx ha hdb he hpl
  intro pins s σ H Q I h
  refine z pins s σ H Q I ?_
  unfold ba0
  simpa only [List.append_nil, aW5] using h
theorem aJ8 (d : aW0 X.prog X.w X.K X.mg X.base j x f ps sp) (hr : P4 k X.A) (ha : PA X (e :: es) t) (hj : j ≤ k := by decide) (hg : Gl X x := by rfl)
    (hdb : (x == ("__debug__" : Str)) = false := by decide) (he : starEach (e :: es) X.env = (false, eval e X.env) :: starEach es X.env := by rfl) (hpl : (backTo pos (starEach es X.env)).any (·.1) = false := by rfl) :
    PE X (.Call (.Name x p) (e :: es) [] pos) (aw7 sp t) := by
  obtain ⟨fd, F, b⟩ := d.ex
  exact aR8 F (hr.mono hj) hg d.m d.kp b ha hdb he hpl
end
theorem d7.new {H : Hp} {p : Addr} (h : H p = none) (o : HO) : d7 H (upd H p o) := fun b u q => by rw [i0 (i6 q h)]; exact q
theorem d7.tup {K : PySem.W.Frag} {H H' : Hp} {a : Addr} {xs : List V} (e : d7 H H') (h : SqT K H a xs) : SqT K H' a xs := by
  rcases h with h | h
  · rcases h with h | ⟨o, h⟩
    · exact .inl (.inl (e _ _ h))
    · exact .inl (.inr ⟨o, e _ _ h⟩)
  · exact .inr h
open PySem PySem.Spec PyProof.Rows
section
variable {prog : Program} {w : World} {A : Around} {R : Result → Shared → Prop} {s : Shared}
theorem ae4 {elt target iter : Expr} {scope : Scope} {pos : Pos} {it acc : Value} {env : Env} (I : Nat → Shared → Prop)
    (turn : ∀ n s, I n s → wpAny (model prog w) A (pyNext it) (fun r s₁ => match r with
      | none => R (.ok .next) s₁
      | some v => wpAny (model prog w) A (letOwnedTupleGo target it v) (fun _ s₁' => wpAny (model prog w) A (assign target env v) (fun _ s₂ => wpAny (model prog w) A (eval elt env) (fun x s₃ =>
          wpAny (model prog w) A (call (.builtin "list.append") [acc, x]) (fun _ s₄ => ∃ m, m < n ∧ I m s₄) (fun _ _ => False) s₃)
          (fun _ _ => False) s₂) (fun _ _ => False) s₁') (fun _ _ => False) s₁) (fun _ _ => False) s)
    (n : Nat) (h : I n s) :
    codeAny (model prog w) A (.compLoop (.ListComp elt [⟨target, iter, [], 0⟩] scope pos) 0 it acc env) R s := by
  refine codeAny_loop rfl I (fun n s hI => ?_) n h
  show wpAny _ _ ((compTurn (.ListComp elt [⟨target, iter, [], 0⟩] scope pos) 0 it acc env).onRaise (fun x => do noteFrame x env; theTreesLotGoes x)) _ _ s
  refine wpAny_noted ?_
  rw [compTurn_list1]
  have no : ∀ {P : Value → Shared → Prop} (e : Value) (s : Shared), False → P e s := fun _ _ h => h.elim
  refine wpAny_bind (wpAny_standAt (wpAny_bind (wpAny_mono (turn n s hI) (fun r s₁ h₁ => ?_) no)))
  cases r with
  | none => exact wpAny_pure h₁
  | some v =>
    refine wpAny_bind (wpAny_mono h₁ (fun _ s₁' h₁' => ?_) no)
    exact wpAny_bind (wpAny_mono h₁' (fun _ s₂ h₂ => wpAny_bind (wpAny_bind (wpAny_mono h₂ (fun x s₃ h₃ => wpAny_bind (wpAny_mono h₃
      (fun _ s₄ h₄ => wpAny_pure (wpAny_pure ⟨rfl, h₄⟩)) no)) no))) no)
end
abbrev Cx.block (X : Cx) (scope : Scope) (cl : List (Str × Addr)) (C : Addr) (Nc : List Str) (s₂ : Shared) (H₂ : Hp) (fp : List Addr) (pins : List (Addr × Obj)) : Cx :=
  { X with N := Nc, s₀ := s₂, H₀ := H₂, env := compEnvC scope cl C X.env, outer := X.stack, ex := fp, fn := fun _ => false, pn := X.pn ++ pins, xe := fun _ _ => False }
def F2 (caps : List (Option Nat)) (σ : St) : St := caps.map fun o => o.bind fun j => (σ[j]?).join
def aB6 (wi : TI) (caps : List (Option Nat)) (g : TG) (te : TE) : TE := fun σ H Q => wi σ H fun J H1 => ∀ D, H1 D = none → ∃ W : Nat → Nat → St → Hp → Prop, (∃ m, W 0 m (F2 caps σ) (upd H1 D (.lst []))) ∧
  ∀ i m σc H2, W i m σc H2 → (J.stop i H2 ∧ Q (.ref D) H2) ∨
    (J.go i H2 ∧ ∀ x H3, J.yld i H2 x H3 → g x σc H3 fun σ4 H4 => te σ4 H4 fun y H5 => ∃ ys, H5 D = some (.lst ys) ∧ ys.length < sizeLine ∧ ∃ m', m' < m ∧ W (i + 1) m' σ4 (upd H5 D (.lst (ys ++ [y]))))
section
variable {X : Cx}
structure Q8 (X : Cx) (scope : Scope) (cl : List (Str × Addr)) (Nc : List Str) (caps : List (Option Nat)) : Prop where
  clos : closureFor scope X.env = pure cl
  sub : ∀ x c, cl.lookup x = some c → X.env.cells.lookup x = some c
  has : ∀ x, (relabel scope X.env).names.lookup x = some .cell ∨ (relabel scope X.env).names.lookup x = some .free → ∃ c, cl.lookup x = some c
  nocell : ∀ x ∈ scope.names, x.2 ≠ .cell
  kind : scope.kind = .function
  names : ∀ x ∈ scope.names, x.2 = .local → scope.names.lookup x.1 = some .local
  len : caps.length = Nc.length
  cap : ∀ (i j : Nat) (x : Str), caps[i]? = some (some j) → Nc[i]? = some x → X.N[j]? = some x ∧ Vis X.env.scope x ∧ X.env.kindOf x ≠ some .local ∧ ((relabel scope X.env).names.lookup x = some .cell ∨ (relabel scope X.env).names.lookup x = some .free)
theorem Inv.sameC {pins : List (Addr × Obj)} {σ : St} {H H' : Hp} {s s' : Shared} {h'' : Heap} {fp : List Addr} {C : Addr} (I : Inv X pins σ H s) (hf : ∀ b ∈ fp, ab4 X pins H b) (os : s'.os = s.os) (bare : AllBare s'.gens)
    (un : Un (frs X.stack) fp H H' s.heap s'.heap) (hok : HOk X.prog X.w H' s'.heap) (hC : s.heap.objs.size ≤ C) (hCn : H' C = none) (sb : Heap.SameBut C s'.heap h'') : Inv X pins σ H' { s' with heap := h'' } := by
  have ne : ∀ b o, s.heap.get? b = some o → b ≠ C := fun b o e => Nat.ne_of_lt (Nat.lt_of_lt_of_le (Heap.lt_size e) hC)
  refine I.call' (s' := { s' with heap := h'' }) (ch := fp) os ⟨fun b o e n h1 h2 => (sb.2 b (ne b o e)).trans (un.keep b o e n h1 h2), fun b o e n h1 h2 => ?_, un.free, fun b o e h2 => ?_, un.tups, un.frzs, un.tbls⟩ (fun b u e => ?_) bare (fun b hb => ?_)
  · obtain ⟨sl, z⟩ := un.slot b o e n h1 h2
    exact ⟨sl, (sb.2 b (ne b o e)).trans z⟩
  · obtain ⟨o', z⟩ := un.there b o e h2
    exact ⟨o', (sb.2 b (ne b o e)).trans z⟩
  · refine (hok b u e).stay (fun c v hc q => (sb.2 c ?_).trans q) (fun _ q => q) fun _ _ q => q
    rintro rfl
    rcases hc with rfl | hc
    · rw [hCn] at e; cases e
    · rw [hCn] at hc; cases hc
  · obtain ⟨_, f1, _, f3, f4, f5⟩ := hf b hb
    exact ⟨f3, f1, f4, f5⟩
theorem E7 {elt tg iter : Expr} {scope : Scope} {pos : Pos} {cl : List (Str × Addr)} {Nc : List Str} {caps : List (Option Nat)} {wi : TI} {g : TG} {te : TE} (hc : X.calm = true) (cp : Q8 X scope cl Nc caps) (hi : PI X tg iter wi)
    (hg : ∀ C s₂ H₂ fp pins, PG (X.block scope cl C Nc s₂ H₂ fp pins) tg g) (he : ∀ C s₂ H₂ fp pins, PE (X.block scope cl C Nc s₂ H₂ fp pins) elt te) (hs : ∀ x, foldedSetIterable iter X.env x = pure x := by intro _; rfl) :
    PE X (.ListComp elt [⟨tg, iter, [], 0⟩] scope pos) (aB6 wi caps g te) := by
  intro pins s σ H Q I h
  rw [eval_ListComp]
  refine wpAny_comprehension_free (use := none) rfl hs cp.clos cp.kind cp.names ?_
  refine thn (hi pins s σ H _ I h) fun v s1 h1 => thn h1 fun itv s2 h2 => ?_
  obtain ⟨it, fp, tn, J, H2, e, I2, T, st2, f2, hW⟩ := h2
  subst e
  refine wpAny_newObj_type ?_ (by show 0 ≤ sizeLine; exact Nat.zero_le _)
  refine wpAny_newFunctionEnv cp.nocell (by intro y hy; simp at hy) (fun h4 hns hsb => ?_) cp.kind
  dsimp only at hns hsb ⊢
  generalize hH3 : s2.heap.push { cls := .type "list", dict := none, data := .seq ([] : List Value).toArray } = H3 at hns hsb ⊢
  have hCe : H3.objs.size = s2.heap.objs.size + 1 := by rw [← hH3, Heap.size_push]
  have P2 : ∀ b o, s2.heap.get? b = some o → b ≠ H3.objs.size := fun b o e => by rw [hCe]; exact Nat.ne_of_lt (Nat.lt_succ_of_lt (Heap.lt_size e))
  have old : ∀ b o, s2.heap.get? b = some o → h4.get? b = some o := fun b o e => hsb.extBut b o (P2 b o e) (Heap.get?_push_of_some _ (hH3 ▸ Heap.get?_push_of_some _ e))
  have hD : h4.get? s2.heap.objs.size = some { cls := .type "list", dict := none, data := .seq ([] : List Value).toArray } :=
    hsb.extBut _ _ (by rw [hCe]; exact Nat.ne_of_lt (Nat.lt_succ_self _)) (Heap.get?_push_of_some _ (hH3 ▸ Heap.get?_push_size _ rfl))
  have hDn : H2 s2.heap.objs.size = none := I2.fresh
  have hCn : H2 H3.objs.size = none := I2.hok.fresh (by rw [hCe]; exact Nat.le_succ _)
  have hCs : s2.heap.objs.size ≤ H3.objs.size := by rw [hCe]; exact Nat.le_succ _
  have hDC : s2.heap.objs.size ≠ H3.objs.size := by rw [hCe]; exact Nat.ne_of_lt (Nat.lt_succ_self _)
  have fpl : ∀ b ∈ fp, ∃ o, s2.heap.get? b = some o := fun b hb => let ⟨o, e, _⟩ := T.obj _ _ st2 b hb; ⟨o, e⟩
  have fpC : ∀ b ∈ fp, b ≠ H3.objs.size := fun b hb => let ⟨o, e⟩ := fpl b hb; P2 b o e
  have fpD : ∀ b ∈ fp, b ≠ s2.heap.objs.size := fun b hb => let ⟨o, e⟩ := fpl b hb; Nat.ne_of_lt (Heap.lt_size e)
  have stkN : ∀ b, b ≠ X.env.locals → b ∉ X.fs → b ∉ frs X.stack := fun b h1 h2 z => (List.mem_cons.mp (I2.stkSub b z)).elim h1 h2
  obtain ⟨W, ⟨m0, w0⟩, turn⟩ := hW s2.heap.objs.size hDn
  have okB : (X.block scope cl H3.objs.size Nc s2 H2 fp pins).Ok := by
    refine ⟨I2.ok.mod, ?_, I2.ok.glob, I2.ok.blt, hCs, fun x y c h1 h2 => I2.ok.inj x y c (cp.sub x c h1) (cp.sub y c h2), fun x hx => cp.has x hx, fun x c h => (by cases h), I2.ok.hd, I2.ok.frames, .inl rfl, fun b hb => ⟨fpC b hb, fun x c h => (f2 b hb).2.2.2.2.1 x c (cp.sub x c h)⟩, I2.bs, Nat.le_trans I2.ok.bsz I2.sz, fun b o e hb => ?_, fun b hb => stkN b (f2 b hb).2.1 (f2 b hb).2.2.1, I2.stack, I2.stkFree⟩
    · exact cp.kind
    · rcases (f2 b hb).2.2.2.1 with z | z
      · exact I2.ok.noex b o e z
      · exact absurd (Nat.lt_of_lt_of_le (Heap.lt_size e) (Nat.le_trans I2.ok.bsz z)) (Nat.lt_irrefl _)
  have hokB : HOk X.prog X.w (upd H2 s2.heap.objs.size (.lst [])) h4 := I2.hok.laid old (Nat.le_refl _) ⟨Nat.zero_le _, [], _, .nil, hD⟩
  have IB : Inv (X.block scope cl H3.objs.size Nc s2 H2 fp pins) [] (F2 caps σ) (upd H2 s2.heap.objs.size (.lst [])) { s2 with heap := h4, toks := s2.toks + ([] : List (Str × Value)).length } := by
    refine ⟨okB, rfl, I2.bare, Un.laid old (Nat.le_refl _) hDn, ⟨_, hns, fun i x v e1 e2 e3 => ?_⟩, fun x c e => ?_, (show upd H2 s2.heap.objs.size (.lst []) H3.objs.size = none by rw [i0 (Ne.symm hDC)]; exact hCn), fun x c e => ?_, fun p hp => ?_, hokB, ?_⟩
    · unfold F2 at e2
      rw [List.getElem?_map] at e2
      cases hcap : caps[i]? with
      | none => rw [hcap] at e2; cases e2
      | some o =>
        rw [hcap] at e2
        cases o with
        | none => cases e2
        | some j =>
          have hj : σ[j]? = some (some v) := by
            have e2' : (σ[j]?).join = some v := Option.some.inj e2
            cases q : σ[j]? with
            | none => rw [q] at e2'; cases e2'
            | some z => rw [q] at e2'; exact congrArg some e2'
          obtain ⟨n1, n2, n3, n4⟩ := cp.cap i j x hcap e1
          obtain ⟨m, hm, hl⟩ := I2.loc
          obtain ⟨u, r, q⟩ := hl j x v n1 hj n2
          rcases q with ⟨k, _⟩ | ⟨k, c, ec, z⟩
          · exact absurd k n3
          · obtain ⟨c', ec'⟩ := cp.has x n4
            have := cp.sub x c' ec'
            rw [ec] at this; cases this
            obtain ⟨oc, ho, hd⟩ := z
            exact ⟨u, r, .inr ⟨n4, c, ec', oc, old _ _ ho, hd⟩⟩
    · obtain ⟨v, oc, ho, hd⟩ := I2.cell x c (cp.sub x c e)
      exact ⟨v, oc, old _ _ ho, hd⟩
    · obtain ⟨v, oc, ho, hd⟩ := I2.cell x c (cp.sub x c e)
      rw [i0 (Nat.ne_of_lt (Heap.lt_size ho))]
      exact I2.freeC x c (cp.sub x c e)
    · have hp' : p ∈ X.pn ++ pins := by simpa using hp
      obtain ⟨e1, e2, e3, e4, e5⟩ := I2.pin p hp'
      exact ⟨old _ _ e1, by rw [i0 (Nat.ne_of_lt (Heap.lt_size e1))]; exact e2, P2 _ _ e1, stkN _ e3 e4, e5⟩
    · show (F2 caps σ).length = Nc.length
      unfold F2
      rw [List.length_map]; exact cp.len
  have stat : ∀ {H' : Hp}, (∀ b ∈ fp, H' b = none) → ∀ b ∈ fp, ab4 (X.block scope cl H3.objs.size Nc s2 H2 fp pins) [] H' b := fun hn b hb =>
    ⟨hn b hb, fpC b hb, stkN b (f2 b hb).2.1 (f2 b hb).2.2.1, .inl hb, fun x c h => (f2 b hb).2.2.2.2.1 x c (cp.sub x c h), fun p hp => (f2 b hb).2.2.2.2.2 p (by simpa using hp)⟩
  have loop : ∀ s5 : Shared, s5 = { s2 with heap := h4, toks := s2.toks + ([] : List (Str × Value)).length } →
      codeAny (model X.prog X.w) X.A (.compLoop (.ListComp elt [⟨tg, iter, [], 0⟩] scope pos) 0 (.ref it) (.ref s2.heap.objs.size) (compEnvC scope cl H3.objs.size X.env))
        (compPost (model X.prog X.w) X.A X.xe none (EP X pins σ Q) (.ref s2.heap.objs.size) H3.objs.size) s5 := by
    rintro s5 rfl
    refine ae4 (fun n s' => ∃ i σ' H', Inv (X.block scope cl H3.objs.size Nc s2 H2 fp pins) [] σ' H' s' ∧ tn i s'.heap ∧ (∀ b ∈ fp, H' b = none) ∧ W i n σ' H') ?_ m0 ⟨0, _, _, IB, T.keep _ _ _ st2 fun b hb o e => old b o e, fun b hb => by rw [i0 (fpD b hb)]; exact (f2 b hb).1, w0⟩
    rintro n s6 ⟨i, σ6, H6, I6, st6, fr6, w6⟩
    rcases turn i n σ6 H6 w6 with ⟨stop, qn⟩ | ⟨go, step⟩
    · refine thn (T.done (X.block scope cl H3.objs.size Nc s2 H2 fp pins) rfl rfl rfl hc i [] s6 σ6 H6 _ I6 (stat fr6) st6 stop) fun r s7 ⟨hr, I7⟩ => ?_
      subst hr
      obtain ⟨m7, hn7, _⟩ := id I7.loc
      exact ⟨m7, hn7, fun h' sb => ⟨.ref s2.heap.objs.size, H6, I2.sameC f2 I7.os I7.bare I7.base I7.hok hCs I7.free sb, rfl, qn⟩⟩
    · refine thn (T.item (X.block scope cl H3.objs.size Nc s2 H2 fp pins) rfl rfl rfl hc i [] s6 σ6 H6 _ I6 (stat fr6) st6 go) fun r s7 ⟨u, hr, h7⟩ => ?_
      subst hr
      refine thn h7 fun _ s8 ⟨x, H8, I8, r8, y8, st8, fr8⟩ => ?_
      have I8' := I8.pinned (stat fr8) (T.obj _ _ st8)
      refine thn (hg _ _ _ _ _ _ s8 σ6 H8 x u _ I8' r8 (step x H8 y8)) fun _ s9 ⟨σ9, H9, I9, q9⟩ => ?_
      refine thn (he _ _ _ _ _ _ s9 σ9 H9 _ I9 q9) fun u10 s10 ⟨v10, H10, I10, r10, ys, hys, hlen, m', hm', w'⟩ => ?_
      refine thn (O0 _ s10 σ9 H10 (.ref s2.heap.objs.size) [v10] (.ref s2.heap.objs.size) [u10] (fun _ H11 => H11 = upd H10 s2.heap.objs.size (.lst (ys ++ [v10]))) I10 rfl (.cons r10 .nil) ⟨_, ys, v10, rfl, rfl, hys, hlen, rfl⟩) fun _ s11 ⟨_, H11, I11, _, hH11⟩ => ?_
      subst hH11
      refine ⟨m', hm', i + 1, σ9, _, I11.unpinned, T.keep _ _ _ st8 fun b hb o e => (I11.pin (b, o) (List.mem_append_right _ (List.mem_append_right _ (t8 hb e)))).1, fun b hb => ?_, w'⟩
      obtain ⟨o, e, d⟩ := T.obj _ _ st8 b hb
      exact (I11.pin (b, o) (List.mem_append_right _ (List.mem_append_right _ (t8 hb e)))).2.1
  exact codeAny_compStart_list (loop _ rfl) (T.self _ 0 _ _ _ (T.keep _ _ _ st2 fun b hb o e => old b o e) (loop _ rfl))
end
open PySem PySem.Spec PyProof.Rows
def Q0 (scope osc : Scope) : List (Str × NameKind) := scope.names.map fun (n, k) => if (k == .free && osc.kind == .function && osc.names.lookup n == some .cell) then (n, .cell) else (n, k)
def aN7 (o : Option NameKind) : Bool := o == some .cell || o == some .free
def aV2 (scope osc : Scope) (N ks Nc : List Str) (caps : List (Option Nat)) : Bool :=
  ((Q0 scope osc).all fun y => !(y.2 == .cell || y.2 == .free) || ks.contains y.1) && (scope.names.all fun y => y.2 != .cell) && scope.kind == .function &&
  (scope.names.all fun y => y.2 != .local || scope.names.lookup y.1 == some .local) && caps.length == Nc.length &&
  ((caps.zip Nc).all fun p => match p.1 with
    | none => true
    | some j => N[j]? == some p.2 && aN7 (osc.names.lookup p.2) && aN7 ((Q0 scope osc).lookup p.2))
theorem ag2 {α β : Type} [BEq α] [LawfulBEq α] : ∀ {l : List (α × β)} {x : α} {v : β}, l.lookup x = some v → (x, v) ∈ l
  | [], _, _, h => by simp at h
  | (a, b) :: r, x, v, h => by
    rw [List.lookup_cons] at h
    split at h
    · rename_i e
      have := eq_of_beq e
      subst this
      cases h
      exact List.mem_cons_self
    · exact List.mem_cons_of_mem _ (ag2 h)
theorem P8 {β : Type} : ∀ {l : List (Str × β)} {x : Str}, x ∈ l.map (·.1) → ∃ c, l.lookup x = some c
  | [], _, h => by simp at h
  | (a, b) :: r, x, h => by
    rw [List.lookup_cons]
    by_cases e : x = a
    · subst e; exact ⟨b, by simp⟩
    · have : (x == a) = false := by simpa using e
      rw [this]
      rcases List.mem_cons.mp h with z | z
      · exact absurd z e
      · exact P8 z
theorem am7 {o : Option NameKind} (h : aN7 o = true) : o = some .cell ∨ o = some .free := by
  unfold aN7 at h
  simp only [Bool.or_eq_true, beq_iff_eq] at h
  exact h
theorem Q8.of {X : Cx} {scope osc : Scope} {cl : List (Str × Addr)} {N ks Nc : List Str} {caps : List (Option Nat)} (clos : closureFor scope X.env = pure cl) (hN : X.N = N) (hosc : X.env.scope = osc) (hks : cl.map (·.1) = ks)
    (sub : ∀ x c, cl.lookup x = some c → X.env.cells.lookup x = some c) (ok : aV2 scope osc N ks Nc caps = true) : Q8 X scope cl Nc caps := by
  unfold aV2 at ok
  simp only [Bool.and_eq_true, List.all_eq_true, beq_iff_eq, Bool.or_eq_true, Bool.not_eq_true', bne_iff_ne, ne_eq] at ok
  obtain ⟨⟨⟨⟨⟨o1, o2⟩, o3⟩, o4⟩, o5⟩, o6⟩ := ok
  have er : (relabel scope X.env).names = Q0 scope osc := by subst hosc; rfl
  have kof : ∀ x, X.env.kindOf x = osc.names.lookup x := fun x => by subst hosc; rfl
  refine ⟨clos, sub, fun x h => ?_, fun x hx => o2 x hx, o3, fun x hx hl => ?_, o5, fun i j x h1 h2 => ?_⟩
  · rw [er] at h
    refine P8 ?_
    rw [hks]
    have key : ∀ k, (Q0 scope osc).lookup x = some k → (k = .cell ∨ k = .free) → x ∈ ks := fun k hk hcf => by
      rcases o1 (x, k) (ag2 hk) with z | z
      · rcases hcf with rfl | rfl <;> simp at z
      · simpa using z
    rcases h with h | h
    · exact key _ h (.inl rfl)
    · exact key _ h (.inr rfl)
  · rcases o4 x hx with z | z
    · exact absurd hl z
    · exact z
  · have hm : (some j, x) ∈ caps.zip Nc := by
      have : (caps.zip Nc)[i]? = some (some j, x) := by
        rw [List.getElem?_zip_eq_some]; exact ⟨h1, h2⟩
      exact List.mem_of_getElem? this
    have z := o6 _ hm
    simp only [Bool.and_eq_true, beq_iff_eq] at z
    obtain ⟨⟨z1, z2⟩, z3⟩ := z
    have c2 := am7 z2
    have c3 := am7 z3
    refine ⟨by rw [hN]; exact z1, ?_, ?_, ?_⟩
    · rw [hosc]
      rcases c2 with c | c
      · exact .inr (.inl c)
      · exact .inr (.inr c)
    · rw [kof]
      rcases c2 with c | c <;> rw [c] <;> decide
    · rw [er]; exact c3
open PySem PySem.Spec PyProof.Rows
section
variable {X : Cx} {pins : List (Addr × Obj)} {σ : St} {H : Hp} {s : Shared}
theorem Inv.turnLaid {h' : Heap} {t' : Nat} {fp : List Addr} {a : Addr} {o : HO} (I : Inv X pins σ H s) (hf : ∀ b ∈ fp, ab4 X pins H b)
    (k : ∀ b u, b ∉ fp → s.heap.get? b = some u → h'.get? b = some u) (hp : s.heap.objs.size ≤ a) (new : F4 X.prog X.w (upd H a o) h' a o) : Inv X pins σ (upd H a o) { s with heap := h', toks := t' } := by
  have hn : H a = none := I.hok.fresh hp
  have nf : ∀ b u, H b = some u → b ∉ fp := fun b u e z => by rw [(hf b z).1] at e; cases e
  have ne : ∀ b u, s.heap.get? b = some u → b ≠ a := fun b u e => Nat.ne_of_lt (Nat.lt_of_lt_of_le (Heap.lt_size e) hp)
  refine I.step (g' := s.gens) (d' := s.drawn) (ch := fp) (fun b hb => ?_) (fun b o _ _ hc e _ => k b o hc e) (fun b o _ _ hc e _ => ⟨o.slots, k b o hc e⟩) (fun b o _ e n => by rw [i0 (ne b o e)]; exact n)
    (fun b o hc e => ⟨o, k b o hc e⟩) (fun b xs e => by rw [i0 (i6 e hn)]; exact e) (fun b o u e => by rw [i0 (i6 e hn)]; exact e) (fun b ps e => ⟨#[], by rw [i0 (i6 e hn), e]; simp⟩) (fun m hm => ?_) (fun b u e => ?_) I.bare
  · obtain ⟨_, f1, _, f3, f4, f5⟩ := hf b hb
    exact ⟨f3, f1, f4, f5⟩
  · obtain ⟨o, es, ep, ho, r⟩ := hm
    exact ⟨o, es, ep, k _ o (fun z => (hf _ z).2.1 rfl) ho, r⟩
  · by_cases hb : b = a
    · subst hb; rw [d5] at e; cases e; exact new
    · rw [i0 hb] at e
      refine (I.hok b u e).stay (fun c v hc q => k c v ?_ q) (fun c q => by rw [i0 (i6 q hn)]; exact q) fun c xs q => by rw [i0 (i6 q hn)]; exact q
      rcases hc with z | z
      · rw [z]; exact nf b u e
      · exact nf c _ z
end
def Ite (K : PySem.W.Frag) (a : Addr) : It :=
  ⟨fun i H => ∃ xs x, SqL K H a xs ∧ xs[i]? = some x, fun i H y H' => ∀ xs, SqL K H a xs → ∃ x p, xs[i]? = some x ∧ H p = none ∧ y = .ref p ∧ H' = upd H p (.tup [.int i, x]), fun i H => ∃ xs, SqL K H a xs ∧ xs.length ≤ i⟩
theorem aM3 {P : Program} {w : World} {K : PySem.W.Frag} {elts : List Expr} {k : Nat} {tpos : Pos} (a e it : Addr) (hei : e ≠ it) :
    aI8 P w K (.Tuple elts k tpos) (Ite K a) [e, it] e (fun i h => (∃ old, IsEnum h e it ((i : Nat) : Int) old) ∧ h.IsListIter it a i) where
  mem := by simp
  obj := fun i h st b hb => by
    obtain ⟨⟨old, he⟩, hit⟩ := st
    rcases (by simpa using hb : b = e ∨ b = it) with z | z
    · subst z
      exact ⟨_, he, fun v z => by cases z⟩
    · subst z
      obtain ⟨o, e, c, d⟩ := hit
      exact ⟨o, e, fun v z => by rw [d] at z; cases z⟩
  keep := fun i h h' st k => ⟨let ⟨old, he⟩ := st.1; ⟨old, k e (by simp) _ he⟩, st.2.at fun o e => k it (by simp) o e⟩
  item := by
    intro X hP hw hK hc i pins s σ H E I hf st hg
    subst hP hw hK
    obtain ⟨xs, x, hq, hx⟩ := hg
    obtain ⟨its, rv, p, hz⟩ := I.list hq
    obtain ⟨u, hu, ru⟩ := rv.get hx
    obtain ⟨⟨old, he⟩, hit⟩ := st
    have helt : e < s.heap.objs.size := Heap.lt_size he
    have hilt : it < s.heap.objs.size := by obtain ⟨_, x, _⟩ := id hit; exact Heap.lt_size x
    refine wpAny_pyNext_enum_item he hit p.isList (x := u) (by simpa using hu) hei fun h' ho hit' hT hsz kk => ?_
    refine ⟨_, rfl, ?_⟩
    refine wpAny_letOwnedTupleGo_enum (s := { s with heap := h', toks := s.toks + 1 }) ho fun h'' he' sb => ?_
    have hT' : h''.get? s.heap.objs.size = some { cls := .type "tuple", data := .seq #[.int i s.toks, u] } := (sb.2 _ (Nat.ne_of_gt helt)).trans hT
    refine ⟨.ref s.heap.objs.size, upd H s.heap.objs.size (.tup [.int i, x]), I.turnLaid (fp := [e, it]) (t' := s.toks + 1) hf (fun b v hb q => ?_) (Nat.le_refl _) ?_, rfl, ?_, ?_, fun b hb => ?_⟩
    · have h1 : b ≠ e := fun z => hb (by simp [z])
      have h2 : b ≠ it := fun z => hb (by simp [z])
      exact (sb.2 b h1).trans (kk b v h1 h2 q)
    · exact ⟨(show 2 ≤ sizeLine by decide +kernel), [.int i s.toks, u], .cons ⟨_, rfl⟩ (.cons ru .nil), _, hT', rfl, _, rfl⟩
    · intro ys hy
      rw [I.list_inj hy hq]
      exact ⟨x, _, hx, I.fresh, rfl, rfl⟩
    · refine ⟨⟨u, by have := he'; simpa using this⟩, hit'.at fun o q => (sb.2 it hei.symm).trans q⟩
    · have hlt : b < s.heap.objs.size := by
        rcases (by simpa using hb : b = e ∨ b = it) with z | z
        · rw [z]; exact helt
        · rw [z]; exact hilt
      rw [i0 (Nat.ne_of_lt hlt)]
      exact (hf b hb).1
  done := by
    intro X hP hw hK hc i pins s σ H E I hf st hg
    subst hP hw hK
    obtain ⟨xs, hq, hx⟩ := hg
    obtain ⟨its, rv, p, hz⟩ := I.list hq
    obtain ⟨⟨old, he⟩, hit⟩ := st
    obtain ⟨f0, f1, f2, f3, f4, f5⟩ := hf it (by simp)
    have hl := rv.length
    exact wpAny_pyNext_enum_end (I.ok.hd hc) he hit p.isList (by simp; omega) fun h' eb => ⟨rfl, I.turned (t' := s.toks) (fun b o hb e => eb b o hb e) f0 f1 f3 f4 f5⟩
  self := fun _ _ _ _ _ st h => by
    obtain ⟨⟨old, he⟩, _⟩ := st
    exact wpAny_pyIter_enum he h
section
variable {X : Cx}
def aT5 (K : PySem.W.Frag) (ta : TA) : TI := fun σ H R => ta σ H fun vs H1 => ∃ a, vs = [.ref a] ∧ (∃ xs, SqL K H1 a xs) ∧ R (Ite K a) H1
theorem aX4 {elts : List Expr} {k : Nat} {tpos : Pos} {l : Expr} {ta : TA} {p pos : Pos} (hg : Gl X "enumerate") (hm : X.mg "enumerate" = none) (ha : PA X [l] ta) (hs : starEach [l] X.env = [(false, eval l X.env)] := by rfl) :
    PI X (.Tuple elts k tpos) (.Call (.Name "enumerate" p) [l] [] pos) (aT5 X.K ta) := by
  intro pins s σ H R I h
  refine Call_ (Q9 I hg hm (u := .type "enumerate") (by decide +kernel) (PyProof.Rows.callWith_type1 (thn (ha pos pins s σ H _ I h) fun us s1 ⟨vs, H1, I1, r1, q1⟩ => ?_) hs rfl))
  obtain ⟨a, e, ⟨xs, hq⟩, q⟩ := q1
  subst e
  obtain ⟨u, rfl, rx⟩ := ak9 r1
  cases rx
  obtain ⟨its, rv, p, hz⟩ := I1.list hq
  refine call_enumerate_list p.isList fun h' he hit hsz kk => ?_
  refine wpAny_pyIter_enum he ?_
  have I2 : Inv X pins σ H1 { s1 with heap := h' } := I1.kept (t' := s1.toks) kk
  refine ⟨s1.heap.objs.size + 1, [s1.heap.objs.size + 1, s1.heap.objs.size], _, _, H1, rfl, I2, aM3 a _ _ (Nat.succ_ne_self _), ⟨⟨_, he⟩, hit⟩, fun b hb => ?_, q⟩
  have hb' : s1.heap.objs.size ≤ b := by
    rcases (by simpa using hb : b = s1.heap.objs.size + 1 ∨ b = s1.heap.objs.size) with z | z
    · rw [z]; exact Nat.le_succ _
    · rw [z]; exact Nat.le_refl _
  obtain ⟨f0, f1, f2, f3, f4, f5⟩ := I1.fpOk (H' := H1) hb' (I1.hok.fresh hb')
  exact ⟨f0, f1, f2, f3, f4, f5⟩
end
section
variable {prog : Program} {w : World} {A : Around} {R : Result → Shared → Prop} {s : Shared}
theorem aE7 {elt target iter c : Expr} {scope : Scope} {pos : Pos} {it acc : Value} {env : Env} (I : Nat → Shared → Prop)
    (turn : ∀ n s, I n s → wpAny (model prog w) A (pyNext it) (fun r s₁ => match r with
      | none => R (.ok .next) s₁
      | some v => wpAny (model prog w) A (letOwnedTupleGo target it v) (fun _ s₁' => wpAny (model prog w) A (assign target env v) (fun _ s₂ =>
          wpAny (model prog w) A (isTrue c env (eval c env)) (fun ok s₂' => if ok = true then wpAny (model prog w) A (eval elt env) (fun x s₃ =>
          wpAny (model prog w) A (call (.builtin "list.append") [acc, x]) (fun _ s₄ => ∃ m, m < n ∧ I m s₄) (fun _ _ => False) s₃)
          (fun _ _ => False) s₂' else ∃ m, m < n ∧ I m s₂') (fun _ _ => False) s₂) (fun _ _ => False) s₁') (fun _ _ => False) s₁) (fun _ _ => False) s)
    (n : Nat) (h : I n s) :
    codeAny (model prog w) A (.compLoop (.ListComp elt [⟨target, iter, [c], 0⟩] scope pos) 0 it acc env) R s := by
  refine codeAny_loop rfl I (fun n s hI => ?_) n h
  show wpAny _ _ ((compTurn (.ListComp elt [⟨target, iter, [c], 0⟩] scope pos) 0 it acc env).onRaise (fun x => do noteFrame x env; theTreesLotGoes x)) _ _ s
  refine wpAny_noted ?_
  rw [compTurn_list]
  have no : ∀ {P : Value → Shared → Prop} (e : Value) (s : Shared), False → P e s := fun _ _ h => h.elim
  refine wpAny_bind (wpAny_standAt (wpAny_bind (wpAny_mono (turn n s hI) (fun r s₁ h₁ => ?_) no)))
  cases r with
  | none => exact wpAny_pure h₁
  | some v =>
    refine wpAny_bind (wpAny_mono h₁ (fun _ s₁' h₁' => ?_) no)
    refine wpAny_bind (wpAny_mono h₁' (fun _ s₂ h₂ => ?_) no)
    refine wpAny_bind (wpAny_tests_one (wpAny_mono h₂ (fun ok s₂' h₂' => ?_) no))
    cases ok with
    | true =>
      rw [if_pos rfl] at h₂' ⊢
      exact wpAny_bind (wpAny_bind (wpAny_mono h₂' (fun x s₃ h₃ => wpAny_bind (wpAny_mono h₃ (fun _ s₄ h₄ => wpAny_pure (wpAny_pure ⟨rfl, h₄⟩)) no)) no))
    | false =>
      rw [if_neg (by decide)] at h₂' ⊢
      exact wpAny_pure ⟨rfl, h₂'⟩
end
def aJ1 (wi : TI) (caps : List (Option Nat)) (g : TG) (tt : TT) (te : TE) : TE := fun σ H Q => wi σ H fun J H1 => ∀ D, H1 D = none → ∃ W : Nat → Nat → St → Hp → Prop, (∃ m, W 0 m (F2 caps σ) (upd H1 D (.lst []))) ∧
  ∀ i m σc H2, W i m σc H2 → (J.stop i H2 ∧ Q (.ref D) H2) ∨
    (J.go i H2 ∧ ∀ x H3, J.yld i H2 x H3 → g x σc H3 fun σ4 H4 => tt σ4 H4 fun b H4' => if b = true then te σ4 H4' fun y H5 => ∃ ys, H5 D = some (.lst ys) ∧ ys.length < sizeLine ∧ ∃ m', m' < m ∧ W (i + 1) m' σ4 (upd H5 D (.lst (ys ++ [y])))
      else ∃ m', m' < m ∧ W (i + 1) m' σ4 H4')
open PySem PySem.Spec PyProof.Rows
section
variable {X : Cx}
theorem au0 (bs : List Bool) : (List.range bs.length).all (fun i => (bs[i]?).getD true) = bs.all id := by
  induction bs with
  | nil => rfl
  | cons b bs ih =>
    rw [List.length_cons, ad2, List.all_cons, ← ih]
    rfl
theorem as0 (hc : X.calm = true) : aa3 X (.builtin "all") (fun xs H Q => ∃ (p : Addr) (bs : List Bool), xs = [.ref p] ∧ SqL X.K H p (bs.map V.bl) ∧ Q (.bl (bs.all id)) H) := by
  intro pins s σ H xs us Q I r h
  obtain ⟨p, bs, rfl, hq, q⟩ := h
  obtain ⟨u, rfl, rx⟩ := ak9 r
  cases rx
  obtain ⟨its, r', pl, hz⟩ := I.list hq
  have hlen : its.length = bs.length := by rw [← r'.length, List.length_map]
  have hp : p ≠ s.heap.objs.size := by
    obtain ⟨o, ho, _⟩ := pl.isList
    exact Nat.ne_of_lt (Heap.lt_size ho)
  refine call_all_walk (wpAny_pyIter_list pl.isList ?_)
  refine ⟨s.heap.objs.size, _, _, _, _, _, fun i => (bs[i]?).getD true, rfl, Walks.list (A := X.A.in1) (I.ok.hd hc) _ p hp its.toArray, ⟨⟨_, Heap.get?_push_size _ rfl, rfl, rfl⟩, pl.isList.at fun o e => Heap.get?_push_of_some _ e⟩, ?_, ?_⟩
  · intro i v s' Q' E' hv hQ
    have hv' : its[i]? = some v := by simpa using hv
    have hi : i < bs.length := by rw [← hlen]; exact (List.getElem?_eq_some_iff.mp hv').1
    obtain ⟨u, hu, ru⟩ := r'.get (i := i) (x := .bl bs[i]) (by rw [List.getElem?_map, List.getElem?_eq_getElem hi]; rfl)
    rw [hv'] at hu
    cases hu
    cases ru
    simp only [List.getElem?_eq_getElem hi] at hQ
    exact wpAny_truthy_bool hQ
  · intro h' tk kk
    have e : (List.range its.toArray.size).all (fun i => (bs[i]?).getD true) = bs.all id := by rw [List.size_toArray, hlen, au0]
    rw [e]
    refine ⟨.bl _, H, I.kept (t' := tk) fun b o e => kk b o ?_ (Heap.get?_push_of_some _ e), rfl, q⟩
    intro z
    have : b = s.heap.objs.size := by simpa using z
    exact absurd (Heap.lt_size e) (by rw [this]; exact Nat.lt_irrefl _)
def bg2 (K : PySem.W.Frag) : R2 := fun x y H Q => ∃ d d', d.isV = false ∧ IsD K H x d ∧ IsD K H y d' ∧ okD d d' = true ∧ dpD d ≤ 60 ∧ Q (.bl (!eqD d d')) H
theorem W0 (hu : X.A.units + 64 < cLine) : OpR X (compareOp .NotEq) (bg2 X.K) := by
  intro pins s σ H x y v u Q I rx ry h
  obtain ⟨d, d', nf, h1, h2, ok, dp, q⟩ := h
  have fin : EP X pins σ Q (.bool (!eqD d d')) s := ⟨.bl _, H, I, rfl, q⟩
  cases h1 with
  | v f =>
    cases h2 with
    | v f' => exact absurd (show true = false from nf) (by decide)
    | tup _ _ => simp [okD] at ok
    | lst _ _ => simp [okD] at ok
  | @tup p xs ds h t =>
    cases h2 with
    | v f' => simp [okD] at ok
    | @tup p' ys ds' h' t' =>
      cases (show v = Value.ref p from rx)
      cases (show u = Value.ref p' from ry)
      rw [okD] at ok
      rw [dpD] at dp
      rw [eqD] at fin
      obtain ⟨its, r1, i1, _⟩ := I.tuple h
      obtain ⟨its', r2, i2, _⟩ := I.tuple h'
      have q' : ∀ (j : Nat) (h1 : j < its.length) (h2 : j < its'.length), SeqAt.EqAt X.A.in1 s its[j] its'[j] (ac9 ds ds' j) := fun j h1 h2 => ab1 (A := X.A.in1) I t t' ok r1 r2 (by show X.A.units + 1 + _ < _; omega) j h1 h2
      have z := SeqAt.RcNeAt.tuples (A := X.A) (items := its.toArray) (items2 := its'.toArray) (e := ac9 ds ds') i1 i2 (by omega) (fun j h1 h2 => q' j (by simpa using h1) (by simpa using h2))
      have e1 : its.toArray.size = ds.length := by rw [List.size_toArray, ← r1.length, t.length]
      have e2 : its'.toArray.size = ds'.length := by rw [List.size_toArray, ← r2.length, t'.length]
      rw [e1, e2, ae6] at z
      exact PySem.EqBoolInt.of_rcne z fin
    | lst _ _ => simp [okD] at ok
  | @lst p xs ds h t =>
    cases h2 with
    | v f' => simp [okD] at ok
    | tup _ _ => simp [okD] at ok
    | @lst p' ys ds' h' t' =>
      cases (show v = Value.ref p from rx)
      cases (show u = Value.ref p' from ry)
      rw [okD] at ok
      rw [dpD] at dp
      rw [eqD] at fin
      obtain ⟨its, r1, i1, _⟩ := I.list h
      obtain ⟨its', r2, i2, _⟩ := I.list h'
      have q' : ∀ (j : Nat) (h1 : j < its.length) (h2 : j < its'.length), SeqAt.EqAt X.A.in1 s its[j] its'[j] (ac9 ds ds' j) := fun j h1 h2 => ab1 (A := X.A.in1) I t t' ok r1 r2 (by show X.A.units + 1 + _ < _; omega) j h1 h2
      have e1 : its.toArray.size = ds.length := by rw [List.size_toArray, ← r1.length, t.length]
      have e2 : its'.toArray.size = ds'.length := by rw [List.size_toArray, ← r2.length, t'.length]
      by_cases hl : ds.length = ds'.length
      · have z := SeqAt.RcNeAt.lists (A := X.A) (items := its.toArray) (items2 := its'.toArray) (e := ac9 ds ds') i1.isList i2.isList (by rw [e1, e2, hl]) (by omega) (fun j h1 h2 => q' j (by simpa using h1) (by simpa using h2))
        rw [e1, af6 ds ds' hl] at z
        exact PySem.EqBoolInt.of_rcne z fin
      · rw [ar3 ds ds' hl] at fin
        exact PySem.EqBoolInt.of_rcne (SeqAt.RcNeAt.lists_lengths (A := X.A) i1.isList i2.isList (by rw [e1, e2]; simpa using hl) (by omega)) fin
end
def v7 (D : Addr) (n : Nat) (Pv : Nat → St → Hp → Prop) (i : Nat) (σ4 : St) (y : V) (H5 : Hp) : Prop :=
  ∃ ys, H5 D = some (.lst ys) ∧ ys.length < sizeLine ∧ ∃ m', m' < n - i ∧ (m' = n - (i + 1) ∧ i + 1 ≤ n ∧ Pv (i + 1) σ4 (upd H5 D (.lst (ys ++ [y]))))
theorem v7.mk {D : Addr} {n : Nat} {Pv : Nat → St → Hp → Prop} {i : Nat} {σ4 : St} {y : V} {H5 : Hp} {ys : List V} (hi : i < n) (h : H5 D = some (.lst ys)) (hl : ys.length < sizeLine) (p : Pv (i + 1) σ4 (upd H5 D (.lst (ys ++ [y])))) : v7 D n Pv i σ4 y H5 :=
  ⟨ys, h, hl, _, by omega, rfl, hi, p⟩
def aL7 (n : Nat) (Pv : Nat → St → Hp → Prop) (i : Nat) (σ4 : St) (H5 : Hp) : Prop := ∃ m', m' < n - i ∧ (m' = n - (i + 1) ∧ i + 1 ≤ n ∧ Pv (i + 1) σ4 H5)
theorem aL7.mk {n : Nat} {Pv : Nat → St → Hp → Prop} {i : Nat} {σ4 : St} {H5 : Hp} (hi : i < n) (p : Pv (i + 1) σ4 H5) : aL7 n Pv i σ4 H5 := ⟨_, by omega, rfl, hi, p⟩
section
variable {K : PySem.W.Frag} {a D : Addr} {xs : List V} {g : TG} {te : TE} {σ0 : St} {H0 : Hp} {Q : VK}
theorem aO3 (Pv : Nat → St → Hp → Prop) (h0 : Pv 0 σ0 H0) (hl : ∀ i σ H, i ≤ xs.length → Pv i σ H → SqL K H a xs)
    (hs : ∀ i x σ H, xs[i]? = some x → Pv i σ H → g x σ H fun σ4 H4 => te σ4 H4 fun y H5 => v7 D xs.length Pv i σ4 y H5) (hd : ∀ σ H, Pv xs.length σ H → Q (.ref D) H) :
    ∃ W : Nat → Nat → St → Hp → Prop, (∃ m, W 0 m σ0 H0) ∧ ∀ i m σc H2, W i m σc H2 → ((Itl K a).stop i H2 ∧ Q (.ref D) H2) ∨
      ((Itl K a).go i H2 ∧ ∀ x H3, (Itl K a).yld i H2 x H3 → g x σc H3 fun σ4 H4 => te σ4 H4 fun y H5 => ∃ ys, H5 D = some (.lst ys) ∧ ys.length < sizeLine ∧ ∃ m', m' < m ∧ W (i + 1) m' σ4 (upd H5 D (.lst (ys ++ [y])))) := by
  refine ⟨fun i m σ H => m = xs.length - i ∧ i ≤ xs.length ∧ Pv i σ H, ⟨xs.length, by simp, Nat.zero_le _, h0⟩, ?_⟩
  rintro i m σ H ⟨rfl, hi, p⟩
  have q := hl i σ H hi p
  by_cases hlt : i < xs.length
  · refine .inr ⟨⟨xs, xs[i], q, List.getElem?_eq_getElem hlt⟩, ?_⟩
    rintro x H3 ⟨rfl, hx⟩
    exact hs i x σ _ (hx xs q) p
  · have e : i = xs.length := by omega
    subst e
    exact .inl ⟨⟨xs, q, Nat.le_refl _⟩, hd σ H p⟩
theorem aV1 (Pv : Nat → St → Hp → Prop) (h0 : Pv 0 σ0 H0) (hl : ∀ i σ H, i ≤ xs.length → Pv i σ H → SqT K H a xs)
    (hs : ∀ i x σ H, xs[i]? = some x → Pv i σ H → g x σ H fun σ4 H4 => te σ4 H4 fun y H5 => v7 D xs.length Pv i σ4 y H5) (hd : ∀ σ H, Pv xs.length σ H → Q (.ref D) H) :
    ∃ W : Nat → Nat → St → Hp → Prop, (∃ m, W 0 m σ0 H0) ∧ ∀ i m σc H2, W i m σc H2 → ((Itt K a).stop i H2 ∧ Q (.ref D) H2) ∨
      ((Itt K a).go i H2 ∧ ∀ x H3, (Itt K a).yld i H2 x H3 → g x σc H3 fun σ4 H4 => te σ4 H4 fun y H5 => ∃ ys, H5 D = some (.lst ys) ∧ ys.length < sizeLine ∧ ∃ m', m' < m ∧ W (i + 1) m' σ4 (upd H5 D (.lst (ys ++ [y])))) := by
  refine ⟨fun i m σ H => m = xs.length - i ∧ i ≤ xs.length ∧ Pv i σ H, ⟨xs.length, by simp, Nat.zero_le _, h0⟩, ?_⟩
  rintro i m σ H ⟨rfl, hi, p⟩
  have q := hl i σ H hi p
  by_cases hlt : i < xs.length
  · refine .inr ⟨⟨xs, xs[i], q, List.getElem?_eq_getElem hlt⟩, ?_⟩
    rintro x H3 ⟨rfl, hx⟩
    exact hs i x σ _ (hx xs q) p
  · have e : i = xs.length := by omega
    subst e
    exact .inl ⟨⟨xs, q, Nat.le_refl _⟩, hd σ H p⟩
theorem aI4 {lo : Int} {n : Nat} (Pv : Nat → St → Hp → Prop) (h0 : Pv 0 σ0 H0)
    (hs : ∀ i σ H, i < n → Pv i σ H → g (.int (lo + i)) σ H fun σ4 H4 => te σ4 H4 fun y H5 => v7 D n Pv i σ4 y H5) (hd : ∀ σ H, Pv n σ H → Q (.ref D) H) :
    ∃ W : Nat → Nat → St → Hp → Prop, (∃ m, W 0 m σ0 H0) ∧ ∀ i m σc H2, W i m σc H2 → ((Itr lo n).stop i H2 ∧ Q (.ref D) H2) ∨
      ((Itr lo n).go i H2 ∧ ∀ x H3, (Itr lo n).yld i H2 x H3 → g x σc H3 fun σ4 H4 => te σ4 H4 fun y H5 => ∃ ys, H5 D = some (.lst ys) ∧ ys.length < sizeLine ∧ ∃ m', m' < m ∧ W (i + 1) m' σ4 (upd H5 D (.lst (ys ++ [y])))) := by
  refine ⟨fun i m σ H => m = n - i ∧ i ≤ n ∧ Pv i σ H, ⟨n, by simp, Nat.zero_le _, h0⟩, ?_⟩
  rintro i m σ H ⟨rfl, hi, p⟩
  by_cases hlt : i < n
  · refine .inr ⟨hlt, ?_⟩
    rintro x H3 ⟨rfl, rfl⟩
    exact hs i σ _ hlt p
  · have e : i = n := by omega
    subst e
    exact .inl ⟨Nat.le_refl _, hd σ H p⟩
end
end L2
namespace R
theorem aq3 {n d : Int} (hd : 0 < d) (hc : Int.gcd n d = 1) : (Rat.divInt n d).num = n ∧ ((Rat.divInt n d).den : Int) = d := by
  obtain ⟨k, rfl⟩ : ∃ k : Nat, d = k := ⟨d.toNat, by omega⟩
  have hk : k ≠ 0 := by omega
  have hc' : n.natAbs.Coprime k := by
    rw [Int.gcd_eq_natAbs_gcd_natAbs] at hc
    simpa [Nat.Coprime] using hc
  have e : (⟨n, k, hk, hc'⟩ : Rat) = Rat.divInt n k := Rat.mk_eq_divInt
  rw [← e]
  exact ⟨rfl, rfl⟩
theorem ai0 {n d t b : Int} (hd : 0 < d) (hc : Int.gcd n d = 1) (hb : b ≠ 0) (h : n * b = t * d) : n = (Rat.divInt t b).num ∧ d = ((Rat.divInt t b).den : Int) := by
  have e : Rat.divInt n d = Rat.divInt t b := (Rat.divInt_eq_divInt_iff (by omega) hb).mpr h
  obtain ⟨h1, h2⟩ := aq3 hd hc
  rw [e] at h1 h2
  exact ⟨h1.symm, h2.symm⟩
theorem w8 {g n : Int} (hg : g ≠ 0) : (g * n).fdiv g = n := by
  rw [Int.mul_comm]; exact Int.mul_fdiv_cancel n hg
theorem ab0 {t b : Int} (hb : b ≠ 0) : 0 < Int.gcd t b := Int.gcd_pos_of_ne_zero_right t hb
theorem at8 {t b n d : Int} (hb : b ≠ 0) (h1 : t = (Int.gcd t b : Int) * n) (h2 : b = (Int.gcd t b : Int) * d) : Int.gcd n d = 1 := by
  have hg := ab0 (t := t) hb
  have e : Int.gcd ((Int.gcd t b : Int) * n) ((Int.gcd t b : Int) * d) = Int.gcd t b * Int.gcd n d := by
    rw [Int.gcd_mul_left]; simp
  rw [← h1, ← h2] at e
  exact Nat.eq_of_mul_eq_mul_left hg (by rw [← e, Nat.mul_one])
theorem ak1 {t b g : Int} (hb : b ≠ 0) (hg : g = if b < 0 then -(Int.gcd t b : Int) else (Int.gcd t b : Int)) : t.fdiv g = (Rat.divInt t b).num ∧ b.fdiv g = ((Rat.divInt t b).den : Int) := by
  have hp : (0 : Int) < Int.gcd t b := by have := ab0 (t := t) hb; omega
  obtain ⟨n, hn⟩ := Int.gcd_dvd_left t b
  obtain ⟨d, hd⟩ := Int.gcd_dvd_right t b
  have hc := at8 hb hn hd
  by_cases hs : b < 0
  · rw [if_pos hs] at hg
    subst hg
    have hg0 : (-(Int.gcd t b : Int)) ≠ 0 := by omega
    have e1 : t = -(Int.gcd t b : Int) * (-n) := by rw [Int.neg_mul_neg]; exact hn
    have e2 : b = -(Int.gcd t b : Int) * (-d) := by rw [Int.neg_mul_neg]; exact hd
    have f1 : t.fdiv (-(Int.gcd t b : Int)) = -n := by conv => lhs; arg 1; rw [e1]
                                                       exact w8 hg0
    have f2 : b.fdiv (-(Int.gcd t b : Int)) = -d := by conv => lhs; arg 1; rw [e2]
                                                       exact w8 hg0
    rw [f1, f2]
    have hd0 : 0 < -d := by
      rcases Int.lt_or_le d 0 with z | z
      · omega
      · have := Int.mul_nonneg (Int.le_of_lt hp) z; omega
    refine ai0 hd0 (by rw [Int.gcd_neg, Int.neg_gcd]; exact hc) hb ?_
    conv => lhs; rw [hd]
    conv => rhs; rw [hn]
    generalize (Int.gcd t b : Int) = g
    grind
  · rw [if_neg hs] at hg
    subst hg
    have hg0 : ((Int.gcd t b : Int)) ≠ 0 := by omega
    have f1 : t.fdiv (Int.gcd t b : Int) = n := by conv => lhs; arg 1; rw [hn]
                                                   exact w8 hg0
    have f2 : b.fdiv (Int.gcd t b : Int) = d := by conv => lhs; arg 1; rw [hd]
                                                   exact w8 hg0
    rw [f1, f2]
    have hd0 : 0 < d := by
      rcases Int.lt_or_le 0 d with z | z
      · exact z
      · have := Int.mul_nonneg (Int.le_of_lt hp) (show 0 ≤ -d by omega); rw [Int.mul_neg] at this; omega
    refine ai0 hd0 hc hb ?_
    conv => lhs; rw [hd]
    conv => rhs; rw [hn]
    generalize (Int.gcd t b : Int) = g
    grind
theorem B8 (q : Rat) : (0 : Int) < q.den := by have := q.den_nz; omega
theorem aF9 (p q : Rat) : p - q = Rat.divInt (p.num * q.den - q.num * p.den) (p.den * q.den) := by
  have h1 := B8 p
  have h2 := B8 q
  conv => lhs; rw [← Rat.num_divInt_den p, ← Rat.num_divInt_den q]
  exact Rat.divInt_sub_divInt _ _ (by omega) (by omega)
theorem aq5 (p q : Rat) : p * q = Rat.divInt (p.num * q.num) (p.den * q.den) := by
  conv => lhs; rw [← Rat.num_divInt_den p, ← Rat.num_divInt_den q]
  exact Rat.divInt_mul_divInt _ _
theorem aI2 (p q : Rat) : p / q = Rat.divInt (p.num * q.den) (p.den * q.num) := by
  rw [Rat.div_def, Rat.inv_def]
  conv => lhs; lhs; rw [← Rat.num_divInt_den p]
  exact Rat.divInt_mul_divInt _ _
theorem aE3 (a b : Int) : Int.gcd b (a.fmod b) = Int.gcd a b := by
  have e := Int.mul_fdiv_add_fmod a b
  rw [Int.gcd_comm a b]
  conv => rhs; rw [← e]
  rw [show b * a.fdiv b + a.fmod b = a.fmod b + a.fdiv b * b by rw [Int.mul_comm, Int.add_comm]]
  simp
theorem ac7 (a : Int) {b : Int} (hb : b ≠ 0) : (a.fmod b).natAbs < b.natAbs := by
  rcases Int.lt_or_le b 0 with h | h
  · have e := Int.neg_fmod_neg a b
    have h1 := Int.fmod_nonneg_of_pos (-a) (show 0 < -b by omega)
    have h2 := Int.fmod_lt_of_pos (-a) (show 0 < -b by omega)
    omega
  · have h1 := Int.fmod_nonneg_of_pos a (show 0 < b by omega)
    have h2 := Int.fmod_lt_of_pos a (show 0 < b by omega)
    omega
open PySem L2 PyProof.Rows
section
variable {P : Program} {w : World} {K : PySem.W.Frag} {mg : Str → Option Value} {base : Heap}
theorem P5 {a : Int} {m : Nat} (h : a.natAbs < 2 ^ m) : Builtin.Int.intBits a ≤ m := by
  unfold Builtin.Int.intBits
  split
  · exact Nat.zero_le _
  · rename_i hz
    have h0 : a.natAbs ≠ 0 := by
      intro z
      have : a = 0 := by omega
      simp [this] at hz
    have := (Nat.log2_lt h0).mpr h
    omega
theorem Y4 {a b : Int} {m n : Nat} (ha : a.natAbs < 2 ^ m) (hb : b.natAbs < 2 ^ n) (h : m + n ≤ 134217728 := by decide) : IntMulOk a b := IntMulOk.of_le (P5 ha) (P5 hb) h
theorem af5 {j : Int} (h0 : j ≠ 0) (h : j.natAbs < 2 ^ 9000) : as4 i j := ⟨h0, (Nat.log2_lt (by omega)).mpr h⟩
theorem t9 {m n : Nat} (h : m ≤ n) : 2 ^ m ≤ 2 ^ n := Nat.pow_le_pow_right (by decide) h
theorem Y9 {a : Nat} {m n : Nat} (h : a < 2 ^ m) (hm : m ≤ n := by decide) : a < 2 ^ n := Nat.lt_of_lt_of_le h (t9 hm)
def F0 (q : Rat) : List V := [.int q.num, .int (q.den : Int)]
structure Bd (q : Rat) : Prop where
  n : q.num.natAbs < 2 ^ 3000
  d : q.den < 2 ^ 3000
def Num (K : PySem.W.Frag) (H : Hp) (v : V) (q : Rat) : Prop := ∃ p, v = .ref p ∧ SqT K H p (F0 q)
def aB3 (H : Hp) (Q : VK) (q : Rat) : Prop := ∀ r H', d7 H H' → H' r = some (.tup (F0 q)) → Q (.ref r) H'
theorem J4 : (2 : Nat) ≤ sizeLine := by decide
theorem aQ1 : (1 : Nat) ≤ sizeLine := by decide
theorem aH9 {a b : Int} {n : Nat} (hb : b ≠ 0) (h : b.natAbs < n) : ((Int.gcd a b : Nat) : Int).natAbs < n := by
  have h1 : Int.gcd a b ∣ b.natAbs := by
    have := Int.natAbs_dvd_natAbs.mpr (Int.gcd_dvd_right a b)
    simpa using this
  have h2 := Nat.le_of_dvd (by omega) h1
  simp only [Int.natAbs_natCast]
  omega
theorem aK5 {a g : Int} (hg : 0 < g) (hd : g ∣ a) : (a.fdiv g).natAbs ≤ a.natAbs := by
  obtain ⟨n, rfl⟩ := hd
  rw [w8 (by omega), Int.natAbs_mul]
  exact Nat.le_mul_of_pos_left _ (by omega)
theorem aS3 {q : Rat} : q.num = 0 ↔ q = 0 := by
  constructor
  · intro h; exact Rat.num_eq_zero.mp h
  · intro h; rw [h]; rfl
theorem at0 (q : Rat) : atI (F0 q) 0 = some (.int q.num) := rfl
theorem at1 (q : Rat) : atI (F0 q) 1 = some (.int (q.den : Int)) := rfl
theorem bd5 {a b : Int} (h : a.natAbs < 2 ^ 64) : IntMulOk a b := IntMulOk.of_left (P5 h)
theorem aD6 {a b : Int} (h : b.natAbs < 2 ^ 64) : IntMulOk a b := IntMulOk.of_right (P5 h)
def ao7 : Sp := fun vs H Q _ => ∃ t b : Int, vs = [.int t, .int b] ∧ b ≠ 0 ∧ b.natAbs < 2 ^ 6000 ∧ aB3 H Q (Rat.divInt t b)
def p7 (H : Hp) (u : Addr) : Prop := ∃ g m p : Int, H u = some (.lst [.int g, .int m, .int p]) ∧ 0 ≤ g ∧ 0 ≤ m ∧ m < 2 ^ 40 ∧ 0 < p ∧ p < 2 ^ 40
def j8 (u : Addr) (H H' : Hp) : Prop := ∀ b o, H b = some o → b ≠ u → H' b = some o
theorem d7.x {H H' : Hp} (s : d7 H H') (u : Addr) : j8 u H H' := fun b o h _ => s b o h
theorem j8.trans {u : Addr} {H H1 H2 : Hp} (a : j8 u H H1) (b : j8 u H1 H2) : j8 u H H2 := fun c o h n => b c o (a c o h n) n
theorem j8.upd (u : Addr) (H : Hp) (o : HO) : j8 u H (upd H u o) := fun b p h n => by rw [i0 n]; exact h
theorem d7.urn {H H' : Hp} {u : Addr} (s : d7 H H') (h : p7 H u) : p7 H' u := let ⟨g, m, p, h1, r⟩ := h; ⟨g, m, p, s _ _ h1, r⟩
def ba1 (K : PySem.W.Frag) : Sp := fun vs H Q _ => ∃ (a : Addr) (ns : List Int) (k : Int), vs = [.ref a, .int k] ∧ SqL K H a (ns.map V.int) ∧ 0 ≤ k ∧ k < 64 ∧ ∀ r H', d7 H H' → H r = none → p7 H' r → Q (.ref r) H'
def bc7 : List V := [.int 1899999979, .int 1899998977, .int 1899997949, .int 1899996929, .int 1899995927, .int 1899994903, .int 1899993877, .int 1899992839]
theorem aQ9 {k : Int} (h0 : 0 ≤ k) : ∃ p : Int, atI bc7 (k.fmod 8) = some (.int p) ∧ 1899992839 ≤ p ∧ p ≤ 1899999979 := by
  have h1 := Int.fmod_nonneg_of_pos k (show (0 : Int) < 8 by decide)
  have h2 := Int.fmod_lt_of_pos k (show (0 : Int) < 8 by decide)
  have h3 : k.fmod 8 = 0 ∨ k.fmod 8 = 1 ∨ k.fmod 8 = 2 ∨ k.fmod 8 = 3 ∨ k.fmod 8 = 4 ∨ k.fmod 8 = 5 ∨ k.fmod 8 = 6 ∨ k.fmod 8 = 7 := by omega
  rcases h3 with h | h | h | h | h | h | h | h <;> rw [h] <;> exact ⟨_, rfl, by decide, by decide⟩
theorem aO8 {ns : List Int} {k : Int} (h0 : 0 ≤ k) (h : k < (ns.length : Int)) : ∃ v : Int, atI (ns.map V.int) k = some (.int v) := by
  have hk : k.toNat < ns.length := by omega
  have ek : k = ((k.toNat : Nat) : Int) := by omega
  have q : atI (ns.map V.int) ((k.toNat : Nat) : Int) = some (.int ns[k.toNat]) := u0 (by rw [List.getElem?_map, List.getElem?_eq_getElem hk] <;> rfl)
  rw [← ek] at q
  exact ⟨_, q⟩
def B4 : Sp := fun vs H Q _ => ∃ (u : Addr) (n : Int), vs = [.ref u, .int n] ∧ p7 H u ∧ 0 < n ∧ n < 2 ^ 40 ∧ ∀ r H', 0 ≤ r → r < n → j8 u H H' → p7 H' u → Q (.int r) H'
structure Sm (q : Rat) : Prop where
  n : q.num.natAbs ≤ 10 ^ 12
  d : q.den ≤ 10 ^ 12
theorem aa1 {t b : Int} (hb : b ≠ 0) : (Rat.divInt t b).num.natAbs ≤ t.natAbs ∧ (Rat.divInt t b).den ≤ b.natAbs := by
  have hp := ab0 (t := t) hb
  obtain ⟨e1, e2⟩ := ak1 (t := t) (b := b) (g := if b < 0 then -(Int.gcd t b : Int) else (Int.gcd t b : Int)) hb rfl
  have key : ∀ x : Int, (Int.gcd t b : Int) ∣ x → (x.fdiv (if b < 0 then -(Int.gcd t b : Int) else (Int.gcd t b : Int))).natAbs ≤ x.natAbs := by
    rintro x ⟨n, hn⟩
    split
    · have : x = -(Int.gcd t b : Int) * (-n) := by rw [Int.neg_mul_neg]; exact hn
      rw [this, w8 (by omega), Int.natAbs_mul]
      exact Nat.le_mul_of_pos_left _ (by omega)
    · rw [hn, w8 (by omega), Int.natAbs_mul]
      exact Nat.le_mul_of_pos_left _ (by omega)
  have k1 := key t (Int.gcd_dvd_left t b)
  have k2 := key b (Int.gcd_dvd_right t b)
  rw [e1] at k1
  rw [e2] at k2
  exact ⟨k1, by omega⟩
theorem bf9 {t b : Int} (hb : b ≠ 0) (h1 : t.natAbs ≤ 10 ^ 12) (h2 : b.natAbs ≤ 10 ^ 12) : Sm (Rat.divInt t b) := by
  obtain ⟨e1, e2⟩ := aa1 (t := t) hb
  exact ⟨by omega, by omega⟩
def aG0 : Sp := fun vs H Q _ => ∃ u, vs = [.ref u] ∧ p7 H u ∧ ∀ r H', r = 0 ∨ r = 1 ∨ r = 2 → j8 u H H' → p7 H' u → Q (.int r) H'
theorem E8 {H : Hp} {u l : Addr} (hu : p7 H u) (hl : H l = none) : l ≠ u := by
  obtain ⟨g, m, p, h, r⟩ := hu
  exact (i6 h hl).symm
theorem P6 {H : Hp} {u l : Addr} {o : HO} (hu : p7 H u) (hl : H l = none) : p7 (upd H l o) u := by
  obtain ⟨g, m, p, h, r⟩ := hu
  exact ⟨g, m, p, by rw [i0 (i6 h hl)]; exact h, r⟩
def spNumber : Sp := fun vs H Q _ => ∃ u kd, vs = [.ref u, .int kd] ∧ p7 H u ∧ ∀ r q H', Sm q → j8 u H H' → p7 H' u → H' r = some (.tup (F0 q)) → Q (.ref r) H'
def ag5 : Sp := fun vs H Q _ => ∃ i : Int, vs = [.int i] ∧ Q (.bl true) H
theorem aE0 : PySem.W.kitOne K (.type "int") (.type "int") = some true := by unfold PySem.W.kitOne; rw [if_pos (by decide)]
theorem az9 : PySem.W.kitOne K (.type "int") (.type "bool") = some false := by kernel_rfl
theorem aD9 : PySem.W.kitOne K (.type "tuple") (.type "tuple") = some true := by unfold PySem.W.kitOne; rw [if_pos (by decide)]
def Q6 (q : Rat) : D := .tup [.v (.int q.num), .v (.int (q.den : Int))]
theorem ae0 {H : Hp} {a : Addr} {q : Rat} (h : SqT K H a (F0 q)) : IsD K H (.ref a) (Q6 q) := .tup h (.cons (.v rfl) (.cons (.v rfl) .nil))
theorem aA5 (q : Rat) : eqD (Q6 q) (Q6 q) = true := by simp [Q6, eqD, L8, eqV]
theorem az7 (p q : Rat) : okD (Q6 p) (Q6 q) = true := by simp [Q6, okD, Y2]
theorem aU8 (q : Rat) : dpD (Q6 q) ≤ 60 := by simp [Q6, dpD, ad0]
def am3 (K : PySem.W.Frag) : Sp := fun vs H Q _ => ∃ x q, vs = [x] ∧ (∃ p, x = .ref p ∧ SqT K H p (F0 q)) ∧ (q.den : Int).natAbs < 2 ^ 6000 ∧ ∀ H', d7 H H' → Q (.bl true) H'
end
open PySem L2 PyProof.Rows
inductive K6 (H : Hp) : List V → List Rat → Prop where
  | nil : K6 H [] []
  | cons {p : Addr} {q : Rat} {vs : List V} {qs : List Rat} (h : H p = some (.tup (F0 q))) (t : K6 H vs qs) : K6 H (.ref p :: vs) (q :: qs)
def af0 (H H' : Hp) : Prop := ∀ b xs, H b = some (.tup xs) → H' b = some (.tup xs)
theorem _root_.L2.d7.tups {H H' : Hp} (s : d7 H H') : af0 H H' := fun b xs h => s b _ h
theorem j8.tups {u : Addr} {H H' : Hp} (s : j8 u H H') (hu : p7 H u) : af0 H H' := fun b xs h => by
  obtain ⟨g, m, p, e, _⟩ := hu
  exact s b _ h (ba3 h e (by intro z; cases z))
theorem af0.lst {H : Hp} {a : Addr} {xs : List V} {o : HO} (h : H a = some (.lst xs)) : af0 H (upd H a o) := fun b ys e => by
  rw [i0 (ba3 e h (by intro z; cases z))]; exact e
theorem K6.mono {H H' : Hp} (e : af0 H H') : ∀ {vs : List V} {qs : List Rat}, K6 H vs qs → K6 H' vs qs
  | _, _, .nil => .nil
  | _, _, .cons h t => .cons (e _ _ h) (t.mono e)
theorem K6.length {H : Hp} : ∀ {vs : List V} {qs : List Rat}, K6 H vs qs → vs.length = qs.length
  | _, _, .nil => rfl
  | _, _, .cons _ t => congrArg (· + 1) t.length
theorem K6.take {H : Hp} : ∀ {vs : List V} {qs : List Rat} (m : Nat), K6 H vs qs → K6 H (vs.take m) (qs.take m)
  | _, _, 0, _ => by simp; exact .nil
  | _, _, _ + 1, .nil => .nil
  | _, _, m + 1, .cons h t => .cons h (t.take m)
theorem K6.drop {H : Hp} : ∀ {vs : List V} {qs : List Rat} (m : Nat), K6 H vs qs → K6 H (vs.drop m) (qs.drop m)
  | _, _, 0, h => h
  | _, _, _ + 1, .nil => .nil
  | _, _, m + 1, .cons h t => t.drop m
theorem K6.append {H : Hp} : ∀ {vs ws : List V} {qs rs : List Rat}, K6 H vs qs → K6 H ws rs → K6 H (vs ++ ws) (qs ++ rs)
  | _, _, _, _, .nil, b => b
  | _, _, _, _, .cons h t, b => .cons h (t.append b)
theorem K6.get {H : Hp} : ∀ {vs : List V} {qs : List Rat} {i : Nat} {q : Rat}, K6 H vs qs → qs[i]? = some q → ∃ p, vs[i]? = some (.ref p) ∧ H p = some (.tup (F0 q))
  | _, _, _, _, .nil, e => by simp at e
  | _, _, 0, _, .cons h t, e => by
    have := Option.some.inj e
    subst this
    exact ⟨_, rfl, h⟩
  | _, _, i + 1, _, .cons h t, e => by
    obtain ⟨p, e1, e2⟩ := t.get (i := i) (by simpa using e)
    exact ⟨p, by simpa using e1, e2⟩
theorem K6.isDs {K : PySem.W.Frag} {H : Hp} : ∀ {vs : List V} {qs : List Rat}, K6 H vs qs → L9 K H vs (qs.map Q6)
  | _, _, .nil => .nil
  | _, _, .cons h t => .cons (ae0 (SqT.of h)) t.isDs
theorem aX0 {p q : Rat} (h1 : p.num = q.num) (h2 : p.den = q.den) : p = q := by
  cases p; cases q; simp at h1 h2; subst h1 h2; rfl
theorem aU0 (p q : Rat) : eqD (Q6 p) (Q6 q) = decide (p = q) := by
  by_cases h : p = q
  · subst h; rw [aA5]; simp
  · rw [decide_eq_false h]
    simp only [Q6, eqD, L8, eqV, Bool.and_true]
    by_cases h1 : p.num = q.num
    · have h2 : p.den ≠ q.den := fun z => h (aX0 h1 z)
      have : ((p.den : Int) == (q.den : Int)) = false := by
        rw [beq_eq_false_iff_ne]; intro z; exact h2 (by omega)
      rw [this, Bool.and_false]
    · have : (p.num == q.num) = false := by rw [beq_eq_false_iff_ne]; exact h1
      rw [this, Bool.false_and]
theorem av5 : ∀ ps qs : List Rat, L8 (ps.map Q6) (qs.map Q6) = decide (ps = qs)
  | [], [] => by simp [L8]
  | [], _ :: _ => by simp [L8]
  | _ :: _, [] => by simp [L8]
  | p :: ps, q :: qs => by
    rw [List.map_cons, List.map_cons, L8, aU0, av5 ps qs]
    by_cases h1 : p = q <;> by_cases h2 : ps = qs <;> simp [h1, h2]
theorem av0 : ∀ ps qs : List Rat, Y2 (ps.map Q6) (qs.map Q6) = true
  | [], [] => by simp [Y2]
  | [], _ :: _ => by simp [Y2]
  | _ :: _, [] => by simp [Y2]
  | p :: ps, q :: qs => by rw [List.map_cons, List.map_cons, Y2, az7, av0 ps qs]; rfl
theorem av6 : ∀ qs : List Rat, ad0 (qs.map Q6) ≤ 1
  | [] => by simp [ad0]
  | q :: qs => by
    have h1 : dpD (Q6 q) ≤ 1 := by simp [Q6, dpD, ad0]
    have h2 := av6 qs
    rw [List.map_cons, ad0]
    omega
def K4 (qs : List Rat) : D := .lst (qs.map Q6)
theorem ar0 {K : PySem.W.Frag} {H : Hp} {a : Addr} {vs : List V} {qs : List Rat} (h : SqL K H a vs) (n : K6 H vs qs) : IsD K H (.ref a) (K4 qs) := .lst h n.isDs
theorem ai2 (ps qs : List Rat) : eqD (K4 ps) (K4 qs) = decide (ps = qs) := by unfold K4; rw [eqD, av5]
theorem aq1 (ps qs : List Rat) : okD (K4 ps) (K4 qs) = true := by unfold K4; rw [okD, av0]
theorem aA9 (qs : List Rat) : dpD (K4 qs) ≤ 2 := by unfold K4; rw [dpD]; have := av6 qs; omega
structure aV9 (qs : List Rat) (m : Nat) : Prop where
  le : m ≤ qs.length
  zero : ∀ (i : Nat) (q : Rat), m ≤ i → qs[i]? = some q → q = 0
  last : m ≠ 0 → ∀ q, qs[m - 1]? = some q → q ≠ 0
theorem P0 (vs : List V) {m : Nat} (h : m ≤ vs.length) : P1 vs none (some (m : Int)) = vs.take m := by
  unfold P1
  have e1 : HT.sIx vs.length 0 none = 0 := by simp [HT.sIx]
  have e2 : HT.sIx vs.length vs.length (some (m : Int)) = m := by
    simp only [HT.sIx]
    split <;> omega
  rw [e1, e2]; simp
end R
set_option maxRecDepth 100000
namespace L2
open PySem PySem.Spec PyProof.Rows
theorem d7.over {H H1 : Hp} {l : Addr} (s : d7 H H1) (hl : H l = none) (o : HO) : d7 H (upd H1 l o) := fun b u h => by
  rw [i0 (i6 h hl)]; exact s b u h
def af7 (J : It) (D : Addr) (σ0 : St) (H0 : Hp) (g : TG) (te : TE) (Q : VK) : Prop := ∃ W : Nat → Nat → St → Hp → Prop, (∃ m, W 0 m σ0 H0) ∧
  ∀ i m σc H2, W i m σc H2 → (J.stop i H2 ∧ Q (.ref D) H2) ∨
    (J.go i H2 ∧ ∀ x H3, J.yld i H2 x H3 → g x σc H3 fun σ4 H4 => te σ4 H4 fun y H5 => ∃ ys, H5 D = some (.lst ys) ∧ ys.length < sizeLine ∧ ∃ m', m' < m ∧ W (i + 1) m' σ4 (upd H5 D (.lst (ys ++ [y]))))
theorem aB5 (wi : TI) (caps : List (Option Nat)) (g : TG) (te : TE) : aB6 wi caps g te = fun σ H Q => wi σ H fun J H1 => ∀ D, H1 D = none → af7 J D (F2 caps σ) (upd H1 D (.lst [])) g te Q := rfl
def aW1 (J : It) (D : Addr) (σ0 : St) (H0 : Hp) (g : TG) (tt : TT) (te : TE) (Q : VK) : Prop := ∃ W : Nat → Nat → St → Hp → Prop, (∃ m, W 0 m σ0 H0) ∧
  ∀ i m σc H2, W i m σc H2 → (J.stop i H2 ∧ Q (.ref D) H2) ∨
    (J.go i H2 ∧ ∀ x H3, J.yld i H2 x H3 → g x σc H3 fun σ4 H4 => tt σ4 H4 fun b H4' => if b = true then te σ4 H4' fun y H5 => ∃ ys, H5 D = some (.lst ys) ∧ ys.length < sizeLine ∧ ∃ m', m' < m ∧ W (i + 1) m' σ4 (upd H5 D (.lst (ys ++ [y])))
      else ∃ m', m' < m ∧ W (i + 1) m' σ4 H4')
theorem ao3 (wi : TI) (caps : List (Option Nat)) (g : TG) (tt : TT) (te : TE) : aJ1 wi caps g tt te = fun σ H Q => wi σ H fun J H1 => ∀ D, H1 D = none → aW1 J D (F2 caps σ) (upd H1 D (.lst [])) g tt te Q := rfl
section
variable {K : PySem.W.Frag} {a D : Addr} {xs : List V} {g : TG} {te : TE} {σ0 : St} {H0 : Hp} {Q : VK}
theorem ab2 (xs : List V) (Pv : Nat → St → Hp → Prop) (h0 : Pv 0 σ0 H0) (hl : ∀ i σ H, i ≤ xs.length → Pv i σ H → SqL K H a xs)
    (hs : ∀ i x σ H, xs[i]? = some x → Pv i σ H → g x σ H fun σ4 H4 => te σ4 H4 fun y H5 => v7 D xs.length Pv i σ4 y H5) (hd : ∀ σ H, Pv xs.length σ H → Q (.ref D) H) : af7 (Itl K a) D σ0 H0 g te Q := aO3 Pv h0 hl hs hd
theorem ar9 (xs : List V) (Pv : Nat → St → Hp → Prop) (h0 : Pv 0 σ0 H0) (hl : ∀ i σ H, i ≤ xs.length → Pv i σ H → SqT K H a xs)
    (hs : ∀ i x σ H, xs[i]? = some x → Pv i σ H → g x σ H fun σ4 H4 => te σ4 H4 fun y H5 => v7 D xs.length Pv i σ4 y H5) (hd : ∀ σ H, Pv xs.length σ H → Q (.ref D) H) : af7 (Itt K a) D σ0 H0 g te Q := aV1 Pv h0 hl hs hd
theorem Q7 {lo : Int} {n : Nat} (Pv : Nat → St → Hp → Prop) (h0 : Pv 0 σ0 H0)
    (hs : ∀ i σ H, i < n → Pv i σ H → g (.int (lo + i)) σ H fun σ4 H4 => te σ4 H4 fun y H5 => v7 D n Pv i σ4 y H5) (hd : ∀ σ H, Pv n σ H → Q (.ref D) H) : af7 (Itr lo n) D σ0 H0 g te Q := aI4 Pv h0 hs hd
end
theorem v3 {cells : List (Str × Addr)} : ∀ (x : Str) (c : Addr), ([] : List (Str × Addr)).lookup x = some c → cells.lookup x = some c := fun x c h => by cases h
theorem j0 {cells cl : List (Str × Addr)} {k : Str} {a : Addr} (h : cells.lookup k = some a) (r : ∀ (x : Str) (c : Addr), cl.lookup x = some c → cells.lookup x = some c) : ∀ (x : Str) (c : Addr), ((k, a) :: cl).lookup x = some c → cells.lookup x = some c := fun x c e => by
  rw [List.lookup_cons] at e
  split at e
  · rename_i q
    have := eq_of_beq q
    subst this
    cases e
    exact h
  · exact r x c e
end L2
namespace R
open PySem L2 PyProof.Rows
theorem j8.over {u : Addr} {H H1 : Hp} {l : Addr} (s : j8 u H H1) (hl : H l = none) (o : HO) : j8 u H (L2.upd H1 l o) := fun b x h n => by
  rw [i0 (i6 h hl)]; exact s b x h n
theorem j8.free {u : Addr} {H H' : Hp} {l : Addr} (s : j8 u H H') (hu : p7 H' u) (h : H' l = none) : H l = none := by
  cases e : H l with
  | none => rfl
  | some o =>
    by_cases q : l = u
    · subst q
      obtain ⟨_, _, _, z, _⟩ := hu
      rw [z] at h; cases h
    · rw [s l o e q] at h; cases h
theorem p7.other {H : Hp} {u l : Addr} {o : HO} (h : p7 H u) (ne : l ≠ u) : p7 (upd H l o) u := by
  obtain ⟨g, m, p, e, r⟩ := h
  exact ⟨g, m, p, by rw [i0 ne.symm]; exact e, r⟩
theorem af4 {K : PySem.W.Frag} : PySem.W.kitOne K (.type "list") (.type "list") = some true := by unfold PySem.W.kitOne; rw [if_pos (by decide)]
end R
set_option maxRecDepth 100000
namespace L2
open PySem PySem.Spec PyProof.Rows
def Itz (K : PySem.W.Frag) (a b : Addr) : It :=
  ⟨fun i H => ∃ xs ys x y, SqL K H a xs ∧ SqL K H b ys ∧ xs[i]? = some x ∧ ys[i]? = some y,
   fun i H v H' => ∀ xs ys, SqL K H a xs → SqL K H b ys → ∃ x y p, xs[i]? = some x ∧ ys[i]? = some y ∧ H p = none ∧ v = .ref p ∧ H' = upd H p (.tup [x, y]),
   fun i H => ∃ xs ys, SqL K H a xs ∧ SqL K H b ys ∧ (xs.length ≤ i ∨ ys.length ≤ i)⟩
theorem aP3 {P : Program} {w : World} {K : PySem.W.Frag} {elts : List Expr} {k : Nat} {tpos : Pos} (a b z TI TO i1 i2 : Addr) (D : ZipApart z TI TO i1 i2 a b) :
    aI8 P w K (.Tuple elts k tpos) (Itz K a b) [z, TI, TO, i1, i2] z (fun i h => IsZip h z TI TO .none ∧ IsPair h TI (.ref i1) (.ref i2) ∧ (∃ a b, IsPair h TO a b) ∧ h.IsListIter i1 a i ∧ h.IsListIter i2 b i) where
  mem := by simp
  obj := fun i h st c hc => by
    obtain ⟨hz, hTI, ⟨p, q, hTO⟩, h1, h2⟩ := st
    rcases (by simpa using hc : c = z ∨ c = TI ∨ c = TO ∨ c = i1 ∨ c = i2) with e | e | e | e | e <;> subst e
    · exact ⟨_, hz, fun v z => by cases z⟩
    · exact ⟨_, hTI, fun v z => by cases z⟩
    · exact ⟨_, hTO, fun v z => by cases z⟩
    · obtain ⟨o, e, c, d⟩ := h1
      exact ⟨o, e, fun v z => by rw [d] at z; cases z⟩
    · obtain ⟨o, e, c, d⟩ := h2
      exact ⟨o, e, fun v z => by rw [d] at z; cases z⟩
  keep := fun i h h' st k => by
    obtain ⟨hz, hTI, ⟨p, q, hTO⟩, h1, h2⟩ := st
    exact ⟨k z (by simp) _ hz, k TI (by simp) _ hTI, ⟨p, q, k TO (by simp) _ hTO⟩, h1.at fun o e => k i1 (by simp) o e, h2.at fun o e => k i2 (by simp) o e⟩
  item := by
    intro X hP hw hK hc i pins s σ H E I hf st hg
    subst hP hw hK
    obtain ⟨xs, ys, x, y, hq, hq', hx, hy⟩ := hg
    obtain ⟨its, rv, p, hlz⟩ := I.list hq
    obtain ⟨its', rv', p', hlz'⟩ := I.list hq'
    obtain ⟨u, hu, ru⟩ := rv.get hx
    obtain ⟨u', hu', ru'⟩ := rv'.get hy
    obtain ⟨hz, hTI, ⟨pa, pb, hTO⟩, h1, h2⟩ := st
    have zlt : z < s.heap.objs.size := Heap.lt_size hz
    refine wpAny_pyNext_zip_item D hz hTI hTO h1 h2 p.isList p'.isList (x := u) (y := u') (by simpa using hu) (by simpa using hu') fun h' a1 a2 a3 a4 a5 a6 kk => ?_
    refine ⟨_, rfl, ?_⟩
    refine wpAny_letOwnedTupleGo_zip (s := { s with heap := h' }) a1 fun h'' hz'' sb => ?_
    have up : ∀ c o, c ≠ z → h'.get? c = some o → h''.get? c = some o := fun c o n q => (sb.2 c n).trans q
    have hT' : h''.get? s.heap.objs.size = some { cls := .type "tuple", data := .seq #[u, u'] } := up _ _ (Nat.ne_of_gt zlt) a5
    refine ⟨.ref s.heap.objs.size, upd H s.heap.objs.size (.tup [x, y]), I.turnLaid (fp := [z, TI, TO, i1, i2]) (t' := s.toks) hf (fun c v hb q => ?_) (Nat.le_refl _) ?_, rfl, ?_, ?_, fun c hb => ?_⟩
    · have n1 : c ≠ z := fun e => hb (by simp [e])
      have n2 : c ≠ TO := fun e => hb (by simp [e])
      have n3 : c ≠ i1 := fun e => hb (by simp [e])
      have n4 : c ≠ i2 := fun e => hb (by simp [e])
      exact up c v n1 (kk c v n1 n2 n3 n4 q)
    · exact ⟨(show 2 ≤ sizeLine by decide +kernel), [u, u'], .cons ru (.cons ru' .nil), _, hT', rfl, _, rfl⟩
    · intro vs ws hv hw
      rw [I.list_inj hv hq, I.list_inj hw hq']
      exact ⟨x, y, _, hx, hy, I.fresh, rfl, rfl⟩
    · refine ⟨hz'', up _ _ D.TIz (kk _ _ D.TIz D.TITO D.TIi1 D.TIi2 hTI), ⟨u, u', up _ _ D.TOz a2⟩, a3.at fun o q => up _ o D.i1z q, a4.at fun o q => up _ o D.i2z q⟩
    · have hlt : c < s.heap.objs.size := by
        have l1 : i1 < s.heap.objs.size := by obtain ⟨_, e, _⟩ := h1; exact Heap.lt_size e
        have l2 : i2 < s.heap.objs.size := by obtain ⟨_, e, _⟩ := h2; exact Heap.lt_size e
        rcases (by simpa using hb : c = z ∨ c = TI ∨ c = TO ∨ c = i1 ∨ c = i2) with e | e | e | e | e <;> rw [e]
        · exact zlt
        · exact Heap.lt_size hTI
        · exact Heap.lt_size hTO
        · exact l1
        · exact l2
      rw [i0 (Nat.ne_of_lt hlt)]
      exact (hf c hb).1
  done := by
    intro X hP hw hK hc i pins s σ H E I hf st hg
    subst hP hw hK
    obtain ⟨xs, ys, hq, hq', hend⟩ := hg
    obtain ⟨its, rv, p, hlz⟩ := I.list hq
    obtain ⟨its', rv', p', hlz'⟩ := I.list hq'
    obtain ⟨hz, hTI, ⟨pa, pb, hTO⟩, h1, h2⟩ := st
    have l1 := rv.length
    have l2 := rv'.length
    refine wpAny_pyNext_zip_end (I.ok.hd hc) D hz hTI hTO h1 h2 p.isList p'.isList ?_ fun h' kk => ⟨rfl, ?_⟩
    · rcases hend with e | e
      · exact .inl (by simp; omega)
      · exact .inr (by simp; omega)
    · have nf : ∀ b u, H b = some u → b ∉ [z, TI, TO, i1, i2] := fun b u e q => by rw [(hf b q).1] at e; cases e
      have k : ∀ b u, b ∉ [z, TI, TO, i1, i2] → s.heap.get? b = some u → h'.get? b = some u := fun c o hb q => kk c o (fun e => hb (by simp [e])) (fun e => hb (by simp [e])) (fun e => hb (by simp [e])) (fun e => hb (by simp [e])) q
      refine I.step (t' := s.toks) (g' := s.gens) (d' := s.drawn) (ch := [z, TI, TO, i1, i2]) (fun b hb => ?_) (fun b o _ _ hc e _ => k b o hc e) (fun b o _ _ hc e _ => ⟨o.slots, k b o hc e⟩) (fun b o _ e n => n)
        (fun b o hc e => ⟨o, k b o hc e⟩) (fun b xs e => e) (fun b o u e => e) (fun b ps e => ⟨#[], by rw [e]; simp⟩) (fun m hm => ?_) (fun b u e => ?_) I.bare
      · obtain ⟨_, f1, _, f3, f4, f5⟩ := hf b hb
        exact ⟨f3, f1, f4, f5⟩
      · obtain ⟨o, es, ep, ho, r⟩ := hm
        exact ⟨o, es, ep, k _ o (fun q => (hf _ q).2.1 rfl) ho, r⟩
      · refine (I.hok b u e).stay (fun c v hc q => k c v ?_ q) (fun c q => q) fun c xs q => q
        rcases hc with q | q
        · rw [q]; exact nf b u e
        · exact nf c _ q
  self := fun _ _ _ _ _ st h => wpAny_pyIter_zip st.1 h
section
variable {X : Cx}
def be5 (K : PySem.W.Frag) (ta : TA) : TI := fun σ H R => ta σ H fun vs H1 => ∃ a b, vs = [.ref a, .ref b] ∧ (∃ xs, SqL K H1 a xs) ∧ (∃ ys, SqL K H1 b ys) ∧ R (Itz K a b) H1
theorem aR5 {elts : List Expr} {k : Nat} {tpos : Pos} {l l' : Expr} {ta : TA} {p pos : Pos} (hg : Gl X "zip") (hm : X.mg "zip" = none) (ha : PA X [l, l'] ta) (hs : starEach [l, l'] X.env = [(false, eval l X.env), (false, eval l' X.env)] := by rfl) (hs2 : starEach [l'] X.env = [(false, eval l' X.env)] := by rfl) :
    PI X (.Tuple elts k tpos) (.Call (.Name "zip" p) [l, l'] [] pos) (be5 X.K ta) := by
  intro pins s σ H R I h
  refine Call_ (Q9 I hg hm (u := .type "zip") (by decide +kernel) (PyProof.Rows.callWith_type1 (thn (ha pos pins s σ H _ I h) fun us s1 ⟨vs, H1, I1, r1, q1⟩ => ?_) (by rw [hs, hs2]) (by rw [hs2]; rfl)))
  obtain ⟨a, b, e, ⟨xs, hq⟩, ⟨ys, hq'⟩, q⟩ := q1
  subst e
  obtain ⟨u, u', rfl, rx, rx'⟩ := t0.two r1
  cases rx
  cases rx'
  obtain ⟨its, rv, p, hz⟩ := I1.list hq
  obtain ⟨its', rv', p', hz'⟩ := I1.list hq'
  have a1 : a < s1.heap.objs.size := by obtain ⟨_, e, _⟩ := p.isList; exact Heap.lt_size e
  have a2 : b < s1.heap.objs.size := by obtain ⟨_, e, _⟩ := p'.isList; exact Heap.lt_size e
  refine call_zip_2 p.isList p'.isList fun h' hz hTI hTO hi1 hi2 hsz kk => ?_
  refine wpAny_pyIter_zip hz ?_
  have I2 : Inv X pins σ H1 { s1 with heap := h' } := I1.kept (t' := s1.toks) kk
  refine ⟨_, _, _, _, H1, rfl, I2, aP3 a b _ _ _ _ _ (zipApart_new a1 a2), ⟨hz, hTI, ⟨_, _, hTO⟩, hi1, hi2⟩, fun c hb => ?_, q⟩
  have hb' : s1.heap.objs.size ≤ c := by
    rcases (by simpa using hb : c = s1.heap.objs.size + 4 ∨ c = s1.heap.objs.size + 2 ∨ c = s1.heap.objs.size + 3 ∨ c = s1.heap.objs.size ∨ c = s1.heap.objs.size + 1) with e | e | e | e | e <;> rw [e]
    · exact Nat.le_add_right _ _
    · exact Nat.le_add_right _ _
    · exact Nat.le_add_right _ _
    · exact Nat.le_refl _
    · exact Nat.le_add_right _ _
  obtain ⟨f0, f1, f2, f3, f4, f5⟩ := I1.fpOk (H' := H1) hb' (I1.hok.fresh hb')
  exact ⟨f0, f1, f2, f3, f4, f5⟩
end
end L2
set_option maxRecDepth 100000
namespace R
open PySem L2 PyProof.Rows
structure BdN (k : Nat) (q : Rat) : Prop where
  n : q.num.natAbs < 2 ^ k
  d : q.den < 2 ^ k
theorem BdN.mono {m n : Nat} {q : Rat} (h : BdN m q) (l : m ≤ n) : BdN n q := ⟨Nat.lt_of_lt_of_le h.n (t9 l), Nat.lt_of_lt_of_le h.d (t9 l)⟩
theorem Sm.bdN {q : Rat} (s : Sm q) : BdN 40 q := ⟨Nat.lt_of_le_of_lt s.n (by decide), Nat.lt_of_le_of_lt s.d (by decide)⟩
theorem BdN.zero {n : Nat} (h : 1 ≤ n) : BdN n 0 := by
  have : (2 : Nat) ^ 1 ≤ 2 ^ n := t9 h
  exact ⟨by show (0 : Int).natAbs < _; simp; omega, by show (1 : Nat) < _; omega⟩
theorem BdN.mul {m n : Nat} {p q : Rat} (a : BdN m p) (b : BdN n q) : BdN (m + n) (p * q) := by
  rw [aq5]
  have hb : (p.den : Int) * q.den ≠ 0 := Int.ne_of_gt (Int.mul_pos (B8 p) (B8 q))
  obtain ⟨e1, e2⟩ := aa1 (t := p.num * q.num) hb
  rw [Int.natAbs_mul] at e1 e2
  refine ⟨Nat.lt_of_le_of_lt e1 ?_, Nat.lt_of_le_of_lt e2 ?_⟩
  · rw [Nat.pow_add]; exact Nat.mul_lt_mul'' a.n b.n
  · rw [Nat.pow_add, Int.natAbs_natCast, Int.natAbs_natCast]; exact Nat.mul_lt_mul'' a.d b.d
structure SmW (q : Rat) : Prop where
  n : q.num.natAbs < 2 ^ 42
  d : q.den < 2 ^ 40
def scl (s : Rat) (ws : List Int) : List Rat := ws.map fun w : Int => s * (w : Rat)
def w5 (qs : List Rat) : Nat := qs.foldl (fun b q => Nat.lcm b q.den) 1
theorem aN3 (qs : List Rat) (q : Rat) : w5 (qs ++ [q]) = Nat.lcm (w5 qs) q.den := by simp [w5]
theorem al7 : ∀ (qs : List Rat) (b m : Nat), b ∣ m → (∀ q ∈ qs, q.den ∣ m) → qs.foldl (fun b q => Nat.lcm b q.den) b ∣ m
  | [], _, _, h, _ => h
  | q :: qs, b, m, h, k => al7 qs _ m (Nat.lcm_dvd h (k q List.mem_cons_self)) fun r hr => k r (List.mem_cons_of_mem _ hr)
theorem aD8 {qs : List Rat} {m : Nat} (h : ∀ q ∈ qs, q.den ∣ m) : w5 qs ∣ m := al7 qs 1 m (Nat.one_dvd _) h
theorem ah9 : ∀ (qs : List Rat) (b : Nat), b ∣ qs.foldl (fun b q => Nat.lcm b q.den) b
  | [], _ => Nat.dvd_refl _
  | q :: qs, b => Nat.dvd_trans (Nat.dvd_lcm_left _ _) (ah9 qs _)
theorem al6 : ∀ (qs : List Rat) (b : Nat) (q : Rat), q ∈ qs → q.den ∣ qs.foldl (fun b q => Nat.lcm b q.den) b
  | r :: qs, b, q, h => by
    rcases List.mem_cons.mp h with e | e
    · subst e; exact Nat.dvd_trans (Nat.dvd_lcm_right _ _) (ah9 qs _)
    · exact al6 qs _ q e
theorem ae3 {qs : List Rat} {q : Rat} (h : q ∈ qs) : q.den ∣ w5 qs := al6 qs 1 q h
def M4 (B : Nat) (qs : List Rat) : List Int := qs.map fun q => q.num * (B : Int).fdiv (q.den : Int)
theorem aP1 {B : Nat} {q : Rat} (hB : 0 < B) (h : q.den ∣ B) : q = Rat.divInt (q.num * (B : Int).fdiv (q.den : Int)) B := by
  obtain ⟨e, he⟩ := h
  have hd : (q.den : Int) ≠ 0 := by have := q.den_nz; omega
  have e1 : (B : Int).fdiv (q.den : Int) = (e : Int) := by
    rw [he, Int.natCast_mul]; exact w8 hd
  rw [e1]
  conv => lhs; rw [← Rat.num_divInt_den q]
  rw [Rat.divInt_eq_divInt_iff hd (by omega), he, Int.natCast_mul]
  grind
end R
namespace L2
open PySem PySem.Spec PyProof.Rows
section
variable {K : PySem.W.Frag} {a b D : Addr} {xs ys : List V} {g : TG} {te : TE} {σ0 : St} {H0 : Hp} {Q : VK}
theorem aV0 (xs ys : List V) (Pv : Nat → St → Hp → Prop) (h0 : Pv 0 σ0 H0) (hl : ∀ i σ H, Pv i σ H → SqL K H a xs ∧ SqL K H b ys)
    (hs : ∀ i x y σ H p, xs[i]? = some x → ys[i]? = some y → Pv i σ H → H p = none → g (.ref p) σ (upd H p (.tup [x, y])) fun σ4 H4 => te σ4 H4 fun v H5 => v7 D (min xs.length ys.length) Pv i σ4 v H5)
    (hd : ∀ σ H, Pv (min xs.length ys.length) σ H → Q (.ref D) H) : af7 (Itz K a b) D σ0 H0 g te Q := by
  refine ⟨fun i m σ H => m = min xs.length ys.length - i ∧ i ≤ min xs.length ys.length ∧ Pv i σ H, ⟨_, rfl, Nat.zero_le _, h0⟩, ?_⟩
  rintro i m σ H ⟨rfl, hi, p⟩
  obtain ⟨q, q'⟩ := hl i σ H p
  by_cases hlt : i < min xs.length ys.length
  · have h1 : i < xs.length := by omega
    have h2 : i < ys.length := by omega
    refine .inr ⟨⟨xs, ys, xs[i], ys[i], q, q', List.getElem?_eq_getElem h1, List.getElem?_eq_getElem h2⟩, ?_⟩
    intro v H3 hy
    obtain ⟨x, y, r, e1, e2, hr, rfl, rfl⟩ := hy xs ys q q'
    exact hs i x y σ _ r e1 e2 p hr
  · have e : i = min xs.length ys.length := by omega
    subst e
    exact .inl ⟨⟨xs, ys, q, q', by omega⟩, hd σ H p⟩
theorem aY7 (xs : List V) (Pv : Nat → St → Hp → Prop) (h0 : Pv 0 σ0 H0) (hl : ∀ i σ H, Pv i σ H → SqL K H a xs)
    (hs : ∀ i x σ H p, xs[i]? = some x → Pv i σ H → H p = none → g (.ref p) σ (upd H p (.tup [.int i, x])) fun σ4 H4 => te σ4 H4 fun v H5 => v7 D xs.length Pv i σ4 v H5)
    (hd : ∀ σ H, Pv xs.length σ H → Q (.ref D) H) : af7 (Ite K a) D σ0 H0 g te Q := by
  refine ⟨fun i m σ H => m = xs.length - i ∧ i ≤ xs.length ∧ Pv i σ H, ⟨_, rfl, Nat.zero_le _, h0⟩, ?_⟩
  rintro i m σ H ⟨rfl, hi, p⟩
  have q := hl i σ H p
  by_cases hlt : i < xs.length
  · refine .inr ⟨⟨xs, xs[i], q, List.getElem?_eq_getElem hlt⟩, ?_⟩
    intro x H3 hy
    obtain ⟨y, r, hy1, hr, rfl, rfl⟩ := hy xs q
    exact hs i y σ _ r hy1 p hr
  · have e : i = xs.length := by omega
    subst e
    exact .inl ⟨⟨xs, q, Nat.le_refl _⟩, hd σ H p⟩
end
theorem aj7 {h : Heap} {a : Addr} {m : Str → Option Value} {o : Obj} (n : h.Ns a m) (e : h.get? a = some o) (v : Option Value) (z : o.data = .cell v) : False := by
  obtain ⟨o', es, ep, e', r⟩ := n
  rw [e] at e'
  cases e'
  have d := r.1
  rw [d] at z; cases z
section
variable {X : Cx}
theorem aa7 {elt tg iter : Expr} {scope : Scope} {pos spos py : Pos} {y : Str} {i₀ : Nat} {cl : List (Str × Addr)} {Nc : List Str} {caps : List (Option Nat)} {wi : TI} {g : TG} {te : TE} (hN : X.N.Nodup) (hi₀ : X.N[i₀]? = some y) (hx : Loc X.env.scope y) (hc : X.calm = true) (cp : Q8 X scope cl Nc caps) (hi : PI X tg iter wi)
    (hg : ∀ C s₂ H₂ fp pins, PG (X.block scope cl C Nc s₂ H₂ fp pins) tg g) (he : ∀ C s₂ H₂ fp pins, PE (X.block scope cl C Nc s₂ H₂ fp pins) elt te) (hs : ∀ x, foldedSetIterable iter X.env x = pure x := by intro _; rfl) (hsw : swapsWith (.ListComp elt [⟨tg, iter, [], 0⟩] scope pos) (some (.Name y py)) spos.line X.env = pure true := by rfl)
    (hf : X.fn y = true ∨ X.env.scope.names.lookup y = some .local := by first | exact .inl rfl | exact .inr rfl | assumption) :
    PS X (.Assign [.Name y py] (.ListComp elt [⟨tg, iter, [], 0⟩] scope pos) spos) (aF8 (aB6 wi caps g te) (C7 i₀)) := by
  intro pins s σ H DD I h
  rw [exec_Assign_Name_used _ _ _ _ hsw]
  refine wpAny_bind (wpAny_standAt (wpAny_bind ?_))
  show wpAny _ X.A (do let _ ← comprehension (.ListComp elt [⟨tg, iter, [], 0⟩] scope pos) scope X.env _ (newList []) false (eval iter X.env) (some (assign (.Name y py) X.env))) _ _ s
  refine wpAny_bind (wpAny_mono (wpAny_comprehension_free (use := some (assign (.Name y py) X.env)) (Q := fun _ s' => SP X pins DD .next s') rfl hs cp.clos cp.kind cp.names ?_) (fun _ s' hq => wpAny_pure (wpAny_pure hq)) fun _ _ e => e)
  refine thn (hi pins s σ H _ I h) fun v s1 h1 => thn h1 fun itv s2 h2 => ?_
  obtain ⟨it, fp, tn, J, H2, e, I2, T, st2, f2, hW⟩ := h2
  subst e
  refine wpAny_newObj_type ?_ (by show 0 ≤ sizeLine; exact Nat.zero_le _)
  refine wpAny_newFunctionEnv cp.nocell (by intro y hy; simp at hy) (fun h4 hns hsb => ?_) cp.kind
  dsimp only at hns hsb ⊢
  generalize hH3 : s2.heap.push { cls := .type "list", dict := none, data := .seq ([] : List Value).toArray } = H3 at hns hsb ⊢
  have hCe : H3.objs.size = s2.heap.objs.size + 1 := by rw [← hH3, Heap.size_push]
  have P2 : ∀ b o, s2.heap.get? b = some o → b ≠ H3.objs.size := fun b o e => by rw [hCe]; exact Nat.ne_of_lt (Nat.lt_succ_of_lt (Heap.lt_size e))
  have old : ∀ b o, s2.heap.get? b = some o → h4.get? b = some o := fun b o e => hsb.extBut b o (P2 b o e) (Heap.get?_push_of_some _ (hH3 ▸ Heap.get?_push_of_some _ e))
  have hD : h4.get? s2.heap.objs.size = some { cls := .type "list", dict := none, data := .seq ([] : List Value).toArray } :=
    hsb.extBut _ _ (by rw [hCe]; exact Nat.ne_of_lt (Nat.lt_succ_self _)) (Heap.get?_push_of_some _ (hH3 ▸ Heap.get?_push_size _ rfl))
  have hDn : H2 s2.heap.objs.size = none := I2.fresh
  have hCn : H2 H3.objs.size = none := I2.hok.fresh (by rw [hCe]; exact Nat.le_succ _)
  have hCs : s2.heap.objs.size ≤ H3.objs.size := by rw [hCe]; exact Nat.le_succ _
  have hDC : s2.heap.objs.size ≠ H3.objs.size := by rw [hCe]; exact Nat.ne_of_lt (Nat.lt_succ_self _)
  have fpl : ∀ b ∈ fp, ∃ o, s2.heap.get? b = some o := fun b hb => let ⟨o, e, _⟩ := T.obj _ _ st2 b hb; ⟨o, e⟩
  have fpC : ∀ b ∈ fp, b ≠ H3.objs.size := fun b hb => let ⟨o, e⟩ := fpl b hb; P2 b o e
  have fpD : ∀ b ∈ fp, b ≠ s2.heap.objs.size := fun b hb => let ⟨o, e⟩ := fpl b hb; Nat.ne_of_lt (Heap.lt_size e)
  have stkN : ∀ b, b ≠ X.env.locals → b ∉ X.fs → b ∉ frs X.stack := fun b h1 h2 z => (List.mem_cons.mp (I2.stkSub b z)).elim h1 h2
  obtain ⟨W, ⟨m0, w0⟩, turn⟩ := hW s2.heap.objs.size hDn
  have okB : (X.block scope cl H3.objs.size Nc s2 H2 fp pins).Ok := by
    refine ⟨I2.ok.mod, ?_, I2.ok.glob, I2.ok.blt, hCs, fun x y c h1 h2 => I2.ok.inj x y c (cp.sub x c h1) (cp.sub y c h2), fun x hx => cp.has x hx, fun x c h => (by cases h), I2.ok.hd, I2.ok.frames, .inl rfl, fun b hb => ⟨fpC b hb, fun x c h => (f2 b hb).2.2.2.2.1 x c (cp.sub x c h)⟩, I2.bs, Nat.le_trans I2.ok.bsz I2.sz, fun b o e hb => ?_, fun b hb => stkN b (f2 b hb).2.1 (f2 b hb).2.2.1, I2.stack, I2.stkFree⟩
    · exact cp.kind
    · rcases (f2 b hb).2.2.2.1 with z | z
      · exact I2.ok.noex b o e z
      · exact absurd (Nat.lt_of_lt_of_le (Heap.lt_size e) (Nat.le_trans I2.ok.bsz z)) (Nat.lt_irrefl _)
  have hokB : HOk X.prog X.w (upd H2 s2.heap.objs.size (.lst [])) h4 := I2.hok.laid old (Nat.le_refl _) ⟨Nat.zero_le _, [], _, .nil, hD⟩
  have IB : Inv (X.block scope cl H3.objs.size Nc s2 H2 fp pins) [] (F2 caps σ) (upd H2 s2.heap.objs.size (.lst [])) { s2 with heap := h4, toks := s2.toks + ([] : List (Str × Value)).length } := by
    refine ⟨okB, rfl, I2.bare, Un.laid old (Nat.le_refl _) hDn, ⟨_, hns, fun i x v e1 e2 e3 => ?_⟩, fun x c e => ?_, (show upd H2 s2.heap.objs.size (.lst []) H3.objs.size = none by rw [i0 (Ne.symm hDC)]; exact hCn), fun x c e => ?_, fun p hp => ?_, hokB, ?_⟩
    · unfold F2 at e2
      rw [List.getElem?_map] at e2
      cases hcap : caps[i]? with
      | none => rw [hcap] at e2; cases e2
      | some o =>
        rw [hcap] at e2
        cases o with
        | none => cases e2
        | some j =>
          have hj : σ[j]? = some (some v) := by
            have e2' : (σ[j]?).join = some v := Option.some.inj e2
            cases q : σ[j]? with
            | none => rw [q] at e2'; cases e2'
            | some z => rw [q] at e2'; exact congrArg some e2'
          obtain ⟨n1, n2, n3, n4⟩ := cp.cap i j x hcap e1
          obtain ⟨m, hm, hl⟩ := I2.loc
          obtain ⟨u, r, q⟩ := hl j x v n1 hj n2
          rcases q with ⟨k, _⟩ | ⟨k, c, ec, z⟩
          · exact absurd k n3
          · obtain ⟨c', ec'⟩ := cp.has x n4
            have := cp.sub x c' ec'
            rw [ec] at this; cases this
            obtain ⟨oc, ho, hd⟩ := z
            exact ⟨u, r, .inr ⟨n4, c, ec', oc, old _ _ ho, hd⟩⟩
    · obtain ⟨v, oc, ho, hd⟩ := I2.cell x c (cp.sub x c e)
      exact ⟨v, oc, old _ _ ho, hd⟩
    · obtain ⟨v, oc, ho, hd⟩ := I2.cell x c (cp.sub x c e)
      rw [i0 (Nat.ne_of_lt (Heap.lt_size ho))]
      exact I2.freeC x c (cp.sub x c e)
    · have hp' : p ∈ X.pn ++ pins := by simpa using hp
      obtain ⟨e1, e2, e3, e4, e5⟩ := I2.pin p hp'
      exact ⟨old _ _ e1, by rw [i0 (Nat.ne_of_lt (Heap.lt_size e1))]; exact e2, P2 _ _ e1, stkN _ e3 e4, e5⟩
    · show (F2 caps σ).length = Nc.length
      unfold F2
      rw [List.length_map]; exact cp.len
  have stat : ∀ {H' : Hp}, (∀ b ∈ fp, H' b = none) → ∀ b ∈ fp, ab4 (X.block scope cl H3.objs.size Nc s2 H2 fp pins) [] H' b := fun hn b hb =>
    ⟨hn b hb, fpC b hb, stkN b (f2 b hb).2.1 (f2 b hb).2.2.1, .inl hb, fun x c h => (f2 b hb).2.2.2.2.1 x c (cp.sub x c h), fun p hp => (f2 b hb).2.2.2.2.2 p (by simpa using hp)⟩
  have loop : ∀ s5 : Shared, s5 = { s2 with heap := h4, toks := s2.toks + ([] : List (Str × Value)).length } →
      codeAny (model X.prog X.w) X.A (.compLoop (.ListComp elt [⟨tg, iter, [], 0⟩] scope pos) 0 (.ref it) (.ref s2.heap.objs.size) (compEnvC scope cl H3.objs.size X.env))
        (compPost (model X.prog X.w) X.A X.xe (some (assign (.Name y py) X.env)) (fun _ s' => SP X pins DD .next s') (.ref s2.heap.objs.size) H3.objs.size) s5 := by
    rintro s5 rfl
    refine ae4 (fun n s' => ∃ i σ' H', Inv (X.block scope cl H3.objs.size Nc s2 H2 fp pins) [] σ' H' s' ∧ tn i s'.heap ∧ (∀ b ∈ fp, H' b = none) ∧ W i n σ' H') ?_ m0 ⟨0, _, _, IB, T.keep _ _ _ st2 fun b hb o e => old b o e, fun b hb => by rw [i0 (fpD b hb)]; exact (f2 b hb).1, w0⟩
    rintro n s6 ⟨i, σ6, H6, I6, st6, fr6, w6⟩
    rcases turn i n σ6 H6 w6 with ⟨stop, qn⟩ | ⟨go, step⟩
    · refine thn (T.done (X.block scope cl H3.objs.size Nc s2 H2 fp pins) rfl rfl rfl hc i [] s6 σ6 H6 _ I6 (stat fr6) st6 stop) fun r s7 ⟨hr, I7⟩ => ?_
      subst hr
      obtain ⟨m7, hn7, _⟩ := id I7.loc
      have Io : Inv X pins σ H6 s7 := I2.sameC (h'' := s7.heap) f2 I7.os I7.bare I7.base I7.hok hCs I7.free ⟨rfl, fun _ _ => rfl⟩
      have fC : ab4 X pins H6 H3.objs.size := I2.fpOk hCs I7.free
      have fC' : ∀ b ∈ [H3.objs.size], ab4 X pins H6 b := fun b hb => by rw [List.mem_singleton.mp hb]; exact fC
      obtain ⟨oC, esC, epC, hoC, restC⟩ := id hn7
      have obC : ∀ b ∈ [H3.objs.size], ∃ o, s7.heap.get? b = some o ∧ ∀ v, o.data ≠ .cell v := fun b hb => by
        rw [List.mem_singleton.mp hb]
        exact ⟨oC, hoC, fun v z => aj7 hn7 hoC v z⟩
      have Ip := Io.pinned fC' obC
      show wpAny (model X.prog X.w) X.A (assign (.Name y py) X.env (.ref s2.heap.objs.size)) _ _ s7
      refine thn (i7 (pos := py) hN hi₀ hx hf _ s7 σ H6 (.ref s2.heap.objs.size) (.ref s2.heap.objs.size) DD.nx Ip rfl qn) fun _ s9 ⟨σ9, H9, I9, q9⟩ => ?_
      have keepC := (I9.pin (H3.objs.size, oC) (List.mem_append_right _ (List.mem_append_right _ (t8 (by simp) hoC)))).1
      have H9C := (I9.pin (H3.objs.size, oC) (List.mem_append_right _ (List.mem_append_right _ (t8 (by simp) hoC)))).2.1
      refine ⟨m7, hn7.at' fun o e => by rw [hoC] at e; cases e; exact keepC, fun h' sb => ?_⟩
      obtain ⟨_, g1, g2, g3, g4, g5⟩ := fC
      exact ⟨σ9, H9, I9.unpinned.turned (t' := s9.toks) (fun b o hb e => (sb.2 b hb).trans e) H9C g1 g3 g4 g5, q9⟩
    · refine thn (T.item (X.block scope cl H3.objs.size Nc s2 H2 fp pins) rfl rfl rfl hc i [] s6 σ6 H6 _ I6 (stat fr6) st6 go) fun r s7 ⟨u, hr, h7⟩ => ?_
      subst hr
      refine thn h7 fun _ s8 ⟨x, H8, I8, r8, y8, st8, fr8⟩ => ?_
      have I8' := I8.pinned (stat fr8) (T.obj _ _ st8)
      refine thn (hg _ _ _ _ _ _ s8 σ6 H8 x u _ I8' r8 (step x H8 y8)) fun _ s9 ⟨σ9, H9, I9, q9⟩ => ?_
      refine thn (he _ _ _ _ _ _ s9 σ9 H9 _ I9 q9) fun u10 s10 ⟨v10, H10, I10, r10, ys, hys, hlen, m', hm', w'⟩ => ?_
      refine thn (O0 _ s10 σ9 H10 (.ref s2.heap.objs.size) [v10] (.ref s2.heap.objs.size) [u10] (fun _ H11 => H11 = upd H10 s2.heap.objs.size (.lst (ys ++ [v10]))) I10 rfl (.cons r10 .nil) ⟨_, ys, v10, rfl, rfl, hys, hlen, rfl⟩) fun _ s11 ⟨_, H11, I11, _, hH11⟩ => ?_
      subst hH11
      refine ⟨m', hm', i + 1, σ9, _, I11.unpinned, T.keep _ _ _ st8 fun b hb o e => (I11.pin (b, o) (List.mem_append_right _ (List.mem_append_right _ (t8 hb e)))).1, fun b hb => ?_, w'⟩
      obtain ⟨o, e, d⟩ := T.obj _ _ st8 b hb
      exact (I11.pin (b, o) (List.mem_append_right _ (List.mem_append_right _ (t8 hb e)))).2.1
  exact codeAny_compStart_list (loop _ rfl) (T.self _ 0 _ _ _ (T.keep _ _ _ st2 fun b hb o e => old b o e) (loop _ rfl))
end
section
variable {X : Cx}
def ipM (c : Int → Int → Prop) (f : Int → Int → Int) : TIp := fun x y H Q => ∃ i j, x = .int i ∧ y = .int j ∧ c i j ∧ Q (.int (f i j)) H
theorem be4 : PIp X .Mult (ipM IntMulOk fun i j => i * j) := by
  intro pins s σ H x y v u Q I r1 r2 h
  obtain ⟨i, j, e1, e2, hc, q⟩ := h
  subst e1; subst e2
  obtain ⟨t, rfl⟩ := r1
  obtain ⟨t', rfl⟩ := r2
  exact imul_int ⟨.int _, H, I.tok _, ⟨_, rfl⟩, q⟩ hc
end
def aQ6 (K : PySem.W.Frag) : List V → Hp → VK → Prop := fun xs H Q => ∃ p ys, xs = [.ref p] ∧ (SqL K H p ys ∨ SqT K H p ys) ∧ ∀ l, H l = none → Q (.ref l) (upd H l (.lst ys))
theorem M1 {M : Model} {A : Around} {E : Value → Shared → Prop} {s : Shared} {scope : Scope} {globals : Addr} {cl : List (Str × Addr)} {qual : Str} {func : Option Addr} {code : Value} {outer : Env} {Q : Env → Shared → Prop}
    (hQ : Q { scope, locals := s.heap.objs.size, globals, cells := cellsFrom (s.heap.objs.size + 1) scope.names cl, qual, func, code := outer.code, frame := outer.frame, builtins := outer.builtins }
      { s with heap := pushCells (s.heap.push { cls := .type "dict", data := .dict #[] }) scope.names }) :
    wpAny M A (newFunctionEnv scope globals cl [] qual func code (some outer)) Q E s := by
  simp only [newFunctionEnv, Option.isSome_some, if_true]
  refine wpAny_bind (wpAny_alloc ?_)
  refine wpAny_bind (wpAny_layCells _ (fun name kind cells => by cases hkc : kind == NameKind.cell <;> simp [hkc]) _ _ _ _ ?_)
  rw [show ({ s with heap := s.heap.push { cls := .type "dict", data := .dict #[] } } : Shared).heap.objs.size = s.heap.objs.size + 1 from Heap.size_push ..]
  rw [List.forIn_nil]
  exact wpAny_bind (wpAny_pure (wpAny_pure hQ))
structure aV7 (h h' : Heap) (names : List (Str × NameKind)) (acc cs : List (Str × Addr)) : Prop where
  cell : ∀ x c, cs.lookup x = some c → ∃ v, h'.IsCell c v
  inj : ∀ x y c, cs.lookup x = some c → cs.lookup y = some c → x = y
  old : ∀ x c, cs.lookup x = some c → acc.lookup x = some c ∨ h.objs.size ≤ c
  fresh : ∀ x, (x, NameKind.cell) ∈ names → ∀ c, cs.lookup x = some c → h.objs.size ≤ c
theorem aa0 {x name : Str} {a c : Addr} {acc : List (Str × Addr)} (h : ((name, a) :: acc).lookup x = some c) : (x = name ∧ c = a) ∨ (x ≠ name ∧ acc.lookup x = some c) := by
  rw [List.lookup_cons] at h
  by_cases e : x = name
  · subst e
    simp at h
    exact .inl ⟨rfl, h.symm⟩
  · have : (x == name) = false := by simpa using e
    rw [this] at h
    exact .inr ⟨e, h⟩
theorem ae5 : ∀ (names : List (Str × NameKind)) (h : Heap) (acc : List (Str × Addr)), (∀ x c, acc.lookup x = some c → ∃ v, h.IsCell c v) → (∀ x y c, acc.lookup x = some c → acc.lookup y = some c → x = y) →
    aV7 h (pushCells h names) names acc (cellsFrom h.objs.size names acc)
  | [], h, acc, hc, hi => ⟨hc, hi, fun _ _ e => .inl e, fun _ hm => by cases hm⟩
  | (name, kind) :: r, h, acc, hc, hi => by
    unfold pushCells cellsFrom
    split
    · have ih := ae5 r (h.push { cls := .type "cell", data := .cell none }) ((name, h.objs.size) :: acc)
        (fun x c e => by
          rcases aa0 e with ⟨_, e2⟩ | ⟨_, e2⟩
          · subst e2; exact ⟨none, _, Heap.get?_push_size _ rfl, rfl⟩
          · obtain ⟨v, z⟩ := hc x c e2
            exact ⟨v, z.keeps fun b o e => Heap.get?_push_of_some _ e⟩)
        (fun x y c e1 e2 => by
          rcases aa0 e1 with ⟨a1, a2⟩ | ⟨a1, a2⟩ <;> rcases aa0 e2 with ⟨b1, b2⟩ | ⟨b1, b2⟩
          · rw [a1, b1]
          · obtain ⟨v, z⟩ := hc y c b2
            exact absurd z.lt (by rw [a2]; exact Nat.lt_irrefl _)
          · obtain ⟨v, z⟩ := hc x c a2
            exact absurd z.lt (by rw [b2]; exact Nat.lt_irrefl _)
          · exact hi x y c a2 b2)
      rw [Heap.size_push] at ih
      refine ⟨ih.cell, ih.inj, fun x c e => ?_, fun x hm c e => ?_⟩
      · rcases ih.old x c e with z | z
        · rcases aa0 z with ⟨_, e2⟩ | ⟨_, e2⟩
          · exact .inr (by rw [e2]; exact Nat.le_refl _)
          · exact .inl e2
        · rw [Heap.size_push] at z
          exact .inr (Nat.le_of_succ_le z)
      · rcases List.mem_cons.mp hm with z | z
        · cases z
          rcases ih.old _ c e with z | z
          · rcases aa0 z with ⟨_, e2⟩ | ⟨e1, _⟩
            · rw [e2]; exact Nat.le_refl _
            · exact absurd rfl e1
          · rw [Heap.size_push] at z
            exact Nat.le_of_succ_le z
        · have := ih.fresh x z c e
          rw [Heap.size_push] at this
          exact Nat.le_of_succ_le this
    · rename_i hk
      have ih := ae5 r h acc hc hi
      refine ⟨ih.cell, ih.inj, ih.old, fun x hm c e => ?_⟩
      rcases List.mem_cons.mp hm with z | z
      · cases z; exact absurd rfl hk
      · exact ih.fresh x z c e
theorem ab3 {x : Str} : ∀ (names : List (Str × NameKind)) (n : Nat) (acc : List (Str × Addr)), (x, NameKind.cell) ∉ names → (cellsFrom n names acc).lookup x = acc.lookup x
  | [], _, _, _ => rfl
  | (name, kind) :: r, n, acc, h => by
    unfold cellsFrom
    have hr : (x, NameKind.cell) ∉ r := fun z => h (List.mem_cons_of_mem _ z)
    split
    · rename_i hk
      rw [ab3 r _ _ hr, List.lookup_cons]
      have : (x == name) = false := by
        refine beq_eq_false_iff_ne.mpr fun e => h ?_
        subst e
        rw [← beq_iff_eq.mp hk]
        exact List.mem_cons_self
      rw [this]
    · exact ab3 r _ _ hr
theorem W4 {x : Str} : ∀ (names : List (Str × NameKind)) (n : Nat) (acc : List (Str × Addr)), ((x, NameKind.cell) ∈ names ∨ ∃ c, acc.lookup x = some c) → ∃ c, (cellsFrom n names acc).lookup x = some c
  | [], _, _, h => h.elim (fun z => by cases z) id
  | (name, kind) :: r, n, acc, h => by
    unfold cellsFrom
    have up : (∃ c, acc.lookup x = some c) → ∃ c, ((name, n) :: acc).lookup x = some c := fun ⟨c, e⟩ => by
      rw [List.lookup_cons]
      split
      · exact ⟨_, rfl⟩
      · exact ⟨c, e⟩
    split
    · refine W4 r _ _ ?_
      rcases h with z | z
      · rcases List.mem_cons.mp z with z | z
        · cases z
          exact .inr ⟨n, by simp⟩
        · exact .inl z
      · exact .inr (up z)
    · rename_i hk
      refine W4 r _ _ ?_
      rcases h with z | z
      · rcases List.mem_cons.mp z with z | z
        · cases z; exact absurd rfl hk
        · exact .inl z
      · exact .inr z
def aN0 (scope : Scope) (x : Str) : Bool := scope.names.any fun y => y.1 == x && y.2 == .cell
theorem ay9 {scope : Scope} {x : Str} (h : aN0 scope x = true) : (x, NameKind.cell) ∈ scope.names := by
  unfold aN0 at h
  obtain ⟨⟨a, k⟩, hm, hh⟩ := List.any_eq_true.mp h
  simp only [Bool.and_eq_true, beq_iff_eq] at hh
  obtain ⟨rfl, rfl⟩ := hh
  exact hm
abbrev Cx.blockC (X : Cx) (scope : Scope) (cl : List (Str × Addr)) (C : Addr) (Nc : List Str) (s₂ : Shared) (H₂ : Hp) (fp : List Addr) (pins : List (Addr × Obj)) : Cx :=
  { X with N := Nc, s₀ := s₂, H₀ := H₂, env := compEnvC scope (cellsFrom (C + 1) scope.names cl) C X.env, outer := X.stack, ex := fp, fn := aN0 scope, pn := X.pn ++ pins, xe := fun _ _ => False }
structure ai7 (X : Cx) (scope : Scope) (cl : List (Str × Addr)) (Nc : List Str) (caps : List (Option Nat)) : Prop where
  clos : closureFor scope X.env = pure cl
  sub : ∀ x c, cl.lookup x = some c → X.env.cells.lookup x = some c
  has : ∀ n x, (relabel scope X.env).names.lookup x = some .cell ∨ (relabel scope X.env).names.lookup x = some .free → ∃ c, (cellsFrom n scope.names cl).lookup x = some c
  kind : scope.kind = .function
  names : ∀ x ∈ scope.names, x.2 = .local → scope.names.lookup x.1 = some .local
  len : caps.length = Nc.length
  cap : ∀ (i j : Nat) (x : Str), caps[i]? = some (some j) → Nc[i]? = some x → X.N[j]? = some x ∧ Vis X.env.scope x ∧ X.env.kindOf x ≠ some .local ∧ ((relabel scope X.env).names.lookup x = some .cell ∨ (relabel scope X.env).names.lookup x = some .free) ∧
    (∃ c, cl.lookup x = some c) ∧ ∀ n c, cl.lookup x = some c → (cellsFrom n scope.names cl).lookup x = some c
def aL2 (scope osc : Scope) (N ks Nc : List Str) (caps : List (Option Nat)) : Bool :=
  ((Q0 scope osc).all fun y => !(y.2 == .cell || y.2 == .free) || ks.contains y.1 || aN0 scope y.1) && scope.kind == .function &&
  (scope.names.all fun y => y.2 != .local || scope.names.lookup y.1 == some .local) && caps.length == Nc.length &&
  ((caps.zip Nc).all fun p => match p.1 with
    | none => true
    | some j => N[j]? == some p.2 && aN7 (osc.names.lookup p.2) && aN7 ((Q0 scope osc).lookup p.2) && ks.contains p.2 && !aN0 scope p.2)
theorem ai7.of {X : Cx} {scope osc : Scope} {cl : List (Str × Addr)} {N ks Nc : List Str} {caps : List (Option Nat)} (clos : closureFor scope X.env = pure cl) (hN : X.N = N) (hosc : X.env.scope = osc) (hks : cl.map (·.1) = ks)
    (sub : ∀ x c, cl.lookup x = some c → X.env.cells.lookup x = some c) (ok : aL2 scope osc N ks Nc caps = true) : ai7 X scope cl Nc caps := by
  unfold aL2 at ok
  simp only [Bool.and_eq_true, List.all_eq_true, beq_iff_eq, Bool.or_eq_true, Bool.not_eq_true', bne_iff_ne, ne_eq] at ok
  obtain ⟨⟨⟨⟨o1, o3⟩, o4⟩, o5⟩, o6⟩ := ok
  have er : (relabel scope X.env).names = Q0 scope osc := by subst hosc; rfl
  have kof : ∀ x, X.env.kindOf x = osc.names.lookup x := fun x => by subst hosc; rfl
  refine ⟨clos, sub, fun n x h => ?_, o3, fun x hx hl => ?_, o5, fun i j x h1 h2 => ?_⟩
  · rw [er] at h
    have key : ∀ k, (Q0 scope osc).lookup x = some k → (k = .cell ∨ k = .free) → ∃ c, (cellsFrom n scope.names cl).lookup x = some c := fun k hk hcf => by
      refine W4 _ _ _ ?_
      rcases o1 (x, k) (ag2 hk) with (z | z) | z
      · rcases hcf with rfl | rfl <;> simp at z
      · refine .inr (P8 ?_)
        rw [hks]; simpa using z
      · exact .inl (ay9 z)
    rcases h with h | h
    · exact key _ h (.inl rfl)
    · exact key _ h (.inr rfl)
  · rcases o4 x hx with z | z
    · exact absurd hl z
    · exact z
  · have hm : (some j, x) ∈ caps.zip Nc := by
      have : (caps.zip Nc)[i]? = some (some j, x) := by
        rw [List.getElem?_zip_eq_some]; exact ⟨h1, h2⟩
      exact List.mem_of_getElem? this
    have z := o6 _ hm
    simp only [Bool.and_eq_true, beq_iff_eq, Bool.not_eq_true'] at z
    obtain ⟨⟨⟨⟨z1, z2⟩, z3⟩, z4⟩, z5⟩ := z
    have c2 := am7 z2
    have c3 := am7 z3
    refine ⟨by rw [hN]; exact z1, ?_, ?_, ?_, P8 (by rw [hks]; simpa using z4), fun n c e => ?_⟩
    · rw [hosc]
      rcases c2 with c | c
      · exact .inr (.inl c)
      · exact .inr (.inr c)
    · rw [kof]
      rcases c2 with c | c <;> rw [c] <;> decide
    · rw [er]; exact c3
    · rw [ab3 _ _ _ fun hm => ?_]
      · exact e
      · have : aN0 scope x = true := List.any_eq_true.mpr ⟨_, hm, by simp⟩
        rw [z5] at this; cases this
section
variable {X : Cx}
theorem ah4 {elt tg iter : Expr} {scope : Scope} {pos : Pos} {cl : List (Str × Addr)} {Nc : List Str} {caps : List (Option Nat)} {wi : TI} {g : TG} {te : TE} (hc : X.calm = true) (cp : ai7 X scope cl Nc caps) (hi : PI X tg iter wi)
    (hg : ∀ C s₂ H₂ fp pins, PG (X.blockC scope cl C Nc s₂ H₂ fp pins) tg g) (he : ∀ C s₂ H₂ fp pins, PE (X.blockC scope cl C Nc s₂ H₂ fp pins) elt te) (hs : ∀ x, foldedSetIterable iter X.env x = pure x := by intro _; rfl) :
    PE X (.ListComp elt [⟨tg, iter, [], 0⟩] scope pos) (aB6 wi caps g te) := by
  intro pins s σ H Q I h
  rw [eval_ListComp]
  refine wpAny_comprehension_free (use := none) rfl hs cp.clos cp.kind cp.names ?_
  refine thn (hi pins s σ H _ I h) fun v s1 h1 => thn h1 fun itv s2 h2 => ?_
  obtain ⟨it, fp, tn, J, H2, e, I2, T, st2, f2, hW⟩ := h2
  subst e
  refine wpAny_newObj_type ?_ (by show 0 ≤ sizeLine; exact Nat.zero_le _)
  refine M1 ?_
  dsimp only
  generalize hH3 : s2.heap.push { cls := .type "list", dict := none, data := .seq ([] : List Value).toArray } = H3
  have hCe : H3.objs.size = s2.heap.objs.size + 1 := by rw [← hH3, Heap.size_push]
  have P2 : ∀ b o, s2.heap.get? b = some o → b ≠ H3.objs.size := fun b o e => by rw [hCe]; exact Nat.ne_of_lt (Nat.lt_succ_of_lt (Heap.lt_size e))
  have hns0 := (Heap.Ns.new H3 (.type "dict")).keeps (pushCells_keeps scope.names _)
  have old0 : ∀ b o, s2.heap.get? b = some o → (pushCells (H3.push { cls := .type "dict", data := .dict #[] }) scope.names).get? b = some o := fun b o e => pushCells_keeps _ _ b o (Heap.get?_push_of_some _ (hH3 ▸ Heap.get?_push_of_some _ e))
  have hD0 : (pushCells (H3.push { cls := .type "dict", data := .dict #[] }) scope.names).get? s2.heap.objs.size = some { cls := .type "list", dict := none, data := .seq ([] : List Value).toArray } :=
    pushCells_keeps _ _ _ _ (Heap.get?_push_of_some _ (hH3 ▸ Heap.get?_push_size _ rfl))
  have own := ae5 scope.names (H3.push { cls := .type "dict", data := .dict #[] }) cl (fun x c e => by
      obtain ⟨v, o, ho, hd⟩ := I2.cell x c (cp.sub x c e)
      exact ⟨v, o, Heap.get?_push_of_some _ (hH3 ▸ Heap.get?_push_of_some _ ho), hd⟩) (fun x y c h1 h2 => I2.ok.inj x y c (cp.sub x c h1) (cp.sub y c h2))
  rw [Heap.size_push] at own
  generalize hh4 : pushCells (H3.push { cls := .type "dict", data := .dict #[] }) scope.names = h4 at own hns0 old0 hD0 ⊢
  have hns := hns0
  have old := old0
  have hD := hD0
  have isOld : ∀ x c, (cellsFrom (H3.objs.size + 1) scope.names cl).lookup x = some c → X.env.cells.lookup x = some c ∨ H3.objs.size + 1 ≤ c := fun x c e => (own.old x c e).imp (cp.sub x c) fun z => by rw [Heap.size_push] at z; exact z
  have hDn : H2 s2.heap.objs.size = none := I2.fresh
  have hCn : H2 H3.objs.size = none := I2.hok.fresh (by rw [hCe]; exact Nat.le_succ _)
  have hCs : s2.heap.objs.size ≤ H3.objs.size := by rw [hCe]; exact Nat.le_succ _
  have hDC : s2.heap.objs.size ≠ H3.objs.size := by rw [hCe]; exact Nat.ne_of_lt (Nat.lt_succ_self _)
  have fpl : ∀ b ∈ fp, ∃ o, s2.heap.get? b = some o := fun b hb => let ⟨o, e, _⟩ := T.obj _ _ st2 b hb; ⟨o, e⟩
  have fpC : ∀ b ∈ fp, b ≠ H3.objs.size := fun b hb => let ⟨o, e⟩ := fpl b hb; P2 b o e
  have fpD : ∀ b ∈ fp, b ≠ s2.heap.objs.size := fun b hb => let ⟨o, e⟩ := fpl b hb; Nat.ne_of_lt (Heap.lt_size e)
  have stkN : ∀ b, b ≠ X.env.locals → b ∉ X.fs → b ∉ frs X.stack := fun b h1 h2 z => (List.mem_cons.mp (I2.stkSub b z)).elim h1 h2
  have fpX : ∀ b ∈ fp, ∀ x c, (cellsFrom (H3.objs.size + 1) scope.names cl).lookup x = some c → c ≠ b := fun b hb x c h => by
    rcases isOld x c h with z | z
    · exact (f2 b hb).2.2.2.2.1 x c z
    · obtain ⟨o, e⟩ := fpl b hb
      exact Nat.ne_of_gt (Nat.lt_of_lt_of_le (Heap.lt_size e) (Nat.le_trans (Nat.le_trans hCs (Nat.le_succ _)) z))
  obtain ⟨W, ⟨m0, w0⟩, turn⟩ := hW s2.heap.objs.size hDn
  have okB : (X.blockC scope cl H3.objs.size Nc s2 H2 fp pins).Ok := by
    refine ⟨I2.ok.mod, ?_, I2.ok.glob, I2.ok.blt, hCs, fun x y c h1 h2 => own.inj x y c h1 h2, fun x hx => cp.has _ x hx, fun x c h e => Nat.le_trans (Nat.le_trans hCs (Nat.le_succ _)) (by have z := own.fresh x (ay9 h) c e; rw [Heap.size_push] at z; exact z), I2.ok.hd, I2.ok.frames, .inl rfl, fun b hb => ⟨fpC b hb, fun x c h => fpX b hb x c h⟩, I2.bs, Nat.le_trans I2.ok.bsz I2.sz, fun b o e hb => ?_, fun b hb => stkN b (f2 b hb).2.1 (f2 b hb).2.2.1, I2.stack, I2.stkFree⟩
    · exact cp.kind
    · rcases (f2 b hb).2.2.2.1 with z | z
      · exact I2.ok.noex b o e z
      · exact absurd (Nat.lt_of_lt_of_le (Heap.lt_size e) (Nat.le_trans I2.ok.bsz z)) (Nat.lt_irrefl _)
  have hokB : HOk X.prog X.w (upd H2 s2.heap.objs.size (.lst [])) h4 := I2.hok.laid old (Nat.le_refl _) ⟨Nat.zero_le _, [], _, .nil, hD⟩
  have IB : Inv (X.blockC scope cl H3.objs.size Nc s2 H2 fp pins) [] (F2 caps σ) (upd H2 s2.heap.objs.size (.lst [])) { s2 with heap := h4 } := by
    refine ⟨okB, rfl, I2.bare, Un.laid old (Nat.le_refl _) hDn, ⟨_, hns, fun i x v e1 e2 e3 => ?_⟩, fun x c e => ?_, (show upd H2 s2.heap.objs.size (.lst []) H3.objs.size = none by rw [i0 (Ne.symm hDC)]; exact hCn), fun x c e => ?_, fun p hp => ?_, hokB, ?_⟩
    · unfold F2 at e2
      rw [List.getElem?_map] at e2
      cases hcap : caps[i]? with
      | none => rw [hcap] at e2; cases e2
      | some o =>
        rw [hcap] at e2
        cases o with
        | none => cases e2
        | some j =>
          have hj : σ[j]? = some (some v) := by
            have e2' : (σ[j]?).join = some v := Option.some.inj e2
            cases q : σ[j]? with
            | none => rw [q] at e2'; cases e2'
            | some z => rw [q] at e2'; exact congrArg some e2'
          obtain ⟨n1, n2, n3, n4, n5, n6⟩ := cp.cap i j x hcap e1
          obtain ⟨m, hm, hl⟩ := I2.loc
          obtain ⟨u, r, q⟩ := hl j x v n1 hj n2
          rcases q with ⟨k, _⟩ | ⟨k, c, ec, z⟩
          · exact absurd k n3
          · obtain ⟨c', ec'⟩ := n5
            have := cp.sub x c' ec'
            rw [ec] at this; cases this
            obtain ⟨oc, ho, hd⟩ := z
            exact ⟨u, r, .inr ⟨n4, c, n6 _ _ ec', oc, old _ _ ho, hd⟩⟩
    · exact own.cell x c e
    · show upd H2 s2.heap.objs.size (.lst []) c = none
      rcases isOld x c e with z | z
      · obtain ⟨v, oc, ho, hd⟩ := I2.cell x c z
        rw [i0 (Nat.ne_of_lt (Heap.lt_size ho))]
        exact I2.freeC x c z
      · have hz : s2.heap.objs.size < c := Nat.lt_of_lt_of_le (Nat.lt_of_le_of_lt hCs (Nat.lt_succ_self _)) z
        rw [i0 (Nat.ne_of_gt hz)]
        exact I2.hok.fresh (Nat.le_of_lt hz)
    · have hp' : p ∈ X.pn ++ pins := by simpa using hp
      obtain ⟨e1, e2, e3, e4, e5⟩ := I2.pin p hp'
      exact ⟨old _ _ e1, by rw [i0 (Nat.ne_of_lt (Heap.lt_size e1))]; exact e2, P2 _ _ e1, stkN _ e3 e4, e5⟩
    · show (F2 caps σ).length = Nc.length
      unfold F2
      rw [List.length_map]; exact cp.len
  have stat : ∀ {H' : Hp}, (∀ b ∈ fp, H' b = none) → ∀ b ∈ fp, ab4 (X.blockC scope cl H3.objs.size Nc s2 H2 fp pins) [] H' b := fun hn b hb =>
    ⟨hn b hb, fpC b hb, stkN b (f2 b hb).2.1 (f2 b hb).2.2.1, .inl hb, fun x c h => fpX b hb x c h, fun p hp => (f2 b hb).2.2.2.2.2 p (by simpa using hp)⟩
  have loop : ∀ s5 : Shared, s5 = { s2 with heap := h4 } →
      codeAny (model X.prog X.w) X.A (.compLoop (.ListComp elt [⟨tg, iter, [], 0⟩] scope pos) 0 (.ref it) (.ref s2.heap.objs.size) (compEnvC scope (cellsFrom (H3.objs.size + 1) scope.names cl) H3.objs.size X.env))
        (compPost (model X.prog X.w) X.A X.xe none (EP X pins σ Q) (.ref s2.heap.objs.size) H3.objs.size) s5 := by
    rintro s5 rfl
    refine ae4 (fun n s' => ∃ i σ' H', Inv (X.blockC scope cl H3.objs.size Nc s2 H2 fp pins) [] σ' H' s' ∧ tn i s'.heap ∧ (∀ b ∈ fp, H' b = none) ∧ W i n σ' H') ?_ m0 ⟨0, _, _, IB, T.keep _ _ _ st2 fun b hb o e => old b o e, fun b hb => by rw [i0 (fpD b hb)]; exact (f2 b hb).1, w0⟩
    rintro n s6 ⟨i, σ6, H6, I6, st6, fr6, w6⟩
    rcases turn i n σ6 H6 w6 with ⟨stop, qn⟩ | ⟨go, step⟩
    · refine thn (T.done (X.blockC scope cl H3.objs.size Nc s2 H2 fp pins) rfl rfl rfl hc i [] s6 σ6 H6 _ I6 (stat fr6) st6 stop) fun r s7 ⟨hr, I7⟩ => ?_
      subst hr
      obtain ⟨m7, hn7, _⟩ := id I7.loc
      exact ⟨m7, hn7, fun h' sb => ⟨.ref s2.heap.objs.size, H6, I2.sameC f2 I7.os I7.bare I7.base I7.hok hCs I7.free sb, rfl, qn⟩⟩
    · refine thn (T.item (X.blockC scope cl H3.objs.size Nc s2 H2 fp pins) rfl rfl rfl hc i [] s6 σ6 H6 _ I6 (stat fr6) st6 go) fun r s7 ⟨u, hr, h7⟩ => ?_
      subst hr
      refine thn h7 fun _ s8 ⟨x, H8, I8, r8, y8, st8, fr8⟩ => ?_
      have I8' := I8.pinned (stat fr8) (T.obj _ _ st8)
      refine thn (hg _ _ _ _ _ _ s8 σ6 H8 x u _ I8' r8 (step x H8 y8)) fun _ s9 ⟨σ9, H9, I9, q9⟩ => ?_
      refine thn (he _ _ _ _ _ _ s9 σ9 H9 _ I9 q9) fun u10 s10 ⟨v10, H10, I10, r10, ys, hys, hlen, m', hm', w'⟩ => ?_
      refine thn (O0 _ s10 σ9 H10 (.ref s2.heap.objs.size) [v10] (.ref s2.heap.objs.size) [u10] (fun _ H11 => H11 = upd H10 s2.heap.objs.size (.lst (ys ++ [v10]))) I10 rfl (.cons r10 .nil) ⟨_, ys, v10, rfl, rfl, hys, hlen, rfl⟩) fun _ s11 ⟨_, H11, I11, _, hH11⟩ => ?_
      subst hH11
      refine ⟨m', hm', i + 1, σ9, _, I11.unpinned, T.keep _ _ _ st8 fun b hb o e => (I11.pin (b, o) (List.mem_append_right _ (List.mem_append_right _ (t8 hb e)))).1, fun b hb => ?_, w'⟩
      obtain ⟨o, e, d⟩ := T.obj _ _ st8 b hb
      exact (I11.pin (b, o) (List.mem_append_right _ (List.mem_append_right _ (t8 hb e)))).2.1
  exact codeAny_compStart_list (loop _ rfl) (T.self _ 0 _ _ _ (T.keep _ _ _ st2 fun b hb o e => old b o e) (loop _ rfl))
end
structure Stp (prog : Program) (w : World) (it src : Addr) (ar : Array Value) (st : Nat → Heap → Prop) : Prop where
  stay : ∀ {k : Nat} {h h' : Heap}, st k h → (∀ o, h.get? it = some o → h'.get? it = some o) → (∀ o, h.get? src = some o → h'.get? src = some o) → st k h'
  item : ∀ {A : Around} {E : Value → Shared → Prop} {s : Shared} {k : Nat} {v : Value} {Q : Value → Shared → Prop}, st k s.heap → ar[k]? = some v → (∀ h', st (k + 1) h' → Heap.SameBut it s.heap h' → Q v { s with heap := h' }) → wpAny (model prog w) A (Builtin.SmallTypes.nextOf (.ref it)) Q E s
  fin : ∀ {A : Around} {E : Value → Shared → Prop} {s : Shared} {k : Nat} {Q : Value → Shared → Prop}, A.handled = none → st k s.heap → ar[k]? = none → (∀ h' e, Heap.ExtBut it s.heap h' → (∃ o, h'.get? e = some o ∧ o.cls = .type "StopIteration") → E (.ref e) { s with heap := h' }) → wpAny (model prog w) A (Builtin.SmallTypes.nextOf (.ref it)) Q E s
def bh2 (it src : Addr) (ar : Array Value) (k : Nat) (h : Heap) : Prop := h.IsTupleIter it src k ∧ h.IsTuple src ar
theorem ad6 {prog : Program} {w : World} {it src : Addr} {ar : Array Value} (ne : src ≠ it) : Stp prog w it src ar (bh2 it src ar) where
  stay := fun st h1 h2 => ⟨st.1.at h1, by obtain ⟨o, e, r⟩ := st.2; exact ⟨o, h2 o e, r⟩⟩
  item := by
    intro A E s k v Q st hv hQ
    obtain ⟨hi, ht⟩ := st
    obtain ⟨ob, gob, cob, dob⟩ := id hi
    obtain ⟨os, gos, _, ns, dos⟩ := id ht
    unfold Builtin.SmallTypes.nextOf
    refine wpAny_bind (wpAny_callSpecial?_slot (name := Str.ofString "__next__") hi.typeIs F.slot_tuple_iterator_next (wpAny_call_entry F.slot_tuple_iterator_next hi.typeIs F.entry_tuple_iterator_next ?_ (F.args_tuple_iterator_next_1 _)))
    show wpAny _ _ (field (.ref it) 0 >>= _) _ _ s; refine wpAny_bind (wpAny_field gob dob (x := .ref src) rfl ?_)
    show wpAny _ _ (if (Value.ref src == Value.none) = true then _ else _) _ _ s; rw [if_neg (show ¬ ((Value.ref src == Value.none) = true) from Bool.false_ne_true)]
    show wpAny _ _ (field (.ref it) 1 >>= _) _ _ s; refine wpAny_bind (wpAny_field gob dob (x := .int k 0) rfl ?_)
    show wpAny _ _ (seqItems? (.ref src) >>= _) _ _ s; refine wpAny_bind (wpAny_seqItems gos dos ?_)
    simp only [Int.toNat_natCast, hv]
    refine wpAny_bind (wpAny_setField gob dob (by simp) (wpAny_pure ⟨v, rfl, wpAny_pure (hQ _ ⟨?_, ?_⟩ (Heap.SameBut.update ..))⟩))
    · exact ⟨_, Heap.get?_update_self _ gob (Obj.isFreed_of_fields (Obj.data_mapFields dob _)), (Obj.cls_mapFields ..).trans cob, by rw [Obj.data_mapFields dob]; simp [rawInt]⟩
    · exact ht.extBut (Heap.SameBut.update ..).extBut ne
  fin := by
    intro A E s k Q hh st hv hE
    obtain ⟨hi, ht⟩ := st
    obtain ⟨ob, gob, cob, dob⟩ := id hi
    obtain ⟨os, gos, _, ns, dos⟩ := id ht
    unfold Builtin.SmallTypes.nextOf
    refine wpAny_bind (wpAny_callSpecial?_slot (name := Str.ofString "__next__") hi.typeIs F.slot_tuple_iterator_next (wpAny_call_entry F.slot_tuple_iterator_next hi.typeIs F.entry_tuple_iterator_next ?_ (F.args_tuple_iterator_next_1 _)))
    show wpAny _ _ (field (.ref it) 0 >>= _) _ _ s; refine wpAny_bind (wpAny_field gob dob (x := .ref src) rfl ?_)
    show wpAny _ _ (if (Value.ref src == Value.none) = true then _ else _) _ _ s; rw [if_neg (show ¬ ((Value.ref src == Value.none) = true) from Bool.false_ne_true)]
    show wpAny _ _ (field (.ref it) 1 >>= _) _ _ s; refine wpAny_bind (wpAny_field gob dob (x := .int k 0) rfl ?_)
    show wpAny _ _ (seqItems? (.ref src) >>= _) _ _ s; refine wpAny_bind (wpAny_seqItems gos dos ?_)
    simp only [Int.toNat_natCast, hv]
    refine wpAny_bind (wpAny_rule (wpAny_bind (wpAny_setField gob dob (by simp) ?_)))
    show wpAny _ _ (newExc (.type "StopIteration") [] >>= _) _ _ _; refine wpAny_bind ?_; simp only [newExc, newTuple]; refine wpAny_bind (wpAny_newObj_type ?_ (by size_fits)); refine wpAny_bind (m := firstArgMember _ _) (wpAny_of_eq (a := Value.none) (by first | rfl | (simp only [firstArgMember]; rfl)) ?_); refine wpAny_newObj_type ?_ (by size_fits)
    simp only [raiseNew]; refine wpAny_bind (wpAny_handled ?_); (first | rw [show A.in1.handled = none from hh] | rw [hh]); refine wpAny_bind (wpAny_pure (wpAny_throw ?_))
    exact hE _ _ (((Heap.SameBut.update ..).extBut.push _).push _) ⟨_, Heap.get?_push_size _ rfl, rfl⟩
section
variable {prog : Program} {w : World} {A : Around} {E : Value → Shared → Prop} {s : Shared}
theorem aM0 {z TI TO i1 i2 a b : Addr} {k : Nat} {xs ys : Array Value} {x y p q : Value} {S1 S2 : Nat → Heap → Prop} {Q : Value → Shared → Prop} (D : ZipApart z TI TO i1 i2 a b) (N1 : Stp prog w i1 a xs S1) (N2 : Stp prog w i2 b ys S2)
    (gz : IsZip s.heap z TI TO .none) (gI : IsPair s.heap TI (.ref i1) (.ref i2)) (gO : IsPair s.heap TO p q) (t1 : S1 k s.heap) (t2 : S2 k s.heap) (ex : xs[k]? = some x) (ey : ys[k]? = some y) (r1 : ∃ o, s.heap.get? i1 = some o) (r2 : ∃ o, s.heap.get? i2 = some o)
    (hQ : ∀ h', IsZip h' z TI TO (rawInt s.heap.objs.size) → IsPair h' TO x y → S1 (k + 1) h' → S2 (k + 1) h' → IsPair h' s.heap.objs.size x y → h'.objs.size = s.heap.objs.size + 1 → (∀ c o, c ≠ z → c ≠ TO → c ≠ i1 → c ≠ i2 → s.heap.get? c = some o → h'.get? c = some o) → Q (.ref s.heap.objs.size) { s with heap := h' }) :
    wpAny (model prog w) A (Builtin.«zip.__next__» ⟨[.ref z], []⟩) (fun fin s' => ∃ v, fin = .done (.ret v) ∧ Q v s') E s := by
  show wpAny _ _ (field (.ref z) 2 >>= _) _ _ _; refine wpAny_bind (wpAny_field gz rfl (x := .bool false) rfl ?_)
  show wpAny _ _ (field (.ref z) 3 >>= _) _ _ _; refine wpAny_bind (wpAny_field gz rfl (x := .ref TI) rfl ?_)
  refine wpAny_bind (wpAny_seqItems gI rfl ?_)
  show wpAny _ _ (Builtin.SmallTypes.ownedTupleIsFree (.ref z) >>= _) _ _ _; refine wpAny_bind ?_; unfold Builtin.SmallTypes.ownedTupleIsFree
  refine wpAny_bind (wpAny_field gz rfl (x := .none) rfl (wpAny_pure ?_))
  simp only [if_true]; refine wpAny_bind (wpAny_rule ?_); refine wpAny_bind (wpAny_field gz rfl (x := .ref TO) rfl ?_)
  refine wpAny_bind (wpAny_setField_rec gz (by simp) fun h₁ z1 u1 => ?_)
  replace z1 : IsZip h₁ z TI TO .ellipsis := z1
  refine wpAny_bind ?_; simp only [List.zipIdx_cons, List.zipIdx_nil, List.forIn_cons, List.forIn_nil]
  refine wpAny_bind (wpAny_bind (wpAny_onRaise ?_)); show wpAny _ _ (Builtin.SmallTypes.nextOf (.ref i1) >>= _) _ _ _
  refine wpAny_bind (N1.item (N1.stay t1 (fun o e => u1.extBut _ _ D.i1z e) fun o e => u1.extBut _ _ D.l1z e) ex fun h₂ n1 u2 => wpAny_pure ?_)
  have O2 : IsPair h₂ TO p q := u2.extBut _ _ D.TOi1 (u1.extBut _ _ D.TOz gO)
  refine wpAny_bind (wpAny_seqItems O2 rfl ?_); refine wpAny_bind (wpAny_updateSeq_pair O2 fun h₃ O3 u3 => ?_)
  replace O3 : IsPair h₃ TO x q := O3
  refine wpAny_bind (wpAny_letGo (wpAny_pure ?_)); refine wpAny_bind (wpAny_bind (wpAny_onRaise ?_)); show wpAny _ _ (Builtin.SmallTypes.nextOf (.ref i2) >>= _) _ _ _
  have m2 : S2 k h₃ := N2.stay t2 (fun o e => u3.extBut _ _ D.TOi2.symm (u2.extBut _ _ D.i12.symm (u1.extBut _ _ D.i2z e))) fun o e => u3.extBut _ _ D.l2TO (u2.extBut _ _ D.l2i1 (u1.extBut _ _ D.l2z e))
  refine wpAny_bind (N2.item m2 ey fun h₄ n2 u4 => wpAny_pure ?_)
  have O4 : IsPair h₄ TO x q := u4.extBut _ _ D.TOi2 O3
  refine wpAny_bind (wpAny_seqItems O4 rfl ?_); refine wpAny_bind (wpAny_updateSeq_pair O4 fun h₅ O5 u5 => ?_)
  replace O5 : IsPair h₅ TO x y := O5
  refine wpAny_bind (wpAny_letGo (wpAny_pure (wpAny_pure ?_))); refine wpAny_bind (wpAny_seqItems O5 rfl ?_); refine wpAny_bind (wpAny_newTuple ?_)
  have sz : h₅.objs.size = s.heap.objs.size := by rw [u5.1, u4.1, u3.1, u2.1, u1.1]
  have z5 : IsZip h₅ z TI TO .ellipsis := u5.extBut _ _ D.TOz.symm (u4.extBut _ _ D.i2z.symm (u3.extBut _ _ D.TOz.symm (u2.extBut _ _ D.i1z.symm z1)))
  have k5 : ∀ c o, c ≠ z → c ≠ TO → c ≠ i1 → c ≠ i2 → s.heap.get? c = some o → h₅.get? c = some o := fun c o c1 c2 c3 c4 e => u5.extBut _ _ c2 (u4.extBut _ _ c4 (u3.extBut _ _ c2 (u2.extBut _ _ c3 (u1.extBut _ _ c1 e))))
  have n15 : S1 (k + 1) h₅ := N1.stay n1 (fun o e => u5.extBut _ _ D.TOi1.symm (u4.extBut _ _ D.i12 (u3.extBut _ _ D.TOi1.symm e))) fun o e => u5.extBut _ _ D.l1TO (u4.extBut _ _ D.l1i2 (u3.extBut _ _ D.l1TO e))
  have n25 : S2 (k + 1) h₅ := N2.stay n2 (fun o e => u5.extBut _ _ D.TOi2.symm e) fun o e => u5.extBut _ _ D.l2TO e
  have lz : z < h₅.objs.size := Heap.lt_size z5
  show wpAny _ _ (Builtin.SmallTypes.ownedTupleHandOut (.ref z) (.ref h₅.objs.size) >>= _) _ _ _; refine wpAny_bind ?_; unfold Builtin.SmallTypes.ownedTupleHandOut
  have z6 : IsZip (h₅.push { cls := .type "tuple", data := .seq #[x, y] }) z TI TO .ellipsis := Heap.get?_push_of_some _ z5
  refine wpAny_bind (wpAny_setField_rec z6 (by simp) fun h₇ z7 u7 => ?_)
  replace z7 : IsZip h₇ z TI TO (rawInt h₅.objs.size) := z7
  refine wpAny_setField_rec z7 (by simp) fun h₈ z8 u8 => ?_
  replace z8 : IsZip h₈ z TI TO (rawInt h₅.objs.size) := z8
  have up : ∀ c o, c ≠ z → h₅.get? c = some o → h₈.get? c = some o := fun c o c1 e => u8.extBut _ _ c1 (u7.extBut _ _ c1 (Heap.get?_push_of_some _ e))
  have T8 : IsPair h₈ h₅.objs.size x y := u8.extBut _ _ (Nat.ne_of_gt lz) (u7.extBut _ _ (Nat.ne_of_gt lz) (Heap.get?_push_size _ rfl))
  have s8 : h₈.objs.size = h₅.objs.size + 1 := by rw [u8.1, u7.1, Heap.size_push]
  rw [sz] at z8 T8 s8
  refine wpAny_pure ⟨_, rfl, ?_⟩
  show Q (.ref h₅.objs.size) _
  rw [sz]
  exact hQ h₈ z8 (up _ _ D.TOz O5) (N1.stay n15 (fun o e => up _ o D.i1z e) fun o e => up _ o D.l1z e) (N2.stay n25 (fun o e => up _ o D.i2z e) fun o e => up _ o D.l2z e) T8 s8 fun c o c1 c2 c3 c4 e => up c o c1 (k5 c o c1 c2 c3 c4 e)
theorem aP0 {z TI TO i1 i2 a b : Addr} {k : Nat} {xs ys : Array Value} {p q : Value} {S1 S2 : Nat → Heap → Prop} {Q : Fin → Shared → Prop} (hh : A.handled = none) (D : ZipApart z TI TO i1 i2 a b) (N1 : Stp prog w i1 a xs S1) (N2 : Stp prog w i2 b ys S2)
    (gz : IsZip s.heap z TI TO .none) (gI : IsPair s.heap TI (.ref i1) (.ref i2)) (gO : IsPair s.heap TO p q) (t1 : S1 k s.heap) (t2 : S2 k s.heap) (ends : xs[k]? = none ∨ ys[k]? = none)
    (hE : ∀ h' e, (∀ c o, c ≠ z → c ≠ TO → c ≠ i1 → c ≠ i2 → s.heap.get? c = some o → h'.get? c = some o) → (∃ o, h'.get? e = some o ∧ o.cls = .type "StopIteration") → E (.ref e) { s with heap := h' }) : wpAny (model prog w) A (Builtin.«zip.__next__» ⟨[.ref z], []⟩) Q E s := by
  show wpAny _ _ (field (.ref z) 2 >>= _) _ _ _; refine wpAny_bind (wpAny_field gz rfl (x := .bool false) rfl ?_)
  show wpAny _ _ (field (.ref z) 3 >>= _) _ _ _; refine wpAny_bind (wpAny_field gz rfl (x := .ref TI) rfl ?_)
  refine wpAny_bind (wpAny_seqItems gI rfl ?_)
  show wpAny _ _ (Builtin.SmallTypes.ownedTupleIsFree (.ref z) >>= _) _ _ _; refine wpAny_bind ?_; unfold Builtin.SmallTypes.ownedTupleIsFree
  refine wpAny_bind (wpAny_field gz rfl (x := .none) rfl (wpAny_pure ?_))
  simp only [if_true]; refine wpAny_bind (wpAny_rule ?_); refine wpAny_bind (wpAny_field gz rfl (x := .ref TO) rfl ?_)
  refine wpAny_bind (wpAny_setField_rec gz (by simp) fun h₁ z1 u1 => ?_)
  replace z1 : IsZip h₁ z TI TO .ellipsis := z1
  refine wpAny_bind ?_; simp only [List.zipIdx_cons, List.zipIdx_nil, List.forIn_cons, List.forIn_nil]
  refine wpAny_bind (wpAny_bind (wpAny_onRaise ?_)); show wpAny _ _ (Builtin.SmallTypes.nextOf (.ref i1) >>= _) _ _ _
  have m1 : S1 k h₁ := N1.stay t1 (fun o e => u1.extBut _ _ D.i1z e) fun o e => u1.extBut _ _ D.l1z e
  cases ex : xs[k]? with
  | none =>
    refine wpAny_bind (N1.fin hh m1 ex fun h₂ e u2 he => ?_)
    obtain ⟨oe, goe, coe⟩ := he
    have z2 : IsZip h₂ z TI TO .ellipsis := u2 _ _ D.i1z.symm z1
    have ez : e ≠ z := fun x => by subst x; rw [z2] at goe; cases goe; simp at coe
    refine wpAny_setField_rec z2 (by simp) fun h₃ _ u3 => hE h₃ e (fun c o c1 _ c3 _ x => u3.extBut _ _ c1 (u2 _ _ c3 (u1.extBut _ _ c1 x))) ⟨oe, u3.extBut _ _ ez goe, coe⟩
  | some x =>
    have ey : ys[k]? = none := by rcases ends with h | h; rw [ex] at h; cases h; exact h
    refine wpAny_bind (N1.item m1 ex fun h₂ n1 u2 => wpAny_pure ?_)
    have O2 : IsPair h₂ TO p q := u2.extBut _ _ D.TOi1 (u1.extBut _ _ D.TOz gO)
    refine wpAny_bind (wpAny_seqItems O2 rfl ?_); refine wpAny_bind (wpAny_updateSeq_pair O2 fun h₃ O3 u3 => ?_)
    refine wpAny_bind (wpAny_letGo (wpAny_pure ?_)); refine wpAny_bind (wpAny_bind (wpAny_onRaise ?_)); show wpAny _ _ (Builtin.SmallTypes.nextOf (.ref i2) >>= _) _ _ _
    have m2 : S2 k h₃ := N2.stay t2 (fun o e => u3.extBut _ _ D.TOi2.symm (u2.extBut _ _ D.i12.symm (u1.extBut _ _ D.i2z e))) fun o e => u3.extBut _ _ D.l2TO (u2.extBut _ _ D.l2i1 (u1.extBut _ _ D.l2z e))
    refine wpAny_bind (N2.fin hh m2 ey fun h₄ e u4 he => ?_)
    obtain ⟨oe, goe, coe⟩ := he
    have z4 : IsZip h₄ z TI TO .ellipsis := u4 _ _ D.i2z.symm (u3.extBut _ _ D.TOz.symm (u2.extBut _ _ D.i1z.symm z1))
    have ez : e ≠ z := fun x => by subst x; rw [z4] at goe; cases goe; simp at coe
    refine wpAny_setField_rec z4 (by simp) fun h₅ _ u5 => hE h₅ e (fun c o c1 c2 c3 c4 x => u5.extBut _ _ c1 (u4 _ _ c4 (u3.extBut _ _ c2 (u2.extBut _ _ c3 (u1.extBut _ _ c1 x))))) ⟨oe, u5.extBut _ _ ez goe, coe⟩
theorem aL9 {z TI TO i1 i2 a b : Addr} {k : Nat} {xs ys : Array Value} {x y p q : Value} {S1 S2 : Nat → Heap → Prop} {Q : Option Value → Shared → Prop} (D : ZipApart z TI TO i1 i2 a b) (N1 : Stp prog w i1 a xs S1) (N2 : Stp prog w i2 b ys S2)
    (gz : IsZip s.heap z TI TO .none) (gI : IsPair s.heap TI (.ref i1) (.ref i2)) (gO : IsPair s.heap TO p q) (t1 : S1 k s.heap) (t2 : S2 k s.heap) (ex : xs[k]? = some x) (ey : ys[k]? = some y) (r1 : ∃ o, s.heap.get? i1 = some o) (r2 : ∃ o, s.heap.get? i2 = some o)
    (hQ : ∀ h', IsZip h' z TI TO (rawInt s.heap.objs.size) → IsPair h' TO x y → S1 (k + 1) h' → S2 (k + 1) h' → IsPair h' s.heap.objs.size x y → h'.objs.size = s.heap.objs.size + 1 → (∀ c o, c ≠ z → c ≠ TO → c ≠ i1 → c ≠ i2 → s.heap.get? c = some o → h'.get? c = some o) → Q (some (.ref s.heap.objs.size)) { s with heap := h' }) : wpAny (model prog w) A (pyNext (.ref z)) Q E s := by
  have ty : s.TypeIs (.ref z) "zip" := ⟨_, gz, rfl⟩
  unfold pyNext
  exact wpAny_bind (wpAny_attempt (wpAny_callSpecial?_slot (name := Str.ofString "__next__") ty F.slot_zip_next (wpAny_call_entry F.slot_zip_next ty F.entry_zip_next (aM0 D N1 N2 gz gI gO t1 t2 ex ey r1 r2 fun h' a1 a2 a3 a4 a5 a6 a7 => wpAny_pure (hQ h' a1 a2 a3 a4 a5 a6 a7)) (F.args_zip_next_1 _))))
theorem aL8 {z TI TO i1 i2 a b : Addr} {k : Nat} {xs ys : Array Value} {p q : Value} {S1 S2 : Nat → Heap → Prop} {Q : Option Value → Shared → Prop} (hh : A.handled = none) (D : ZipApart z TI TO i1 i2 a b) (N1 : Stp prog w i1 a xs S1) (N2 : Stp prog w i2 b ys S2)
    (gz : IsZip s.heap z TI TO .none) (gI : IsPair s.heap TI (.ref i1) (.ref i2)) (gO : IsPair s.heap TO p q) (t1 : S1 k s.heap) (t2 : S2 k s.heap) (ends : xs[k]? = none ∨ ys[k]? = none)
    (hQ : ∀ h', (∀ c o, c ≠ z → c ≠ TO → c ≠ i1 → c ≠ i2 → s.heap.get? c = some o → h'.get? c = some o) → Q none { s with heap := h' }) : wpAny (model prog w) A (pyNext (.ref z)) Q E s := by
  have ty : s.TypeIs (.ref z) "zip" := ⟨_, gz, rfl⟩
  unfold pyNext
  refine wpAny_bind (wpAny_attempt (wpAny_callSpecial?_slot (name := Str.ofString "__next__") ty F.slot_zip_next (wpAny_call_entry F.slot_zip_next ty F.entry_zip_next (aP0 hh D N1 N2 gz gI gO t1 t2 ends fun h' e hk he => ?_) (F.args_zip_next_1 _))))
  obtain ⟨o, ho, hc⟩ := he
  exact wpAny_bind (wpAny_isInstance (T := "StopIteration") (b := true) ⟨o, ho, hc⟩ isSubtype_stop (wpAny_pure (hQ _ hk)))
end
abbrev zt1 (h : Heap) (a : Addr) : Heap := h.push { cls := .type "tuple_iterator", data := .fields #[.ref a, .int 0 0] }
abbrev zt2 (h : Heap) (a b : Addr) : Heap := (zt1 h a).push { cls := .type "tuple_iterator", data := .fields #[.ref b, .int 0 0] }
abbrev zt3 (h : Heap) (a b : Addr) : Heap := (zt2 h a b).push { cls := .type "tuple", data := .seq #[.ref h.objs.size, .ref (zt1 h a).objs.size] }
abbrev zt4 (h : Heap) (a b : Addr) : Heap := (zt3 h a b).push { cls := .type "tuple", data := .seq #[.none, .none] }
abbrev zt5 (h : Heap) (a b : Addr) : Heap := (zt4 h a b).push { cls := .type "zip", data := .fields #[.none, .bool false, .bool false, .ref (zt2 h a b).objs.size, .ref (zt3 h a b).objs.size] }
theorem aH5 (a b : Addr) (xs ys : Array Value) : Meets (Builtin.«zip.__new__» ⟨[.type "zip", .ref a, .ref b], []⟩) (fun _ R s => s.heap.IsTuple a xs ∧ s.heap.IsTuple b ys ∧ R (.ok (.ret (.ref (zt4 s.heap a b).objs.size))) { s with heap := zt5 s.heap a b }) :=
  .of_wp fun prog w A R s h => by
    obtain ⟨hp, g, d, tk, os⟩ := s; obtain ⟨ha, hb, h⟩ := h
    have hsub := sub_zip
    have L1 : Heap.IsTuple (Shared.heap ⟨hp, g, d, tk, os⟩) a xs := ha
    have L2 : Heap.IsTuple (Shared.heap ⟨hp.push { cls := .type "tuple_iterator", data := .fields #[.ref a, .int 0 0] }, g, d, tk, os⟩) b ys := Heap.IsTuple.push hb _
    wp_walk using wpAny_pyIter_tuple L1, wpAny_pyIter_tuple L2
    exact ⟨_, rfl, h⟩
section
variable {prog : Program} {w : World} {A : Around} {E : Value → Shared → Prop} {s : Shared}
theorem aO5 {a b : Addr} {xs ys : Array Value} {Q : Value → Shared → Prop} (ha : s.heap.IsTuple a xs) (hb : s.heap.IsTuple b ys)
    (h : ∀ h', IsZip h' (s.heap.objs.size + 4) (s.heap.objs.size + 2) (s.heap.objs.size + 3) .none → IsPair h' (s.heap.objs.size + 2) (.ref s.heap.objs.size) (.ref (s.heap.objs.size + 1)) → IsPair h' (s.heap.objs.size + 3) .none .none → h'.IsTupleIter s.heap.objs.size a 0 → h'.IsTupleIter (s.heap.objs.size + 1) b 0 → h'.objs.size = s.heap.objs.size + 5 → (∀ c o, s.heap.get? c = some o → h'.get? c = some o) → Q (.ref (s.heap.objs.size + 4)) { s with heap := h' }) : wpAny (model prog w) A (call (.type "zip") [.ref a, .ref b]) Q E s := by
  refine callType_new F.called_zip (by decide) (F.typeCall_zip_2 _ _) (F.newCall_zip_2 _ _) (fun obj => F.args_object_init_3 obj _ _) F.entry_zip_new (aH5 a b xs ys) ⟨ha, hb, ?_⟩
  have z1 : (zt1 s.heap a).objs.size = s.heap.objs.size + 1 := Heap.size_push ..
  have z2 : (zt2 s.heap a b).objs.size = s.heap.objs.size + 2 := by rw [Heap.size_push, z1]
  have z3 : (zt3 s.heap a b).objs.size = s.heap.objs.size + 3 := by rw [Heap.size_push, z2]
  have z4 : (zt4 s.heap a b).objs.size = s.heap.objs.size + 4 := by rw [Heap.size_push, z3]
  have z5 : (zt5 s.heap a b).objs.size = s.heap.objs.size + 5 := by rw [Heap.size_push, z4]
  have p1 : ∀ {h : Heap} {c : Addr} {o o' : Obj}, h.get? c = some o → (h.push o').get? c = some o := fun e => Heap.get?_push_of_some _ e
  have g5 : (zt5 s.heap a b).get? (zt4 s.heap a b).objs.size = some _ := Heap.get?_push_size _ rfl
  have g4 : (zt5 s.heap a b).get? (zt3 s.heap a b).objs.size = some _ := p1 (Heap.get?_push_size _ rfl)
  have g3 : (zt5 s.heap a b).get? (zt2 s.heap a b).objs.size = some _ := p1 (p1 (Heap.get?_push_size _ rfl))
  have g2 : (zt5 s.heap a b).get? (zt1 s.heap a).objs.size = some _ := p1 (p1 (p1 (Heap.get?_push_size _ rfl)))
  have g1 : (zt5 s.heap a b).get? s.heap.objs.size = some _ := p1 (p1 (p1 (p1 (Heap.get?_push_size _ rfl))))
  show _ ∧ _
  rw [z2, z3, z4] at g5
  rw [z1, z2] at g3
  rw [z3] at g4
  rw [z1] at g2
  rw [z4]
  exact ⟨⟨_, g5, rfl⟩, h _ g5 g3 g4 ⟨_, g1, rfl, rfl⟩ ⟨_, g2, rfl, rfl⟩ z5 fun c o x => p1 (p1 (p1 (p1 (p1 x))))⟩
end
def bf7 (K : PySem.W.Frag) (a b : Addr) : It :=
  ⟨fun i H => ∃ xs ys x y, SqT K H a xs ∧ SqT K H b ys ∧ xs[i]? = some x ∧ ys[i]? = some y,
   fun i H v H' => ∀ xs ys, SqT K H a xs → SqT K H b ys → ∃ x y p, xs[i]? = some x ∧ ys[i]? = some y ∧ H p = none ∧ v = .ref p ∧ H' = upd H p (.tup [x, y]),
   fun i H => ∃ xs ys, SqT K H a xs ∧ SqT K H b ys ∧ (xs.length ≤ i ∨ ys.length ≤ i)⟩
theorem aM1 {P : Program} {w : World} {K : PySem.W.Frag} {elts : List Expr} {k : Nat} {tpos : Pos} (a b z TI TO i1 i2 : Addr) (D : ZipApart z TI TO i1 i2 a b) :
    aI8 P w K (.Tuple elts k tpos) (bf7 K a b) [z, TI, TO, i1, i2] z (fun i h => IsZip h z TI TO .none ∧ IsPair h TI (.ref i1) (.ref i2) ∧ (∃ a b, IsPair h TO a b) ∧ h.IsTupleIter i1 a i ∧ h.IsTupleIter i2 b i) where
  mem := by simp
  obj := fun i h st c hc => by
    obtain ⟨hz, hTI, ⟨p, q, hTO⟩, h1, h2⟩ := st
    rcases (by simpa using hc : c = z ∨ c = TI ∨ c = TO ∨ c = i1 ∨ c = i2) with e | e | e | e | e <;> subst e
    · exact ⟨_, hz, fun v z => by cases z⟩
    · exact ⟨_, hTI, fun v z => by cases z⟩
    · exact ⟨_, hTO, fun v z => by cases z⟩
    · obtain ⟨o, e, c, d⟩ := h1
      exact ⟨o, e, fun v z => by rw [d] at z; cases z⟩
    · obtain ⟨o, e, c, d⟩ := h2
      exact ⟨o, e, fun v z => by rw [d] at z; cases z⟩
  keep := fun i h h' st k => by
    obtain ⟨hz, hTI, ⟨p, q, hTO⟩, h1, h2⟩ := st
    exact ⟨k z (by simp) _ hz, k TI (by simp) _ hTI, ⟨p, q, k TO (by simp) _ hTO⟩, h1.at fun o e => k i1 (by simp) o e, h2.at fun o e => k i2 (by simp) o e⟩
  item := by
    intro X hP hw hK hc i pins s σ H E I hf st hg
    subst hP hw hK
    obtain ⟨xs, ys, x, y, hq, hq', hx, hy⟩ := hg
    obtain ⟨its, rv, p, hlz⟩ := I.tuple hq
    obtain ⟨its', rv', p', hlz'⟩ := I.tuple hq'
    obtain ⟨u, hu, ru⟩ := rv.get hx
    obtain ⟨u', hu', ru'⟩ := rv'.get hy
    obtain ⟨hz, hTI, ⟨pa, pb, hTO⟩, h1, h2⟩ := st
    have zlt : z < s.heap.objs.size := Heap.lt_size hz
    refine aL9 D (ad6 (ar := its.toArray) D.l1i1) (ad6 (ar := its'.toArray) D.l2i2) hz hTI hTO ⟨h1, (show Heap.IsTuple _ a its.toArray from p)⟩ ⟨h2, (show Heap.IsTuple _ b its'.toArray from p')⟩ (x := u) (y := u') (by simpa using hu) (by simpa using hu') (by obtain ⟨o, e, _⟩ := h1; exact ⟨o, e⟩) (by obtain ⟨o, e, _⟩ := h2; exact ⟨o, e⟩) fun h' a1 a2 a3' a4' a5 a6 kk => ?_
    have a3 := a3'.1
    have a4 := a4'.1
    refine ⟨_, rfl, ?_⟩
    refine wpAny_letOwnedTupleGo_zip (s := { s with heap := h' }) a1 fun h'' hz'' sb => ?_
    have up : ∀ c o, c ≠ z → h'.get? c = some o → h''.get? c = some o := fun c o n q => (sb.2 c n).trans q
    have hT' : h''.get? s.heap.objs.size = some { cls := .type "tuple", data := .seq #[u, u'] } := up _ _ (Nat.ne_of_gt zlt) a5
    refine ⟨.ref s.heap.objs.size, upd H s.heap.objs.size (.tup [x, y]), I.turnLaid (fp := [z, TI, TO, i1, i2]) (t' := s.toks) hf (fun c v hb q => ?_) (Nat.le_refl _) ?_, rfl, ?_, ?_, fun c hb => ?_⟩
    · have n1 : c ≠ z := fun e => hb (by simp [e])
      have n2 : c ≠ TO := fun e => hb (by simp [e])
      have n3 : c ≠ i1 := fun e => hb (by simp [e])
      have n4 : c ≠ i2 := fun e => hb (by simp [e])
      exact up c v n1 (kk c v n1 n2 n3 n4 q)
    · exact ⟨(show 2 ≤ sizeLine by decide +kernel), [u, u'], .cons ru (.cons ru' .nil), _, hT', rfl, _, rfl⟩
    · intro vs ws hv hw
      rw [I.tuple_inj hv hq, I.tuple_inj hw hq']
      exact ⟨x, y, _, hx, hy, I.fresh, rfl, rfl⟩
    · refine ⟨hz'', up _ _ D.TIz (kk _ _ D.TIz D.TITO D.TIi1 D.TIi2 hTI), ⟨u, u', up _ _ D.TOz a2⟩, a3.at fun o q => up _ o D.i1z q, a4.at fun o q => up _ o D.i2z q⟩
    · have hlt : c < s.heap.objs.size := by
        have l1 : i1 < s.heap.objs.size := by obtain ⟨_, e, _⟩ := h1; exact Heap.lt_size e
        have l2 : i2 < s.heap.objs.size := by obtain ⟨_, e, _⟩ := h2; exact Heap.lt_size e
        rcases (by simpa using hb : c = z ∨ c = TI ∨ c = TO ∨ c = i1 ∨ c = i2) with e | e | e | e | e <;> rw [e]
        · exact zlt
        · exact Heap.lt_size hTI
        · exact Heap.lt_size hTO
        · exact l1
        · exact l2
      rw [i0 (Nat.ne_of_lt hlt)]
      exact (hf c hb).1
  done := by
    intro X hP hw hK hc i pins s σ H E I hf st hg
    subst hP hw hK
    obtain ⟨xs, ys, hq, hq', hend⟩ := hg
    obtain ⟨its, rv, p, hlz⟩ := I.tuple hq
    obtain ⟨its', rv', p', hlz'⟩ := I.tuple hq'
    obtain ⟨hz, hTI, ⟨pa, pb, hTO⟩, h1, h2⟩ := st
    have l1 := rv.length
    have l2 := rv'.length
    refine aL8 (I.ok.hd hc) D (ad6 (ar := its.toArray) D.l1i1) (ad6 (ar := its'.toArray) D.l2i2) hz hTI hTO ⟨h1, (show Heap.IsTuple _ a its.toArray from p)⟩ ⟨h2, (show Heap.IsTuple _ b its'.toArray from p')⟩ ?_ fun h' kk => ⟨rfl, ?_⟩
    · rcases hend with e | e
      · exact .inl (by simp; omega)
      · exact .inr (by simp; omega)
    · have nf : ∀ b u, H b = some u → b ∉ [z, TI, TO, i1, i2] := fun b u e q => by rw [(hf b q).1] at e; cases e
      have k : ∀ b u, b ∉ [z, TI, TO, i1, i2] → s.heap.get? b = some u → h'.get? b = some u := fun c o hb q => kk c o (fun e => hb (by simp [e])) (fun e => hb (by simp [e])) (fun e => hb (by simp [e])) (fun e => hb (by simp [e])) q
      refine I.step (t' := s.toks) (g' := s.gens) (d' := s.drawn) (ch := [z, TI, TO, i1, i2]) (fun b hb => ?_) (fun b o _ _ hc e _ => k b o hc e) (fun b o _ _ hc e _ => ⟨o.slots, k b o hc e⟩) (fun b o _ e n => n)
        (fun b o hc e => ⟨o, k b o hc e⟩) (fun b xs e => e) (fun b o u e => e) (fun b ps e => ⟨#[], by rw [e]; simp⟩) (fun m hm => ?_) (fun b u e => ?_) I.bare
      · obtain ⟨_, f1, _, f3, f4, f5⟩ := hf b hb
        exact ⟨f3, f1, f4, f5⟩
      · obtain ⟨o, es, ep, ho, r⟩ := hm
        exact ⟨o, es, ep, k _ o (fun q => (hf _ q).2.1 rfl) ho, r⟩
      · refine (I.hok b u e).stay (fun c v hc q => k c v ?_ q) (fun c q => q) fun c xs q => q
        rcases hc with q | q
        · rw [q]; exact nf b u e
        · exact nf c _ q
  self := fun _ _ _ _ _ st h => wpAny_pyIter_zip st.1 h
section
variable {X : Cx}
def aT1 (K : PySem.W.Frag) (ta : TA) : TI := fun σ H R => ta σ H fun vs H1 => ∃ a b, vs = [.ref a, .ref b] ∧ (∃ xs, SqT K H1 a xs) ∧ (∃ ys, SqT K H1 b ys) ∧ R (bf7 K a b) H1
theorem aX3 {elts : List Expr} {k : Nat} {tpos : Pos} {l l' : Expr} {ta : TA} {p pos : Pos} (hg : Gl X "zip") (hm : X.mg "zip" = none) (ha : PA X [l, l'] ta) (hs : starEach [l, l'] X.env = [(false, eval l X.env), (false, eval l' X.env)] := by rfl) (hs2 : starEach [l'] X.env = [(false, eval l' X.env)] := by rfl) :
    PI X (.Tuple elts k tpos) (.Call (.Name "zip" p) [l, l'] [] pos) (aT1 X.K ta) := by
  intro pins s σ H R I h
  refine Call_ (Q9 I hg hm (u := .type "zip") (by decide +kernel) (PyProof.Rows.callWith_type1 (thn (ha pos pins s σ H _ I h) fun us s1 ⟨vs, H1, I1, r1, q1⟩ => ?_) (by rw [hs, hs2]) (by rw [hs2]; rfl)))
  obtain ⟨a, b, e, ⟨xs, hq⟩, ⟨ys, hq'⟩, q⟩ := q1
  subst e
  obtain ⟨u, u', rfl, rx, rx'⟩ := t0.two r1
  cases rx
  cases rx'
  obtain ⟨its, rv, p, hz⟩ := I1.tuple hq
  obtain ⟨its', rv', p', hz'⟩ := I1.tuple hq'
  have a1 : a < s1.heap.objs.size := by obtain ⟨_, e, _⟩ := p; exact Heap.lt_size e
  have a2 : b < s1.heap.objs.size := by obtain ⟨_, e, _⟩ := p'; exact Heap.lt_size e
  refine aO5 (show Heap.IsTuple _ a its.toArray from p) (show Heap.IsTuple _ b its'.toArray from p') fun h' hz hTI hTO hi1 hi2 hsz kk => ?_
  refine wpAny_pyIter_zip hz ?_
  have I2 : Inv X pins σ H1 { s1 with heap := h' } := I1.kept (t' := s1.toks) kk
  refine ⟨_, _, _, _, H1, rfl, I2, aM1 a b _ _ _ _ _ (zipApart_new a1 a2), ⟨hz, hTI, ⟨_, _, hTO⟩, hi1, hi2⟩, fun c hb => ?_, q⟩
  have hb' : s1.heap.objs.size ≤ c := by
    rcases (by simpa using hb : c = s1.heap.objs.size + 4 ∨ c = s1.heap.objs.size + 2 ∨ c = s1.heap.objs.size + 3 ∨ c = s1.heap.objs.size ∨ c = s1.heap.objs.size + 1) with e | e | e | e | e <;> rw [e]
    · exact Nat.le_add_right _ _
    · exact Nat.le_add_right _ _
    · exact Nat.le_add_right _ _
    · exact Nat.le_refl _
    · exact Nat.le_add_right _ _
  obtain ⟨f0, f1, f2, f3, f4, f5⟩ := I1.fpOk (H' := H1) hb' (I1.hok.fresh hb')
  exact ⟨f0, f1, f2, f3, f4, f5⟩
end
open PySem PyProof.Rows
section
variable {X : Cx}
theorem ay4 {elt tg iter cnd : Expr} {scope : Scope} {pos spos py : Pos} {y : Str} {i₀ : Nat} {cl : List (Str × Addr)} {Nc : List Str} {caps : List (Option Nat)} {wi : TI} {g : TG} {tt : TT} {te : TE} (hN : X.N.Nodup) (hi₀ : X.N[i₀]? = some y) (hx : Loc X.env.scope y) (hc : X.calm = true) (cp : Q8 X scope cl Nc caps) (hi : PI X tg iter wi)
    (hg : ∀ C s₂ H₂ fp pins, PG (X.block scope cl C Nc s₂ H₂ fp pins) tg g) (ht : ∀ C s₂ H₂ fp pins, PT (X.block scope cl C Nc s₂ H₂ fp pins) cnd tt) (he : ∀ C s₂ H₂ fp pins, PE (X.block scope cl C Nc s₂ H₂ fp pins) elt te) (hs : ∀ x, foldedSetIterable iter X.env x = pure x := by intro _; rfl) (hsw : swapsWith (.ListComp elt [⟨tg, iter, [cnd], 0⟩] scope pos) (some (.Name y py)) spos.line X.env = pure true := by rfl)
    (hf : X.fn y = true ∨ X.env.scope.names.lookup y = some .local := by first | exact .inl rfl | exact .inr rfl | assumption) :
    PS X (.Assign [.Name y py] (.ListComp elt [⟨tg, iter, [cnd], 0⟩] scope pos) spos) (aF8 (aJ1 wi caps g tt te) (C7 i₀)) := by
  intro pins s σ H DD I h
  rw [exec_Assign_Name_used _ _ _ _ hsw]
  refine wpAny_bind (wpAny_standAt (wpAny_bind ?_))
  show wpAny _ X.A (do let _ ← comprehension (.ListComp elt [⟨tg, iter, [cnd], 0⟩] scope pos) scope X.env _ (newList []) false (eval iter X.env) (some (assign (.Name y py) X.env))) _ _ s
  refine wpAny_bind (wpAny_mono (wpAny_comprehension_free (use := some (assign (.Name y py) X.env)) (Q := fun _ s' => SP X pins DD .next s') rfl hs cp.clos cp.kind cp.names ?_) (fun _ s' hq => wpAny_pure (wpAny_pure hq)) fun _ _ e => e)
  refine thn (hi pins s σ H _ I h) fun v s1 h1 => thn h1 fun itv s2 h2 => ?_
  obtain ⟨it, fp, tn, J, H2, e, I2, T, st2, f2, hW⟩ := h2
  subst e
  refine wpAny_newObj_type ?_ (by show 0 ≤ sizeLine; exact Nat.zero_le _)
  refine wpAny_newFunctionEnv cp.nocell (by intro y hy; simp at hy) (fun h4 hns hsb => ?_) cp.kind
  dsimp only at hns hsb ⊢
  generalize hH3 : s2.heap.push { cls := .type "list", dict := none, data := .seq ([] : List Value).toArray } = H3 at hns hsb ⊢
  have hCe : H3.objs.size = s2.heap.objs.size + 1 := by rw [← hH3, Heap.size_push]
  have P2 : ∀ b o, s2.heap.get? b = some o → b ≠ H3.objs.size := fun b o e => by rw [hCe]; exact Nat.ne_of_lt (Nat.lt_succ_of_lt (Heap.lt_size e))
  have old : ∀ b o, s2.heap.get? b = some o → h4.get? b = some o := fun b o e => hsb.extBut b o (P2 b o e) (Heap.get?_push_of_some _ (hH3 ▸ Heap.get?_push_of_some _ e))
  have hD : h4.get? s2.heap.objs.size = some { cls := .type "list", dict := none, data := .seq ([] : List Value).toArray } :=
    hsb.extBut _ _ (by rw [hCe]; exact Nat.ne_of_lt (Nat.lt_succ_self _)) (Heap.get?_push_of_some _ (hH3 ▸ Heap.get?_push_size _ rfl))
  have hDn : H2 s2.heap.objs.size = none := I2.fresh
  have hCn : H2 H3.objs.size = none := I2.hok.fresh (by rw [hCe]; exact Nat.le_succ _)
  have hCs : s2.heap.objs.size ≤ H3.objs.size := by rw [hCe]; exact Nat.le_succ _
  have hDC : s2.heap.objs.size ≠ H3.objs.size := by rw [hCe]; exact Nat.ne_of_lt (Nat.lt_succ_self _)
  have fpl : ∀ b ∈ fp, ∃ o, s2.heap.get? b = some o := fun b hb => let ⟨o, e, _⟩ := T.obj _ _ st2 b hb; ⟨o, e⟩
  have fpC : ∀ b ∈ fp, b ≠ H3.objs.size := fun b hb => let ⟨o, e⟩ := fpl b hb; P2 b o e
  have fpD : ∀ b ∈ fp, b ≠ s2.heap.objs.size := fun b hb => let ⟨o, e⟩ := fpl b hb; Nat.ne_of_lt (Heap.lt_size e)
  have stkN : ∀ b, b ≠ X.env.locals → b ∉ X.fs → b ∉ frs X.stack := fun b h1 h2 z => (List.mem_cons.mp (I2.stkSub b z)).elim h1 h2
  obtain ⟨W, ⟨m0, w0⟩, turn⟩ := hW s2.heap.objs.size hDn
  have okB : (X.block scope cl H3.objs.size Nc s2 H2 fp pins).Ok := by
    refine ⟨I2.ok.mod, ?_, I2.ok.glob, I2.ok.blt, hCs, fun x y c h1 h2 => I2.ok.inj x y c (cp.sub x c h1) (cp.sub y c h2), fun x hx => cp.has x hx, fun x c h => (by cases h), I2.ok.hd, I2.ok.frames, .inl rfl, fun b hb => ⟨fpC b hb, fun x c h => (f2 b hb).2.2.2.2.1 x c (cp.sub x c h)⟩, I2.bs, Nat.le_trans I2.ok.bsz I2.sz, fun b o e hb => ?_, fun b hb => stkN b (f2 b hb).2.1 (f2 b hb).2.2.1, I2.stack, I2.stkFree⟩
    · exact cp.kind
    · rcases (f2 b hb).2.2.2.1 with z | z
      · exact I2.ok.noex b o e z
      · exact absurd (Nat.lt_of_lt_of_le (Heap.lt_size e) (Nat.le_trans I2.ok.bsz z)) (Nat.lt_irrefl _)
  have hokB : HOk X.prog X.w (upd H2 s2.heap.objs.size (.lst [])) h4 := I2.hok.laid old (Nat.le_refl _) ⟨Nat.zero_le _, [], _, .nil, hD⟩
  have IB : Inv (X.block scope cl H3.objs.size Nc s2 H2 fp pins) [] (F2 caps σ) (upd H2 s2.heap.objs.size (.lst [])) { s2 with heap := h4, toks := s2.toks + ([] : List (Str × Value)).length } := by
    refine ⟨okB, rfl, I2.bare, Un.laid old (Nat.le_refl _) hDn, ⟨_, hns, fun i x v e1 e2 e3 => ?_⟩, fun x c e => ?_, (show upd H2 s2.heap.objs.size (.lst []) H3.objs.size = none by rw [i0 (Ne.symm hDC)]; exact hCn), fun x c e => ?_, fun p hp => ?_, hokB, ?_⟩
    · unfold F2 at e2
      rw [List.getElem?_map] at e2
      cases hcap : caps[i]? with
      | none => rw [hcap] at e2; cases e2
      | some o =>
        rw [hcap] at e2
        cases o with
        | none => cases e2
        | some j =>
          have hj : σ[j]? = some (some v) := by
            have e2' : (σ[j]?).join = some v := Option.some.inj e2
            cases q : σ[j]? with
            | none => rw [q] at e2'; cases e2'
            | some z => rw [q] at e2'; exact congrArg some e2'
          obtain ⟨n1, n2, n3, n4⟩ := cp.cap i j x hcap e1
          obtain ⟨m, hm, hl⟩ := I2.loc
          obtain ⟨u, r, q⟩ := hl j x v n1 hj n2
          rcases q with ⟨k, _⟩ | ⟨k, c, ec, z⟩
          · exact absurd k n3
          · obtain ⟨c', ec'⟩ := cp.has x n4
            have := cp.sub x c' ec'
            rw [ec] at this; cases this
            obtain ⟨oc, ho, hd⟩ := z
            exact ⟨u, r, .inr ⟨n4, c, ec', oc, old _ _ ho, hd⟩⟩
    · obtain ⟨v, oc, ho, hd⟩ := I2.cell x c (cp.sub x c e)
      exact ⟨v, oc, old _ _ ho, hd⟩
    · obtain ⟨v, oc, ho, hd⟩ := I2.cell x c (cp.sub x c e)
      rw [i0 (Nat.ne_of_lt (Heap.lt_size ho))]
      exact I2.freeC x c (cp.sub x c e)
    · have hp' : p ∈ X.pn ++ pins := by simpa using hp
      obtain ⟨e1, e2, e3, e4, e5⟩ := I2.pin p hp'
      exact ⟨old _ _ e1, by rw [i0 (Nat.ne_of_lt (Heap.lt_size e1))]; exact e2, P2 _ _ e1, stkN _ e3 e4, e5⟩
    · show (F2 caps σ).length = Nc.length
      unfold F2
      rw [List.length_map]; exact cp.len
  have stat : ∀ {H' : Hp}, (∀ b ∈ fp, H' b = none) → ∀ b ∈ fp, ab4 (X.block scope cl H3.objs.size Nc s2 H2 fp pins) [] H' b := fun hn b hb =>
    ⟨hn b hb, fpC b hb, stkN b (f2 b hb).2.1 (f2 b hb).2.2.1, .inl hb, fun x c h => (f2 b hb).2.2.2.2.1 x c (cp.sub x c h), fun p hp => (f2 b hb).2.2.2.2.2 p (by simpa using hp)⟩
  have loop : ∀ s5 : Shared, s5 = { s2 with heap := h4, toks := s2.toks + ([] : List (Str × Value)).length } →
      codeAny (model X.prog X.w) X.A (.compLoop (.ListComp elt [⟨tg, iter, [cnd], 0⟩] scope pos) 0 (.ref it) (.ref s2.heap.objs.size) (compEnvC scope cl H3.objs.size X.env))
        (compPost (model X.prog X.w) X.A X.xe (some (assign (.Name y py) X.env)) (fun _ s' => SP X pins DD .next s') (.ref s2.heap.objs.size) H3.objs.size) s5 := by
    rintro s5 rfl
    refine aE7 (fun n s' => ∃ i σ' H', Inv (X.block scope cl H3.objs.size Nc s2 H2 fp pins) [] σ' H' s' ∧ tn i s'.heap ∧ (∀ b ∈ fp, H' b = none) ∧ W i n σ' H') ?_ m0 ⟨0, _, _, IB, T.keep _ _ _ st2 fun b hb o e => old b o e, fun b hb => by rw [i0 (fpD b hb)]; exact (f2 b hb).1, w0⟩
    rintro n s6 ⟨i, σ6, H6, I6, st6, fr6, w6⟩
    rcases turn i n σ6 H6 w6 with ⟨stop, qn⟩ | ⟨go, step⟩
    · refine thn (T.done (X.block scope cl H3.objs.size Nc s2 H2 fp pins) rfl rfl rfl hc i [] s6 σ6 H6 _ I6 (stat fr6) st6 stop) fun r s7 ⟨hr, I7⟩ => ?_
      subst hr
      obtain ⟨m7, hn7, _⟩ := id I7.loc
      have Io : Inv X pins σ H6 s7 := I2.sameC (h'' := s7.heap) f2 I7.os I7.bare I7.base I7.hok hCs I7.free ⟨rfl, fun _ _ => rfl⟩
      have fC : ab4 X pins H6 H3.objs.size := I2.fpOk hCs I7.free
      have fC' : ∀ b ∈ [H3.objs.size], ab4 X pins H6 b := fun b hb => by rw [List.mem_singleton.mp hb]; exact fC
      obtain ⟨oC, esC, epC, hoC, restC⟩ := id hn7
      have obC : ∀ b ∈ [H3.objs.size], ∃ o, s7.heap.get? b = some o ∧ ∀ v, o.data ≠ .cell v := fun b hb => by
        rw [List.mem_singleton.mp hb]
        exact ⟨oC, hoC, fun v z => aj7 hn7 hoC v z⟩
      have Ip := Io.pinned fC' obC
      show wpAny (model X.prog X.w) X.A (assign (.Name y py) X.env (.ref s2.heap.objs.size)) _ _ s7
      refine thn (i7 (pos := py) hN hi₀ hx hf _ s7 σ H6 (.ref s2.heap.objs.size) (.ref s2.heap.objs.size) DD.nx Ip rfl qn) fun _ s9 ⟨σ9, H9, I9, q9⟩ => ?_
      have keepC := (I9.pin (H3.objs.size, oC) (List.mem_append_right _ (List.mem_append_right _ (t8 (by simp) hoC)))).1
      have H9C := (I9.pin (H3.objs.size, oC) (List.mem_append_right _ (List.mem_append_right _ (t8 (by simp) hoC)))).2.1
      refine ⟨m7, hn7.at' fun o e => by rw [hoC] at e; cases e; exact keepC, fun h' sb => ?_⟩
      obtain ⟨_, g1, g2, g3, g4, g5⟩ := fC
      exact ⟨σ9, H9, I9.unpinned.turned (t' := s9.toks) (fun b o hb e => (sb.2 b hb).trans e) H9C g1 g3 g4 g5, q9⟩
    · refine thn (T.item (X.block scope cl H3.objs.size Nc s2 H2 fp pins) rfl rfl rfl hc i [] s6 σ6 H6 _ I6 (stat fr6) st6 go) fun r s7 ⟨u, hr, h7⟩ => ?_
      subst hr
      refine thn h7 fun _ s8 ⟨x, H8, I8, r8, y8, st8, fr8⟩ => ?_
      have I8' := I8.pinned (stat fr8) (T.obj _ _ st8)
      refine thn (hg _ _ _ _ _ _ s8 σ6 H8 x u _ I8' r8 (step x H8 y8)) fun _ s9 ⟨σ9, H9, I9, q9⟩ => ?_
      refine thn (ht _ _ _ _ _ _ s9 σ9 H9 _ I9 q9) fun bb s9' ⟨H9', I9', q9'⟩ => ?_
      cases bb with
      | false =>
        rw [if_neg (by decide)] at q9' ⊢
        obtain ⟨m', hm', w'⟩ := q9'
        refine ⟨m', hm', i + 1, σ9, H9', I9'.unpinned, T.keep _ _ _ st8 fun b hb o e => (I9'.pin (b, o) (List.mem_append_right _ (List.mem_append_right _ (t8 hb e)))).1, fun b hb => ?_, w'⟩
        obtain ⟨o, e, d⟩ := T.obj _ _ st8 b hb
        exact (I9'.pin (b, o) (List.mem_append_right _ (List.mem_append_right _ (t8 hb e)))).2.1
      | true =>
        rw [if_pos rfl] at q9' ⊢
        refine thn (he _ _ _ _ _ _ s9' σ9 H9' _ I9' q9') fun u10 s10 ⟨v10, H10, I10, r10, ys, hys, hlen, m', hm', w'⟩ => ?_
        refine thn (O0 _ s10 σ9 H10 (.ref s2.heap.objs.size) [v10] (.ref s2.heap.objs.size) [u10] (fun _ H11 => H11 = upd H10 s2.heap.objs.size (.lst (ys ++ [v10]))) I10 rfl (.cons r10 .nil) ⟨_, ys, v10, rfl, rfl, hys, hlen, rfl⟩) fun _ s11 ⟨_, H11, I11, _, hH11⟩ => ?_
        subst hH11
        refine ⟨m', hm', i + 1, σ9, _, I11.unpinned, T.keep _ _ _ st8 fun b hb o e => (I11.pin (b, o) (List.mem_append_right _ (List.mem_append_right _ (t8 hb e)))).1, fun b hb => ?_, w'⟩
        obtain ⟨o, e, d⟩ := T.obj _ _ st8 b hb
        exact (I11.pin (b, o) (List.mem_append_right _ (List.mem_append_right _ (t8 hb e)))).2.1
  exact codeAny_compStart_list (loop _ rfl) (T.self _ 0 _ _ _ (T.keep _ _ _ st2 fun b hb o e => old b o e) (loop _ rfl))
end
section
variable {X : Cx}
def aZ9 (ta : TA) : TE := fun σ H Q => ta σ H fun vs H1 => ∃ j : Nat, vs = [.int (j : Int)] ∧ j ≤ 1000 ∧ ∀ l, H1 l = none → Q (.ref l) (upd H1 l (.lst ((List.range j).map fun (k : Nat) => V.int (k : Int))))
theorem ao1 : ∀ {n : Nat} {acc : Array Value}, ItemsOf (fun i v => ∃ t, v = .int ((0 : Int) + i * 1) t) acc n → t0 ((List.range n).map fun (k : Nat) => V.int (k : Int)) acc.toList := by
  intro n
  induction n with
  | zero =>
    intro acc h
    have : acc.toList = [] := List.length_eq_zero_iff.mp h.1
    rw [this]; exact .nil
  | succ n ih =>
    intro acc h
    have ln : acc.toList.length = n + 1 := h.1
    have hl : n < acc.toList.length := by omega
    have e : acc.toList = acc.toList.take n ++ [acc.toList[n]] := by
      conv => lhs; rw [← List.take_append_drop n acc.toList]
      rw [List.drop_eq_getElem_cons hl, List.drop_eq_nil_of_le (by omega)]
    obtain ⟨t, ht⟩ := h.2 n acc.toList[n] (by rw [← Array.getElem?_toList, List.getElem?_eq_getElem hl])
    have pre : ItemsOf (fun i v => ∃ t, v = .int ((0 : Int) + i * 1) t) (acc.toList.take n).toArray n := ⟨by rw [List.size_toArray, List.length_take]; omega, fun j v hj => by
      rw [← Array.getElem?_toList] at hj
      have hj' : (acc.toList.take n)[j]? = some v := hj
      refine h.2 j v ?_
      rw [← Array.getElem?_toList]
      have := (List.getElem?_eq_some_iff.mp hj').1
      rw [List.length_take] at this
      rw [List.getElem?_take_of_lt (by omega)] at hj'
      exact hj'⟩
    have := ih pre
    rw [e, List.range_succ, List.map_append]
    refine this.append (.cons ?_ .nil)
    rw [ht]
    exact ⟨t, by simp⟩
theorem ay7 {a : Expr} {ta : TA} {p p' pos pos' : Pos} (hc : X.calm = true) (hg : Gl X "list") (hm : X.mg "list" = none) (hv : bootBuiltins "list" = some (.type "list")) (hg' : Gl X "range") (hm' : X.mg "range" = none) (ha : PA X [a] ta) (hs : starEach [a] X.env = [(false, eval a X.env)] := by rfl)
    (he : starEach [.Call (.Name "range" p') [a] [] pos'] X.env = [(false, eval (.Call (.Name "range" p') [a] [] pos') X.env)] := by rfl) : PE X (.Call (.Name "list" p) [.Call (.Name "range" p') [a] [] pos'] [] pos) (aZ9 ta) := by
  intro pins s σ H Q I h
  refine wpAny_Call_Name_kw (Q9 I hg hm hv ?_ (by decide) (by decide))
  refine PyProof.Rows.callWith_type1 ?_ he (by rfl)
  rw [he]
  show wpAny _ _ (spliced ((false, _) :: backTo pos (starEach [] X.env))) _ _ s
  refine Calls.spliced_cons ?_
  refine Call_ (Q9 I hg' hm' boot_range (PyProof.Rows.callWith_type1 (thn (ha pos' pins s σ H _ I h) fun us s1 ⟨vs, H1, I1, r1, q1⟩ => ?_) hs rfl))
  obtain ⟨j, e, hj, q⟩ := q1
  subst e
  cases r1 with
  | cons r rr =>
    cases rr
    obtain ⟨t, rfl⟩ := r
    refine call_range_1 ?_
    refine wpAny_pure ?_
    refine call_list_range (n := j) (I1.ok.hd hc) (IsRange.new ..) (small_one (by omega) (by omega) (by omega) (by omega)) (by rw [rangeSize_one]; split <;> omega) (Nat.le_trans hj (by decide)) fun h' tk acc' c' kp e hi => ?_
    have I2 : Inv X pins σ H1 { s1 with heap := s1.heap.push { cls := .type "range", data := .fields #[.int 0 s1.toks, .int (j : Int) t, .int 1 (s1.toks + 1)] }, toks := s1.toks + 1 + 1 } := I1.kept fun b o e => Heap.get?_push_of_some _ e
    refine ⟨.ref _, _, I2.laid (t' := tk) (o := .lst ((List.range j).map fun (k : Nat) => V.int (k : Int))) kp (Nat.le_refl _) ?_, rfl, q _ (I2.hok.fresh (Nat.le_refl _))⟩
    exact ⟨by rw [List.length_map, List.length_range]; exact Nat.le_trans hj (by decide), acc'.toList, c', ao1 hi, by simpa using e⟩
end
end L2
set_option maxRecDepth 100000
namespace HT
open PySem PyProof.Rows
section
variable {prog : Program} {w : World} {A : Around} {E : Value → Shared → Prop} {s : Shared}
theorem getItem_tuple_whole {t sl : Addr} {items : Array Value} {vl vu : Value} {lo hi : Option Int} {Q : Value → Shared → Prop} (ht : IsTup s.heap t items) (hs : s.heap.IsSliceOf sl vl vu .none) (pl : IsPart vl lo) (pu : IsPart vu hi)
    (hw : sIx items.size 0 lo = 0 ∧ sIx items.size items.size hi = items.size) (h : Q (.ref t) s) : wpAny (model prog w) A (getItem (.ref t) (.ref sl)) Q E s := by
  obtain ⟨os, hos, hcs, hds⟩ := id hs
  have hTs : s.TypeIs (.ref sl) "slice" := ⟨os, hos, hcs⟩
  unfold getItem
  try with_reducible refine wpAny_holding ?_
  first | refine wpAny_bind (wpAny_pure ?_) | skip
  refine wpAny_bind (wpAny_sequenceKey ht.typeIs (by decide) ?_)
  refine wpAny_bind (wpAny_callSpecial?_slot (name := Str.ofString "__getitem__") ht.typeIs PyProof.Rows.slot_tuple_getitem
    (wpAny_call_entry PyProof.Rows.slot_tuple_getitem ht.typeIs entry_tuple_getitem ?_ (args_tuple_getitem _ _)))
  show wpAny _ _ (Builtin.Tuple.tupleItemsOf (.ref t) >>= _) _ _ s
  refine wpAny_bind (tupleItemsOf_ ht ?_)
  refine wpAny_bind (wpAny_typeOf hTs ?_)
  rw [if_pos (by decide)]
  refine wpAny_bind (W9 hs pl pu ?_)
  have hyes : (((sIx items.size 0 lo : Nat) : Int) == 0 && (1 : Int) == 1 && (sIx items.size items.size hi - sIx items.size 0 lo) == items.size) = true := by
    rw [hw.1, hw.2]; simp
  show wpAny _ _ (if (((sIx items.size 0 lo : Nat) : Int) == 0 && (1 : Int) == 1 && (sIx items.size items.size hi - sIx items.size 0 lo) == items.size) = true then _ else _) _ _ s
  rw [if_pos hyes]
  unfold Builtin.Tuple.tupleIsExact
  refine wpAny_bind (wpAny_bind (wpAny_typeOf ht.typeIs (wpAny_pure ?_)))
  rw [if_pos (by decide)]
  exact wpAny_bind (wpAny_rule (wpAny_pure ⟨_, rfl, wpAny_pure h⟩))
theorem aI6 (n : Nat) : Builtin.Slice.sliceAdjust none none (-1) (n : Int) = ((n : Int) - 1, -1) := rfl
theorem aG9 (n : Nat) : Builtin.Slice.slicePlaces ((n : Int) - 1) (-1) (-1) = n := by
  unfold Builtin.Slice.slicePlaces
  rw [if_neg (by decide)]
  split
  · rw [show (-(-1 : Int)) = 1 by decide, Int.ediv_one]; omega
  · omega
theorem aj4 {sl : Addr} {vk : Value} {n : Nat} {Q : Int × Int × Nat → Shared → Prop} (hs : s.heap.IsSliceOf sl .none .none vk) (pk : IsPart vk (some (-1))) (h : Q ((n : Int) - 1, -1, n) s) : wpAny (model prog w) A (Builtin.Slice.sliceApplied (.ref sl) (pure (n : Int))) Q E s := by
  obtain ⟨os, hos, hcs, hds⟩ := id hs
  unfold Builtin.Slice.sliceApplied Builtin.Slice.sliceFields
  refine wpAny_bind (wpAny_bind (wpAny_field hos hds (x := .none) rfl (wpAny_bind (wpAny_field hos hds (x := .none) rfl (wpAny_bind (wpAny_field hos hds (x := vk) rfl (wpAny_pure ?_)))))))
  refine wpAny_bind (S5 pk ?_)
  show wpAny _ _ (if ((-1 : Int) == 0) = true then _ else _) _ _ s
  rw [if_neg (by decide)]
  refine wpAny_bind (S5 .none (wpAny_bind (S5 .none (wpAny_bind (wpAny_pure ?_)))))
  show wpAny _ _ (match Builtin.Slice.sliceAdjust none none (-1) (n : Int) with | (lo, hi) => pure (lo, (-1 : Int), Builtin.Slice.slicePlaces lo hi (-1))) _ _ s
  rw [aI6 n]
  show wpAny _ _ (pure ((n : Int) - 1, (-1 : Int), Builtin.Slice.slicePlaces ((n : Int) - 1) (-1) (-1))) _ _ s
  rw [aG9]
  exact wpAny_pure h
theorem aK4 {α β : Type} {f : α → Option β} {g : α → β} : ∀ {l : List α}, (∀ m ∈ l, f m = some (g m)) → l.filterMap f = l.map g
  | [], _ => rfl
  | a :: l, h => by
    rw [List.filterMap_cons, h a List.mem_cons_self, List.map_cons, aK4 fun m hm => h m (List.mem_cons_of_mem _ hm)]
theorem aR3 (l : List Value) : ((List.range l.length).filterMap fun (m : Nat) => l.toArray[((l.length : Int) - 1 + (m : Int) * -1).toNat]?) = l.reverse := by
  have h : ∀ m ∈ List.range l.length, l.toArray[((l.length : Int) - 1 + (m : Int) * -1).toNat]? = some (l.reverse[m]?.getD .none) := fun m hm => by
    have hm := List.mem_range.mp hm
    have e : ((l.length : Int) - 1 + (m : Int) * -1).toNat = l.length - 1 - m := by omega
    rw [e, ← Array.getElem?_toList, List.getElem?_reverse hm, List.getElem?_eq_getElem (by show _ < l.length; omega)]; rfl
  refine List.ext_getElem? fun i => ?_
  have e2 : ((List.range l.length).filterMap fun (m : Nat) => l.toArray[((l.length : Int) - 1 + (m : Int) * -1).toNat]?) = (List.range l.length).map fun m => l.reverse[m]?.getD .none := aK4 h
  rw [e2, List.getElem?_map]
  by_cases hi : i < l.length
  · have e3 := List.getElem?_eq_getElem (l := l.reverse) (i := i) (by rw [List.length_reverse]; exact hi)
    rw [List.getElem?_range hi, Option.map_some, e3]; rfl
  · rw [List.getElem?_eq_none (by rw [List.length_range]; omega), List.getElem?_eq_none (by rw [List.length_reverse]; omega)]; rfl
theorem getItem_tuple_rev {t sl : Addr} {l : List Value} {vk : Value} {Q : Value → Shared → Prop} (ht : IsTup s.heap t l.toArray) (hs : s.heap.IsSliceOf sl .none .none vk) (pk : IsPart vk (some (-1)))
    (h : Q (.ref s.heap.objs.size) { s with heap := s.heap.push { cls := .type "tuple", data := .seq l.reverse.toArray } })
    (hsz : l.length ≤ sizeLine) : wpAny (model prog w) A (getItem (.ref t) (.ref sl)) Q E s := by
  have htake : sizeOk (.seq l.reverse.toArray) := by
    show l.reverse.toArray.size ≤ sizeLine
    rw [List.size_toArray, List.length_reverse]; exact hsz
  obtain ⟨os, hos, hcs, hds⟩ := id hs
  have hTs : s.TypeIs (.ref sl) "slice" := ⟨os, hos, hcs⟩
  unfold getItem
  try with_reducible refine wpAny_holding ?_
  first | refine wpAny_bind (wpAny_pure ?_) | skip
  refine wpAny_bind (wpAny_sequenceKey ht.typeIs (by decide) ?_)
  refine wpAny_bind (wpAny_callSpecial?_slot (name := Str.ofString "__getitem__") ht.typeIs PyProof.Rows.slot_tuple_getitem
    (wpAny_call_entry PyProof.Rows.slot_tuple_getitem ht.typeIs entry_tuple_getitem ?_ (args_tuple_getitem _ _)))
  show wpAny _ _ (Builtin.Tuple.tupleItemsOf (.ref t) >>= _) _ _ s
  refine wpAny_bind (tupleItemsOf_ ht ?_)
  refine wpAny_bind (wpAny_typeOf hTs ?_)
  rw [if_pos (by decide)]
  rw [List.size_toArray]
  refine wpAny_bind (aj4 hs pk ?_)
  have hno : ¬ (((l.length : Int) - 1 == 0 && (-1 : Int) == 1 && l.length == l.length) = true) := by
    rw [show ((-1 : Int) == 1) = false from by decide, Bool.and_false, Bool.false_and]; decide
  show wpAny _ _ (if ((l.length : Int) - 1 == 0 && (-1 : Int) == 1 && l.length == l.length) = true then _ else _) _ _ s
  rw [if_neg hno]
  rw [show ((List.range l.length).filterMap fun (k : Nat) => l.toArray[((l.length : Int) - 1 + (k : Int) * -1).toNat]?) = l.reverse from aR3 l]
  first
    | exact wpAny_bind (m := Builtin.Tuple.tupleExact _) (wpAny_newObj_type (wpAny_pure ⟨_, rfl, wpAny_pure h⟩) htake)
    | exact wpAny_bind (m := Builtin.Tuple.tupleExact _) (wpAny_newObj_type (wpAny_bind (wpAny_pure (wpAny_pure ⟨_, rfl, wpAny_pure h⟩))) htake)
    | exact wpAny_bind (wpAny_bind (m := Builtin.Tuple.tupleExact _) (wpAny_newObj_type (wpAny_pure (wpAny_pure ⟨_, rfl, wpAny_pure h⟩)) htake))
    | exact wpAny_bind (wpAny_bind (m := Builtin.Tuple.tupleExact _) (wpAny_newObj_type (wpAny_pure ⟨_, rfl, wpAny_pure h⟩) htake))
theorem cat_tup0 {t b : Addr} {ws : List Value} {Q : Value → Shared → Prop} (ht : IsTup s.heap t ([] : List Value).toArray) (hb : IsTup s.heap b ws.toArray) (h1 : Q (.ref b) s) : wpAny (model prog w) A (binaryOp .Add (.ref t) (.ref b)) Q E s := by
  obtain ⟨⟨cls, dd, data, sl⟩, ho, hc, n, hd⟩ := id ht
  obtain ⟨⟨cls2, dd2, data2, sl2⟩, ho2, hc2, n2, hd2⟩ := id hb
  simp only at hc hd hc2 hd2
  subst hc hd hc2 hd2
  exact concat_meets ⟨_, ho, rfl⟩ ⟨_, ho2, rfl⟩ noFill_tuple_add seq_tuple_add PySem.F.slot_tuple_add PySem.F.entry_tuple_add (PySem.F.args_tuple_add_2 _ _)
    (tuple_addW0 t b ([] : List Value).toArray ws.toArray n n2 dd dd2 sl sl2 rfl) ⟨ho, ho2, h1⟩
end
end HT
namespace L2
open PySem PySem.Spec PyProof.Rows
section
variable {X : Cx}
def bg0 (K : PySem.W.Frag) : V → Option Int → Option Int → Hp → VK → Prop := fun x lo hi H Q => ∃ a xs, x = .ref a ∧ SqT K H a xs ∧
  ((HT.sIx xs.length 0 lo = 0 ∧ HT.sIx xs.length xs.length hi = xs.length) → Q (.ref a) H) ∧
  (¬ (HT.sIx xs.length 0 lo = 0 ∧ HT.sIx xs.length xs.length hi = xs.length) → ∀ p, H p = none → Q (.ref p) (upd H p (.tup (P1 xs lo hi))))
theorem am4 : SlR X (bg0 X.K) := by
  intro pins s σ H x v vl vu lo hi sl Q I rx hs pl pu h
  obtain ⟨a, xs, rfl, hx, q1, q2⟩ := h
  by_cases hw : HT.sIx xs.length 0 lo = 0 ∧ HT.sIx xs.length xs.length hi = xs.length
  · cases rx
    obtain ⟨its, r, ht, hz⟩ := I.tuple hx
    have hlen : its.toArray.size = xs.length := by rw [List.size_toArray]; exact r.length.symm
    refine ⟨"tuple", _, PyProof.Rows.slot_tuple_getitem.lookup, ht.typeIs, ?_⟩
    exact HT.getItem_tuple_whole ht hs pl pu (by rw [hlen]; exact hw) ⟨.ref a, H, I, rfl, q1 hw⟩
  · exact aQ2 pins s σ H (.ref a) v vl vu lo hi sl Q I rx hs pl pu ⟨a, xs, rfl, hx, hw, q2 hw⟩
def ba2 (K : PySem.W.Frag) : R2 := fun x y H Q => ∃ a b xs ys, x = .ref a ∧ y = .ref b ∧ SqT K H a xs ∧ SqT K H b ys ∧ xs.length + ys.length ≤ sizeLine ∧
  (xs = [] → Q (.ref b) H) ∧ (xs ≠ [] → ys = [] → Q (.ref a) H) ∧ (xs ≠ [] → ys ≠ [] → ∀ p, H p = none → Q (.ref p) (upd H p (.tup (xs ++ ys))))
theorem U9 : OpR X (binaryOp .Add) (ba2 X.K) := by
  intro pins s σ H x y v u Q I rx ry h
  obtain ⟨a, b, xs, ys, rfl, rfl, ha, hb, hz, q0, q1, q2⟩ := h
  by_cases hx : xs = []
  · cases rx
    cases ry
    obtain ⟨its, r1, p1, _⟩ := I.tuple ha
    obtain ⟨its2, r2, p2, _⟩ := I.tuple hb
    have e : its = [] := r1.nil_iff.mpr hx
    subst e
    exact HT.cat_tup0 p1 p2 ⟨.ref b, H, I, rfl, q0 hx⟩
  · exact aX7 pins s σ H (.ref a) (.ref b) v u Q I rx ry ⟨a, b, xs, ys, rfl, rfl, ha, hb, hx, hz, q1 hx, q2 hx⟩
def aZ8 (K : PySem.W.Frag) (te : TE) (tk : TO) : TE := fun σ H Q => te σ H fun x H1 => ag3 σ H1 fun l H2 => ag3 σ H2 fun u H3 => tk σ H3 fun k H4 => ∃ a xs, x = .ref a ∧ SqT K H4 a xs ∧ l = none ∧ u = none ∧ k = some (-1) ∧ ∀ p, H4 p = none → Q (.ref p) (upd H4 p (.tup xs.reverse))
theorem aX5 {e : Expr} {te : TE} {st : Expr} {tk : TO} {pos p2 : Pos} (he : PE X e te) (hk : PO X (some st) tk) : PE X (.Subscript e (.Slice none none (some st) p2) pos) (aZ8 X.K te tk) := by
  intro pins s σ H Q I h
  refine Subscript_ (thn (he pins s σ H _ I h) fun v s1 ⟨x, H1, I1, r1, q1⟩ => ?_)
  refine wpAny_Slice (thn (C1 pins s1 σ H1 _ I1 q1) fun vl s2 ⟨l, H2, I2, pl, q2⟩ => thn (C1 pins s2 σ H2 _ I2 q2) fun vu s3 ⟨u, H3, I3, pu, q3⟩ => thn (hk pins s3 σ H3 _ I3 q3) fun vk s4 ⟨k, H4, I4, pk, q4⟩ => ?_)
  obtain ⟨a, xs, rfl, hq, rfl, rfl, rfl, q⟩ := q4
  cases r1
  cases pl
  cases pu
  have I5 : Inv X pins σ H4 { s4 with heap := s4.heap.push { cls := .type "slice", data := .fields #[.none, .none, vk] } } := I4.kept (t' := s4.toks) fun b ob q => Heap.get?_push_of_some _ q
  obtain ⟨its, r, ht, hz⟩ := I5.tuple hq
  have hlen := r.length
  show wpAny (model X.prog X.w) X.A (subscriptTail e (.Slice none none (some st) p2) (.ref a) (.ref s4.heap.objs.size)) (EP X pins σ Q) X.xe { s4 with heap := s4.heap.push { cls := .type "slice", data := .fields #[.none, .none, vk] } }
  refine tail_any (ops := [.ref a, .ref s4.heap.objs.size]) (s := { s4 with heap := s4.heap.push { cls := .type "slice", data := .fields #[.none, .none, vk] } }) (T := "tuple") ht.typeIs PyProof.Rows.slot_tuple_getitem.lookup ?_ (by with_unfolding_all rfl)
  refine HT.getItem_tuple_rev ht (Heap.IsSliceOf.new ..) pk ?_ (by omega)
  refine ⟨.ref _, _, I5.laid (t' := s4.toks) (o := .tup xs.reverse) (fun b ob q => Heap.get?_push_of_some _ q) (Nat.le_refl _) ?_, rfl, q _ (I5.hok.fresh (Nat.le_refl _))⟩
  exact ⟨by rw [List.length_reverse]; exact hz, _, r.reverse, IsTup.new _ _⟩
end
end L2
set_option maxRecDepth 100000
namespace PySem
open Sem (wp)
open AutoSeq1 (wpAny_loadPart')
section
variable {prog : Program} {w : World} {A : Around} {E : Value → Shared → Prop} {s : Shared}
theorem ab6 {Q : List Value → Shared → Prop} {r : Addr} {a b c : Int} {t u v : Tok} {n : Nat} (hh : A.handled = none) (hr : IsRange s.heap r a b c t u v) (hsmall : Builtin.Range.small a b c = true) (hn : Builtin.Range.rangeSize a b c = n) (hlen : n ≤ 2 ^ 24)
    (hQ : ∀ h' tk acc, (∀ b o, s.heap.get? b = some o → h'.get? b = some o) → ItemsOf (fun i v => ∃ t, v = .int (a + i * c) t) acc n → Q acc.toList { s with heap := h', toks := tk }) :
    wpAny (model prog w) A (collect (.ref r)) Q E s := by
  unfold collect
  refine wpAny_bind (wpAny_runValue (codeAny_builtin F.entry_proto_collect ?_))
  rw [Around.under_plainId F.plain_proto_collect _]
  show wpAny _ A.in1 (newList [] >>= fun l => again (.builtin "list.__iadd__" ⟨[l, .ref r], []⟩)) _ _ s
  refine wpAny_bind (wpAny_newObj_type ?_)
  refine wpAny_pure ⟨plainId_quiet F.plain_list_iadd _, codeAny_builtin F.entry_list_iadd ?_⟩
  rw [Around.under_plainId F.plain_list_iadd _]
  show wpAny _ A.in1 (Builtin.List.listExtendWith (.ref s.heap.objs.size) (.ref r) (.ref s.heap.objs.size)) _ _ _
  have hS : (s.heap.push { cls := .type "list", data := .seq ([] : List Value).toArray }).get? s.heap.objs.size = some { cls := .type "list", data := .seq ([] : List Value).toArray } := Heap.get?_push_size _ rfl
  refine wpAny_extend_range (R := fun r s' => match r with
    | .ok (.ret v) => wpAny (model prog w) A (match v with
      | .ref a => do
        let o ← load a
        match o.data with
        | .seq xs _ => pure xs.toList
        | _ => unsupported "internal:collect"
      | _ => unsupported "internal:collect") Q E s'
    | .ok _ => False
    | .error e => E e s') (s := { s with heap := s.heap.push { cls := .type "list", data := .seq ([] : List Value).toArray } }) hh (Heap.get?_push_of_some _ hr) hsmall hn hlen _ _ 0 hS fun h' tk acc' c' hk hS' hacc => ?_
  show wpAny _ A (load s.heap.objs.size >>= _) _ _ _
  refine wpAny_bind (wpAny_load hS' ?_)
  exact wpAny_pure (hQ h' tk acc' (fun b o e => hk b o (Nat.ne_of_lt (Heap.lt_size e)) (Heap.get?_push_of_some _ e)) hacc)
end
theorem ab5 {r : Addr} {a b c : Int} {t u v : Tok} {n : Nat} (hsmall : Builtin.Range.small a b c = true) (hn : Builtin.Range.rangeSize a b c = n) (hlen : n ≤ 1000) :
    Meets (Builtin.«tuple.__new__» ⟨[.type "tuple", .ref r], []⟩)
      (fun A R s => A.handled = none ∧ IsRange s.heap r a b c t u v ∧ ∀ (h' : Heap) (tk : Nat) (acc : Array Value), (∀ b o, s.heap.get? b = some o → h'.get? b = some o) → ItemsOf (fun i v => ∃ t, v = .int (a + i * c) t) acc n →
        R (.ok (.ret (.ref h'.objs.size))) { s with heap := h'.push { cls := .type "tuple", data := .seq acc }, toks := tk }) :=
  .of_wp fun prog w A R s h => by
    obtain ⟨hh, hr, h⟩ := h
    have hsub := sub_tuple_self
    have hinit := init_tuple_lookup
    have hmh := madeHere_tuple
    have hT : s.TypeIs (.ref r) "range" := ⟨_, hr, rfl⟩
    have hh1 : A.in1.handled = none := hh
    have h24 : n ≤ 2 ^ 24 := Nat.le_trans hlen (by decide)
    wp_walk using wpAny_typeOf hT, ab6 hh1 hr hsmall hn h24
    intro h' tk acc hk hacc
    show wpAny _ _ (Builtin.Tuple.tupleExact acc.toList.toArray >>= fun v => ret v) _ _ _
    unfold Builtin.Tuple.tupleExact
    refine wpAny_bind (wpAny_newObj_type ?_ (show acc.toList.toArray.size ≤ sizeLine by simp only [Array.toArray_toList]; rw [hacc.1]; exact Nat.le_trans hlen (by decide)))
    refine wpAny_pure ⟨_, rfl, ?_⟩
    have e : acc.toList.toArray = acc := by simp
    rw [e]
    exact h h' tk acc hk hacc
section
variable {prog : Program} {w : World} {A : Around} {E : Value → Shared → Prop} {s : Shared}
theorem ai5 {Q : Value → Shared → Prop} {r : Addr} {a b c : Int} {t u v : Tok} {n : Nat} (hh : A.handled = none) (hr : IsRange s.heap r a b c t u v) (hsmall : Builtin.Range.small a b c = true) (hn : Builtin.Range.rangeSize a b c = n) (hlen : n ≤ 1000)
    (h : ∀ (h' : Heap) (tk : Nat) (acc : Array Value), (∀ b o, s.heap.get? b = some o → h'.get? b = some o) → ItemsOf (fun i v => ∃ t, v = .int (a + i * c) t) acc n → Q (.ref h'.objs.size) { s with heap := h'.push { cls := .type "tuple", data := .seq acc }, toks := tk }) :
    wpAny (model prog w) A (call (.type "tuple") [.ref r]) Q E s := by
  refine callType_new F.called_tuple (by decide) (F.typeCall_tuple_1 _) (F.newCall_tuple_1 _) (fun obj => F.args_object_init_2 obj _) F.entry_tuple_new
    (ab5 hsmall hn hlen) ⟨hh, hr, fun h' tk acc hk hacc => ⟨⟨_, Heap.get?_push_size _ rfl, rfl⟩, h h' tk acc hk hacc⟩⟩
end
end PySem
namespace L2
open PySem PySem.Spec PyProof.Rows
section
variable {X : Cx}
def aZ7 (ta : TA) : TE := fun σ H Q => ta σ H fun vs H1 => ∃ j : Nat, vs = [.int (j : Int)] ∧ j ≤ 1000 ∧ ∀ l, H1 l = none → Q (.ref l) (upd H1 l (.tup ((List.range j).map fun (k : Nat) => V.int (k : Int))))
theorem aC7 {a : Expr} {ta : TA} {p p' pos pos' : Pos} (hc : X.calm = true) (hg : Gl X "tuple") (hm : X.mg "tuple" = none) (hv : bootBuiltins "tuple" = some (.type "tuple")) (hg' : Gl X "range") (hm' : X.mg "range" = none) (ha : PA X [a] ta) (hs : starEach [a] X.env = [(false, eval a X.env)] := by rfl)
    (he : starEach [.Call (.Name "range" p') [a] [] pos'] X.env = [(false, eval (.Call (.Name "range" p') [a] [] pos') X.env)] := by rfl) : PE X (.Call (.Name "tuple" p) [.Call (.Name "range" p') [a] [] pos'] [] pos) (aZ7 ta) := by
  intro pins s σ H Q I h
  refine wpAny_Call_Name_kw (Q9 I hg hm hv ?_ (by decide) (by decide))
  refine PyProof.Rows.callWith_type1 ?_ he (by rfl)
  rw [he]
  show wpAny _ _ (spliced ((false, _) :: backTo pos (starEach [] X.env))) _ _ s
  refine Calls.spliced_cons ?_
  refine Call_ (Q9 I hg' hm' boot_range (PyProof.Rows.callWith_type1 (thn (ha pos' pins s σ H _ I h) fun us s1 ⟨vs, H1, I1, r1, q1⟩ => ?_) hs rfl))
  obtain ⟨j, e, hj, q⟩ := q1
  subst e
  cases r1 with
  | cons r rr =>
    cases rr
    obtain ⟨t, rfl⟩ := r
    refine call_range_1 ?_
    refine wpAny_pure ?_
    refine ai5 (n := j) (I1.ok.hd hc) (IsRange.new ..) (small_one (by omega) (by omega) (by omega) (by omega)) (by rw [rangeSize_one]; split <;> omega) hj fun h' tk acc' kp hi => ?_
    have I2 : Inv X pins σ H1 { s1 with heap := s1.heap.push { cls := .type "range", data := .fields #[.int 0 s1.toks, .int (j : Int) t, .int 1 (s1.toks + 1)] }, toks := s1.toks + 1 + 1 } := I1.kept fun b o e => Heap.get?_push_of_some _ e
    have I3 : Inv X pins σ H1 { s1 with heap := h', toks := tk } := I2.kept (t' := tk) kp
    refine ⟨.ref _, _, I3.laid (t' := tk) (o := .tup ((List.range j).map fun (k : Nat) => V.int (k : Int))) (fun b ob q => Heap.get?_push_of_some _ q) (Nat.le_refl _) ?_, rfl, q _ (I3.hok.fresh (Nat.le_refl _))⟩
    exact ⟨by rw [List.length_map, List.length_range]; exact Nat.le_trans hj (by decide), acc'.toList, ao1 hi, by simpa using IsTup.new _ acc'⟩
end
section
variable {X : Cx}
theorem aC4 {elt tg iter : Expr} {scope : Scope} {pos spos py : Pos} {y : Str} {i₀ : Nat} {cl : List (Str × Addr)} {Nc : List Str} {caps : List (Option Nat)} {wi : TI} {g : TG} {te : TE} (hN : X.N.Nodup) (hi₀ : X.N[i₀]? = some y) (hx : Loc X.env.scope y) (hc : X.calm = true) (cp : ai7 X scope cl Nc caps) (hi : PI X tg iter wi)
    (hg : ∀ C s₂ H₂ fp pins, PG (X.blockC scope cl C Nc s₂ H₂ fp pins) tg g) (he : ∀ C s₂ H₂ fp pins, PE (X.blockC scope cl C Nc s₂ H₂ fp pins) elt te) (hs : ∀ x, foldedSetIterable iter X.env x = pure x := by intro _; rfl) (hsw : swapsWith (.ListComp elt [⟨tg, iter, [], 0⟩] scope pos) (some (.Name y py)) spos.line X.env = pure true := by rfl)
    (hf : X.fn y = true ∨ X.env.scope.names.lookup y = some .local := by first | exact .inl rfl | exact .inr rfl | assumption) :
    PS X (.Assign [.Name y py] (.ListComp elt [⟨tg, iter, [], 0⟩] scope pos) spos) (aF8 (aB6 wi caps g te) (C7 i₀)) := by
  intro pins s σ H DD I h
  rw [exec_Assign_Name_used _ _ _ _ hsw]
  refine wpAny_bind (wpAny_standAt (wpAny_bind ?_))
  show wpAny _ X.A (do let _ ← comprehension (.ListComp elt [⟨tg, iter, [], 0⟩] scope pos) scope X.env _ (newList []) false (eval iter X.env) (some (assign (.Name y py) X.env))) _ _ s
  refine wpAny_bind (wpAny_mono (wpAny_comprehension_free (use := some (assign (.Name y py) X.env)) (Q := fun _ s' => SP X pins DD .next s') rfl hs cp.clos cp.kind cp.names ?_) (fun _ s' hq => wpAny_pure (wpAny_pure hq)) fun _ _ e => e)
  refine thn (hi pins s σ H _ I h) fun v s1 h1 => thn h1 fun itv s2 h2 => ?_
  obtain ⟨it, fp, tn, J, H2, e, I2, T, st2, f2, hW⟩ := h2
  subst e
  refine wpAny_newObj_type ?_ (by show 0 ≤ sizeLine; exact Nat.zero_le _)
  refine M1 ?_
  dsimp only
  generalize hH3 : s2.heap.push { cls := .type "list", dict := none, data := .seq ([] : List Value).toArray } = H3
  have hCe : H3.objs.size = s2.heap.objs.size + 1 := by rw [← hH3, Heap.size_push]
  have P2 : ∀ b o, s2.heap.get? b = some o → b ≠ H3.objs.size := fun b o e => by rw [hCe]; exact Nat.ne_of_lt (Nat.lt_succ_of_lt (Heap.lt_size e))
  have hns0 := (Heap.Ns.new H3 (.type "dict")).keeps (pushCells_keeps scope.names _)
  have old0 : ∀ b o, s2.heap.get? b = some o → (pushCells (H3.push { cls := .type "dict", data := .dict #[] }) scope.names).get? b = some o := fun b o e => pushCells_keeps _ _ b o (Heap.get?_push_of_some _ (hH3 ▸ Heap.get?_push_of_some _ e))
  have hD0 : (pushCells (H3.push { cls := .type "dict", data := .dict #[] }) scope.names).get? s2.heap.objs.size = some { cls := .type "list", dict := none, data := .seq ([] : List Value).toArray } :=
    pushCells_keeps _ _ _ _ (Heap.get?_push_of_some _ (hH3 ▸ Heap.get?_push_size _ rfl))
  have own := ae5 scope.names (H3.push { cls := .type "dict", data := .dict #[] }) cl (fun x c e => by
      obtain ⟨v, o, ho, hd⟩ := I2.cell x c (cp.sub x c e)
      exact ⟨v, o, Heap.get?_push_of_some _ (hH3 ▸ Heap.get?_push_of_some _ ho), hd⟩) (fun x y c h1 h2 => I2.ok.inj x y c (cp.sub x c h1) (cp.sub y c h2))
  rw [Heap.size_push] at own
  generalize hh4 : pushCells (H3.push { cls := .type "dict", data := .dict #[] }) scope.names = h4 at own hns0 old0 hD0 ⊢
  have hns := hns0
  have old := old0
  have hD := hD0
  have isOld : ∀ x c, (cellsFrom (H3.objs.size + 1) scope.names cl).lookup x = some c → X.env.cells.lookup x = some c ∨ H3.objs.size + 1 ≤ c := fun x c e => (own.old x c e).imp (cp.sub x c) fun z => by rw [Heap.size_push] at z; exact z
  have hDn : H2 s2.heap.objs.size = none := I2.fresh
  have hCn : H2 H3.objs.size = none := I2.hok.fresh (by rw [hCe]; exact Nat.le_succ _)
  have hCs : s2.heap.objs.size ≤ H3.objs.size := by rw [hCe]; exact Nat.le_succ _
  have hDC : s2.heap.objs.size ≠ H3.objs.size := by rw [hCe]; exact Nat.ne_of_lt (Nat.lt_succ_self _)
  have fpl : ∀ b ∈ fp, ∃ o, s2.heap.get? b = some o := fun b hb => let ⟨o, e, _⟩ := T.obj _ _ st2 b hb; ⟨o, e⟩
  have fpC : ∀ b ∈ fp, b ≠ H3.objs.size := fun b hb => let ⟨o, e⟩ := fpl b hb; P2 b o e
  have fpD : ∀ b ∈ fp, b ≠ s2.heap.objs.size := fun b hb => let ⟨o, e⟩ := fpl b hb; Nat.ne_of_lt (Heap.lt_size e)
  have stkN : ∀ b, b ≠ X.env.locals → b ∉ X.fs → b ∉ frs X.stack := fun b h1 h2 z => (List.mem_cons.mp (I2.stkSub b z)).elim h1 h2
  have fpX : ∀ b ∈ fp, ∀ x c, (cellsFrom (H3.objs.size + 1) scope.names cl).lookup x = some c → c ≠ b := fun b hb x c h => by
    rcases isOld x c h with z | z
    · exact (f2 b hb).2.2.2.2.1 x c z
    · obtain ⟨o, e⟩ := fpl b hb
      exact Nat.ne_of_gt (Nat.lt_of_lt_of_le (Heap.lt_size e) (Nat.le_trans (Nat.le_trans hCs (Nat.le_succ _)) z))
  obtain ⟨W, ⟨m0, w0⟩, turn⟩ := hW s2.heap.objs.size hDn
  have okB : (X.blockC scope cl H3.objs.size Nc s2 H2 fp pins).Ok := by
    refine ⟨I2.ok.mod, ?_, I2.ok.glob, I2.ok.blt, hCs, fun x y c h1 h2 => own.inj x y c h1 h2, fun x hx => cp.has _ x hx, fun x c h e => Nat.le_trans (Nat.le_trans hCs (Nat.le_succ _)) (by have z := own.fresh x (ay9 h) c e; rw [Heap.size_push] at z; exact z), I2.ok.hd, I2.ok.frames, .inl rfl, fun b hb => ⟨fpC b hb, fun x c h => fpX b hb x c h⟩, I2.bs, Nat.le_trans I2.ok.bsz I2.sz, fun b o e hb => ?_, fun b hb => stkN b (f2 b hb).2.1 (f2 b hb).2.2.1, I2.stack, I2.stkFree⟩
    · exact cp.kind
    · rcases (f2 b hb).2.2.2.1 with z | z
      · exact I2.ok.noex b o e z
      · exact absurd (Nat.lt_of_lt_of_le (Heap.lt_size e) (Nat.le_trans I2.ok.bsz z)) (Nat.lt_irrefl _)
  have hokB : HOk X.prog X.w (upd H2 s2.heap.objs.size (.lst [])) h4 := I2.hok.laid old (Nat.le_refl _) ⟨Nat.zero_le _, [], _, .nil, hD⟩
  have IB : Inv (X.blockC scope cl H3.objs.size Nc s2 H2 fp pins) [] (F2 caps σ) (upd H2 s2.heap.objs.size (.lst [])) { s2 with heap := h4 } := by
    refine ⟨okB, rfl, I2.bare, Un.laid old (Nat.le_refl _) hDn, ⟨_, hns, fun i x v e1 e2 e3 => ?_⟩, fun x c e => ?_, (show upd H2 s2.heap.objs.size (.lst []) H3.objs.size = none by rw [i0 (Ne.symm hDC)]; exact hCn), fun x c e => ?_, fun p hp => ?_, hokB, ?_⟩
    · unfold F2 at e2
      rw [List.getElem?_map] at e2
      cases hcap : caps[i]? with
      | none => rw [hcap] at e2; cases e2
      | some o =>
        rw [hcap] at e2
        cases o with
        | none => cases e2
        | some j =>
          have hj : σ[j]? = some (some v) := by
            have e2' : (σ[j]?).join = some v := Option.some.inj e2
            cases q : σ[j]? with
            | none => rw [q] at e2'; cases e2'
            | some z => rw [q] at e2'; exact congrArg some e2'
          obtain ⟨n1, n2, n3, n4, n5, n6⟩ := cp.cap i j x hcap e1
          obtain ⟨m, hm, hl⟩ := I2.loc
          obtain ⟨u, r, q⟩ := hl j x v n1 hj n2
          rcases q with ⟨k, _⟩ | ⟨k, c, ec, z⟩
          · exact absurd k n3
          · obtain ⟨c', ec'⟩ := n5
            have := cp.sub x c' ec'
            rw [ec] at this; cases this
            obtain ⟨oc, ho, hd⟩ := z
            exact ⟨u, r, .inr ⟨n4, c, n6 _ _ ec', oc, old _ _ ho, hd⟩⟩
    · exact own.cell x c e
    · show upd H2 s2.heap.objs.size (.lst []) c = none
      rcases isOld x c e with z | z
      · obtain ⟨v, oc, ho, hd⟩ := I2.cell x c z
        rw [i0 (Nat.ne_of_lt (Heap.lt_size ho))]
        exact I2.freeC x c z
      · have hz : s2.heap.objs.size < c := Nat.lt_of_lt_of_le (Nat.lt_of_le_of_lt hCs (Nat.lt_succ_self _)) z
        rw [i0 (Nat.ne_of_gt hz)]
        exact I2.hok.fresh (Nat.le_of_lt hz)
    · have hp' : p ∈ X.pn ++ pins := by simpa using hp
      obtain ⟨e1, e2, e3, e4, e5⟩ := I2.pin p hp'
      exact ⟨old _ _ e1, by rw [i0 (Nat.ne_of_lt (Heap.lt_size e1))]; exact e2, P2 _ _ e1, stkN _ e3 e4, e5⟩
    · show (F2 caps σ).length = Nc.length
      unfold F2
      rw [List.length_map]; exact cp.len
  have stat : ∀ {H' : Hp}, (∀ b ∈ fp, H' b = none) → ∀ b ∈ fp, ab4 (X.blockC scope cl H3.objs.size Nc s2 H2 fp pins) [] H' b := fun hn b hb =>
    ⟨hn b hb, fpC b hb, stkN b (f2 b hb).2.1 (f2 b hb).2.2.1, .inl hb, fun x c h => fpX b hb x c h, fun p hp => (f2 b hb).2.2.2.2.2 p (by simpa using hp)⟩
  have loop : ∀ s5 : Shared, s5 = { s2 with heap := h4 } →
      codeAny (model X.prog X.w) X.A (.compLoop (.ListComp elt [⟨tg, iter, [], 0⟩] scope pos) 0 (.ref it) (.ref s2.heap.objs.size) (compEnvC scope (cellsFrom (H3.objs.size + 1) scope.names cl) H3.objs.size X.env))
        (compPost (model X.prog X.w) X.A X.xe (some (assign (.Name y py) X.env)) (fun _ s' => SP X pins DD .next s') (.ref s2.heap.objs.size) H3.objs.size) s5 := by
    rintro s5 rfl
    refine ae4 (fun n s' => ∃ i σ' H', Inv (X.blockC scope cl H3.objs.size Nc s2 H2 fp pins) [] σ' H' s' ∧ tn i s'.heap ∧ (∀ b ∈ fp, H' b = none) ∧ W i n σ' H') ?_ m0 ⟨0, _, _, IB, T.keep _ _ _ st2 fun b hb o e => old b o e, fun b hb => by rw [i0 (fpD b hb)]; exact (f2 b hb).1, w0⟩
    rintro n s6 ⟨i, σ6, H6, I6, st6, fr6, w6⟩
    rcases turn i n σ6 H6 w6 with ⟨stop, qn⟩ | ⟨go, step⟩
    · refine thn (T.done (X.blockC scope cl H3.objs.size Nc s2 H2 fp pins) rfl rfl rfl hc i [] s6 σ6 H6 _ I6 (stat fr6) st6 stop) fun r s7 ⟨hr, I7⟩ => ?_
      subst hr
      obtain ⟨m7, hn7, _⟩ := id I7.loc
      have Io : Inv X pins σ H6 s7 := I2.sameC (h'' := s7.heap) f2 I7.os I7.bare I7.base I7.hok hCs I7.free ⟨rfl, fun _ _ => rfl⟩
      have fC : ab4 X pins H6 H3.objs.size := I2.fpOk hCs I7.free
      have fC' : ∀ b ∈ [H3.objs.size], ab4 X pins H6 b := fun b hb => by rw [List.mem_singleton.mp hb]; exact fC
      obtain ⟨oC, esC, epC, hoC, restC⟩ := id hn7
      have obC : ∀ b ∈ [H3.objs.size], ∃ o, s7.heap.get? b = some o ∧ ∀ v, o.data ≠ .cell v := fun b hb => by
        rw [List.mem_singleton.mp hb]
        exact ⟨oC, hoC, fun v z => aj7 hn7 hoC v z⟩
      have Ip := Io.pinned fC' obC
      show wpAny (model X.prog X.w) X.A (assign (.Name y py) X.env (.ref s2.heap.objs.size)) _ _ s7
      refine thn (i7 (pos := py) hN hi₀ hx hf _ s7 σ H6 (.ref s2.heap.objs.size) (.ref s2.heap.objs.size) DD.nx Ip rfl qn) fun _ s9 ⟨σ9, H9, I9, q9⟩ => ?_
      have keepC := (I9.pin (H3.objs.size, oC) (List.mem_append_right _ (List.mem_append_right _ (t8 (by simp) hoC)))).1
      have H9C := (I9.pin (H3.objs.size, oC) (List.mem_append_right _ (List.mem_append_right _ (t8 (by simp) hoC)))).2.1
      refine ⟨m7, hn7.at' fun o e => by rw [hoC] at e; cases e; exact keepC, fun h' sb => ?_⟩
      obtain ⟨_, g1, g2, g3, g4, g5⟩ := fC
      exact ⟨σ9, H9, I9.unpinned.turned (t' := s9.toks) (fun b o hb e => (sb.2 b hb).trans e) H9C g1 g3 g4 g5, q9⟩
    · refine thn (T.item (X.blockC scope cl H3.objs.size Nc s2 H2 fp pins) rfl rfl rfl hc i [] s6 σ6 H6 _ I6 (stat fr6) st6 go) fun r s7 ⟨u, hr, h7⟩ => ?_
      subst hr
      refine thn h7 fun _ s8 ⟨x, H8, I8, r8, y8, st8, fr8⟩ => ?_
      have I8' := I8.pinned (stat fr8) (T.obj _ _ st8)
      refine thn (hg _ _ _ _ _ _ s8 σ6 H8 x u _ I8' r8 (step x H8 y8)) fun _ s9 ⟨σ9, H9, I9, q9⟩ => ?_
      refine thn (he _ _ _ _ _ _ s9 σ9 H9 _ I9 q9) fun u10 s10 ⟨v10, H10, I10, r10, ys, hys, hlen, m', hm', w'⟩ => ?_
      refine thn (O0 _ s10 σ9 H10 (.ref s2.heap.objs.size) [v10] (.ref s2.heap.objs.size) [u10] (fun _ H11 => H11 = upd H10 s2.heap.objs.size (.lst (ys ++ [v10]))) I10 rfl (.cons r10 .nil) ⟨_, ys, v10, rfl, rfl, hys, hlen, rfl⟩) fun _ s11 ⟨_, H11, I11, _, hH11⟩ => ?_
      subst hH11
      refine ⟨m', hm', i + 1, σ9, _, I11.unpinned, T.keep _ _ _ st8 fun b hb o e => (I11.pin (b, o) (List.mem_append_right _ (List.mem_append_right _ (t8 hb e)))).1, fun b hb => ?_, w'⟩
      obtain ⟨o, e, d⟩ := T.obj _ _ st8 b hb
      exact (I11.pin (b, o) (List.mem_append_right _ (List.mem_append_right _ (t8 hb e)))).2.1
  exact codeAny_compStart_list (loop _ rfl) (T.self _ 0 _ _ _ (T.keep _ _ _ st2 fun b hb o e => old b o e) (loop _ rfl))
end
end L2
set_option maxRecDepth 100000
namespace R
open PySem L2 PyProof.Rows
def A6 (f : Nat → Rat) : Nat → Rat
  | 0 => 0
  | n + 1 => A6 f n + f n
theorem N4 {f g : Nat → Rat} : ∀ {n}, (∀ i, i < n → f i = g i) → A6 f n = A6 g n
  | 0, _ => rfl
  | n + 1, h => by rw [A6, A6, N4 fun i hi => h i (by omega), h n (by omega)]
def term (p q : List Rat) (k i : Nat) : Rat := if i ≤ k then (p[i]?).getD 0 * (q[k - i]?).getD 0 else 0
end R
namespace L2
theorem j4 {t R : TS} {D : au1} {σ : St} {H : Hp} (P : St → Hp → Prop) (first : ∀ N : St → Hp → Prop, (∀ σ H, P σ H → N σ H) → t { D with nx := N } σ H) (T1 : ∀ σ H, P σ H → R D σ H) : aW2 t R D σ H := first _ T1
end L2
set_option maxRecDepth 100000
namespace R
section
variable {α : Type} [Lean.Grind.CommRing α]
def syn (c : α) : List α → List α
  | [] => []
  | a :: p => match syn c p with
    | [] => [a]
    | h :: t => (a + c * h) :: h :: t
def pass (c : α) (k : Nat) (l : List α) : List α := l.take k ++ syn c (l.drop k)
end
open PySem L2 PyProof.Rows
structure Bd6 (q : Rat) : Prop where
  n : q.num.natAbs < 2 ^ 6000
  d : q.den < 2 ^ 6000
theorem BdN.bd6 {n : Nat} {q : Rat} (h : BdN n q) (l : n ≤ 6000) : Bd6 q := ⟨Nat.lt_of_lt_of_le h.n (t9 l), Nat.lt_of_lt_of_le h.d (t9 l)⟩
theorem al5 : ∀ (qs : List Rat) (b : Nat), 0 < b → 0 < qs.foldl (fun b q => Nat.lcm b q.den) b
  | [], b, h => h
  | q :: qs, b, h => al5 qs _ (Nat.lcm_pos h (by have := q.den_nz; omega))
theorem U2 (qs : List Rat) : 0 < w5 qs := al5 qs 1 (by decide)
theorem ao4 {f : Nat → Rat} : ∀ n, (∀ i, i < n → f i = 0) → A6 f n = 0
  | 0, _ => rfl
  | n + 1, h => by
    rw [A6, ao4 n (fun i hi => h i (by omega)), h n (by omega)]
    grind
open PySem L2 PyProof.Rows
structure ClN (W : Nat) (qs : List Rat) : Prop where
  l : w5 qs < 2 ^ W
  w : ∀ v ∈ M4 (w5 qs) qs, Int.natAbs v < 2 ^ W
theorem ClN.den {W : Nat} {qs : List Rat} (h : ClN W qs) {q : Rat} (hq : q ∈ qs) : q.den < 2 ^ W := Nat.lt_of_le_of_lt (Nat.le_of_dvd (U2 qs) (ae3 hq)) h.l
theorem ClN.num {W : Nat} {qs : List Rat} (h : ClN W qs) {q : Rat} (hq : q ∈ qs) : q.num.natAbs < 2 ^ W := by
  have h1 := h.w _ (List.mem_map.mpr ⟨q, hq, rfl⟩)
  obtain ⟨e, he⟩ := ae3 hq
  have hp := U2 qs
  have h0 : (q.den : Int) ≠ 0 := by have := q.den_nz; omega
  have e1 : (w5 qs : Int).fdiv (q.den : Int) = (e : Int) := by
    rw [he, Int.natCast_mul]; exact w8 h0
  rw [e1, Int.natAbs_mul, Int.natAbs_natCast] at h1
  refine Nat.lt_of_le_of_lt (Nat.le_mul_of_pos_right _ ?_) h1
  rcases Nat.eq_zero_or_pos e with z | z
  · rw [z] at he; omega
  · exact z
theorem ClN.take {W : Nat} {qs : List Rat} (h : ClN W qs) (i : Nat) : w5 (qs.take i) < 2 ^ W :=
  Nat.lt_of_le_of_lt (Nat.le_of_dvd (U2 qs) (aD8 fun q hq => ae3 (List.mem_of_mem_take hq))) h.l
theorem ap8 (v : Int) (L : Nat) : Rat.divInt 1 L * (v : Rat) = Rat.divInt v L := by
  have h1 := Rat.num_divInt_den (v : Rat)
  rw [Rat.num_intCast, Rat.den_intCast] at h1
  conv => lhs; rw [← h1]
  rw [Rat.divInt_mul_divInt]
  simp
theorem ar8 (v : Int) {L : Nat} (h : 0 < L) : (Rat.divInt v L).den ∣ L := by
  have hL : (L : Int) ≠ 0 := by omega
  obtain ⟨_, e2⟩ := ak1 (t := v) (b := (L : Int)) (g := (Int.gcd v L : Int)) hL (by rw [if_neg (by omega)])
  obtain ⟨k, hk⟩ := Int.gcd_dvd_right v (L : Int)
  have hg := ab0 (t := v) hL
  have e3 : (L : Int).fdiv (Int.gcd v L : Int) = k := by
    conv => lhs; arg 1; rw [hk]
    exact w8 (by omega)
  rw [e3] at e2
  have : ((Rat.divInt v L).den : Int) ∣ (L : Int) := ⟨_, by rw [Int.mul_comm, ← e2]; exact hk⟩
  exact Int.natCast_dvd_natCast.mp this
theorem aB0 (v : Int) {L : Nat} (h : 0 < L) : (Rat.divInt v L).num * L = v * ((Rat.divInt v L).den : Int) := by
  have hL : (L : Int) ≠ 0 := by omega
  have hd : ((Rat.divInt v L).den : Int) ≠ 0 := by have := (Rat.divInt v L).den_nz; omega
  exact (Rat.divInt_eq_divInt_iff hd hL).mp (Rat.num_divInt_den _)
theorem aO4 {L W : Nat} {vs : List Int} (hL0 : 0 < L) (hL : L < 2 ^ W) (hv : ∀ v ∈ vs, Int.natAbs v < 2 ^ W) : ClN W (scl (Rat.divInt 1 L) vs) := by
  have hd : w5 (scl (Rat.divInt 1 L) vs) ∣ L := aD8 fun q hq => by
    obtain ⟨v, _, rfl⟩ := List.mem_map.mp hq
    rw [ap8]
    exact ar8 v hL0
  have hle := Nat.le_of_dvd hL0 hd
  refine ⟨Nat.lt_of_le_of_lt hle hL, fun u hu => ?_⟩
  obtain ⟨q, hq, rfl⟩ := List.mem_map.mp hu
  obtain ⟨e, he⟩ := ae3 hq
  have h0 : (q.den : Int) ≠ 0 := by have := q.den_nz; omega
  have e1 : (w5 (scl (Rat.divInt 1 L) vs) : Int).fdiv (q.den : Int) = (e : Int) := by
    rw [he, Int.natCast_mul]; exact w8 h0
  obtain ⟨v, hvm, hvq⟩ := List.mem_map.mp hq
  rw [ap8] at hvq
  have hc := aB0 v hL0
  rw [hvq] at hc
  have hc' : q.num.natAbs * L = v.natAbs * q.den := by
    have := congrArg Int.natAbs hc
    rwa [Int.natAbs_mul, Int.natAbs_mul, Int.natAbs_natCast, Int.natAbs_natCast] at this
  rw [e1, Int.natAbs_mul, Int.natAbs_natCast]
  refine Nat.lt_of_le_of_lt ?_ (hv v hvm)
  have h2 : (q.num.natAbs * e) * L ≤ v.natAbs * L := by
    calc (q.num.natAbs * e) * L = (q.num.natAbs * L) * e := by rw [Nat.mul_right_comm]
      _ = v.natAbs * (q.den * e) := by rw [hc', Nat.mul_assoc]
      _ ≤ v.natAbs * L := Nat.mul_le_mul_left _ (by rw [← he]; exact hle)
  exact Nat.le_of_mul_le_mul_right h2 hL0
open PySem L2 PyProof.Rows
structure bf4 (H : Hp) (p : Addr) (qs : List Rat) : Prop where
  ex : ∃ xs, H p = some (.lst xs) ∧ K6 H xs qs
  bd : ∀ q ∈ qs, q.den < 2 ^ 6000
  len : qs.length < 900
  tl : aV9 qs qs.length
inductive aV6 (H : Hp) : List Addr → List (List Rat) → Prop where
  | nil : aV6 H [] []
  | cons {p : Addr} {ps : List Addr} {L : List Rat} {Ls : List (List Rat)} (h : bf4 H p L) (t : aV6 H ps Ls) : aV6 H (p :: ps) (L :: Ls)
theorem aI1 : ∀ Ls : List (List Rat), L8 (Ls.map K4) (Ls.map K4) = true
  | [] => by simp [L8]
  | L :: Ls => by rw [List.map_cons, L8, ai2, aI1 Ls]; simp
theorem ar7 : ∀ Ls : List (List Rat), ad0 (Ls.map K4) ≤ 2
  | [] => by simp [ad0]
  | L :: Ls => by
    have h1 := aA9 L
    have h2 := ar7 Ls
    rw [List.map_cons, ad0]; omega
theorem ac2 {ts : List Addr} {i : Nat} {x : V} (h : (ts.map V.ref)[i]? = some x) : ∃ p, ts[i]? = some p ∧ x = .ref p := by
  rw [List.getElem?_map] at h
  cases hw : ts[i]? with
  | none => rw [hw] at h; cases h
  | some v => rw [hw] at h; cases h; exact ⟨v, rfl, rfl⟩
theorem al8 : ∀ Ls Ms : List (List Rat), L8 (Ls.map K4) (Ms.map K4) = decide (Ls = Ms)
  | [], [] => by simp [L8]
  | [], _ :: _ => by simp [L8]
  | _ :: _, [] => by simp [L8]
  | p :: ps, q :: qs => by
    rw [List.map_cons, List.map_cons, L8, ai2, al8 ps qs]
    by_cases h1 : p = q <;> by_cases h2 : ps = qs <;> simp [h1, h2]
theorem al3 : ∀ Ls Ms : List (List Rat), Y2 (Ls.map K4) (Ms.map K4) = true
  | [], [] => by simp [Y2]
  | [], _ :: _ => by simp [Y2]
  | _ :: _, [] => by simp [Y2]
  | p :: ps, q :: qs => by rw [List.map_cons, List.map_cons, Y2, aq1, al3 ps qs]; rfl
def K2 (Ls : List (List Rat)) : D := .lst (Ls.map K4)
theorem ae1 (Ls Ms : List (List Rat)) : eqD (K2 Ls) (K2 Ms) = decide (Ls = Ms) := by unfold K2; rw [eqD, al8]
theorem ad9 (Ls Ms : List (List Rat)) : okD (K2 Ls) (K2 Ms) = true := by unfold K2; rw [okD, al3]
theorem ai4 (Ls : List (List Rat)) : dpD (K2 Ls) ≤ 60 := by unfold K2; rw [dpD]; have := ar7 Ls; omega
open PySem L2 PyProof.Rows
theorem aa2 (xs : List V) {n : Nat} (h : n ≤ xs.length) : P1 xs (some (n : Int)) none = xs.drop n := by
  unfold P1
  have e1 : HT.sIx xs.length 0 (some (n : Int)) = n := by
    simp only [HT.sIx]
    rw [if_neg (by omega)]; omega
  have e2 : HT.sIx xs.length xs.length none = xs.length := rfl
  rw [e1, e2, List.take_of_length_le (by rw [List.length_drop]; omega)]
theorem aY8 (xs : List V) : P1 xs (some 1) none = xs.drop 1 := by
  cases xs with
  | nil => exact List.eq_nil_of_length_eq_zero (by have := V2 [] (some 1) none; simpa using this)
  | cons x xs => exact aa2 (x :: xs) (n := 1) (by simp)
theorem m5 {α : Type} {l : List α} {i : Nat} {x : α} (h : l[i]? = some x) : l.take (i + 1) = l.take i ++ [x] := by rw [List.take_succ, h]; rfl
theorem j8.seq {K : PySem.W.Frag} {u : Addr} {H H' : Hp} {b : Addr} {xs : List V} (s : j8 u H H') (hu : H u = none) (h : SqL K H b xs) : SqL K H' b xs := by
  rcases h with h | h
  · rcases h with h | ⟨o, h⟩
    · exact .inl (.inl (s _ _ h (i6 h hu)))
    · exact .inl (.inr ⟨o, s _ _ h (i6 h hu)⟩)
  · exact .inr h
def aJ4 (K : PySem.W.Frag) : Sp := fun vs H Q _ => ∃ (a : Addr) (ns : List Int), vs = [.ref a] ∧ SqL K H a (ns.map V.int) ∧ ns.length ≤ 63 ∧ ∀ H', Q (.bl true) H'
structure ExT (K : PySem.W.Frag) (mg : Str → Option Value) (x : Str) (C : Addr) : Prop where
  m : mg x = some (.ref C)
  ox : aZ4 K C [.type "ValueError", .type "Exception", .type "BaseException", .type "object"] "ValueError.__new__"
  ec : E5 K C
structure CAd where
  c_NoFraction : Addr
  c_NoPolynomial : Addr
  c_NoStretch : Addr
  c_NoRow : Addr
  c_NoPair : Addr
  c_NoBack : Addr
  c_NoForm : Addr
  c_NoParts : Addr
  c_NoDegree : Addr
  c_NoSteps : Addr
  c_NoBox : Addr
  c_NoGain : Addr
  c_NoText : Addr
  c_NoLine : Addr
  c_NoName : Addr
  c_NoDeed : Addr
  c_RestError : Addr
structure XTx (K : PySem.W.Frag) (mg : Str → Option Value) (a : CAd) : Prop where
  x_NoFraction : ExT K mg "NoFraction" a.c_NoFraction
  x_NoPolynomial : ExT K mg "NoPolynomial" a.c_NoPolynomial
  x_NoStretch : ExT K mg "NoStretch" a.c_NoStretch
  x_NoRow : ExT K mg "NoRow" a.c_NoRow
  x_NoPair : ExT K mg "NoPair" a.c_NoPair
  x_NoBack : ExT K mg "NoBack" a.c_NoBack
  x_NoForm : ExT K mg "NoForm" a.c_NoForm
  x_NoParts : ExT K mg "NoParts" a.c_NoParts
  x_NoDegree : ExT K mg "NoDegree" a.c_NoDegree
  x_NoSteps : ExT K mg "NoSteps" a.c_NoSteps
  x_NoBox : ExT K mg "NoBox" a.c_NoBox
  x_NoGain : ExT K mg "NoGain" a.c_NoGain
  x_NoText : ExT K mg "NoText" a.c_NoText
  x_NoLine : ExT K mg "NoLine" a.c_NoLine
  x_NoName : ExT K mg "NoName" a.c_NoName
  x_NoDeed : ExT K mg "NoDeed" a.c_NoDeed
structure aV8 (K : PySem.W.Frag) (a : CAd) (C : Addr) (j : Nat) : Prop where
  k_NoFraction : PySem.W.kitOne K (.ref C) (.ref a.c_NoFraction) = some (decide (j = 0))
  k_NoPolynomial : PySem.W.kitOne K (.ref C) (.ref a.c_NoPolynomial) = some (decide (j = 1))
  k_NoStretch : PySem.W.kitOne K (.ref C) (.ref a.c_NoStretch) = some (decide (j = 2))
  k_NoRow : PySem.W.kitOne K (.ref C) (.ref a.c_NoRow) = some (decide (j = 3))
  k_NoPair : PySem.W.kitOne K (.ref C) (.ref a.c_NoPair) = some (decide (j = 4))
  k_NoBack : PySem.W.kitOne K (.ref C) (.ref a.c_NoBack) = some (decide (j = 5))
  k_NoForm : PySem.W.kitOne K (.ref C) (.ref a.c_NoForm) = some (decide (j = 6))
  k_NoParts : PySem.W.kitOne K (.ref C) (.ref a.c_NoParts) = some (decide (j = 7))
  k_NoDegree : PySem.W.kitOne K (.ref C) (.ref a.c_NoDegree) = some (decide (j = 8))
  k_NoSteps : PySem.W.kitOne K (.ref C) (.ref a.c_NoSteps) = some (decide (j = 9))
  k_NoBox : PySem.W.kitOne K (.ref C) (.ref a.c_NoBox) = some (decide (j = 10))
  k_NoGain : PySem.W.kitOne K (.ref C) (.ref a.c_NoGain) = some (decide (j = 11))
  k_NoText : PySem.W.kitOne K (.ref C) (.ref a.c_NoText) = some (decide (j = 12))
  k_NoLine : PySem.W.kitOne K (.ref C) (.ref a.c_NoLine) = some (decide (j = 13))
  k_NoName : PySem.W.kitOne K (.ref C) (.ref a.c_NoName) = some (decide (j = 14))
  k_NoDeed : PySem.W.kitOne K (.ref C) (.ref a.c_NoDeed) = some (decide (j = 15))
  kV : PySem.W.kitOne K (.ref C) (.type "ValueError") = some true
  ec : E5 K C
  ex : PySem.W.exmOne K (.ref C) (.ref a.c_RestError) = some true
def aH4 (j : Nat) : Str := [("fraction" : Str), "polynomial", "stretch", "row", "pair", "back", "form", "parts", "degree", "steps", "box", "gain", "text", "line", "name", "deed"].getD j ""
def ag6 (K : PySem.W.Frag) (a : CAd) : Sp := fun vs H Q _ => ∃ e C j, vs = [.ref e] ∧ aV8 K a C j ∧ j < 16 ∧ H e = some (Exc (.ref C) e) ∧ ∀ H', d7 H H' → Q (.str (aH4 j)) H'
def aP5 (j : Nat) : List V := [V.bl (decide (j = 0)), V.bl (decide (j = 1)), V.bl (decide (j = 2)), V.bl (decide (j = 3))] ++ [V.bl (decide (j = 4)), V.bl (decide (j = 5)), V.bl (decide (j = 6)), V.bl (decide (j = 7))] ++ [V.bl (decide (j = 8)), V.bl (decide (j = 9)), V.bl (decide (j = 10)), V.bl (decide (j = 11))] ++ [V.bl (decide (j = 12)), V.bl (decide (j = 13)), V.bl (decide (j = 14)), V.bl (decide (j = 15))]
theorem aF4 : ∀ j, j < 16 → (aP5 j).countP (fun z => eqV z (V.bl true)) = 1 := by decide
theorem aP4 : ∀ j, j < 16 → (aP5 j).findIdx? (fun z => eqV z (V.bl true)) = some j := by decide
theorem au4 : ∀ j, j < 16 → (aP5 j).all V1 = true := by decide
theorem al1 : ad8 "fraction polynomial stretch row pair back form parts degree steps box gain text line name deed" " " = [("fraction" : Str), "polynomial", "stretch", "row", "pair", "back", "form", "parts", "degree", "steps", "box", "gain", "text", "line", "name", "deed"] := by decide +kernel
theorem aY0 {j : Nat} (hj : j < 16) : atI ((ad8 "fraction polynomial stretch row pair back form parts degree steps box gain text line name deed" " ").map V.str) (j : Int) = some (.str (aH4 j)) := by
  rw [al1]
  refine u0 ?_
  have : ∀ j, j < 16 → ((["fraction", "polynomial", "stretch", "row", "pair", "back", "form", "parts", "degree", "steps", "box", "gain", "text", "line", "name", "deed"] : List Str).map V.str)[j]? = some (.str (aH4 j)) := by decide
  exact this j hj
theorem ar1 {ws : List Int} {i : Nat} {x : V} (h : (ws.map V.int)[i]? = some x) : ∃ v, ws[i]? = some v ∧ x = .int v := by
  rw [List.getElem?_map] at h
  cases hw : ws[i]? with
  | none => rw [hw] at h; cases h
  | some v => rw [hw] at h; cases h; exact ⟨v, rfl, rfl⟩
open PySem L2 PyProof.Rows
def top (i : Nat) : Stmt := PySem.Challenge.pw_restward_k28_steep_tables.main.body.getD i (.Pass ⟨0, 0, 0, 0⟩)
open PySem L2 PyProof.Rows
def tyD : D → Value
  | .v .non => .type "NoneType"
  | .v (.bl _) => .type "bool"
  | .v (.int _) => .type "int"
  | .v (.str _) => .type "str"
  | .v _ => .type "object"
  | .tup _ => .type "tuple"
  | .lst _ => .type "list"
theorem _root_.L2.IsD.ty {K : PySem.W.Frag} {H : Hp} {v : V} {d : D} (h : IsD K H v d) : TyX K H v (tyD d) := by
  cases h with
  | v f =>
    cases v with
    | non => exact .of .non
    | bl b => exact .of (.bl b)
    | int i => exact .of (.int i)
    | str s => exact .of (.str s)
    | _ => cases f
  | tup h t => exact .sqt h
  | lst h t => exact .sql h
def be3 : D → Bool
  | .tup _ => true
  | _ => false
def aA2 : D → Bool
  | .v (.int _) => true
  | .v (.bl _) => true
  | _ => false
def ba5 : D → Bool
  | .v (.bl _) => true
  | _ => false
section
variable {K : PySem.W.Frag}
theorem aE1 {H : Hp} {v : V} {d : D} (h : IsD K H v d) : PySem.W.kitOne K (tyD d) (.type "tuple") = some (be3 d) := by
  cases h with
  | v f =>
    cases v with
    | non => kernel_rfl
    | bl b => kernel_rfl
    | int i => kernel_rfl
    | str s => kernel_rfl
    | _ => cases f
  | tup h t => kernel_rfl
  | lst h t => kernel_rfl
theorem aN4 {H : Hp} {v : V} {d : D} (h : IsD K H v d) : PySem.W.kitOne K (tyD d) (.type "int") = some (aA2 d) := by
  cases h with
  | v f =>
    cases v with
    | non => kernel_rfl
    | bl b => kernel_rfl
    | int i => kernel_rfl
    | str s => kernel_rfl
    | _ => cases f
  | tup h t => kernel_rfl
  | lst h t => kernel_rfl
theorem aH7 {H : Hp} {v : V} {d : D} (h : IsD K H v d) : PySem.W.kitOne K (tyD d) (.type "bool") = some (ba5 d) := by
  cases h with
  | v f =>
    cases v with
    | non => kernel_rfl
    | bl b => kernel_rfl
    | int i => kernel_rfl
    | str s => kernel_rfl
    | _ => cases f
  | tup h t => kernel_rfl
  | lst h t => kernel_rfl
end
def am9 : D → Bool
  | .v (.int _) => true
  | _ => false
theorem aF1 {d : D} (h : am9 d = true) : ∃ i, d = .v (.int i) := by
  unfold am9 at h
  split at h
  · exact ⟨_, rfl⟩
  · cases h
end R
namespace L2
open PySem PyProof.Rows
mutual
theorem IsD.same {K : PySem.W.Frag} {H H' : Hp} (s : d7 H H') : ∀ {v : V} {d : D}, IsD K H v d → IsD K H' v d
  | _, _, .v f => .v f
  | _, _, .tup h t => .tup (s.tup h) (t.same s)
  | _, _, .lst h t => .lst (s.seq h) (t.same s)
theorem L9.same {K : PySem.W.Frag} {H H' : Hp} (s : d7 H H') : ∀ {vs : List V} {ds : List D}, L9 K H vs ds → L9 K H' vs ds
  | _, _, .nil => .nil
  | _, _, .cons h t => .cons (h.same s) (t.same s)
end
theorem L9.get {K : PySem.W.Frag} {H : Hp} : ∀ {vs : List V} {ds : List D} {i : Nat} {v : V}, L9 K H vs ds → vs[i]? = some v → ∃ d, ds[i]? = some d ∧ IsD K H v d
  | _, _, _, _, .nil, e => by simp at e
  | _, _, 0, _, .cons h _, e => by cases e; exact ⟨_, rfl, h⟩
  | _, _, i + 1, _, .cons _ t, e => t.get (i := i) (by simpa using e)
theorem L9.append {K : PySem.W.Frag} {H : Hp} : ∀ {vs ws : List V} {ds es : List D}, L9 K H vs ds → L9 K H ws es → L9 K H (vs ++ ws) (ds ++ es)
  | _, _, _, _, .nil, h => h
  | _, _, _, _, .cons h t, k => .cons h (t.append k)
end L2
set_option maxRecDepth 100000
namespace R
open PySem L2 PyProof.Rows
mutual
def noU : D → Bool
  | .v _ => true
  | .tup ds => O8 ds
  | .lst ds => (ds.length != 3) && O8 ds
def O8 : List D → Bool
  | [] => true
  | d :: ds => noU d && O8 ds
end
theorem j8.sql {K : PySem.W.Frag} {u p : Addr} {H H' : Hp} {xs : List V} (s : j8 u H H') (hu : p7 H u) (hl : xs.length ≠ 3) (h : SqL K H p xs) : SqL K H' p xs := by
  obtain ⟨g, m, r, hl', _⟩ := hu
  rcases h with h | h
  · rcases h with h | ⟨o, h⟩
    · refine .inl (.inl (s _ _ h fun z => ?_))
      rw [z, hl'] at h
      cases h
      exact hl rfl
    · refine .inl (.inr ⟨o, s _ _ h fun z => ?_⟩)
      rw [z, hl'] at h
      cases h
  · exact .inr h
theorem j8.sqt {K : PySem.W.Frag} {u p : Addr} {H H' : Hp} {xs : List V} (s : j8 u H H') (hu : p7 H u) (h : SqT K H p xs) : SqT K H' p xs := by
  obtain ⟨g, m, r, hl', _⟩ := hu
  rcases h with h | h
  · rcases h with h | ⟨o, h⟩
    · refine .inl (.inl (s _ _ h fun z => ?_))
      rw [z, hl'] at h
      cases h
    · refine .inl (.inr ⟨o, s _ _ h fun z => ?_⟩)
      rw [z, hl'] at h
      cases h
  · exact .inr h
mutual
theorem aN6 {K : PySem.W.Frag} {u : Addr} {H H' : Hp} (s : j8 u H H') (hu : p7 H u) : ∀ {v : V} {d : D}, noU d = true → IsD K H v d → IsD K H' v d
  | _, _, _, .v f => .v f
  | _, _, n, .tup h t => .tup (s.sqt hu h) (aa9 s hu (by simpa only [noU] using n) t)
  | _, _, n, .lst h t => by
    simp only [noU, Bool.and_eq_true, bne_iff_ne, ne_eq] at n
    exact .lst (s.sql hu (by rw [t.length]; exact n.1) h) (aa9 s hu n.2 t)
theorem aa9 {K : PySem.W.Frag} {u : Addr} {H H' : Hp} (s : j8 u H H') (hu : p7 H u) : ∀ {vs : List V} {ds : List D}, O8 ds = true → L9 K H vs ds → L9 K H' vs ds
  | _, _, _, .nil => .nil
  | _, _, n, .cons h t => by
    simp only [O8, Bool.and_eq_true] at n
    exact .cons (aN6 s hu n.1 h) (aa9 s hu n.2 t)
end
end R
set_option maxRecDepth 100000
namespace L2
open PySem PyProof.Rows
end L2
namespace R
open PySem L2 PyProof.Rows
inductive Rws (H : Hp) : List Addr → List (List Rat) → Prop where
  | nil : Rws H [] []
  | cons {p : Addr} {xs : List V} {ps : List Addr} {L : List Rat} {Ls : List (List Rat)} (h : H p = some (.lst xs)) (n : K6 H xs L) (t : Rws H ps Ls) : Rws H (p :: ps) (L :: Ls)
theorem Rws.length {H : Hp} : ∀ {ts : List Addr} {M : List (List Rat)}, Rws H ts M → ts.length = M.length
  | _, _, .nil => rfl
  | _, _, .cons _ _ t => congrArg (· + 1) t.length
theorem Rws.same {H H' : Hp} (s : d7 H H') : ∀ {ts : List Addr} {M : List (List Rat)}, Rws H ts M → Rws H' ts M
  | _, _, .nil => .nil
  | _, _, .cons h n t => .cons (s _ _ h) (n.mono s.tups) (t.same s)
theorem Rws.samex {u : Addr} {H H' : Hp} (s : j8 u H H') (hu : p7 H u) : ∀ {ts : List Addr} {M : List (List Rat)}, (∀ t ∈ ts, t ≠ u) → Rws H ts M → Rws H' ts M
  | _, _, _, .nil => .nil
  | _, _, hn, .cons h n t => .cons (s _ _ h (hn _ List.mem_cons_self)) (n.mono (s.tups hu)) (t.samex s hu fun x hx => hn x (List.mem_cons_of_mem _ hx))
theorem Rws.over {H : Hp} {l : Addr} {xs : List V} {o : HO} (hl : H l = some (.lst xs)) : ∀ {ts : List Addr} {M : List (List Rat)}, l ∉ ts → Rws H ts M → Rws (upd H l o) ts M
  | _, _, _, .nil => .nil
  | _, _, hn, .cons h n t => .cons (by rw [i0 (fun z => hn (by rw [← z]; exact List.mem_cons_self))]; exact h) (n.mono (af0.lst hl)) (t.over hl fun z => hn (List.mem_cons_of_mem _ z))
theorem Rws.append {H : Hp} : ∀ {ts us : List Addr} {M N : List (List Rat)}, Rws H ts M → Rws H us N → Rws H (ts ++ us) (M ++ N)
  | _, _, _, _, .nil, h => h
  | _, _, _, _, .cons h n t, k => .cons h n (t.append k)
theorem Rws.isDs {K : PySem.W.Frag} {H : Hp} : ∀ {ts : List Addr} {M : List (List Rat)}, Rws H ts M → L9 K H (ts.map V.ref) (M.map K4)
  | _, _, .nil => .nil
  | _, _, .cons h n t => .cons (ar0 (SqL.of h) n) t.isDs
structure TabAt (H : Hp) (D : Addr) (M : List (List Rat)) (H2 : Hp) : Prop where
  same : d7 H H2
  at' : ∃ ts : List Addr, H2 D = some (.lst (ts.map V.ref)) ∧ (∀ t ∈ ts, H t = none ∧ t ≠ D) ∧ ts.Nodup ∧ Rws H2 ts M
structure RowAt (H : Hp) (D : Addr) (L : List Rat) (H2 : Hp) : Prop where
  same : d7 H H2
  at' : ∃ xs : List V, H2 D = some (.lst xs) ∧ K6 H2 xs L
def NmC (K : PySem.W.Frag) (H : Hp) (p : Addr) (q : Rat) : Prop := H p = some (.tup (F0 q)) ∨ ∀ H', SqT K H' p (F0 q)
theorem NmC.sqt {K : PySem.W.Frag} {H : Hp} {p : Addr} {q : Rat} : NmC K H p q → SqT K H p (F0 q)
  | .inl h => SqT.of h
  | .inr h => h H
theorem NmC.mono {K : PySem.W.Frag} {H H' : Hp} {p : Addr} {q : Rat} (e : af0 H H') : NmC K H p q → NmC K H' p q
  | .inl h => .inl (e _ _ h)
  | .inr h => .inr h
inductive A8 (K : PySem.W.Frag) (H : Hp) : List V → List Rat → Prop where
  | nil : A8 K H [] []
  | cons {p : Addr} {q : Rat} {vs : List V} {qs : List Rat} (h : NmC K H p q) (t : A8 K H vs qs) : A8 K H (.ref p :: vs) (q :: qs)
theorem A8.mono {K : PySem.W.Frag} {H H' : Hp} (e : af0 H H') : ∀ {vs : List V} {qs : List Rat}, A8 K H vs qs → A8 K H' vs qs
  | _, _, .nil => .nil
  | _, _, .cons h t => .cons (h.mono e) (t.mono e)
theorem A8.length {K : PySem.W.Frag} {H : Hp} : ∀ {vs : List V} {qs : List Rat}, A8 K H vs qs → vs.length = qs.length
  | _, _, .nil => rfl
  | _, _, .cons _ t => congrArg (· + 1) t.length
theorem A8.append {K : PySem.W.Frag} {H : Hp} : ∀ {vs ws : List V} {qs rs : List Rat}, A8 K H vs qs → A8 K H ws rs → A8 K H (vs ++ ws) (qs ++ rs)
  | _, _, _, _, .nil, b => b
  | _, _, _, _, .cons h t, b => .cons h (t.append b)
theorem A8.getV {K : PySem.W.Frag} {H : Hp} : ∀ {vs : List V} {qs : List Rat} {i : Nat} {v : V}, A8 K H vs qs → vs[i]? = some v → ∃ p q, v = .ref p ∧ qs[i]? = some q ∧ NmC K H p q
  | _, _, _, _, .nil, e => by simp at e
  | _, _, 0, _, .cons h t, e => by cases e; exact ⟨_, _, rfl, rfl, h⟩
  | _, _, i + 1, _, .cons _ t, e => t.getV (i := i) (by simpa using e)
theorem A8.isDs {K : PySem.W.Frag} {H : Hp} : ∀ {vs : List V} {qs : List Rat}, A8 K H vs qs → L9 K H vs (qs.map Q6)
  | _, _, .nil => .nil
  | _, _, .cons h t => .cons (ae0 h.sqt) t.isDs
theorem K6.toC {K : PySem.W.Frag} {H : Hp} : ∀ {vs : List V} {qs : List Rat}, K6 H vs qs → A8 K H vs qs
  | _, _, .nil => .nil
  | _, _, .cons h t => .cons (.inl h) t.toC
inductive B9 (K : PySem.W.Frag) (H : Hp) : List Addr → List (List Rat) → Prop where
  | nil : B9 K H [] []
  | cons {p : Addr} {xs : List V} {ps : List Addr} {L : List Rat} {Ls : List (List Rat)} (h : H p = some (.lst xs)) (n : A8 K H xs L) (t : B9 K H ps Ls) : B9 K H (p :: ps) (L :: Ls)
theorem Rws.toC {K : PySem.W.Frag} {H : Hp} : ∀ {ts : List Addr} {M : List (List Rat)}, Rws H ts M → B9 K H ts M
  | _, _, .nil => .nil
  | _, _, .cons h n t => .cons h n.toC t.toC
theorem B9.length {K : PySem.W.Frag} {H : Hp} : ∀ {ts : List Addr} {M : List (List Rat)}, B9 K H ts M → ts.length = M.length
  | _, _, .nil => rfl
  | _, _, .cons _ _ t => congrArg (· + 1) t.length
theorem B9.same {K : PySem.W.Frag} {H H' : Hp} (s : d7 H H') : ∀ {ts : List Addr} {M : List (List Rat)}, B9 K H ts M → B9 K H' ts M
  | _, _, .nil => .nil
  | _, _, .cons h n t => .cons (s _ _ h) (n.mono s.tups) (t.same s)
theorem B9.samex {K : PySem.W.Frag} {u : Addr} {H H' : Hp} (s : j8 u H H') (hu : p7 H u) : ∀ {ts : List Addr} {M : List (List Rat)}, (∀ t ∈ ts, t ≠ u) → B9 K H ts M → B9 K H' ts M
  | _, _, _, .nil => .nil
  | _, _, hn, .cons h n t => .cons (s _ _ h (hn _ List.mem_cons_self)) (n.mono (s.tups hu)) (t.samex s hu fun x hx => hn x (List.mem_cons_of_mem _ hx))
theorem B9.over {K : PySem.W.Frag} {H : Hp} {l : Addr} {xs : List V} {o : HO} (hl : H l = some (.lst xs)) : ∀ {ts : List Addr} {M : List (List Rat)}, l ∉ ts → B9 K H ts M → B9 K (upd H l o) ts M
  | _, _, _, .nil => .nil
  | _, _, hn, .cons h n t => .cons (by rw [i0 (fun z => hn (by rw [← z]; exact List.mem_cons_self))]; exact h) (n.mono (af0.lst hl)) (t.over hl fun z => hn (List.mem_cons_of_mem _ z))
theorem B9.append {K : PySem.W.Frag} {H : Hp} : ∀ {ts us : List Addr} {M N : List (List Rat)}, B9 K H ts M → B9 K H us N → B9 K H (ts ++ us) (M ++ N)
  | _, _, _, _, .nil, h => h
  | _, _, _, _, .cons h n t, k => .cons h n (t.append k)
theorem B9.get {K : PySem.W.Frag} {H : Hp} : ∀ {ts : List Addr} {M : List (List Rat)} {i : Nat} {p : Addr}, B9 K H ts M → ts[i]? = some p → ∃ xs L, M[i]? = some L ∧ H p = some (.lst xs) ∧ A8 K H xs L
  | _, _, _, _, .nil, e => by simp at e
  | _, _, 0, _, .cons h n _, e => by cases e; exact ⟨_, _, rfl, h, n⟩
  | _, _, i + 1, _, .cons _ _ t, e => t.get (i := i) (by simpa using e)
theorem B9.take {K : PySem.W.Frag} {H : Hp} : ∀ {ts : List Addr} {M : List (List Rat)} (m : Nat), B9 K H ts M → B9 K H (ts.take m) (M.take m)
  | _, _, 0, _ => by simp; exact .nil
  | _, _, _ + 1, .nil => .nil
  | _, _, m + 1, .cons h n t => .cons h n (t.take m)
theorem B9.drop {K : PySem.W.Frag} {H : Hp} : ∀ {ts : List Addr} {M : List (List Rat)} (m : Nat), B9 K H ts M → B9 K H (ts.drop m) (M.drop m)
  | _, _, 0, h => h
  | _, _, _ + 1, .nil => .nil
  | _, _, m + 1, .cons _ _ t => t.drop m
theorem B9.isDs {K : PySem.W.Frag} {H : Hp} : ∀ {ts : List Addr} {M : List (List Rat)}, B9 K H ts M → L9 K H (ts.map V.ref) (M.map K4)
  | _, _, .nil => .nil
  | _, _, .cons h n t => .cons (.lst (SqL.of h) n.isDs) t.isDs
def aB2 (K : PySem.W.Frag) (H : Hp) (Q : VK) (M : List (List Rat)) : Prop := ∀ (r : Addr) (ts : List Addr) (H' : Hp), d7 H H' → H r = none → (∀ t ∈ ts, H t = none ∧ t ≠ r) → ts.Nodup → H' r = some (.lst (ts.map V.ref)) → B9 K H' ts M → Q (.ref r) H'
structure W6 (K : PySem.W.Frag) (H : Hp) (D : Addr) (M : List (List Rat)) (H2 : Hp) : Prop where
  same : d7 H H2
  at' : ∃ ts : List Addr, H2 D = some (.lst (ts.map V.ref)) ∧ (∀ t ∈ ts, H t = none ∧ t ≠ D) ∧ ts.Nodup ∧ B9 K H2 ts M
structure ad3 (K : PySem.W.Frag) (H : Hp) (D : Addr) (L : List Rat) (H2 : Hp) : Prop where
  same : d7 H H2
  at' : ∃ xs : List V, H2 D = some (.lst xs) ∧ A8 K H2 xs L
theorem W6.start {K : PySem.W.Frag} {H : Hp} {D : Addr} (h : H D = none) : W6 K H D [] (upd H D (.lst [])) := ⟨d7.new h _, [], d5, by simp, .nil, .nil⟩
theorem ad3.start {K : PySem.W.Frag} {H : Hp} {D : Addr} (h : H D = none) : ad3 K H D [] (upd H D (.lst [])) := ⟨d7.new h _, [], d5, .nil⟩
theorem W6.res {K : PySem.W.Frag} {H H2 : Hp} {D : Addr} {M : List (List Rat)} {Q : VK} (k : aB2 K H Q M) (h : H D = none) (t : W6 K H D M H2) : Q (.ref D) H2 :=
  let ⟨s, ts, e, hn, nd, r⟩ := t; k D ts H2 s h hn nd e r
theorem ad3.add {K : PySem.W.Frag} {H H2 H3 : Hp} {D p : Addr} {L : List Rat} {q : Rat} (t : ad3 K H D L H2) (h : H D = none) (s : d7 H2 H3) (e : NmC K H3 p q) :
    ∃ ys, H3 D = some (.lst ys) ∧ ys.length = L.length ∧ ad3 K H D (L ++ [q]) (upd H3 D (.lst (ys ++ [.ref p]))) := by
  obtain ⟨s2, xs, e2, n2⟩ := t
  have eD := s _ _ e2
  exact ⟨xs, eD, n2.length, (s2.trans s).over h _, _, d5, ((n2.mono s.tups).append (.cons e .nil)).mono (af0.lst eD)⟩
theorem W6.add {K : PySem.W.Frag} {H H2 H3 : Hp} {D D2 : Addr} {M : List (List Rat)} {L : List Rat} (t : W6 K H D M H2) (h : H D = none) (h2 : H2 D2 = none) (r : ad3 K H2 D2 L H3) :
    ∃ ys, H3 D = some (.lst ys) ∧ ys.length = M.length ∧ W6 K H D (M ++ [L]) (upd H3 D (.lst (ys ++ [.ref D2]))) := by
  obtain ⟨s2, ts, e2, hn, nd, n2⟩ := t
  obtain ⟨s, xs, e3, n3⟩ := r
  have eD := s _ _ e2
  have hD2 : D2 ≠ D := (i6 e2 h2).symm
  have hnt : D2 ∉ ts := fun z => by
    obtain ⟨i, hi⟩ := List.mem_iff_getElem?.mp z
    obtain ⟨_, _, _, e, _⟩ := n2.get hi
    rw [h2] at e; cases e
  refine ⟨_, eD, by rw [List.length_map, n2.length], (s2.trans s).over h _, ts ++ [D2], by rw [d5, List.map_append]; rfl, ?_, ?_, ?_⟩
  · intro t ht
    rcases List.mem_append.mp ht with z | z
    · exact hn t z
    · rw [List.mem_singleton.mp z]
      refine ⟨?_, hD2⟩
      cases q : H D2 with
      | none => rfl
      | some o => rw [s2 _ _ q] at h2; cases h2
  · rw [List.nodup_append]
    refine ⟨nd, by simp, fun a ha b hb => ?_⟩
    rw [List.mem_singleton.mp hb]
    rintro rfl
    exact hnt ha
  · refine ((n2.same s).append (.cons e3 n3 .nil)).over eD fun z => ?_
    rcases List.mem_append.mp z with z | z
    · exact (hn D z).2 rfl
    · exact hD2 (List.mem_singleton.mp z).symm
theorem ay0 {n i : Nat} (h : i < n) : (List.range n)[i]? = some i := by rw [List.getElem?_eq_getElem (by simpa using h)]; simp
theorem B3 {α : Type} {l : List α} {n : Nat} (h : l.length ≤ n) : l.take n = l := List.take_of_length_le h
theorem F9 {n : Nat} (h : n ≤ 100) : n < sizeLine := Nat.lt_of_le_of_lt h (by decide)
def ClA (D : Addr) (H : Hp) (v : V) (p : List Rat) : Prop := ∃ r l, v = .ref r ∧ H r = some (.tup [.ref l, .int (w5 p)]) ∧ H l = some (.lst ((M4 (w5 p) p).map V.int)) ∧ l ≠ D
inductive ClL (D : Addr) (H : Hp) : List V → List (List Rat) → Prop where
  | nil : ClL D H [] []
  | cons {v : V} {p : List Rat} {vs : List V} {ps : List (List Rat)} (h : ClA D H v p) (t : ClL D H vs ps) : ClL D H (v :: vs) (p :: ps)
structure ClR (H : Hp) (D : Addr) (M : List (List Rat)) (H2 : Hp) : Prop where
  same : d7 H H2
  at' : ∃ vs : List V, H2 D = some (.lst vs) ∧ ClL D H2 vs M
def ba9 : List D → Bool
  | [.v (.int _), .v (.int _), .v (.int _)] => true
  | _ => false
mutual
def noW : D → Bool
  | .v _ => true
  | .tup ds => bd4 ds
  | .lst ds => !ba9 ds && bd4 ds
def bd4 : List D → Bool
  | [] => true
  | d :: ds => noW d && bd4 ds
end
mutual
def smD (m : Nat) : D → Prop
  | .v (.int i) => i.natAbs < 2 ^ m
  | .v _ => True
  | .tup ds => bc0 m ds
  | .lst ds => bc0 m ds
def bc0 (m : Nat) : List D → Prop
  | [] => True
  | d :: ds => smD m d ∧ bc0 m ds
end
def P2 (p q : Rat) : Bool := decide (p.num * (q.den : Int) < q.num * (p.den : Int))
structure IsBox (B : List (Rat × Rat)) : Prop where
  l2 : 2 ≤ B.length
  l8 : B.length ≤ 8
  le : ∀ s ∈ B, s.1 ≤ s.2
  last : ∀ s, B[B.length - 1]? = some s → 0 < s.1
def zs (t b a : Int) : List Int → List Int
  | [] => [b * a]
  | x :: r => (b * a + t * x) :: zs t b x r
structure MidN (n : Nat) (R : List Rat) : Prop where
  ex : ∃ (B : Nat) (ws : List Int), 0 < B ∧ B < 2 ^ (40 * n + 1) ∧ R = scl (Rat.divInt 1 B) ws ∧ ∀ v ∈ ws, Int.natAbs v < 2 ^ (41 * n + 1)
  len : R.length = n + 1
  last : R[n]? = some 1
inductive aV4 (H : Hp) : List V → List (Rat × Rat) → Prop where
  | nil : aV4 H [] []
  | cons {p a b : Addr} {s : Rat × Rat} {vs : List V} {B : List (Rat × Rat)} (h : H p = some (.tup [.ref a, .ref b])) (ha : H a = some (.tup (F0 s.1))) (hb : H b = some (.tup (F0 s.2))) (t : aV4 H vs B) : aV4 H (.ref p :: vs) (s :: B)
theorem aA1 {n k : Nat} (h : k < n) : ixN n (k : Int) = some k := by
  unfold ixN
  rw [if_pos (by omega)]
  simp; omega
def Q5 (a b : Str) : D := .tup [.v (.str a), .v (.str b)]
theorem ai1 (a b : Str) : eqD (Q5 a b) (Q5 a b) = true := by simp [Q5, eqD, L8, eqV]
theorem ah7 (a b c d : Str) : okD (Q5 a b) (Q5 c d) = true := by simp [Q5, okD, Y2]
theorem am8 (a b : Str) : dpD (Q5 a b) ≤ 60 := by simp [Q5, dpD, ad0]
theorem Q4 {K : PySem.W.Frag} {H : Hp} {p : Addr} {a b : Str} (h : SqT K H p [.str a, .str b]) : IsD K H (.ref p) (Q5 a b) := .tup h (.cons (.v rfl) (.cons (.v rfl) .nil))
structure TbX (u : Addr) (H : Hp) (a : Addr) (ts : List Addr) (M : List (List Rat)) : Prop where
  au : a ≠ u
  tu : ∀ t ∈ ts, t ≠ u
  at' : H a = some (.lst (ts.map V.ref))
  rws : Rws H ts M
theorem TbX.samex {u a : Addr} {H H' : Hp} {ts : List Addr} {M : List (List Rat)} (t : TbX u H a ts M) (s : j8 u H H') (hu : p7 H u) : TbX u H' a ts M := ⟨t.au, t.tu, s _ _ t.at' t.au, t.rws.samex s hu t.tu⟩
theorem TbX.same {u a : Addr} {H H' : Hp} {ts : List Addr} {M : List (List Rat)} (t : TbX u H a ts M) (s : d7 H H') : TbX u H' a ts M := ⟨t.au, t.tu, s _ _ t.at', t.rws.same s⟩
theorem TbX.isD {K : PySem.W.Frag} {u a : Addr} {H : Hp} {ts : List Addr} {M : List (List Rat)} (t : TbX u H a ts M) : IsD K H (.ref a) (K2 M) := .lst (SqL.of t.at') t.rws.isDs
structure LsX (u : Addr) (H : Hp) (a : Addr) (xs : List V) (qs : List Rat) : Prop where
  au : a ≠ u
  at' : H a = some (.lst xs)
  nums : K6 H xs qs
theorem LsX.samex {u a : Addr} {H H' : Hp} {xs : List V} {qs : List Rat} (t : LsX u H a xs qs) (s : j8 u H H') (hu : p7 H u) : LsX u H' a xs qs := ⟨t.au, s _ _ t.at' t.au, t.nums.mono (s.tups hu)⟩
theorem LsX.same {u a : Addr} {H H' : Hp} {xs : List V} {qs : List Rat} (t : LsX u H a xs qs) (s : d7 H H') : LsX u H' a xs qs := ⟨t.au, s _ _ t.at', t.nums.mono s.tups⟩
theorem LsX.isD {K : PySem.W.Frag} {u a : Addr} {H : Hp} {xs : List V} {qs : List Rat} (t : LsX u H a xs qs) : IsD K H (.ref a) (K4 qs) := ar0 (SqL.of t.at') t.nums
def hc (a : Nat → Rat) (i j : Nat) : Rat := if (i + j) % 2 = 1 then a i * a j else 0
def hf (a : Nat → Rat) : Nat → Nat → Rat
  | 0, j => hc a 0 (j + 1)
  | i + 1, j => hc a (i + 1) (j + 1) - hf a i (j + 1)
def pw (x : Rat) : Nat → Rat
  | 0 => 1
  | i + 1 => pw x i * x
theorem ad5 (c : Rat) (f : Nat → Rat) : ∀ n, c * A6 f n = A6 (fun i => c * f i) n
  | 0 => by simp [A6]
  | n + 1 => by rw [A6, A6, ← ad5 c f n]; grind
theorem aj1 (f g : Nat → Rat) : ∀ n, A6 f n + A6 g n = A6 (fun i => f i + g i) n
  | 0 => by simp [A6]; grind
  | n + 1 => by rw [A6, A6, A6, ← aj1 f g n]; grind
def hR (a : Nat → Rat) (n i : Nat) (y : Rat) : Rat := A6 (fun j => hf a i j * pw y j) n
def hC (a : Nat → Rat) (n i : Nat) (y : Rat) : Rat := A6 (fun j => hc a i j * pw y j) (n + 1)
def sg (i : Nat) : Rat := if i % 2 = 0 then 1 else -1
def OvB (B W : Nat) (q : Rat) : Prop := ∃ v : Int, q = Rat.divInt v B ∧ v.natAbs < 2 ^ W
theorem OvB.zero (B W : Nat) : OvB B W 0 := ⟨0, by rw [Rat.zero_divInt], Nat.two_pow_pos _⟩
theorem OvB.bdN {B W : Nat} (hB : 0 < B) (hW : B < 2 ^ W) {q : Rat} (h : OvB B W q) : BdN W q := by
  obtain ⟨v, rfl, b⟩ := h
  have := aa1 (t := v) (b := (B : Int)) (by omega)
  rw [Int.natAbs_natCast] at this
  exact ⟨Nat.lt_of_le_of_lt this.1 b, Nat.lt_of_le_of_lt this.2 hW⟩
def aQ (qs : List Rat) (k : Nat) : Rat := (qs[k]?).getD 0
def aZ (ws : List Int) (k : Nat) : Int := (ws[k]?).getD 0
theorem as2 {ws : List Int} {W : Nat} (h : ∀ v ∈ ws, Int.natAbs v < 2 ^ W) : ∀ k, (aZ ws k).natAbs < 2 ^ W := fun k => by
  unfold aZ
  cases q : ws[k]? with
  | none => exact Nat.two_pow_pos _
  | some v => exact h v (List.mem_of_getElem? q)
def cv (f g : Nat → Rat) (k : Nat) : Rat := A6 (fun i => f i * g (k - i)) (k + 1)
theorem R5 (g : Nat → Rat) (t : Nat) : ∀ n, A6 (fun i => if i = t then g i else 0) n = if t < n then g t else 0
  | 0 => by rw [if_neg (by omega)]; rfl
  | n + 1 => by
    rw [A6, R5 g t n]
    by_cases h : t < n
    · rw [if_pos h, if_neg (by omega), if_pos (by omega)]; grind
    · by_cases h2 : n = t
      · rw [if_neg h, if_pos h2, if_pos (by omega), h2]; grind
      · rw [if_neg h, if_neg h2, if_neg (by omega)]; grind
structure IsTz (ws : List Int) (m : Nat) : Prop where
  le : m ≤ ws.length
  zero : ∀ i v, m ≤ i → ws[i]? = some v → v = 0
  last : m ≠ 0 → ∀ v, ws[m - 1]? = some v → v ≠ 0
theorem OvB.up {B W : Nat} {q : Rat} (h : OvB B W q) (hB : 0 < B) {C c : Nat} (hC : 0 < C) (hc : C < 2 ^ c) : OvB (B * C) (W + c) q := by
  obtain ⟨v, rfl, b⟩ := h
  refine ⟨v * C, ?_, ?_⟩
  · rw [Int.natCast_mul]
    refine (Rat.divInt_eq_divInt_iff (by omega) (Int.mul_ne_zero (by omega) (by omega))).mpr ?_
    grind
  · rw [Int.natAbs_mul, Int.natAbs_natCast, Nat.pow_add]
    exact Nat.mul_lt_mul'' b hc
theorem av9 {B W : Nat} (hB : 0 < B) (hW : B < 2 ^ W) {qs : List Rat} (h : ∀ x ∈ qs, OvB B W x) : ClN W qs := by
  have : ∃ vs : List Int, qs = scl (Rat.divInt 1 B) vs ∧ ∀ v ∈ vs, Int.natAbs v < 2 ^ W := by
    induction qs with
    | nil => exact ⟨[], rfl, by simp⟩
    | cons q qs ih =>
      obtain ⟨vs, e, hv⟩ := ih fun x hx => h x (List.mem_cons_of_mem _ hx)
      obtain ⟨v, e2, b⟩ := h q List.mem_cons_self
      refine ⟨v :: vs, ?_, fun u hu => ?_⟩
      · rw [e]
        show q :: _ = (Rat.divInt 1 B * (v : Rat)) :: _
        rw [ap8, ← e2]; rfl
      · rcases List.mem_cons.mp hu with z | z
        · rw [z]; exact b
        · exact hv u z
  obtain ⟨vs, rfl, hv⟩ := this
  exact aO4 hB hW hv
def bh4 (u : Addr) (H : Hp) (v : V) (ps qs : List Rat) : Prop := v = .non ∨ ∃ td l1 l2 zs1 zs2 g0 g1, v = .ref td ∧ td ≠ u ∧ H td = some (.tup [.ref l1, .ref l2]) ∧ LsX u H l1 zs1 g0 ∧ LsX u H l2 zs2 g1 ∧ aV9 g0 g0.length ∧ aV9 g1 g1.length ∧ g1.length < qs.length ∧ ∀ k, aQ ps k = cv (aQ qs) (aQ g0) k + aQ g1 k
structure PairOk (u : Addr) (H : Hp) (ap aq : Addr) (due : V) (xs ys : List V) (ps qs : List Rat) (S W1 W2 : Nat) : Prop where
  lp : LsX u H ap xs ps
  lq : LsX u H aq ys qs
  tp : aV9 ps ps.length
  tq : aV9 qs qs.length
  q0 : qs ≠ []
  c1 : ClN W1 ps
  c2 : ClN W2 qs
  w1 : 1 ≤ W1
  w2 : 1 ≤ W2
  w3 : W2 ≤ 690
  t : W1 + S * (W2 + 1) + W2 ≤ 2300
  s : ps.length + 1 ≤ qs.length + S
  pl : ps.length ≤ 16
  ql : qs.length ≤ 16
  due : bh4 u H due ps qs
def mA (a b : Rat) (f : Nat → Rat) : Nat → Rat
  | 0 => a * f 0
  | k + 1 => a * f (k + 1) + b * f k
def dl : Nat → Rat := fun k => if k = 0 then 1 else 0
def Dg (f : Nat → Rat) (n : Nat) : Prop := ∀ k, n ≤ k → f k = 0
structure Eu (p q A B : Nat → Rat) (lp lq la lb : Nat) : Prop where
  inv : ∀ m, m < la → ∀ u v, Dg u (lq - m) → Dg v (lp - m) → Dg (fun k => cv u p k + cv v q k) m →
    ∃ a b, (∀ k, cv u p k + cv v q k = cv a A k + cv b B k) ∧ Dg a (lb - m) ∧ Dg b (la - m) ∧ ((∀ k, a k = 0) → (∀ k, b k = 0) → ∀ k, u k = 0 ∧ v k = 0)
  le : la ≤ max lp lq
def sgd (i : Nat) : Rat := if i % 2 = 0 then 1 else -1
theorem aQ3 (i : Nat) : sgd (i + 1) = - sgd i := by
  unfold sgd
  rcases Nat.mod_two_eq_zero_or_one i with h | h
  · rw [if_pos h, if_neg (by omega)]
  · rw [if_pos (show (i + 1) % 2 = 0 by omega), if_neg (show ¬ i % 2 = 0 by omega)]; grind
abbrev Mt := Nat → Nat → Rat
def mn (M : Mt) (i : Nat) : Mt := fun r c => M (if r < i then r else r + 1) (c + 1)
def dt : Nat → Mt → Rat
  | 0, _ => 1
  | n + 1, M => A6 (fun i => sgd i * M i 0 * dt n (mn M i)) (n + 1)
theorem J1 (n : Nat) (M : Mt) : dt (n + 1) M = A6 (fun i => sgd i * M i 0 * dt n (mn M i)) (n + 1) := rfl
theorem O9 : ∀ {n : Nat} {M N : Mt}, (∀ r, r < n → ∀ c, c < n → M r c = N r c) → dt n M = dt n N
  | 0, _, _, _ => rfl
  | n + 1, M, N, h => by
    rw [J1, J1]
    refine N4 fun i hi => ?_
    rw [h i hi 0 (by omega), O9 (n := n) (M := mn M i) (N := mn N i) fun r hr c hc => h _ (by split <;> omega) _ (by omega)]
def v9 (M : Mt) (r : Nat) (v : Nat → Rat) : Mt := fun i c => if i = r then v c else M i c
theorem X0 (M : Mt) (r : Nat) : v9 M r (M r) = M := by
  funext i c
  unfold v9
  split
  · rename_i h; rw [h]
  · rfl
theorem ac8 (M : Mt) (r : Nat) (v : Nat → Rat) : mn (v9 M r v) r = mn M r := by
  funext i c
  unfold mn v9
  rw [if_neg (by split <;> omega)]
theorem aj8 (M : Mt) {r i : Nat} (v : Nat → Rat) (h : r < i) : mn (v9 M r v) i = v9 (mn M i) r (fun c => v (c + 1)) := by
  funext a c
  unfold mn v9
  by_cases z : a = r
  · rw [if_pos z, if_pos (by rw [z, if_pos h])]
  · rw [if_neg z, if_neg (by split <;> omega)]
theorem aj9 (M : Mt) {r i : Nat} (v : Nat → Rat) (h : i < r) : mn (v9 M r v) i = v9 (mn M i) (r - 1) (fun c => v (c + 1)) := by
  funext a c
  unfold mn v9
  by_cases z : a = r - 1
  · rw [if_pos z, if_pos (by rw [z, if_neg (by omega)]; omega)]
  · rw [if_neg z, if_neg (by split <;> omega)]
theorem ak6 : ∀ {n : Nat} (M : Mt) {r : Nat} (a b : Rat) (v w : Nat → Rat), r < n → dt n (v9 M r fun c => a * v c + b * w c) = a * dt n (v9 M r v) + b * dt n (v9 M r w)
  | 0, _, _, _, _, _, _, h => by omega
  | n + 1, M, r, a, b, v, w, h => by
    rw [J1, J1, J1, ad5, ad5, aj1]
    refine N4 fun i hi => ?_
    rcases Nat.lt_trichotomy r i with z | z | z
    · rw [aj8 M _ z, aj8 M _ z, aj8 M _ z, ak6 (mn M i) a b _ _ (by omega)]
      have : ∀ u : Nat → Rat, v9 M r u i 0 = M i 0 := fun u => if_neg (by omega)
      rw [this, this, this]; grind
    · subst z
      rw [ac8, ac8, ac8]
      have : ∀ u : Nat → Rat, v9 M r u r 0 = u 0 := fun u => if_pos rfl
      rw [this, this, this]; grind
    · rw [aj9 M _ z, aj9 M _ z, aj9 M _ z, ak6 (mn M i) a b _ _ (by omega)]
      have : ∀ u : Nat → Rat, v9 M r u i 0 = M i 0 := fun u => if_neg (by omega)
      rw [this, this, this]; grind
theorem aW6 {f : Nat → Rat} {n r : Nat} (hr : r + 1 < n) (h : ∀ i, i < n → i ≠ r → i ≠ r + 1 → f i = 0) : A6 f n = f r + f (r + 1) := by
  have : A6 f n = A6 (fun i => (if i = r then f r else 0) + (if i = r + 1 then f (r + 1) else 0)) n := N4 fun i hi => by
    by_cases z : i = r
    · rw [if_pos z, if_neg (by omega), z]; grind
    · by_cases y : i = r + 1
      · rw [if_neg z, if_pos y, y]; grind
      · rw [if_neg z, if_neg y, h i hi z y]; grind
  rw [this, ← aj1, R5 (fun _ => f r), R5 (fun _ => f (r + 1)), if_pos (by omega), if_pos hr]
theorem aA8 : ∀ {n : Nat} {M : Mt} {r : Nat}, r + 1 < n → (∀ c, M r c = M (r + 1) c) → dt n M = 0
  | 0, _, _, h, _ => by omega
  | n + 1, M, r, h, e => by
    rw [J1]
    rw [aW6 h fun i hi h1 h2 => ?_]
    · have : mn M r = mn M (r + 1) := by
        funext a c
        unfold mn
        by_cases z : a = r
        · rw [if_neg (by omega), if_pos (by omega), z, e]
        · by_cases y : a < r
          · rw [if_pos y, if_pos (by omega)]
          · rw [if_neg y, if_neg (by omega)]
      rw [this, aQ3, e 0]; grind
    · have : dt n (mn M i) = 0 := by
        by_cases z : i < r
        · refine aA8 (r := r - 1) (by omega) fun c => ?_
          unfold mn
          rw [if_neg (by omega), if_neg (by omega), show r - 1 + 1 = r by omega]; exact e _
        · refine aA8 (r := r) (by omega) fun c => ?_
          unfold mn
          rw [if_pos (by omega), if_pos (by omega)]; exact e _
      rw [this]; grind
def swR (M : Mt) (r s : Nat) : Mt := fun i c => M (if i = r then s else if i = s then r else i) c
theorem set_comm (M : Mt) {r s : Nat} (h : r ≠ s) (v w : Nat → Rat) : v9 (v9 M r v) s w = v9 (v9 M s w) r v := by
  funext i c
  unfold v9
  by_cases z : i = s
  · rw [if_pos z, if_neg (by omega), if_pos z]
  · rw [if_neg z]
    by_cases y : i = r
    · rw [if_pos y, if_pos y]
    · rw [if_neg y, if_neg y, if_neg z]
theorem aU7 {n : Nat} (M : Mt) {r : Nat} (v w : Nat → Rat) (h : r < n) : dt n (v9 M r fun c => v c + w c) = dt n (v9 M r v) + dt n (v9 M r w) := by
  have := ak6 M 1 1 v w h
  rw [show (fun c => v c + w c) = fun c => 1 * v c + 1 * w c by funext c; grind, this]; grind
theorem aY3 {n : Nat} {M : Mt} {r : Nat} (h : r + 1 < n) : dt n (swR M r (r + 1)) = - dt n M := by
  have e0 : ∀ v : Nat → Rat, dt n (v9 (v9 M r v) (r + 1) v) = 0 := fun v => aA8 h fun c => by
    unfold v9
    rw [if_neg (by omega), if_pos rfl, if_pos rfl]
  have e1 := e0 fun c => M r c + M (r + 1) c
  have x1 : ∀ w : Nat → Rat, dt n (v9 (v9 M r fun c => M r c + M (r + 1) c) (r + 1) w) = dt n (v9 (v9 M (r + 1) w) r (M r)) + dt n (v9 (v9 M (r + 1) w) r (M (r + 1))) := fun w => by
    rw [set_comm _ (by omega), aU7 _ _ _ (by omega)]
  rw [aU7 _ _ _ h, x1, x1] at e1
  rw [show v9 (v9 M (r + 1) (M r)) r (M r) = v9 (v9 M r (M r)) (r + 1) (M r) from set_comm _ (by omega) _ _, e0] at e1
  rw [show v9 (v9 M (r + 1) (M (r + 1))) r (M (r + 1)) = v9 (v9 M r (M (r + 1))) (r + 1) (M (r + 1)) from set_comm _ (by omega) _ _, e0] at e1
  have s1 : v9 (v9 M (r + 1) (M (r + 1))) r (M r) = M := by rw [X0, X0]
  have s2 : v9 (v9 M (r + 1) (M r)) r (M (r + 1)) = swR M r (r + 1) := by
    funext i c
    unfold v9 swR
    by_cases z : i = r
    · rw [if_pos z, if_pos z]
    · rw [if_neg z, if_neg z]
      by_cases y : i = r + 1
      · rw [if_pos y, if_pos y]
      · rw [if_neg y, if_neg y]
  rw [s1, s2] at e1
  grind
theorem ar6 {n : Nat} : ∀ (d : Nat) {M : Mt} {r : Nat}, r + d + 1 < n → (∀ c, M r c = M (r + d + 1) c) → dt n M = 0
  | 0, _, _, h, e => aA8 h e
  | d + 1, M, r, h, e => by
    have h1 := aY3 (M := M) (r := r + d + 1) (n := n) (by omega)
    have h2 : dt n (swR M (r + d + 1) (r + d + 1 + 1)) = 0 := ar6 d (r := r) (by omega) fun c => by
      unfold swR
      rw [if_neg (by omega), if_neg (by omega), if_pos rfl]; exact e c
    rw [h2] at h1
    grind
theorem aO2 {n : Nat} {M : Mt} {r s : Nat} (hr : r < n) (hs : s < n) (hn : r ≠ s) (e : ∀ c, M r c = M s c) : dt n M = 0 := by
  rcases Nat.lt_or_ge r s with z | z
  · exact ar6 (s - r - 1) (r := r) (by omega) fun c => by rw [show r + (s - r - 1) + 1 = s by omega]; exact e c
  · exact ar6 (r - s - 1) (r := s) (by omega) fun c => by rw [show s + (r - s - 1) + 1 = r by omega]; exact (e c).symm
theorem aA6 {n : Nat} {M : Mt} {r s : Nat} (a b : Rat) (hr : r < n) (hs : s < n) (hn : r ≠ s) : dt n (v9 M r fun c => a * M r c + b * M s c) = a * dt n M := by
  rw [ak6 M a b (M r) (M s) hr, X0, aO2 (M := v9 M r (M s)) hr hs hn fun c => by
    unfold v9
    rw [if_pos rfl, if_neg (by omega)]]
  grind
theorem aU6 {n : Nat} {M : Mt} (h : ∀ i, 0 < i → i < n + 1 → M i 0 = 0) : dt (n + 1) M = M 0 0 * dt n (mn M 0) := by
  rw [J1]
  have : A6 (fun i => sgd i * M i 0 * dt n (mn M i)) (n + 1) = A6 (fun i => if i = 0 then M 0 0 * dt n (mn M 0) else 0) (n + 1) := N4 fun i hi => by
    by_cases z : i = 0
    · rw [if_pos z, z]
      show sgd 0 * _ * _ = _
      unfold sgd
      rw [if_pos (by decide)]; grind
    · rw [if_neg z, h i (by omega) hi]; grind
  rw [this, R5 (fun _ => M 0 0 * dt n (mn M 0)), if_pos (by omega)]
def IsI (q : Rat) : Prop := ∃ z : Int, q = (z : Rat)
theorem IsI.add {p q : Rat} (h : IsI p) (k : IsI q) : IsI (p + q) := let ⟨a, e⟩ := h; let ⟨b, f⟩ := k; ⟨a + b, by rw [e, f, Rat.intCast_add]⟩
theorem IsI.mul {p q : Rat} (h : IsI p) (k : IsI q) : IsI (p * q) := let ⟨a, e⟩ := h; let ⟨b, f⟩ := k; ⟨a * b, by rw [e, f, Rat.intCast_mul]⟩
theorem aK3 {f : Nat → Rat} : ∀ {n : Nat}, (∀ i, i < n → IsI (f i)) → IsI (A6 f n)
  | 0, _ => ⟨0, rfl⟩
  | n + 1, h => (aK3 fun i hi => h i (by omega)).add (h n (by omega))
theorem aY1 (i : Nat) : IsI (sgd i) := by
  unfold sgd
  split
  · exact ⟨1, rfl⟩
  · exact ⟨-1, by rw [Rat.intCast_neg]; rfl⟩
theorem aU5 : ∀ {n : Nat} {M : Mt}, (∀ r c, IsI (M r c)) → IsI (dt n M)
  | 0, _, _ => ⟨1, rfl⟩
  | n + 1, M, h => by
    rw [J1]
    exact aK3 fun i _ => ((aY1 i).mul (h i 0)).mul (aU5 fun r c => h _ _)
def hz (A B : Nat → Rat) : Mt := fun i c => if c < i / 2 then 0 else if i % 2 = 0 then B (c - i / 2) else A (c - i / 2)
def bi0 (k j c : Nat) : Nat := if c + 1 = k then c + j else c
def tau (A B : Nat → Rat) (k j : Nat) : Rat := if k = 0 then A j else dt k fun i c => hz A B i (bi0 k j c)
def behind (A B : Nat → Rat) : Nat → Rat := fun j => B 0 * A (j + 1) - A 0 * B (j + 1)
def hm (A B : Nat → Rat) (m : Nat) : Mt := fun i c => if i % 2 = 1 ∧ i < m then B 0 * hz A B i c - A 0 * hz A B (i - 1) c else hz A B i c
theorem aE4 {n : Nat} (M : Mt) (t : Nat → Rat) : ∀ m, m ≤ n → dt (n + 1) (fun r c => if 0 < r ∧ r ≤ m then M r c - t r * M 0 c else M r c) = dt (n + 1) M
  | 0, _ => O9 fun r _ c _ => by rw [if_neg (by omega)]
  | m + 1, h => by
    rw [← aE4 M t m (by omega)]
    have e : (fun r c => if 0 < r ∧ r ≤ m + 1 then M r c - t r * M 0 c else M r c) = v9 (fun r c => if 0 < r ∧ r ≤ m then M r c - t r * M 0 c else M r c) (m + 1) fun c => 1 * (fun r c => if 0 < r ∧ r ≤ m then M r c - t r * M 0 c else M r c) (m + 1) c + (- t (m + 1)) * (fun r c => if 0 < r ∧ r ≤ m then M r c - t r * M 0 c else M r c) 0 c := by
      funext r c
      unfold v9
      by_cases y : r = m + 1
      · rw [if_pos y, y]
        show (if 0 < m + 1 ∧ m + 1 ≤ m + 1 then _ else _) = 1 * (if 0 < m + 1 ∧ m + 1 ≤ m then _ else _) + - t (m + 1) * (if 0 < 0 ∧ 0 ≤ m then _ else _)
        rw [if_pos (by omega), if_neg (by omega), if_neg (by omega)]; grind
      · rw [if_neg y]
        show (if 0 < r ∧ r ≤ m + 1 then M r c - t r * M 0 c else M r c) = if 0 < r ∧ r ≤ m then M r c - t r * M 0 c else M r c
        by_cases x : 0 < r ∧ r ≤ m
        · rw [if_pos x, if_pos (by omega)]
        · rw [if_neg x, if_neg (by omega)]
    rw [e, aA6 1 (- t (m + 1)) (by omega) (by omega) (by omega)]; grind
theorem aY4 {n : Nat} (M : Mt) (t : Nat → Rat) : dt (n + 1) (fun r c => if r = 0 then M 0 c else M r c - t r * M 0 c) = dt (n + 1) M := by
  rw [← aE4 M t n (Nat.le_refl _)]
  refine O9 fun r hr c _ => ?_
  by_cases z : r = 0
  · rw [if_pos z, if_neg (by omega), z]
  · rw [if_neg z, if_pos (by omega)]
def red (B : Mt) : Mt := fun r c => B (r + 1) (c + 1) - B (r + 1) 0 * (B 0 0)⁻¹ * B 0 (c + 1)
theorem aA7 {n : Nat} (B : Mt) (h : B 0 0 ≠ 0) : dt (n + 1) B = B 0 0 * dt n (red B) := by
  rw [← aY4 B fun r => B r 0 * (B 0 0)⁻¹, aU6 fun i h0 hi => ?_]
  · rw [if_pos rfl]
    congr 1
  · rw [if_neg (by omega)]
    have := Rat.mul_inv_cancel _ h
    generalize (B 0 0)⁻¹ = u at *
    grind
def bnd (B : Mt) (k i j : Nat) : Mt := fun r c => B (if r = k then i else r) (if c = k then j else c)
def mi (B : Mt) (k i j : Nat) : Rat := dt (k + 1) (bnd B k i j)
theorem V0 (B : Mt) (i j : Nat) : mi B 0 i j = B i j := by
  unfold mi
  rw [J1]
  show (0 : Rat) + sgd 0 * bnd B 0 i j 0 0 * 1 = _
  rw [show sgd 0 = 1 from if_pos (by decide)]
  show (0 : Rat) + 1 * B (if 0 = 0 then i else 0) (if 0 = 0 then j else 0) * 1 = _
  rw [if_pos rfl, if_pos rfl]; grind
theorem am6 (B : Mt) (k : Nat) : mi B k k k = dt (k + 1) B := by
  unfold mi
  congr 1
  funext r c
  unfold bnd
  congr 1
  · split
    · rename_i h; exact h.symm
    · rfl
  · split
    · rename_i h; exact h.symm
    · rfl
theorem ak0 (B : Mt) (h : B 0 0 ≠ 0) (k i j : Nat) : mi B (k + 1) (i + 1) (j + 1) = B 0 0 * mi (red B) k i j := by
  unfold mi
  have e0 : bnd B (k + 1) (i + 1) (j + 1) 0 0 = B 0 0 := by
    unfold bnd
    rw [if_neg (by omega), if_neg (by omega)]
  rw [aA7 _ (by rw [e0]; exact h), e0]
  congr 1
  refine O9 fun r hr c hc => ?_
  unfold red
  rw [e0]
  have a1 : bnd B (k + 1) (i + 1) (j + 1) (r + 1) (c + 1) = B ((if r = k then i else r) + 1) ((if c = k then j else c) + 1) := by
    unfold bnd
    congr 1
    · by_cases z : r = k
      · rw [if_pos z, if_pos (by omega)]
      · rw [if_neg z, if_neg (by omega)]
    · by_cases z : c = k
      · rw [if_pos z, if_pos (by omega)]
      · rw [if_neg z, if_neg (by omega)]
  have a2 : bnd B (k + 1) (i + 1) (j + 1) (r + 1) 0 = B ((if r = k then i else r) + 1) 0 := by
    unfold bnd
    rw [if_neg (show ¬ 0 = k + 1 by omega)]
    congr 1
    by_cases z : r = k
    · rw [if_pos z, if_pos (by omega)]
    · rw [if_neg z, if_neg (by omega)]
  have a3 : bnd B (k + 1) (i + 1) (j + 1) 0 (c + 1) = B 0 ((if c = k then j else c) + 1) := by
    unfold bnd
    rw [if_neg (show ¬ 0 = k + 1 by omega)]
    congr 1
    by_cases z : c = k
    · rw [if_pos z, if_pos (by omega)]
    · rw [if_neg z, if_neg (by omega)]
  rw [a1, a2, a3]
  rfl
theorem aD7 {B : Mt} {k : Nat} (h : ∀ m, 1 ≤ m → m ≤ k + 1 → dt m B ≠ 0) : B 0 0 ≠ 0 ∧ ∀ m, 1 ≤ m → m ≤ k → dt m (red B) ≠ 0 := by
  have b0 : B 0 0 ≠ 0 := by
    have := h 1 (by omega) (by omega)
    rw [← am6 B 0, V0] at this
    exact this
  refine ⟨b0, fun m h1 h2 z => ?_⟩
  have := h (m + 1) (by omega) (by omega)
  rw [aA7 B b0, z] at this
  exact this (by grind)
theorem aj0 : ∀ (k : Nat) (B : Mt), (∀ m, 1 ≤ m → m ≤ k → dt m B ≠ 0) → ∀ i j, k < i → k < j → mi B k k k * mi B k i j - mi B k i k * mi B k k j = dt k B * mi B (k + 1) i j
  | 0, B, _, i, j, hi, hj => by
    rw [V0, V0, V0, V0]
    show _ = 1 * mi B 1 i j
    unfold mi
    rw [J1]
    have d1 : ∀ M : Mt, dt 1 M = M 0 0 := fun M => by
      rw [J1]
      show (0 : Rat) + sgd 0 * M 0 0 * 1 = _
      rw [show sgd 0 = 1 from if_pos (by decide)]; grind
    show _ = 1 * ((0 : Rat) + sgd 0 * bnd B 1 i j 0 0 * dt 1 (mn (bnd B 1 i j) 0) + sgd 1 * bnd B 1 i j 1 0 * dt 1 (mn (bnd B 1 i j) 1))
    rw [d1, d1, show sgd 0 = 1 from if_pos (by decide), show sgd 1 = -1 from if_neg (by decide)]
    show _ = 1 * ((0 : Rat) + 1 * B 0 0 * B i j + -1 * B i 0 * B 0 j)
    grind
  | k + 1, B, h, i, j, hi, hj => by
    obtain ⟨b0, hr⟩ := aD7 h
    obtain ⟨i', rfl⟩ : ∃ i', i = i' + 1 := ⟨i - 1, by omega⟩
    obtain ⟨j', rfl⟩ : ∃ j', j = j' + 1 := ⟨j - 1, by omega⟩
    have ih := aj0 k (red B) hr i' j' (by omega) (by omega)
    rw [ak0 B b0, ak0 B b0, ak0 B b0, ak0 B b0, ak0 B b0, aA7 B b0]
    generalize B 0 0 = b at *
    generalize mi (red B) k k k = x1 at *
    generalize mi (red B) k i' j' = x2 at *
    generalize mi (red B) k i' k = x3 at *
    generalize mi (red B) k k j' = x4 at *
    generalize mi (red B) (k + 1) i' j' = x5 at *
    generalize dt k (red B) = x6 at *
    grind
theorem ar5 : ∀ (k n : Nat) (B : Mt), (∀ m, 1 ≤ m → m ≤ k → dt m B ≠ 0) → k < n → (∀ i, k ≤ i → i < n → mi B k i k = 0) → dt n B = 0
  | 0, n, B, _, hk, h => by
    obtain ⟨m, rfl⟩ : ∃ m, n = m + 1 := ⟨n - 1, by omega⟩
    rw [J1]
    refine ao4 _ fun i hi => ?_
    have := h i (by omega) hi
    rw [V0] at this
    rw [this]; grind
  | k + 1, n, B, hl, hk, h => by
    obtain ⟨b0, hr⟩ := aD7 hl
    obtain ⟨m, rfl⟩ : ∃ m, n = m + 1 := ⟨n - 1, by omega⟩
    rw [aA7 B b0, ar5 k m (red B) hr (by omega) fun i h1 h2 => ?_]
    · grind
    · have := h (i + 1) (by omega) (by omega)
      rw [ak0 B b0] at this
      rcases Rat.mul_eq_zero.mp this with y | y
      · exact absurd y b0
      · exact y
def swN (B : Mt) (r s : Nat) : Mt := fun i c => if i = r then B s c else if i = s then - B r c else B i c
theorem aU4 {n : Nat} {B : Mt} {r s : Nat} (hr : r < n) (hs : s < n) (h : r ≠ s) : dt n (swN B r s) = dt n B := by
  -- row r plus row s; row s less row r; row r plus row s
  have e1 := aA6 (M := B) (r := r) (s := s) 1 1 hr hs h
  obtain ⟨B1, h1⟩ : ∃ B1, B1 = v9 B r fun c => 1 * B r c + 1 * B s c := ⟨_, rfl⟩
  rw [← h1] at e1
  have e2 := aA6 (M := B1) (r := s) (s := r) 1 (-1) hs hr (Ne.symm h)
  obtain ⟨B2, h2⟩ : ∃ B2, B2 = v9 B1 s fun c => 1 * B1 s c + (-1) * B1 r c := ⟨_, rfl⟩
  rw [← h2] at e2
  have e3 := aA6 (M := B2) (r := r) (s := s) 1 1 hr hs h
  have e : v9 B2 r (fun c => 1 * B2 r c + 1 * B2 s c) = swN B r s := by
    funext i c
    have v1r : ∀ c, B1 r c = B r c + B s c := fun c => by rw [h1]; unfold v9; rw [if_pos rfl]; grind
    have v1s : ∀ c, B1 s c = B s c := fun c => by rw [h1]; unfold v9; rw [if_neg (Ne.symm h)]
    have v2s : ∀ c, B2 s c = - B r c := fun c => by rw [h2]; unfold v9; rw [if_pos rfl]; show 1 * B1 s c + -1 * B1 r c = _; rw [v1s, v1r]; grind
    have v2r : ∀ c, B2 r c = B r c + B s c := fun c => by rw [h2]; unfold v9; rw [if_neg h, v1r]
    unfold v9 swN
    by_cases z : i = r
    · rw [if_pos z, if_pos z]
      show 1 * B2 r c + 1 * B2 s c = _
      rw [v2r, v2s]; grind
    · rw [if_neg z, if_neg z]
      by_cases y : i = s
      · rw [if_pos y, y, v2s]
      · rw [if_neg y, h2]
        unfold v9
        rw [if_neg y, h1]
        unfold v9
        rw [if_neg z]
  rw [← e, e3, e2, e1]; grind
structure Pos (n : Nat) (g : Nat → Nat → Rat) : Prop where
  p : ∀ i, i ≤ n → 0 < g i 0
  s : ∀ i, 1 ≤ i → i < n → ∀ j, g i 0 * g (i - 1) j = g i 0 * g (i + 1) (j + 1) - g (i + 1) 0 * g i (j + 1)
  l : 1 ≤ n → ∀ j, g 0 0 * g 1 (j + 1) - g 1 0 * g 0 (j + 1) = 0
  z : ∀ i j, i ≤ n → i < 2 * j → g i j = 0
theorem ae2 {W : Nat} : ∀ {n : Nat} {M : Mt}, n ≤ 16 → (∀ r c, ∃ z : Int, M r c = (z : Rat) ∧ z.natAbs < 2 ^ W) → ∃ z : Int, dt n M = (z : Rat) ∧ z.natAbs ≤ 2 ^ ((W + 4) * n)
  | 0, _, _, _ => ⟨1, rfl, by simp⟩
  | n + 1, M, hn, h => by
    have key : ∀ m, m ≤ n + 1 → ∃ z : Int, A6 (fun i => sgd i * M i 0 * dt n (mn M i)) m = (z : Rat) ∧ z.natAbs ≤ m * (2 ^ W * 2 ^ ((W + 4) * n)) := by
      intro m
      induction m with
      | zero => intro _; exact ⟨0, rfl, by simp⟩
      | succ m ih =>
        intro hm
        obtain ⟨z, e, b⟩ := ih (by omega)
        obtain ⟨x, ex, bx⟩ := h m 0
        obtain ⟨y, ey, by'⟩ := ae2 (n := n) (M := mn M m) (by omega) fun r c => h _ _
        obtain ⟨s, es, bs⟩ : ∃ s : Int, sgd m = (s : Rat) ∧ s.natAbs = 1 := by
          unfold sgd
          split
          · exact ⟨1, rfl, rfl⟩
          · exact ⟨-1, by rw [Rat.intCast_neg]; rfl, rfl⟩
        refine ⟨z + s * x * y, ?_, ?_⟩
        · rw [A6, e, ex, ey, es, Rat.intCast_add, Rat.intCast_mul, Rat.intCast_mul]
        · have h1 : (s * x * y).natAbs ≤ 2 ^ W * 2 ^ ((W + 4) * n) := by
            rw [Int.natAbs_mul, Int.natAbs_mul, bs, Nat.one_mul]
            exact Nat.mul_le_mul (Nat.le_of_lt bx) by'
          have h2 := Int.natAbs_add_le z (s * x * y)
          rw [Nat.succ_mul]; omega
    obtain ⟨z, e, b⟩ := key (n + 1) (Nat.le_refl _)
    refine ⟨z, by rw [J1]; exact e, Nat.le_trans b ?_⟩
    have : (n + 1) * (2 ^ W * 2 ^ ((W + 4) * n)) ≤ 2 ^ 4 * (2 ^ W * 2 ^ ((W + 4) * n)) := Nat.mul_le_mul_right _ (by omega)
    refine Nat.le_trans this ?_
    rw [← Nat.pow_add, ← Nat.pow_add]
    exact Nat.pow_le_pow_right (by decide) (by rw [Nat.mul_succ]; omega)
inductive RwZ (H : Hp) : List Addr → List (List Int) → Prop where
  | nil : RwZ H [] []
  | cons {p : Addr} {ps : List Addr} {L : List Int} {Ls : List (List Int)} (h : H p = some (.lst (L.map V.int))) (t : RwZ H ps Ls) : RwZ H (p :: ps) (L :: Ls)
theorem RwZ.length {H : Hp} : ∀ {ts : List Addr} {M : List (List Int)}, RwZ H ts M → ts.length = M.length
  | _, _, .nil => rfl
  | _, _, .cons _ t => congrArg (· + 1) t.length
theorem RwZ.same {H H' : Hp} (s : d7 H H') : ∀ {ts : List Addr} {M : List (List Int)}, RwZ H ts M → RwZ H' ts M
  | _, _, .nil => .nil
  | _, _, .cons h t => .cons (s _ _ h) (t.same s)
theorem RwZ.get {H : Hp} : ∀ {ts : List Addr} {M : List (List Int)} {i : Nat} {p : Addr}, RwZ H ts M → ts[i]? = some p → ∃ L, M[i]? = some L ∧ H p = some (.lst (L.map V.int))
  | _, _, _, _, .nil, e => by simp at e
  | _, _, 0, _, .cons h _, e => by cases e; exact ⟨_, rfl, h⟩
  | _, _, i + 1, _, .cons _ t, e => t.get (i := i) (by simpa using e)
theorem RwZ.append {H : Hp} : ∀ {ts us : List Addr} {M N : List (List Int)}, RwZ H ts M → RwZ H us N → RwZ H (ts ++ us) (M ++ N)
  | _, _, _, _, .nil, h => h
  | _, _, _, _, .cons h t, k => .cons h (t.append k)
theorem RwZ.over {H : Hp} {l : Addr} {o : HO} : ∀ {ts : List Addr} {M : List (List Int)}, l ∉ ts → RwZ H ts M → RwZ (upd H l o) ts M
  | _, _, _, .nil => .nil
  | _, _, n, .cons h t => .cons (by rw [i0 (fun z => n (by rw [← z]; exact List.mem_cons_self))]; exact h) (t.over fun z => n (List.mem_cons_of_mem _ z))
theorem RwZ.set {H : Hp} : ∀ {ts : List Addr} {M : List (List Int)} (k : Nat) {p : Addr} {L : List Int}, RwZ H ts M → H p = some (.lst (L.map V.int)) → RwZ H (ts.set k p) (M.set k L)
  | _, _, _, _, _, .nil, _ => .nil
  | _, _, 0, _, _, .cons _ t, e => .cons e t
  | _, _, k + 1, _, _, .cons h t, e => .cons h (t.set k e)
def zz (M : List (List Int)) (i j : Nat) : Int := aZ ((M[i]?).getD []) j
theorem aW8 {α : Type} (l : List α) {i j : Nat} (x y : α) (hij : i < j) (hj : j < l.length) : l.take i ++ [x] ++ (l.drop (i + 1)).take (j - (i + 1)) ++ [y] ++ l.drop (j + 1) = (l.set i x).set j y := by
  refine List.ext_getElem? fun k => ?_
  rw [List.getElem?_set, List.getElem?_set]
  simp only [List.length_set]
  have l1 : (l.take i).length = i := by rw [List.length_take]; omega
  have l2 : (l.take i ++ [x]).length = i + 1 := by rw [List.length_append, l1]; rfl
  have l3 : (l.take i ++ [x] ++ (l.drop (i + 1)).take (j - (i + 1))).length = j := by rw [List.length_append, l2, List.length_take, List.length_drop]; omega
  have l4 : (l.take i ++ [x] ++ (l.drop (i + 1)).take (j - (i + 1)) ++ [y]).length = j + 1 := by rw [List.length_append, l3]; rfl
  rcases Nat.lt_or_ge j k with a | a
  · rw [List.getElem?_append_right (by omega), l4, List.getElem?_drop, if_neg (by omega), if_neg (by omega)]
    congr 1; omega
  · rw [List.getElem?_append_left (by omega)]
    rcases Nat.lt_or_ge k j with b | b
    · rw [List.getElem?_append_left (by omega), if_neg (by omega)]
      rcases Nat.lt_or_ge i k with c | c
      · rw [List.getElem?_append_right (by omega), l2, if_neg (by omega), List.getElem?_take_of_lt (by omega), List.getElem?_drop]
        congr 1; omega
      · rw [List.getElem?_append_left (by omega)]
        rcases Nat.lt_or_ge k i with d | d
        · rw [List.getElem?_append_left (by omega), if_neg (by omega), List.getElem?_take_of_lt d]
        · have : k = i := by omega
          subst this
          rw [List.getElem?_append_right (by omega), l1, Nat.sub_self, if_pos rfl, if_pos (by omega)]; rfl
    · have : k = j := by omega
      subst this
      rw [List.getElem?_append_right (by omega), l3, Nat.sub_self, if_pos rfl, if_pos hj]; rfl
structure Eb (n : Nat) (A B : Mt) (at' : Nat) (M : List (List Int)) (dv : Int) : Prop where
  len : M.length = n
  row : ∀ L ∈ M, L.length = n
  ent : ∀ i j, at' ≤ i → i < n → at' ≤ j → j < n → ((zz M i j : Int) : Rat) = mi B at' i j
  zer : ∀ i j, at' ≤ i → i < n → j < at' → zz M i j = 0
  int : ∀ r c, IsI (B r c)
  det : dt n B = dt n A
  led : ∀ m, 1 ≤ m → m ≤ at' → dt m B ≠ 0
  div : ((dv : Int) : Rat) = dt at' B
theorem bd8 {B : Mt} {k s i j : Nat} (hs : k < s) : mi (swN B k s) k i j = if i = k then mi B k s j else if i = s then - mi B k k j else mi B k i j := by
  have top : ∀ (x : Nat) (e : Rat), (∀ c, swN B k s i c = e * B x c) → mi (swN B k s) k i j = e * mi B k x j := fun x e h => by
    unfold mi
    have e1 : dt (k + 1) (bnd (swN B k s) k i j) = dt (k + 1) (v9 (bnd B k x j) k fun c => e * (bnd B k x j) k c + 0 * (bnd B k x j) k c) := O9 fun r hr c _ => by
      unfold v9
      by_cases z : r = k
      · rw [if_pos z, z]
        show swN B k s (if k = k then i else k) _ = e * B (if k = k then x else k) _ + 0 * _
        rw [if_pos rfl, if_pos rfl, h]; grind
      · rw [if_neg z]
        unfold bnd
        rw [if_neg z, if_neg z]
        unfold swN
        rw [if_neg z, if_neg (by omega)]
    rw [e1, ak6 _ e 0 _ _ (by omega), X0]; grind
  by_cases a : i = k
  · rw [if_pos a, top s 1 fun c => by unfold swN; rw [if_pos a]; grind]; grind
  · rw [if_neg a]
    by_cases b : i = s
    · rw [if_pos b, top k (-1) fun c => by unfold swN; rw [if_neg a, if_pos b]; grind]; grind
    · rw [if_neg b, top i 1 fun c => by unfold swN; rw [if_neg a, if_neg b]; grind]; grind
section
variable {n : Nat} {A B : Mt} {k : Nat} {M M' : List (List Int)} {dv : Int}
theorem Eb.swap (E : Eb n A B k M dv) {s : Nat} (hk : k < s) (hs : s < n) (len : M'.length = n) (row : ∀ L ∈ M', L.length = n) (e : ∀ i j, zz M' i j = if i = k then zz M s j else if i = s then - zz M k j else zz M i j) : Eb n A (swN B k s) k M' dv := by
  have lead : ∀ m, m ≤ k → dt m (swN B k s) = dt m B := fun m hm => O9 fun r hr c _ => by
    unfold swN
    rw [if_neg (by omega), if_neg (by omega)]
  refine ⟨len, row, fun i j h1 h2 h3 h4 => ?_, fun i j h1 h2 h3 => ?_, fun r c => ?_, ?_, fun m h1 h2 => ?_, ?_⟩
  · rw [e, bd8 hk]
    by_cases a : i = k
    · rw [if_pos a, if_pos a, E.ent s j (by omega) hs h3 h4]
    · rw [if_neg a, if_neg a]
      by_cases b : i = s
      · rw [if_pos b, if_pos b, Rat.intCast_neg, E.ent k j (Nat.le_refl _) (by omega) h3 h4]
      · rw [if_neg b, if_neg b, E.ent i j h1 h2 h3 h4]
  · rw [e]
    split
    · exact E.zer s j (by omega) hs h3
    · split
      · rw [E.zer k j (Nat.le_refl _) (by omega) h3]; rfl
      · exact E.zer i j h1 h2 h3
  · unfold swN
    split
    · exact E.int _ _
    · split
      · obtain ⟨z, hz⟩ := E.int k c
        exact ⟨-z, by rw [hz, Rat.intCast_neg]⟩
      · exact E.int _ _
  · rw [aU4 (by omega) hs (by omega)]; exact E.det
  · rw [lead m h2]; exact E.led m h1 h2
  · rw [lead k (Nat.le_refl _)]; exact E.div
theorem Eb.step (E : Eb n A B k M dv) (hk : k < n) (h0 : zz M k k ≠ 0) (len : M'.length = n) (row : ∀ L ∈ M', L.length = n) (e : ∀ i j, k < i → i < n → j < n → zz M' i j = (zz M k k * zz M i j - zz M i k * zz M k j).fdiv dv) : Eb n A B (k + 1) M' (zz M k k) ∧ dv ≠ 0 := by
  have ekk := E.ent k k (Nat.le_refl _) hk (Nat.le_refl _) hk
  have dk : dt k B ≠ 0 := by
    rcases Nat.eq_zero_or_pos k with z | z
    · rw [z]; show (1 : Rat) ≠ 0; decide
    · exact E.led k z (Nat.le_refl _)
  have d0 : dv ≠ 0 := fun z => dk (by rw [← E.div, z]; rfl)
  refine ⟨⟨len, row, fun i j h1 h2 h3 h4 => ?_, fun i j h1 h2 h3 => ?_, E.int, E.det, fun m h1 h2 => ?_, ?_⟩, d0⟩
  · rw [e i j (by omega) h2 h4]
    have sy := aj0 k B E.led i j (by omega) (by omega)
    obtain ⟨z, hz⟩ : IsI (mi B (k + 1) i j) := aU5 fun r c => E.int _ _
    rw [hz, ← E.div, ← ekk, ← E.ent i j (by omega) h2 (by omega) h4, ← E.ent i k (by omega) h2 (Nat.le_refl _) hk, ← E.ent k j (Nat.le_refl _) hk (by omega) h4] at sy
    have si : zz M k k * zz M i j - zz M i k * zz M k j = dv * z := Rat.intCast_inj.mp (by
      rw [Rat.intCast_sub, Rat.intCast_mul, Rat.intCast_mul, Rat.intCast_mul]; exact sy)
    rw [hz, si]
    congr 1
    exact w8 d0
  · rw [e i j (by omega) h2 (by omega)]
    rcases Nat.lt_or_ge j k with z | z
    · rw [E.zer i j (by omega) h2 z, E.zer k j (Nat.le_refl _) hk z, Int.mul_zero, Int.mul_zero, Int.sub_zero, Int.zero_fdiv]
    · have : j = k := by omega
      subst this
      rw [Int.mul_comm, Int.sub_self, Int.zero_fdiv]
  · rcases Nat.lt_or_ge k m with z | z
    · have : m = k + 1 := by omega
      subst this
      rw [← am6, ← ekk]
      exact fun z => h0 (Rat.intCast_inj.mp (by rw [z, Rat.intCast_zero]))
    · exact E.led m h1 (by omega)
  · rw [ekk, am6]
theorem Eb.stuck (E : Eb n A B k M dv) (hk : k < n) (h : ∀ i, k ≤ i → i < n → zz M i k = 0) : dt n A = 0 := by
  rw [← E.det]
  refine ar5 k n B E.led hk fun i h1 h2 => ?_
  rw [← E.ent i k h1 h2 (Nat.le_refl _) hk, h i h1 h2]; rfl
theorem Eb.done (E : Eb n A B n M dv) : ((dv : Int) : Rat) = dt n A := by rw [E.div, E.det]
def mZ (M : List (List Int)) : Mt := fun r c => ((zz M r c : Int) : Rat)
theorem Eb.start (len : M.length = n) (row : ∀ L ∈ M, L.length = n) : Eb n (mZ M) (mZ M) 0 M 1 :=
  ⟨len, row, fun i j _ _ _ _ => (V0 (mZ M) i j).symm, fun i j _ _ h => by omega, fun r c => ⟨_, rfl⟩, rfl, fun m h1 h2 => by omega, rfl⟩
theorem Eb.bits (E : Eb n A B k M dv) {W : Nat} (hb : ∀ r c, ∃ z : Int, B r c = (z : Rat) ∧ z.natAbs < 2 ^ W) (n16 : n ≤ 15) (hk : k < n) {i j : Nat} (h1 : k ≤ i) (h2 : i < n) (h4 : j < n) : (zz M i j).natAbs ≤ 2 ^ ((W + 4) * n) := by
  rcases Nat.lt_or_ge j k with z | z
  · rw [E.zer i j h1 h2 z]; exact Nat.zero_le _
  · obtain ⟨y, ey, by'⟩ := ae2 (W := W) (n := k + 1) (M := bnd B k i j) (by omega) fun r c => hb _ _
    have : zz M i j = y := Rat.intCast_inj.mp (by rw [E.ent i j h1 h2 z h4]; exact ey)
    rw [this]
    exact Nat.le_trans by' (Nat.pow_le_pow_right (by decide) (Nat.mul_le_mul_left _ (by omega)))
end
end R
set_option maxRecDepth 100000
local macro_rules | `(tactic| simp! [$ls,*]) => `(tactic| simp only [L2.ipM, L2.aw6, L2.aQ6, L2.aT1, L2.aB5, L2.ao3, L2.be5, L2.tSl, L2.aP6, L2.ag3, L2.aG4, L2.ay3, L2.aT5, L2.F2, List.map_cons, List.map_nil, Option.bind_none, Option.bind_some, Option.join_some, L2.aW2, L2.bb5, L2.bb8, L2.tOr, L2.bb3, L2.aJ0, L2.tB, L2.tOp, L2.tUn, L2.bb6, L2.tBM, L2.ai9, L2.tC, L2.tCB, L2.aW3, L2.aF8, L2.C7, L2.aT8, L2.ak3, L2.K3, L2.ak4, L2.ao2, L2.aM4, L2.aW4, L2.bb0, L2.bb4, L2.tIf, L2.aQ0, L2.bb2, L2.aP7, L2.aW5, L2.aw7, L2.aP9, L2.aP8, L2.aF7, L2.aF6, L2.bb7, L2.rI, L2.rI0, L2.rU, L2.ay2, L2.ah1, L2.aX1, L2.aC1, L2.rEq, L2.rNe, L2.aG6, L2.aG5, L2.aG3, L2.bc3, L2.bc4, L2.aT4, L2.aT3, L2.aE2, L2.aT2, L2.am1, L2.cxR, L2.cxX, L2.Cx.nox, L2.Cx.wish, L2.Cx.body, L2.Cx.suite, List.getElem?_cons_zero, List.getElem?_cons_succ, List.set_cons_zero, List.set_cons_succ, Option.some.injEq, L2.V.int.injEq, L2.V.bl.injEq, L2.V.ref.injEq, L2.V.str.injEq, exists_eq_left', exists_eq_left, exists_and_left, true_and, and_true, List.cons.injEq, reduceCtorEq, Bool.false_eq_true, if_false, if_true, exists_const, ↓reduceIte, L2.tyV, List.length_cons, List.length_nil, exists_eq, List.append_nil, List.cons_append, List.nil_append, decide_eq_true_eq, not_true_eq_false, not_false_eq_true, Bool.not_eq_true', decide_eq_false_iff_not, Bool.not_true, Bool.not_false, and_assoc, false_and, false_or, or_false, $ls,*])
local macro_rules | `(tactic| subst_eqs) => `(tactic| simp! [])
local macro_rules | `(tactic| and_intros) => `(tactic| exact ⟨rfl, rfl, rfl, by decide +kernel, rfl, by decide +kernel, by decide +kernel⟩)
namespace R
open PySem L2 PyProof.Rows
section
variable {P : Program} {w : World} {K : PySem.W.Frag} {mg : Str → Option Value} {base : Heap}
theorem t7 {H : Hp} {a : Addr} (o : HO) (h : H a = none) : ∃ H', H' = upd H a o ∧ d7 H H' ∧ H' a = some o := ⟨_, rfl, d7.new h o, d5⟩
theorem aY9 (xs : List V) {a b : Nat} (h : a ≤ b) (h' : b ≤ xs.length) : P1 xs (some (a : Int)) (some (b : Int)) = (xs.drop a).take (b - a) := by
  unfold P1
  have e1 : HT.sIx xs.length 0 (some (a : Int)) = a := by
    simp only [HT.sIx]
    rw [if_neg (by omega)]; omega
  have e2 : HT.sIx xs.length xs.length (some (b : Int)) = b := by
    simp only [HT.sIx]
    rw [if_neg (by omega)]; omega
  rw [e1, e2]
theorem aw5 {M : List (List Int)} {k : Nat} {L : List Int} (h : k < M.length) (i j : Nat) : zz (M.set k L) i j = if i = k then aZ L j else zz M i j := by
  unfold zz
  rw [List.getElem?_set]
  by_cases z : i = k
  · rw [if_pos z.symm, if_pos h, if_pos z]; rfl
  · rw [if_neg (Ne.symm z), if_neg z]
theorem bf1 (L : List Int) (j : Nat) : aZ (L.map fun v => -v) j = - aZ L j := by
  unfold aZ
  rw [List.getElem?_map]
  cases L[j]? with
  | none => rfl
  | some v => rfl
structure Led (M M' : List (List Int)) (k n m : Nat) : Prop where
  len : M'.length = n
  row : ∀ L ∈ M', L.length = m
  top : zz M' k k ≠ 0
  bit : ∀ W, (∀ L ∈ M, ∀ v ∈ L, Int.natAbs v < 2 ^ W) → ∀ L ∈ M', ∀ v ∈ L, Int.natAbs v < 2 ^ W
  alt : M' = M ∨ ∃ s, k < s ∧ s < n ∧ ∀ i j, zz M' i j = if i = k then zz M s j else if i = s then - zz M k j else zz M i j
def aW7 (K : PySem.W.Frag) : Sp := fun vs H Q _ => ∃ (a : Addr) (ts : List Addr) (M : List (List Int)) (k n m : Nat), vs = [.ref a, .int k] ∧ SqL K H a (ts.map V.ref) ∧ RwZ H ts M ∧ M.length = n ∧ (∀ L ∈ M, L.length = m) ∧ k < n ∧ k < m ∧ n ≤ 30 ∧ m ≤ 60 ∧
  ((∀ i, k ≤ i → i < n → zz M i k = 0) → ∀ H', d7 H H' → Q .non H') ∧
  ∀ r ts' M' H', d7 H H' → SqL K H' r (ts'.map V.ref) → RwZ H' ts' M' → Led M M' k n m → Q (.ref r) H'
abbrev F1 : Stmt := top 30
theorem aa5 : j7 ["rows", "at", "place", "behind"] ["rows", "at"] (d3 F1) := by and_intros
set_option maxHeartbeats 0 in
theorem az1 {f : Addr} (d : Df K mg "with_lead" F1 ["rows", "at"] f) (n_len : mg "len" = none) (n_range : mg "range" = none) : Def P w K mg base CX0 1 "with_lead" f ["rows", "at"] (aW7 K) := by
  refine d.ok (N := ["rows", "at", "place", "behind"]) aa5 (by rintro vs H Q E ⟨_, _, _, _, _, _, h, _⟩; rw [h]; rfl) (fun cdv A outer s H vs Q E hr h => ?_)
  obtain ⟨a, ts, M, k, n, m, rfl, hA, hR, ln, lm, kn, km, n30, m60, k1, k2⟩ := h
  refine ⟨_, (d6 (T4 PassesOwn.never rfl (Y1 rfl n_range (b7 (pv 1) (b7 (d9 m4 rfl n_len (by decide +kernel) (b7 (pv 0) d2)) d2))) (i7 (i := 2) aa5.nd rfl (Or.inl rfl)) (d8 (C2 (ao9 (j9 j5 (j9 j5 (pv 0) (pv 2) (fun _ _ => rfl)) (pv 1) (fun _ _ => rfl)) (fun _ => rfl)) (d6 (C2 (t6 al2 (pv 2) (pv 1) (t5 _)) (d8 (j1 (pv 0))) v0)
      (d6 (aa7 (i₀ := 3) aa5.nd rfl (Or.inl rfl) (Nc := ["whole"]) (caps := [none]) rfl (Q8.of (osc := d3 F1) (N := ["rows", "at", "place", "behind"]) (ks := []) rfl rfl rfl rfl v3 (by decide +kernel)) (O7 (j9 j5 (pv 0) (pv 1) (fun _ _ => rfl))) (fun C s₂ H₂ fp pins => (i7 (i := 0) (show List.Nodup (["whole"] : List Str) by decide +kernel) rfl (Or.inl rfl) (Or.inr rfl))) (fun C s₂ H₂ fp pins => (au9 ai8 (pv 0))))
      (d8 (j1 (i4 W3 (i4 W3 (i4 W3 (i4 W3 (A4 M6 (pv 0) C1 (B6 (pv 1))) (L7 (b7 (j9 j5 (pv 0) (pv 2) (fun _ _ => rfl)) d2))) (A4 M6 (pv 0) (B6 (i4 E4 (pv 1) d4)) (B6 (pv 2)))) (L7 (b7 (pv 3) d2))) (A4 M6 (pv 0) (B6 (i4 E4 (pv 2) d4)) C1)))))) v0)))
      (d8 (j1 ay6))), ?_⟩
  rw [show start ["rows", "at", "place", "behind"] [.ref a, .int k] = [some (.ref a), some (.int k), none, none] from rfl]
  subst_eqs
  have tl : ts.length = n := by rw [hR.length, ln]
  have rowAt : ∀ i, i < n → ∃ (p : Addr) (L : List Int), ts[i]? = some p ∧ M[i]? = some L ∧ H p = some (.lst (L.map V.int)) ∧ L.length = m := fun i hi => by
    have e := List.getElem?_eq_getElem (l := ts) (i := i) (by omega)
    obtain ⟨L, e1, e2⟩ := hR.get e
    exact ⟨_, L, e, e1, e2, lm L (List.mem_of_getElem? e1)⟩
  have at' : ∀ (i : Nat) (p : Addr), ts[i]? = some p → (ts.map V.ref)[i]? = some (.ref p) := fun i p e => by rw [List.getElem?_map, e]; rfl
  refine ⟨_, rfl, _, rfl, a, rfl, _, .inl hA, _, _, rfl, ?_, O1 (fun i σ H1 => H1 = H ∧ (∃ o2, σ = [some (.ref a), some (.int k), o2, none]) ∧ ∀ x, k ≤ x → x < k + i → zz M x k = 0) ⟨rfl, ⟨_, rfl⟩, fun x h1 h2 => by omega⟩ ?_ ?_⟩
  · rw [List.length_map, tl]; omega
  · rintro i σ H1 hi ⟨rfl, ⟨o2, rfl⟩, hz⟩
    rw [List.length_map, tl] at hi
    obtain ⟨p, L, e1, e2, e3, e4⟩ := rowAt (k + i) (by omega)
    obtain ⟨p0, L0, f1, f2, f3, f4⟩ := rowAt k kn
    subst_eqs
    have ci : ((k : Int) + (i : Int)) = ((k + i : Nat) : Int) := by omega
    rw [ci]
    have eL : (L.map V.int)[k]? = some (.int (zz M (k + i) k)) := by
      unfold zz aZ
      rw [e2, List.getElem?_map]
      show Option.map _ L[k]? = some (V.int (L[k]?.getD 0))
      rw [List.getElem?_eq_getElem (by omega)]; rfl
    refine ⟨_, hA, _, u0 (at' _ _ e1), p, rfl, _, SqL.of e3, _, u0 eL, _, rfl, K5 (fun h1 => ?_) (fun h1 => ?_)⟩
    · have nz : zz M (k + i) k ≠ 0 := by simpa using h1
      refine ⟨rfl, K5 (fun h2 => ?_) (fun h2 => ?_)⟩
      · have : i = 0 := by omega
        subst this
        exact k2 a ts M _ (d7.refl _) hA hR ⟨ln, lm, nz, fun W h => h, .inl rfl⟩
      · refine ⟨_, hA, _, u0 (at' _ _ f1), p0, rfl, ⟨_, SqL.of f3⟩, fun D hD => ?_⟩
        refine ab2 (L0.map V.int) (fun j σ H2 => (∃ o, σ = [o]) ∧ d7 H1 H2 ∧ H2 D = some (.lst ((L0.take j).map fun v => V.int (-v)))) ⟨⟨_, rfl⟩, d7.new hD _, by rw [List.take_zero]; exact d5⟩ (fun j σ H2 _ ⟨_, s2, _⟩ => SqL.of (s2 _ _ f3)) ?_ ?_
        · rintro j x σ H2 hx ⟨⟨o, rfl⟩, s2, e⟩
          obtain ⟨v, hv, rfl⟩ := ar1 hx
          have hj := (List.getElem?_eq_some_iff.mp hx).1
          subst_eqs
          refine v7.mk hj e ?_ ⟨⟨_, rfl⟩, s2.over hD _, ?_⟩
          · rw [List.length_map, List.length_take]
            exact Nat.lt_of_le_of_lt (show _ ≤ 100 by omega) (by decide)
          · rw [d5, m5 hv, List.map_append]; rfl
        · rintro σ H2 ⟨⟨o, rfl⟩, s2, e⟩
          rw [List.length_map, List.take_length] at e
          have lt' : (ts.map V.ref).length = n := by rw [List.length_map, tl]
          have hA2 := s2.seq hA
          refine ⟨_, hA2, fun a1 h1 => ?_⟩
          obtain ⟨H3, y, X1, g1⟩ := t7 (.lst (P1 (ts.map V.ref) none (some (k : Int)))) h1
          rw [← y]
          refine ⟨_, X1.seq hA2, _, u0 (at' _ _ e1), aQ1, fun a2 h2 => ?_⟩
          obtain ⟨H4, y, X2, g2⟩ := t7 (.lst [V.ref p]) h2
          rw [← y]
          refine ⟨_, X2 _ _ g1, _, g2, ?_, fun a3 h3 => ?_⟩
          · exact Nat.le_trans (Nat.add_le_add (V2 _ _ _) (Nat.le_refl 1)) (Nat.le_trans (show _ ≤ 100 by omega) (by decide))
          rw [P0 _ (by omega)]
          obtain ⟨H5, y, X3, g3⟩ := t7 (.lst ((ts.map V.ref).take k ++ [V.ref p])) h3
          rw [← y]
          have X13 := (X1.trans X2).trans X3
          refine ⟨_, X13.seq hA2, fun a4 h4 => ?_⟩
          rw [show ((k : Int) + 1) = ((k + 1 : Nat) : Int) by omega, aY9 _ (show k + 1 ≤ k + i by omega) (by omega)]
          obtain ⟨H6, y, X4, g4⟩ := t7 (.lst (((ts.map V.ref).drop (k + 1)).take (k + i - (k + 1)))) h4
          rw [← y]
          refine ⟨_, X4 _ _ g3, _, g4, ?_, fun a5 h5 => ?_⟩
          · refine Nat.le_trans (show _ ≤ 100 from ?_) (by decide)
            rw [List.length_append, List.length_take, List.length_take, List.length_drop]
            simp only [List.length_cons, List.length_nil]
            omega
          obtain ⟨F, hF⟩ : ∃ F, F = (ts.map V.ref).take k ++ [V.ref p] ++ ((ts.map V.ref).drop (k + 1)).take (k + i - (k + 1)) := ⟨_, rfl⟩
          rw [← hF]
          have lF : F.length ≤ 100 := by
            rw [hF, List.length_append, List.length_append, List.length_take, List.length_take, List.length_drop]
            simp only [List.length_cons, List.length_nil]
            omega
          obtain ⟨H7, y, X5, g5⟩ := t7 (.lst F) h5
          rw [← y]
          refine ⟨aQ1, fun a6 h6 => ?_⟩
          obtain ⟨H8, y, X6, g6⟩ := t7 (.lst [V.ref D]) h6
          rw [← y]
          refine ⟨_, X6 _ _ g5, _, g6, ?_, fun a7 h7 => ?_⟩
          · exact Nat.le_trans (show _ ≤ 101 by simp only [List.length_cons, List.length_nil]; omega) (by decide)
          obtain ⟨H9, y, X7, g7⟩ := t7 (.lst (F ++ [V.ref D])) h7
          rw [← y]
          have X17 := X13.trans (X4.trans (X5.trans (X6.trans X7)))
          refine ⟨_, X17.seq hA2, fun a8 h8 => ?_⟩
          rw [show (((k + i : Nat) : Int) + 1) = ((k + i + 1 : Nat) : Int) by omega, aa2 _ (by omega)]
          obtain ⟨H10, y, X8, g8⟩ := t7 (.lst ((ts.map V.ref).drop (k + i + 1))) h8
          rw [← y]
          refine ⟨_, X8 _ _ g7, _, g8, ?_, fun a9 h9 => ?_⟩
          · refine Nat.le_trans (show _ ≤ 200 from ?_) (by decide)
            rw [List.length_append, List.length_drop]
            simp only [List.length_cons, List.length_nil]
            omega
          have X19 := X17.trans (X8.trans (d7.new h9 (.lst (F ++ [V.ref D] ++ (ts.map V.ref).drop (k + i + 1)))))
          have S := s2.trans X19
          have hM : (M.set k L).length = n := by rw [List.length_set, ln]
          have e0 : zz M k = aZ L0 := by funext j; unfold zz; rw [f2]; rfl
          have eL' : zz M (k + i) = aZ L := by funext j; unfold zz; rw [e2]; rfl
          refine k2 a9 ((ts.set k p).set (k + i) D) ((M.set k L).set (k + i) (L0.map fun v => -v)) _ S (SqL.of (xs := ((ts.set k p).set (k + i) D).map V.ref) ?_) ?_ ⟨?_, ?_, ?_, fun W h => ?_, .inr ⟨k + i, by omega, by omega, fun x j => ?_⟩⟩
          · rw [d5, hF, aW8 (ts.map V.ref) (V.ref p) (V.ref D) (by omega) (by omega), List.map_set, List.map_set]
          · exact ((hR.same S).set k (S _ _ e3)).set (k + i) (X19 _ _ (by rw [e, List.map_map]; rfl))
          · rw [List.length_set, hM]
          · intro L' hL'
            rcases List.mem_or_eq_of_mem_set hL' with z | z
            · rcases List.mem_or_eq_of_mem_set z with z | z
              · exact lm _ z
              · rw [z, e4]
            · rw [z, List.length_map, f4]
          · rw [aw5 (by omega), if_neg (by omega), aw5 (by omega), if_pos rfl, ← eL']
            exact nz
          · intro L' hL' v hv
            rcases List.mem_or_eq_of_mem_set hL' with z | z
            · rcases List.mem_or_eq_of_mem_set z with z | z
              · exact h _ z v hv
              · exact h _ (List.mem_of_getElem? e2) v (z ▸ hv)
            · rw [z] at hv
              obtain ⟨v', hv', rfl⟩ := List.mem_map.mp hv
              rw [Int.natAbs_neg]
              exact h _ (List.mem_of_getElem? f2) v' hv'
          · rw [aw5 (by omega), aw5 (by omega), bf1, e0, eL']
            by_cases z : x = k
            · rw [if_pos z, if_pos z, if_neg (by omega)]
            · rw [if_neg z, if_neg z]
    · have z0 : zz M (k + i) k = 0 := by simpa using h1
      refine ⟨⟨_, rfl⟩, fun x h2 h3 => ?_⟩
      rcases Nat.lt_or_ge x (k + i) with y | y
      · exact hz x h2 y
      · rw [show x = k + i by omega]; exact z0
  · rintro σ H1 ⟨rfl, ⟨o2, rfl⟩, hz⟩
    rw [List.length_map, tl] at hz
    exact k1 (fun i h1 h2 => hz i h1 (by omega)) _ (d7.refl _)
def ag8 (K : PySem.W.Frag) : Sp := fun vs H Q _ => ∃ (a b : Addr) (L C : List Int) (k : Nat) (dv : Int) (W : Nat), vs = [.ref a, .ref b, .int k, .int dv] ∧ SqL K H a (L.map V.int) ∧ SqL K H b (C.map V.int) ∧ L.length = C.length ∧ k < L.length ∧ L.length ≤ 60 ∧ dv ≠ 0 ∧ dv.natAbs < 2 ^ W ∧ (∀ v ∈ L, Int.natAbs v < 2 ^ W) ∧ (∀ v ∈ C, Int.natAbs v < 2 ^ W) ∧ W ≤ 8900 ∧
  ∀ r T H', d7 H H' → H r = none → H' r = some (.lst (T.map V.int)) → T.length = L.length → (∀ j, j < T.length → aZ T j = (aZ C k * aZ L j - aZ L k * aZ C j).fdiv dv) → Q (.ref r) H'
abbrev N8 : Stmt := top 31
theorem af8 : j7 ["row", "chosen", "at", "before", "lead", "own"] ["row", "chosen", "at", "before"] (d3 N8) := by and_intros
set_option maxHeartbeats 0 in
theorem aH3 {f : Addr} (d : Df K mg "cleaned" N8 ["row", "chosen", "at", "before"] f) (n_zip : mg "zip" = none) : Def P w K mg base CX0 1 "cleaned" f ["row", "chosen", "at", "before"] (ag8 K) := by
  refine d.ok (N := ["row", "chosen", "at", "before", "lead", "own"]) af8 (by rintro vs H Q E ⟨_, _, _, _, _, _, _, h, _⟩; rw [h]; rfl) (fun cdv A outer s H vs Q E hr h => ?_)
  obtain ⟨a, b, R, F, k, dv, W, rfl, hR, hF, lF, kl, l60, d0, db, wR, wF, hW, kk⟩ := h
  refine ⟨_, (d6 (ac3 (A3 (b7 (j9 j5 (pv 1) (pv 2) (fun _ _ => rfl)) (b7 (j9 j5 (pv 0) (pv 2) (fun _ _ => rfl)) d2))) (show PG _ _ (ak3 K 2 (K3 (C7 4) (K3 (C7 5) ak4))) from by (refine V6 (n := 2) ?_ ?_ ?_ ?_; rfl; (refine v5 ?_ ?_ ?_; (exact (i7 (i := 4) af8.nd rfl (Or.inr rfl))); (refine v5 ?_ ?_ ?_; (exact (i7 (i := 5) af8.nd rfl (Or.inr rfl))); (exact P7); rfl); rfl); rfl; rfl)))
      (d8 (j1 (E7 (Nc := ["own", "lead", "before", "whole", "other"]) (caps := [some 5, some 4, some 3, none, none]) rfl (Q8.of (osc := d3 N8) (N := ["row", "chosen", "at", "before", "lead", "own"]) (ks := ["own", "lead", "before"]) rfl rfl rfl rfl (j0 rfl (j0 rfl (j0 rfl v3))) (by decide +kernel)) (aR5 rfl n_zip (b7 (pv 0) (b7 (pv 1) d2))) (fun C s₂ H₂ fp pins => (show PG _ _ (ak3 K 2 (K3 (C7 3) (K3 (C7 4) ak4))) from by (refine V6 (n := 2) ?_ ?_ ?_ ?_; rfl; (refine v5 ?_ ?_ ?_; (exact (i7 (i := 3) (show List.Nodup (["own", "lead", "before", "whole", "other"] : List Str) by decide +kernel) rfl (Or.inl rfl) (Or.inr rfl))); (refine v5 ?_ ?_ ?_; (exact (i7 (i := 4) (show List.Nodup (["own", "lead", "before", "whole", "other"] : List Str) by decide +kernel) rfl (Or.inl rfl) (Or.inr rfl))); (exact P7); rfl); rfl); rfl; rfl))) (fun C s₂ H₂ fp pins => (i4 M5 (i4 U1 (i4 B7 (pv 1) (pv 3)) (i4 B7 (pv 0) (pv 4))) (pv 2))))))), ?_⟩
  rw [show start ["row", "chosen", "at", "before", "lead", "own"] [.ref a, .ref b, .int k, .int dv] = [some (.ref a), some (.ref b), some (.int k), some (.int dv), none, none] from rfl]
  have get' : ∀ {G : List Int} {i : Nat}, i < G.length → (G.map V.int)[i]? = some (.int (aZ G i)) := fun {G i} h => by
    unfold aZ
    rw [List.getElem?_map, List.getElem?_eq_getElem h]; rfl
  obtain ⟨tf, htf⟩ : ∃ tf : Nat → Int, ∀ j, tf j = (aZ F k * aZ R j - aZ R k * aZ F j).fdiv dv := ⟨_, fun _ => rfl⟩
  subst_eqs
  refine ⟨_, hF, _, u0 (get' (by omega)), _, hR, _, u0 (get' kl), J4, fun p hp => ?_⟩
  obtain ⟨H3, y, X, g3⟩ := t7 (.tup [V.int (aZ F k), V.int (aZ R k)]) hp
  rw [← y]
  have R3 := X.seq hR
  have F3 := X.seq hF
  refine ⟨_, SqT.of g3, rfl, _, _, rfl, _, _, rfl, rfl, ⟨_, R3⟩, ⟨_, F3⟩, fun D hD => ?_⟩
  have mb : min (R.map V.int).length (F.map V.int).length = R.length := by rw [List.length_map, List.length_map, ← lF, Nat.min_self]
  refine aV0 (R.map V.int) (F.map V.int) (fun i σ H4 => ∃ o1 o2, σ = [some (V.int (aZ R k)), some (V.int (aZ F k)), some (V.int dv), o1, o2] ∧ d7 H3 H4 ∧ H4 D = some (.lst (((List.range i).map tf).map V.int))) ⟨_, _, rfl, d7.new hD _, d5⟩ (by rintro i σ H4 ⟨_, _, _, s4, _⟩; exact ⟨s4.seq R3, s4.seq F3⟩) ?_ ?_
  · rintro i x y σ H4 q hx hy ⟨o1, o2, rfl, s4, e4⟩ hq
    have hi : i < R.length := by
      have := (List.getElem?_eq_some_iff.mp hx).1
      rw [List.length_map] at this; exact this
    rw [get' hi] at hx
    rw [get' (by omega)] at hy
    cases hx
    cases hy
    have T := d7.new hq (.tup [.int (aZ R i), .int (aZ F i)])
    have eT := T _ _ e4
    subst_eqs
    refine ⟨_, SqT.of d5, rfl, _, _, rfl, _, _, rfl, rfl, ?_⟩
    refine ⟨_, rfl, Y4 (as2 wF k) (as2 wR _) (by omega), _, rfl, Y4 (as2 wR k) (as2 wF _) (by omega), af5 d0 (Y9 db (by omega)), ?_⟩
    rw [mb]
    refine v7.mk hi eT ?_ ⟨_, _, rfl, (s4.trans T).over hD _, ?_⟩
    · rw [List.length_map, List.length_map, List.length_range]
      exact Nat.lt_of_lt_of_le (show i < 100 by omega) (by decide)
    · rw [d5, List.range_succ, List.map_append, List.map_append, ← htf]; rfl
  · rintro σ H4 ⟨o1, o2, rfl, s4, e4⟩
    rw [mb] at e4
    refine kk D ((List.range R.length).map tf) H4 (X.trans s4) (X.free hD) e4 (by rw [List.length_map, List.length_range]) fun j hj => ?_
    rw [List.length_map, List.length_range] at hj
    rw [← htf]
    unfold aZ
    rw [List.getElem?_map, List.getElem?_range hj]; rfl
end
section
variable {P : Program} {w : World} {K : PySem.W.Frag} {mg : Str → Option Value} {base : Heap}
def eU (W n : Nat) : Nat := (W + 4) * n + 1
def eV (W n k : Nat) : Nat := W + k * (eU W n + 1)
theorem aM6 {a b c d dv : Int} {U V : Nat} (ha : a.natAbs < 2 ^ U) (hb : b.natAbs < 2 ^ V) (hc : c.natAbs < 2 ^ V) (hd : d.natAbs < 2 ^ U) : ((a * b - c * d).fdiv dv).natAbs < 2 ^ (V + (U + 1)) := by
  refine Nat.lt_of_le_of_lt (Int.natAbs_fdiv_le_natAbs _ _) ?_
  have h1 : (a * b).natAbs < 2 ^ (V + U) := by
    rw [Int.natAbs_mul, Nat.mul_comm, Nat.pow_add]
    exact Nat.mul_lt_mul'' hb ha
  have h2 : (c * d).natAbs < 2 ^ (V + U) := by
    rw [Int.natAbs_mul, Nat.pow_add]
    exact Nat.mul_lt_mul'' hc hd
  have e : 2 ^ (V + (U + 1)) = 2 ^ (V + U) + 2 ^ (V + U) := by rw [← Nat.add_assoc, Nat.pow_succ]; omega
  rw [e]
  omega
theorem Eb.dv0 {n : Nat} {A B : Mt} {k : Nat} {M : List (List Int)} {dv : Int} (E : Eb n A B k M dv) : dv ≠ 0 := fun z => by
  have := E.div
  rcases Nat.eq_zero_or_pos k with y | y
  · rw [y, z] at this
    have h : (0 : Int) = 1 := Rat.intCast_inj.mp this
    omega
  · exact E.led k y (Nat.le_refl _) (by rw [← this, z]; rfl)
theorem Eb.dvb {n : Nat} {A B : Mt} {k : Nat} {M : List (List Int)} {dv : Int} (E : Eb n A B k M dv) {W : Nat} (hb : ∀ r c, ∃ z : Int, B r c = (z : Rat) ∧ z.natAbs < 2 ^ W) (n15 : n ≤ 15) (hk : k ≤ n) : dv.natAbs < 2 ^ eU W n := by
  obtain ⟨z, e, b⟩ := ae2 (W := W) (n := k) (M := B) (by omega) hb
  have : dv = z := Rat.intCast_inj.mp (by rw [E.div, e])
  rw [this]
  unfold eU
  refine Nat.lt_of_le_of_lt b (Nat.lt_of_le_of_lt (Nat.pow_le_pow_right (by decide) (Nat.mul_le_mul_left _ hk)) ?_)
  rw [Nat.pow_succ]
  have := Nat.two_pow_pos ((W + 4) * n)
  omega
theorem Eb.leads {n : Nat} {A B : Mt} {k W : Nat} {M M' : List (List Int)} {dv : Int} (E : Eb n A B k M dv) (hb : ∀ r c, ∃ z : Int, B r c = (z : Rat) ∧ z.natAbs < 2 ^ W) (L : Led M M' k n n) : ∃ B', Eb n A B' k M' dv ∧ ∀ r c, ∃ z : Int, B' r c = (z : Rat) ∧ z.natAbs < 2 ^ W := by
  rcases L.alt with h | ⟨s, h1, h2, h3⟩
  · rw [h]; exact ⟨B, E, hb⟩
  · refine ⟨_, E.swap h1 h2 L.len L.row h3, fun r c => ?_⟩
    unfold swN
    split
    · exact hb _ _
    · split
      · obtain ⟨z, e, b⟩ := hb k c
        exact ⟨-z, by rw [e, Rat.intCast_neg], by rw [Int.natAbs_neg]; exact b⟩
      · exact hb _ _
theorem RwZ.at {H : Hp} {ts : List Addr} {M : List (List Int)} {n m : Nat} (h : RwZ H ts M) (ln : M.length = n) (lm : ∀ L ∈ M, L.length = m) {i : Nat} (hi : i < n) : ∃ (p : Addr) (L : List Int), ts[i]? = some p ∧ M[i]? = some L ∧ H p = some (.lst (L.map V.int)) ∧ L.length = m ∧ zz M i = aZ L := by
  have e := List.getElem?_eq_getElem (l := ts) (i := i) (by rw [h.length, ln]; exact hi)
  obtain ⟨L, e1, e2⟩ := h.get e
  exact ⟨_, L, e, e1, e2, lm L (List.mem_of_getElem? e1), by funext j; unfold zz; rw [e1]; rfl⟩
def ax2 (K : PySem.W.Frag) : Sp := fun vs H Q _ => ∃ (a : Addr) (ts : List Addr) (M : List (List Int)) (n W : Nat), vs = [.ref a] ∧ SqL K H a (ts.map V.ref) ∧ RwZ H ts M ∧ M.length = n ∧ (∀ L ∈ M, L.length = n) ∧ (∀ L ∈ M, ∀ v ∈ L, Int.natAbs v < 2 ^ W) ∧ n ≤ 15 ∧ eV W n n + eU W n ≤ 8900 ∧
  ∀ r (mn : Nat) (dv : Int) b H', d7 H H' → H' r = some (.tup [.int mn, .int dv, .ref b]) → ((mn = n ∧ (dv : Rat) = dt n (mZ M)) ∨ (mn ≠ n ∧ dt n (mZ M) = 0)) → Q (.ref r) H'
abbrev C5 : Stmt := top 32
theorem C8 : j7 ["rows", "divisor", "at", "led", "chosen"] ["rows"] (d3 C5) := by and_intros
set_option maxHeartbeats 0 in
theorem as9 {f f1 f2 : Addr} (d : Df K mg "eliminated" C5 ["rows"] f) (G_with_lead : Def P w K mg base CX0 1 "with_lead" f1 ["rows", "at"] (aW7 K)) (G_cleaned : Def P w K mg base CX0 1 "cleaned" f2 ["row", "chosen", "at", "before"] (ag8 K)) (n_len : mg "len" = none) (n_range : mg "range" = none) (n_enumerate : mg "enumerate" = none) : Def P w K mg base CX0 2 "eliminated" f ["rows"] (ax2 K) := by
  refine d.ok (N := ["rows", "divisor", "at", "led", "chosen"]) C8 (by rintro vs H Q E ⟨_, _, _, _, _, h, _⟩; rw [h]; rfl) (fun cdv A outer s H vs Q E hr h => ?_)
  obtain ⟨a, ts, M, n, W, rfl, hA, hR, ln, lm, hb, n15, hV, kk⟩ := h
  refine ⟨_, (d6 (m6 (i := 1) C8.nd rfl (Or.inr rfl) d4)
      (d6 (T4 PassesOwn.never rfl (C3 rfl n_range (b7 (d9 m4 rfl n_len (by decide +kernel) (b7 (pv 0) d2)) d2)) (i7 (i := 2) C8.nd rfl (Or.inr rfl)) (d6 (m6 (i := 3) C8.nd rfl (Or.inl rfl) (i5 G_with_lead hr (b7 (pv 0) (b7 (pv 2) d2)) m3))
      (d6 (C2 (t6 bd1 (pv 3) ay6 (t5 _)) (d8 (j1 (A3 (b7 (pv 2) (b7 (pv 1) (b7 (pv 0) d2)))))) v0)
      (d6 (m6 (i := 4) C8.nd rfl (Or.inr rfl) (j9 j5 (pv 3) (pv 2) (fun _ _ => rfl)))
      (d6 (aa7 (i₀ := 0) C8.nd rfl (Or.inl rfl) (Nc := ["divisor", "chosen", "at", "place", "row"]) (caps := [some 1, some 4, some 2, none, none]) rfl (Q8.of (osc := d3 C5) (N := ["rows", "divisor", "at", "led", "chosen"]) (ks := ["divisor", "chosen", "at"]) rfl rfl rfl rfl (j0 rfl (j0 rfl (j0 rfl v3))) (by decide +kernel)) (aX4 rfl n_enumerate (b7 (pv 3) d2)) (fun C s₂ H₂ fp pins => (show PG _ _ (ak3 K 2 (K3 (C7 3) (K3 (C7 4) ak4))) from by (refine V6 (n := 2) ?_ ?_ ?_ ?_; rfl; (refine v5 ?_ ?_ ?_; (exact (i7 (i := 3) (show List.Nodup (["divisor", "chosen", "at", "place", "row"] : List Str) by decide +kernel) rfl (Or.inl rfl) (Or.inr rfl))); (refine v5 ?_ ?_ ?_; (exact (i7 (i := 4) (show List.Nodup (["divisor", "chosen", "at", "place", "row"] : List Str) by decide +kernel) rfl (Or.inl rfl) (Or.inr rfl))); (exact P7); rfl); rfl); rfl; rfl))) (fun C s₂ H₂ fp pins => (ah3 (t6 al2 (pv 3) (pv 2) (t5 _)) (pv 4) (i5 G_cleaned hr (b7 (pv 4) (b7 (pv 1) (b7 (pv 2) (b7 (pv 0) d2)))) m3))))
      (d8 (m6 (i := 1) C8.nd rfl (Or.inr rfl) (j9 j5 (pv 4) (pv 2) (fun _ _ => rfl)))))))))
      (d8 (j1 (A3 (b7 (d9 m4 rfl n_len (by decide +kernel) (b7 (pv 0) d2)) (b7 (pv 1) (b7 (pv 0) d2)))))))), ?_⟩
  rw [show start ["rows", "divisor", "at", "led", "chosen"] [.ref a] = [some (.ref a), none, none, none, none] from rfl]
  simp! [aW7, ag8]
  have tl : ts.length = n := by rw [hR.length, ln]
  obtain ⟨I, hI⟩ : ∃ I : Nat → L2.St → Hp → Prop, ∀ i σ H1, I i σ H1 ↔ d7 H H1 ∧ ∃ (a' : Addr) (ts' : List Addr) (M' : List (List Int)) (B : Mt) (dv : Int) (o2 o3 o4 : Option V), σ = [some (.ref a'), some (.int dv), o2, o3, o4] ∧ SqL K H1 a' (ts'.map V.ref) ∧ RwZ H1 ts' M' ∧ Eb n (mZ M) B i M' dv ∧ (∀ r c, ∃ z : Int, B r c = (z : Rat) ∧ z.natAbs < 2 ^ W) ∧ ∀ L ∈ M', ∀ v ∈ L, Int.natAbs v < 2 ^ eV W n i := ⟨_, fun _ _ _ => Iff.rfl⟩
  have zlt : ∀ r c, (zz M r c).natAbs < 2 ^ W := fun r c => by
    unfold zz
    cases e : M[r]? with
    | none => exact Nat.two_pow_pos _
    | some L => exact as2 (hb L (List.mem_of_getElem? e)) c
  refine ⟨_, rfl, a, rfl, _, .inl hA, _, rfl, ?_, ?_, O1 I ((hI _ _ _).mpr ⟨d7.refl _, a, ts, M, mZ M, 1, _, _, _, rfl, hA, hR, Eb.start ln lm, fun r c => ⟨_, rfl, zlt r c⟩, ?_⟩) ?_ ?_⟩
  · omega
  · rw [List.length_map, tl]; omega
  · unfold eV
    rw [Nat.zero_mul]; exact hb
  · rintro i σ H1 hi h
    obtain ⟨S, a', ts', M', B, dv, o2, o3, o4, rfl, hA1, hR1, E, hB, hb1⟩ := (hI _ _ _).mp h
    rw [List.length_map, tl] at hi
    rw [Int.zero_add]
    have vi : eV W n i + eU W n ≤ 8900 := Nat.le_trans (Nat.add_le_add_right (Nat.add_le_add_left (Nat.mul_le_mul_right _ (by omega)) _) _) hV
    refine j4 (fun σ H2 => d7 H1 H2 ∧ ((σ = [some (.ref a'), some (.int dv), some (.int i), some .non, o4] ∧ ∀ x, i ≤ x → x < n → zz M' x i = 0) ∨ ∃ (a2 : Addr) (ts2 : List Addr) (M2 : List (List Int)), σ = [some (.ref a'), some (.int dv), some (.int i), some (.ref a2), o4] ∧ SqL K H2 a2 (ts2.map V.ref) ∧ RwZ H2 ts2 M2 ∧ Led M' M2 i n n)) (fun N hN => ?_) ?_
    · simp! [aW7]
      refine ⟨ts', M', i, rfl, hA1, hR1, n, E.row, by rw [E.len]; exact hi, hi, by rw [E.len]; omega, by omega, ?_⟩
      rw [E.len]
      exact ⟨fun hz H' s => hN _ _ ⟨s, .inl ⟨rfl, hz⟩⟩, fun r ts2 M2 H' s hA2 hR2 LD => hN _ _ ⟨s, .inr ⟨r, ts2, M2, rfl, hA2, hR2, LD⟩⟩⟩
    rintro σ H2 ⟨S2, h⟩
    rcases h with ⟨rfl, hz⟩ | ⟨a2, ts2, M2, rfl, hA2, hR2, LD⟩
    · subst_eqs
      refine ⟨by decide, fun p hp => ?_⟩
      exact kk p i dv a' _ ((S.trans S2).trans (d7.new hp _)) d5 (.inr ⟨by omega, E.stuck hi hz⟩)
    · simp! [ag8]
      obtain ⟨B2, E2, hB2⟩ := E.leads hB LD
      obtain ⟨c, C, c1, c2, c3, c4, c5⟩ := hR2.at E2.len E2.row hi
      have at' : ∀ (j : Nat) (p : Addr), ts2[j]? = some p → (ts2.map V.ref)[j]? = some (.ref p) := fun j p e => by rw [List.getElem?_map, e]; rfl
      have t2 : ts2.length = n := by rw [hR2.length, E2.len]
      have hb2 := LD.bit _ hb1
      have d0 := E2.dv0
      have cb : ∀ j, j < n → (aZ C j).natAbs < 2 ^ eU W n := fun j hj => by
        rw [← c5]
        refine Nat.lt_of_le_of_lt (E2.bits hB2 n15 hi (Nat.le_refl _) hi hj) ?_
        unfold eU
        rw [Nat.pow_succ]
        have := Nat.two_pow_pos ((W + 4) * n)
        omega
      refine ⟨_, hA2, _, u0 (at' _ _ c1), ⟨_, hA2⟩, fun D hD => ?_⟩
      obtain ⟨Pv, hPv⟩ : ∃ Pv : Nat → L2.St → Hp → Prop, ∀ j σ H4, Pv j σ H4 ↔ ∃ (us : List Addr) (N : List (List Int)) (o3 o4 : Option V), σ = [some (.int dv), some (.ref c), some (.int i), o3, o4] ∧ d7 H2 H4 ∧ H4 D = some (.lst (us.map V.ref)) ∧ D ∉ us ∧ RwZ H4 us N ∧ N.length = j ∧ (∀ L ∈ N, L.length = n ∧ ∀ v ∈ L, Int.natAbs v < 2 ^ eV W n (i + 1)) ∧ ∀ x y, x < j → x ≠ i → y < n → zz N x y = (zz M2 i i * zz M2 x y - zz M2 x i * zz M2 i y).fdiv dv := ⟨_, fun _ _ _ => Iff.rfl⟩
      have eVs : eV W n (i + 1) = eV W n i + (eU W n + 1) := by unfold eV; rw [Nat.succ_mul]; omega
      refine aY7 (ts2.map V.ref) Pv ((hPv _ _ _).mpr ⟨[], [], _, _, rfl, d7.new hD _, d5, by simp, .nil, rfl, by simp, fun x y h => by omega⟩) (by intro j σ H4 h; obtain ⟨_, _, _, _, _, s4, _⟩ := (hPv _ _ _).mp h; exact s4.seq hA2) ?_ ?_
      · intro j x σ H4 q hx h hq
        obtain ⟨us, N, o3, o4, rfl, s4, e4, nD, hN4, lN, rN, vN⟩ := (hPv _ _ _).mp h
        have hj : j < n := by
          have := (List.getElem?_eq_some_iff.mp hx).1
          rw [List.length_map, t2] at this; exact this
        obtain ⟨p, L, p1, p2, p3, p4, p5⟩ := hR2.at E2.len E2.row hj
        rw [at' _ _ p1] at hx
        cases hx
        simp! [ag8]
        obtain ⟨H5, y5, X, g5⟩ := t7 (.tup [V.int j, V.ref p]) hq
        rw [← y5]
        refine ⟨_, SqT.of g5, rfl, _, _, rfl, _, _, rfl, rfl, rfl, ?_⟩
        have e5 := X _ _ e4
        have sz : (us.map V.ref).length < sizeLine := by
          rw [List.length_map, hN4.length, lN]
          exact Nat.lt_of_lt_of_le (show j < 100 by omega) (by decide)
        have lj : j < (ts2.map V.ref).length := by rw [List.length_map, t2]; exact hj
        have add : ∀ (r : Addr) (T : List Int) (H6 : Hp), d7 H5 H6 → r ≠ D → H6 r = some (.lst (T.map V.int)) → T.length = n → (∀ v ∈ T, Int.natAbs v < 2 ^ eV W n (i + 1)) → (j ≠ i → ∀ y, y < n → aZ T y = (zz M2 i i * zz M2 j y - zz M2 j i * zz M2 i y).fdiv dv) → v7 D (ts2.map V.ref).length Pv j [some (.int dv), some (.ref c), some (.int i), some (.int j), some (.ref p)] (.ref r) H6 := fun r T H6 s6 hr e6 l6 b6 v6 => by
          have e7 := s6 _ _ e5
          refine v7.mk lj e7 sz ((hPv _ _ _).mpr ⟨us ++ [r], N ++ [T], _, _, rfl, (s4.trans (X.trans s6)).over hD _, by rw [d5, List.map_append]; rfl, ?_, ?_, by rw [List.length_append, lN]; rfl, ?_, ?_⟩)
          · intro z
            rcases List.mem_append.mp z with z | z
            · exact nD z
            · exact hr (List.mem_singleton.mp z).symm
          · refine RwZ.over ?_ ((hN4.same (X.trans s6)).append (.cons e6 .nil))
            intro z
            rcases List.mem_append.mp z with z | z
            · exact nD z
            · exact hr (List.mem_singleton.mp z).symm
          · intro L' hL'
            rcases List.mem_append.mp hL' with z | z
            · exact rN _ z
            · rw [List.mem_singleton.mp z]; exact ⟨l6, b6⟩
          · intro x y h1 h2 h3
            have ez : zz (N ++ [T]) x y = if x < j then zz N x y else aZ T y := by
              unfold zz
              by_cases z : x < j
              · rw [List.getElem?_append_left (by omega), if_pos z]
              · rw [List.getElem?_append_right (by omega), if_neg z, show x - N.length = 0 by omega]; rfl
            rw [ez]
            by_cases z : x < j
            · rw [if_pos z]; exact vN x y z h2 h3
            · rw [if_neg z]
              have : x = j := by omega
              rw [this]
              rw [this] at h2
              exact v6 h2 y h3
        refine K5 (fun h1 => ?_) (fun h1 => ?_)
        · have : j = i := by have := V.int.inj h1; omega
          refine add p L H5 (d7.refl _) (fun z => ?_) (X _ _ (s4 _ _ p3)) p4 (fun v hv => Y9 (hb2 L (List.mem_of_getElem? p2) v hv) (by omega)) (fun h => absurd this h)
          rw [z, hD] at p3; cases p3
        · have hl : ∀ v ∈ L, Int.natAbs v < 2 ^ eV W n i := hb2 L (List.mem_of_getElem? p2)
          refine ⟨p, rfl, L, C, i, rfl, SqL.of (X _ _ (s4 _ _ p3)), SqL.of (X _ _ (s4 _ _ c3)), by rw [p4, c4], by omega, by omega, d0, eV W n i + eU W n, Y9 (E2.dvb hB2 n15 (by omega)) (by omega), fun v hv => Y9 (hl v hv) (by omega), fun v hv => Y9 (hb2 C (List.mem_of_getElem? c2) v hv) (by omega), vi, fun r T H6 s6 f6 e6 l6 v6 => ?_⟩
          have val : ∀ y, y < n → aZ T y = (aZ C i * aZ L y - aZ L i * aZ C y).fdiv dv := fun y hy => v6 y (by omega)
          refine add r T H6 s6 (fun z => ?_) e6 (by omega) (fun v hv => ?_) (fun _ y hy => ?_)
          · rw [z, e5] at f6; cases f6
          · obtain ⟨y, hy, ey⟩ := List.mem_iff_getElem.mp hv
            have : aZ T y = v := by unfold aZ; rw [List.getElem?_eq_getElem hy, ey]; rfl
            rw [← this, val y (by omega), eVs]
            exact aM6 (cb i hi) (as2 hl y) (as2 hl i) (cb y (by omega))
          · rw [val y hy, c5, p5]
      · intro σ H4 h
        rw [List.length_map, t2] at h
        obtain ⟨us, N, o3, o4, rfl, s4, e4, nD, hN4, lN, rN, vN⟩ := (hPv _ _ _).mp h
        have gC : (C.map V.int)[i]? = some (.int (zz M2 i i)) := by
          rw [c5]
          unfold aZ
          rw [List.getElem?_map, List.getElem?_eq_getElem (by omega)]; rfl
        refine ⟨c, rfl, _, SqL.of (s4 _ _ c3), _, u0 gC, (hI _ _ _).mpr ⟨(S.trans S2).trans s4, D, us, N, B2, _, _, _, _, rfl, SqL.of e4, hN4, ?_, hB2, fun L hL => (rN L hL).2⟩⟩
        exact (E2.step hi LD.top lN (fun L hL => (rN L hL).1) fun x y h1 h2 h3 => vN x y h2 (by omega) h3).1
  · intro σ H1 h
    obtain ⟨S, a', ts', M', B, dv, o2, o3, o4, rfl, hA1, hR1, E, hB, hb1⟩ := (hI _ _ _).mp h
    subst_eqs
    have t1 : ts'.length = n := by rw [hR1.length, E.len]
    refine ⟨_, .inl hA1, by decide, fun p hp => ?_⟩
    rw [List.length_map, tl] at E
    rw [List.length_map, t1]
    exact kk p n dv a' _ (S.trans (d7.new hp _)) d5 (.inl ⟨rfl, E.done⟩)
end
section
variable {P : Program} {w : World} {K : PySem.W.Frag} {mg : Str → Option Value} {base : Heap}
def aM7 : Sp := fun vs H Q _ => ∃ a b : Int, vs = [.int a, .int b] ∧ (a.natAbs < 2 ^ 6000 ∨ b.natAbs < 2 ^ 6000) ∧ Q (.int (Int.gcd a b)) H
abbrev A0 : Stmt := top 24
theorem U5 : j7 ["one", "other"] ["one", "other"] (d3 A0) := by and_intros
theorem ah5 {f : Addr} (d : Df K mg "common_divisor" A0 ["one", "other"] f) (c_SHORT : ∃ t, mg "SHORT" = some (.int 6000 t)) (n_abs : mg "abs" = none) : Def P w K mg base CX0 1 "common_divisor" f ["one", "other"] aM7 := by
  obtain ⟨tS, c_SHORT⟩ := c_SHORT
  refine d.ok (N := ["one", "other"]) U5 (fun vs H Q E ⟨a, b, h, _⟩ => by rw [h]; rfl) (fun cdv A outer s H vs Q E hr h => ?_)
  obtain ⟨a, b, rfl, hab, q⟩ := h
  refine ⟨_, (d6 (C2 (PW.pt (bc5 (t6 ap7 (aH1 PySem.F.plainAttrs_int PySem.F.slot_int_bit_length PySem.F.type_int_bit_length av1 (pv 1)) (A7 (v := .int 6000) rfl c_SHORT ⟨_, rfl⟩) (t5 _)) (aX2 (t6 ap7 (aH1 PySem.F.plainAttrs_int PySem.F.slot_int_bit_length PySem.F.type_int_bit_length av1 (pv 0)) (A7 (v := .int 6000) rfl c_SHORT ⟨_, rfl⟩) (t5 _))))) (d8 aC6) v0)
      (d6 (aC3 PassesOwn.never (ao9 (pv 1) (fun _ => rfl)) (d8 (aG8 (i := 0) (j := 1) rfl U5.nd rfl rfl (by decide) rfl rfl (b7 (pv 1) (b7 (i4 S0 (pv 0) (pv 1)) d2)) rfl)))
      (d8 (j1 (d9 ad1 rfl n_abs (by decide +kernel) (b7 (pv 0) d2)))))), ?_⟩
  rw [show start ["one", "other"] [.int a, .int b] = [some (.int a), some (.int b)] from rfl]
  have hno : ¬ ((6000 : Int) < Builtin.Int.intBits b ∧ (6000 : Int) < Builtin.Int.intBits a) := by
    rintro ⟨h1, h2⟩
    rcases hab with z | z
    · have := P5 z; omega
    · have := P5 z; omega
  have main : ∀ {D : au1} , (∀ x : Int, ∀ y : Int, y = 0 → Int.gcd x y = Int.gcd a b → D.nx [some (.int x), some (.int y)] H) → aF5 (fun σ H_1 Q => ai9 1 σ H_1 fun x H' => ∃ k, aZ2 K x H' k ∧ Q k H')
      (aW4 0 1 (ao2 (ai9 1) (ao2 (tOp (rI (fun x j => j ≠ 0) fun i j => V.int (i.fmod j)) (ai9 0) (ai9 1)) aM4))) D [some (.int a), some (.int b)] H := by
    intro D hD
    refine aB4 (fun σ H1 => H1 = H ∧ ∃ x y : Int, σ = [some (.int x), some (.int y)] ∧ Int.gcd x y = Int.gcd a b) (fun σ _ => match σ with | [_, some (.int y)] => y.natAbs | _ => 0) ⟨rfl, a, b, rfl, rfl⟩ ?_ ?_
    · rintro σ H1 ⟨rfl, x, y, rfl, hg⟩
      simp! [aZ2]
      split
      · rename_i hy
        have hy' : y ≠ 0 := by simpa using hy
        exact ⟨hy', by rw [aE3]; exact hg, ac7 x hy'⟩
      · rename_i hy
        have hy' : y = 0 := by simpa using hy
        exact hD x y hy' hg
    · intro σ H1 Q Q' hQ h
      obtain ⟨v, e1, k, e2, e3⟩ := h
      exact ⟨v, e1, k, e2, hQ _ _ e3⟩
  have fin : ∀ x y : Int, y = 0 → Int.gcd x y = Int.gcd a b → Q (.int (if x < 0 then -x else x)) H := fun x y hy hg => by
    subst hy
    have e : (if x < 0 then -x else x) = (Int.gcd a b : Int) := by
      rw [← hg, Int.gcd_zero_right]
      split <;> omega
    rw [e]; exact q
  have nxt : ∀ x y : Int, y = 0 → Int.gcd x y = Int.gcd a b → (aW3 (tCB (fun xs H Q => ∃ i, xs = [V.int i] ∧ Q (V.int (if i < 0 then -i else i)) H) (ao2 (ai9 0) aM4)) { nx := fun x H' => Q V.non H', rt := Q }) [some (.int x), some (.int y)] H := fun x y hy hg => by
    subst_eqs
    exact fin x y hy hg
  subst_eqs
  split
  · split
    · exact hno ⟨‹_›, ‹_›⟩
    · exact main nxt
  · exact main nxt
def aa4 : Sp := fun vs H Q _ => ∃ t b : Int, vs = [.int t, .int b] ∧ b.natAbs < 2 ^ 6000 ∧ b ≠ 0 ∧ aB3 H Q (Rat.divInt t b)
abbrev M8 : Stmt := top 26
theorem ab9 : j7 ["top", "bottom", "shared"] ["top", "bottom"] (d3 M8) := by and_intros
theorem aD0 {f fc : Addr} (d : Df K mg "fraction" M8 ["top", "bottom"] f) (G_common_divisor : Def P w K mg base CX0 1 "common_divisor" fc ["one", "other"] aM7) : Def P w K mg base CX0 2 "fraction" f ["top", "bottom"] aa4 := by
  refine d.ok (N := ["top", "bottom", "shared"]) ab9 (by rintro vs H Q E ⟨a, b, h, _⟩; rw [h]; rfl) (fun cdv A outer s H vs Q E hr h => ?_)
  obtain ⟨t, b, rfl, hb, h0, q⟩ := h
  refine ⟨_, (d6 (C2 (t6 al2 (pv 1) d4 (t5 _)) (d8 aC6) v0)
      (d6 (m6 (i := 2) ab9.nd rfl (Or.inl rfl) (i5 G_common_divisor hr (b7 (pv 0) (b7 (pv 1) d2)) m3))
      (d6 (C2 (t6 ap6 (pv 1) d4 (t5 _)) (d8 (m6 (i := 2) ab9.nd rfl (Or.inl rfl) (au9 ai8 (pv 2)))) v0)
      (d8 (j1 (A3 (b7 (i4 M5 (pv 0) (pv 2)) (b7 (i4 M5 (pv 1) (pv 2)) d2)))))))), ?_⟩
  rw [show start ["top", "bottom", "shared"] [.int t, .int b] = [some (.int t), some (.int b), none] from rfl]
  simp! [aG1, aM7]
  rw [if_neg h0]
  refine ⟨.inr hb, ?_⟩
  have hg := ab0 (t := t) h0
  have hgl := aH9 (a := t) h0 hb
  by_cases hs : b < 0
  · rw [if_pos hs]
    obtain ⟨e1, e2⟩ := ak1 (t := t) (g := -(Int.gcd t b : Int)) h0 (by rw [if_pos hs])
    have dv : ∀ i, as4 i (-(Int.gcd t b : Int)) := fun i => af5 (by omega) (by rw [Int.natAbs_neg]; exact Y9 hgl)
    refine ⟨dv _, dv _, J4, fun r hr' => ?_⟩
    exact q r _ (d7.new hr' _) (by rw [d5]; unfold F0; rw [e1, e2])
  · rw [if_neg hs]
    obtain ⟨e1, e2⟩ := ak1 (t := t) (g := (Int.gcd t b : Int)) h0 (by rw [if_neg hs])
    have dv : ∀ i, as4 i ((Int.gcd t b : Int)) := fun i => af5 (by omega) (Y9 hgl)
    refine ⟨dv _, dv _, J4, fun r hr' => ?_⟩
    exact q r _ (d7.new hr' _) (by rw [d5]; unfold F0; rw [e1, e2])
end
instance {K : PySem.W.Frag} {H : Hp} {vs : List V} {qs : List Rat} : Coe (K6 H vs qs) (A8 K H vs qs) := ⟨K6.toC⟩
theorem A8.get {K : PySem.W.Frag} {H : Hp} : ∀ {vs : List V} {qs : List Rat} {i : Nat} {q : Rat}, A8 K H vs qs → qs[i]? = some q → ∃ p, vs[i]? = some (.ref p) ∧ NmC K H p q
  | _, _, _, _, .nil, e => by simp at e
  | _, _, 0, _, .cons h _, e => by cases e; exact ⟨_, rfl, h⟩
  | _, _, i + 1, _, .cons _ t, e => t.get (i := i) (by simpa using e)
theorem A8.take {K : PySem.W.Frag} {H : Hp} : ∀ {vs : List V} {qs : List Rat} (m : Nat), A8 K H vs qs → A8 K H (vs.take m) (qs.take m)
  | _, _, 0, _ => by simp only [List.take_zero]; exact .nil
  | _, _, m + 1, .nil => by simp only [List.take_nil]; exact .nil
  | _, _, m + 1, .cons h t => by simp only [List.take_succ_cons]; exact .cons h (t.take m)
section
variable {P : Program} {w : World} {K : PySem.W.Frag} {mg : Str → Option Value} {base : Heap}
def ad7 (K : PySem.W.Frag) : Sp := fun vs H Q _ => ∃ a xs qs, vs = [.ref a] ∧ SqL K H a xs ∧ A8 K H xs qs ∧ (∃ W : Nat, ClN W qs ∧ W ≤ 6000) ∧ qs.length ≤ 100 ∧
  ∀ r l H', d7 H H' → H l = none → H' r = some (.tup [.ref l, .int (w5 qs)]) → H' l = some (.lst ((M4 (w5 qs) qs).map V.int)) → Q (.ref r) H'
abbrev N7 : Stmt := top 28
theorem aa6 : j7 ["numbers", "bottom", "number"] ["numbers"] (d3 N7) := by and_intros
set_option maxHeartbeats 0 in
theorem aH2 {f fc : Addr} (d : Df K mg "cleared" N7 ["numbers"] f) (G_common_divisor : Def P w K mg base CX0 1 "common_divisor" fc ["one", "other"] aM7) : Def P w K mg base CX0 2 "cleared" f ["numbers"] (ad7 K) := by
  refine d.ok (N := ["numbers", "bottom", "number"]) aa6 (by rintro vs H Q E ⟨a, b, c, h, _⟩; rw [h]; rfl) (fun cdv A outer s H vs Q E hr h => ?_)
  obtain ⟨a, xs, qs, rfl, hS, hN, ⟨W, hs, hm⟩, hl, k⟩ := h
  refine ⟨_, (d6 (m6 (i := 1) aa6.nd rfl (Or.inr rfl) d4)
      (d6 (T4 PassesOwn.never rfl (O7 (pv 0)) (i7 (i := 2) aa6.nd rfl (Or.inl rfl)) (d8 (m6 (i := 1) aa6.nd rfl (Or.inr rfl) (i4 B7 (i4 M5 (pv 1) (i5 G_common_divisor hr (b7 (pv 1) (b7 (j9 A5 (pv 2) d4 (fun _ _ => rfl)) d2)) m3)) (j9 A5 (pv 2) d4 (fun _ _ => rfl))))))
      (d8 (j1 (A3 (b7 (E7 (Nc := ["bottom", "top", "under"]) (caps := [some 1, none, none]) rfl (Q8.of (osc := d3 N7) (N := ["numbers", "bottom", "number"]) (ks := ["bottom"]) rfl rfl rfl rfl (j0 rfl v3) (by decide +kernel)) (O7 (pv 0)) (fun C s₂ H₂ fp pins => (show PG _ _ (ak3 K 2 (K3 (C7 1) (K3 (C7 2) ak4))) from by (refine V6 (n := 2) ?_ ?_ ?_ ?_; rfl; (refine v5 ?_ ?_ ?_; (exact (i7 (i := 1) (show List.Nodup (["bottom", "top", "under"] : List Str) by decide +kernel) rfl (Or.inl rfl) (Or.inr rfl))); (refine v5 ?_ ?_ ?_; (exact (i7 (i := 2) (show List.Nodup (["bottom", "top", "under"] : List Str) by decide +kernel) rfl (Or.inl rfl) (Or.inr rfl))); (exact P7); rfl); rfl); rfl; rfl))) (fun C s₂ H₂ fp pins => (i4 B7 (pv 1) (i4 M5 (pv 0) (pv 2))))) (b7 (pv 1) d2))))))), ?_⟩
  rw [show start ["numbers", "bottom", "number"] [.ref a] = [some (.ref a), none, none] from rfl]
  subst_eqs
  have small : ∀ q ∈ qs, q.den < 2 ^ 6000 := fun q hq => Nat.lt_of_lt_of_le (hs.den hq) (t9 hm)
  have hB : ∀ i, 0 < w5 (qs.take i) ∧ w5 (qs.take i) < 2 ^ 6000 := fun i => by
    exact ⟨U2 _, Nat.lt_of_lt_of_le (hs.take i) (t9 hm)⟩
  refine ⟨_, rfl, a, rfl, ⟨_, hS⟩, ar2 (xs := xs) (fun i σ H1 => H1 = H ∧ ∃ o, σ = [some (.ref a), some (.int (w5 (qs.take i) : Nat)), o]) ⟨rfl, _, rfl⟩ (fun i σ H1 _ ⟨e, _⟩ => e ▸ hS) ?_ ?_⟩
  · rintro i x σ H1 hx ⟨rfl, o, rfl⟩
    obtain ⟨p, q, rfl, hq, hp⟩ := hN.getV hx
    obtain ⟨b1, b2⟩ := hB i
    have hd := small q (List.mem_of_getElem? hq)
    have hd0 := B8 q
    have es : qs.take (i + 1) = qs.take i ++ [q] := by rw [List.take_succ, hq]; rfl
    have gp : (0 : Int) < (Int.gcd (w5 (qs.take i) : Int) (q.den : Int) : Nat) := by
      have := ab0 (t := (w5 (qs.take i) : Int)) (b := (q.den : Int)) (by omega); omega
    have el : (w5 (qs.take i) : Int).fdiv (Int.gcd (w5 (qs.take i) : Int) (q.den : Int) : Nat) * (q.den : Int) = (w5 (qs.take (i + 1)) : Nat) := by
      rw [es, aN3]
      obtain ⟨e, he⟩ := Int.gcd_dvd_left (w5 (qs.take i) : Int) (q.den : Int)
      have hg : Int.gcd (w5 (qs.take i) : Int) (q.den : Int) = Nat.gcd (w5 (qs.take i)) q.den := by simp [Int.gcd]
      have h1 : (w5 (qs.take i) : Int).fdiv (Int.gcd (w5 (qs.take i) : Int) (q.den : Int) : Nat) = e := by
        conv => lhs; arg 1; rw [he]
        exact w8 (by omega)
      rw [h1]
      have h2 : Nat.gcd (w5 (qs.take i)) q.den * Nat.lcm (w5 (qs.take i)) q.den = w5 (qs.take i) * q.den := Nat.gcd_mul_lcm _ _
      have h3 : ((Nat.gcd (w5 (qs.take i)) q.den : Nat) : Int) * (Nat.lcm (w5 (qs.take i)) q.den : Nat) = (w5 (qs.take i) : Int) * (q.den : Int) := by
        rw [← Int.natCast_mul, h2, Int.natCast_mul]
      rw [← hg] at h3
      have h4 : ((Int.gcd (w5 (qs.take i) : Int) (q.den : Int) : Nat) : Int) * (e * q.den) = ((Int.gcd (w5 (qs.take i) : Int) (q.den : Int) : Nat) : Int) * (Nat.lcm (w5 (qs.take i)) q.den : Nat) := by
        rw [h3, ← Int.mul_assoc, ← he]
      exact Int.eq_of_mul_eq_mul_left (by omega) h4
    simp! [aM7]
    have hd9 : (q.den : Int).natAbs < 2 ^ 6000 := by rw [Int.natAbs_natCast]; exact hd
    exact ⟨_, hp.sqt, _, at1 q, _, rfl, .inr (Y9 hd9), af5 (by omega) (aH9 (by omega) (Y9 hd9)), _, hp.sqt, _, at1 q, _, rfl, Y4 (m := 6000) (n := 6000) (Nat.lt_of_le_of_lt (aK5 (by omega) (Int.gcd_dvd_left _ _)) (by rw [Int.natAbs_natCast]; exact b2)) hd9, el, _, rfl⟩
  · rintro σ H1 ⟨rfl, o, rfl⟩
    rw [← hN.length] at hl
    have e1 : qs.take xs.length = qs := by rw [hN.length, List.take_length]
    rw [e1]
    simp! [aM7]
    refine ⟨⟨_, hS⟩, fun D hD => ?_⟩
    refine ab2 xs (fun i σ H2 => ∃ o1 o2, σ = [some (.int (w5 qs)), o1, o2] ∧ d7 H1 H2 ∧ H2 D = some (.lst ((M4 (w5 qs) (qs.take i)).map V.int))) ⟨_, _, rfl, d7.new hD _, d5⟩ (fun i σ H2 _ ⟨_, _, _, s2, _⟩ => s2.seq hS) ?_ ?_
    · rintro i x σ H2 hx ⟨o1, o2, rfl, s2, e2⟩
      have hi := (List.getElem?_eq_some_iff.mp hx).1
      obtain ⟨p, q, rfl, hq, hp⟩ := hN.getV hx
      have hd := small q (List.mem_of_getElem? hq)
      have hd0 := B8 q
      have hd9 : (q.den : Int).natAbs < 2 ^ 6000 := by rw [Int.natAbs_natCast]; exact hd
      have hn9 := hs.num (List.mem_of_getElem? hq)
      have es : qs.take (i + 1) = qs.take i ++ [q] := by rw [List.take_succ, hq]; rfl
      subst_eqs
      refine ⟨_, s2.tup hp.sqt, rfl, _, _, rfl, _, _, rfl, rfl, ?_⟩
      refine ⟨_, rfl, af5 (by omega) (Y9 hd9), _, rfl, Y4 (m := 6000) (n := 6000) (Nat.lt_of_lt_of_le hn9 (t9 (by omega))) (Nat.lt_of_le_of_lt (aK5 (by omega) (Int.natCast_dvd_natCast.mpr (ae3 (List.mem_of_getElem? hq)))) (by rw [Int.natAbs_natCast]; have := (hB qs.length).2; rwa [List.take_length] at this)), ?_⟩
      refine v7.mk hi e2 ?_ ⟨_, _, rfl, (s2.trans (d7.refl _)).over hD _, ?_⟩
      · simp only [List.length_map, M4, List.length_take]
        exact Nat.lt_of_le_of_lt (show _ ≤ 100 by omega) (by decide)
      · rw [d5, es]
        simp [M4]
    · rintro σ H2 ⟨o1, o2, rfl, s2, e2⟩
      rw [e1] at e2
      refine ⟨J4, fun p hp => k p D _ (s2.trans (d7.new hp _)) hD d5 ?_⟩
      rw [i0 (i6 e2 hp)]; exact e2
end
def K0 (s : Nat → Rat) : Nat → Rat
  | 0 => 1
  | n + 1 => K0 s n * s n
theorem O6 (s : Nat → Rat) : ∀ n, K0 s (n + 1) = s 0 * K0 (fun i => s (i + 1)) n
  | 0 => by show 1 * s 0 = s 0 * 1; grind
  | n + 1 => by
    show K0 s (n + 1) * s (n + 1) = s 0 * (K0 (fun i => s (i + 1)) n * s (n + 1))
    rw [O6 s n]; grind
theorem aa8 {s t : Nat → Rat} : ∀ {n}, (∀ i, i < n → s i = t i) → K0 s n = K0 t n
  | 0, _ => rfl
  | n + 1, h => by
    show K0 s n * s n = K0 t n * t n
    rw [aa8 fun i hi => h i (by omega), h n (by omega)]
theorem al0 (s : Nat → Rat) : ∀ (n i : Nat), i ≤ n → K0 s (n + 1) = s i * K0 (fun r => s (if r < i then r else r + 1)) n
  | n, 0, _ => by
    rw [O6]
    congr 1
  | 0, i + 1, h => by omega
  | n + 1, i + 1, h => by
    rw [O6, al0 (fun r => s (r + 1)) n i (by omega)]
    rw [O6 (fun r => s (if r < i + 1 then r else r + 1)) n, if_pos (by omega)]
    rw [aa8 (s := fun r => s (if r + 1 < i + 1 then r + 1 else r + 1 + 1)) (t := fun r => s ((if r < i then r else r + 1) + 1)) fun r _ => by
      congr 1
      by_cases z : r < i
      · rw [if_pos z, if_pos (by omega)]
      · rw [if_neg z, if_neg (by omega)]]
    grind
theorem ai3 : ∀ (n : Nat) (s : Nat → Rat) (B : Mt), dt n (fun r c => s r * B r c) = K0 s n * dt n B
  | 0, _, _ => by show (1 : Rat) = 1 * 1; grind
  | n + 1, s, B => by
    rw [J1, J1, ad5]
    refine N4 fun i hi => ?_
    have e : mn (fun r c => s r * B r c) i = fun r c => (fun r => s (if r < i then r else r + 1)) r * mn B i r c := rfl
    rw [e, ai3 n, al0 s n i (by omega)]
    grind
def swU (B : Mt) (r s : Nat) : Mt := fun i c => if i = r then B s c else if i = s then B r c else B i c
theorem be8 {n : Nat} {B : Mt} {r s : Nat} (hr : r < n) (hs : s < n) (h : r ≠ s) : dt n (swU B r s) = - dt n B := by
  have e : swN B r s = v9 (swU B r s) s fun c => (-1) * swU B r s s c + 0 * swU B r s s c := by
    funext i c
    show (if i = r then B s c else if i = s then - B r c else B i c) = if i = s then -1 * (if s = r then B s c else if s = s then B r c else B s c) + 0 * (if s = r then B s c else if s = s then B r c else B s c) else (if i = r then B s c else if i = s then B r c else B i c)
    by_cases a : i = r
    · rw [if_pos a, if_neg (by omega), if_pos a]
    · rw [if_neg a, if_neg a]
      by_cases b : i = s
      · rw [if_pos b, if_pos b, if_neg (Ne.symm h), if_pos rfl]; grind
      · rw [if_neg b, if_neg b, if_neg b]
  have k := aU4 (B := B) hr hs h
  rw [e, ak6 _ (-1) 0 _ _ hs, X0] at k
  grind
theorem bd7 {B : Mt} {k s i j : Nat} (hs : k < s) : mi (swU B k s) k i j = if i = k then mi B k s j else if i = s then mi B k k j else mi B k i j := by
  have top : ∀ (x : Nat), (∀ c, swU B k s i c = B x c) → mi (swU B k s) k i j = mi B k x j := fun x h => by
    unfold mi
    refine O9 fun r hr c _ => ?_
    unfold bnd
    by_cases z : r = k
    · rw [if_pos z, if_pos z, h]
    · rw [if_neg z, if_neg z]
      unfold swU
      rw [if_neg z, if_neg (by omega)]
  by_cases a : i = k
  · rw [if_pos a, top s fun c => by unfold swU; rw [if_pos a]]
  · rw [if_neg a]
    by_cases b : i = s
    · rw [if_pos b, top k fun c => by unfold swU; rw [if_neg a, if_pos b]]
    · rw [if_neg b, top i fun c => by unfold swU; rw [if_neg a, if_neg b]]
def Sc (W : Nat) (B : Mt) : Prop := ∃ b : Nat → Int, ∀ r, 0 < b r ∧ (b r).natAbs < 2 ^ W ∧ ∀ c, ∃ z : Int, ((b r : Int) : Rat) * B r c = (z : Rat) ∧ z.natAbs < 2 ^ W
theorem Sc.swU {W : Nat} {B : Mt} {r s : Nat} (h : Sc W B) : Sc W (swU B r s) := by
  obtain ⟨b, hb⟩ := h
  refine ⟨fun i => if i = r then b s else if i = s then b r else b i, fun i => ?_⟩
  unfold R.swU
  by_cases x : i = r
  · simp only [if_pos x]; exact hb s
  · by_cases y : i = s
    · simp only [if_neg x, if_pos y]; exact hb r
    · simp only [if_neg x, if_neg y]; exact hb i
theorem aj5 {x : Rat} {d m : Int} (e : x * ((d : Int) : Rat) = ((m : Int) : Rat)) (hd : d ≠ 0) : x.num.natAbs ≤ m.natAbs ∧ x.den ≤ d.natAbs := by
  have d0 : ((d : Int) : Rat) ≠ 0 := fun z => hd (Rat.intCast_inj.mp z)
  have : x = Rat.divInt m d := by
    rw [Rat.divInt_eq_div, ← e, Rat.mul_div_cancel d0]
  rw [this]
  exact aa1 hd
theorem ap0 {b : Nat → Int} {W : Nat} (h : ∀ r, 0 < b r ∧ (b r).natAbs < 2 ^ W) : ∀ n, ∃ z : Int, K0 (fun r => ((b r : Int) : Rat)) n = (z : Rat) ∧ 0 < z ∧ z.natAbs ≤ 2 ^ (W * n)
  | 0 => ⟨1, rfl, by decide, by simp⟩
  | n + 1 => by
    obtain ⟨z, e, p, l⟩ := ap0 h n
    refine ⟨z * b n, ?_, Int.mul_pos p (h n).1, ?_⟩
    · show K0 _ n * _ = _
      rw [e, Rat.intCast_mul]
    · rw [Int.natAbs_mul, Nat.mul_succ, Nat.pow_add]
      exact Nat.mul_le_mul l (Nat.le_of_lt (h n).2)
theorem Sc.minor {W : Nat} {B : Mt} (h : Sc W B) {k i j : Nat} (hk : k < 15) (hd : dt k B ≠ 0) {x : Rat} (e : x * dt k B = mi B k i j) : x.num.natAbs ≤ 2 ^ ((W + 4) * (k + 1)) ∧ x.den ≤ 2 ^ (W + (W + 4) * k) := by
  obtain ⟨b, hb⟩ := h
  have hb' : ∀ r, 0 < b r ∧ (b r).natAbs < 2 ^ W := fun r => ⟨(hb r).1, (hb r).2.1⟩
  obtain ⟨D, eD, bD⟩ := ae2 (W := W) (n := k) (M := fun r c => ((b r : Int) : Rat) * B r c) (by omega) fun r c => (hb r).2.2 c
  obtain ⟨m, em, bm⟩ := ae2 (W := W) (n := k + 1) (M := fun r c => (fun r => ((b (if r = k then i else r) : Int) : Rat)) r * bnd B k i j r c) (by omega) fun r c => (hb _).2.2 _
  rw [ai3] at eD em
  obtain ⟨P, eP, pP, _⟩ := ap0 hb' k
  have e1 : K0 (fun r => ((b (if r = k then i else r) : Int) : Rat)) (k + 1) = (P : Rat) * ((b i : Int) : Rat) := by
    show K0 _ k * ((b (if k = k then i else k) : Int) : Rat) = _
    rw [if_pos rfl, ← eP, aa8 fun r hr => by show ((b (if r = k then i else r) : Int) : Rat) = ((b r : Int) : Rat); rw [if_neg (by omega)]]
  have D0 : D ≠ 0 := fun z => by
    rw [z, eP] at eD
    rcases Rat.mul_eq_zero.mp eD with y | y
    · have : P = 0 := Rat.intCast_inj.mp y
      omega
    · exact hd y
  have := aj5 (x := x) (d := b i * D) (m := m) (by
    rw [← em, e1, Rat.intCast_mul, ← eD, eP]
    show _ = _ * mi B k i j
    rw [← e]; grind) (Int.mul_ne_zero (Int.ne_of_gt (hb i).1) D0)
  refine ⟨Nat.le_trans this.1 bm, Nat.le_trans this.2 ?_⟩
  rw [Int.natAbs_mul, Nat.pow_add]
  exact Nat.mul_le_mul (Nat.le_of_lt (hb i).2.1) bD
theorem Sc.det {W : Nat} {B : Mt} (h : Sc W B) {k : Nat} (hk : k < 15) : (dt k B).num.natAbs ≤ 2 ^ ((W + 4) * k) ∧ (dt k B).den ≤ 2 ^ (W * k) := by
  obtain ⟨b, hb⟩ := h
  have hb' : ∀ r, 0 < b r ∧ (b r).natAbs < 2 ^ W := fun r => ⟨(hb r).1, (hb r).2.1⟩
  obtain ⟨D, eD, bD⟩ := ae2 (W := W) (n := k) (M := fun r c => ((b r : Int) : Rat) * B r c) (by omega) fun r c => (hb r).2.2 c
  rw [ai3] at eD
  obtain ⟨P, eP, pP, bP⟩ := ap0 hb' k
  have := aj5 (x := dt k B) (d := P) (m := D) (by rw [← eD, eP]; grind) (by omega)
  exact ⟨Nat.le_trans this.1 bD, Nat.le_trans this.2 bP⟩
def qq (M : List (List Rat)) (i j : Nat) : Rat := aQ ((M[i]?).getD []) j
structure Ld (W n : Nat) (A B : Mt) (sg : Rat) (k : Nat) (M : List (List Rat)) (fd : Rat) : Prop where
  len : M.length = n
  row : ∀ L ∈ M, L.length = n
  ent : ∀ i j, k ≤ i → i < n → k ≤ j → j < n → qq M i j * dt k B = mi B k i j
  zer : ∀ i j, k ≤ i → i < n → j < k → qq M i j = 0
  sc : Sc W B
  sgn : sg = 1 ∨ sg = -1
  det : dt n A = sg * dt n B
  led : ∀ m, 1 ≤ m → m ≤ k → dt m B ≠ 0
  fnd : fd = sg * dt k B
section
variable {W n : Nat} {A B : Mt} {sg fd : Rat} {k : Nat} {M M' : List (List Rat)}
theorem Ld.dk (E : Ld W n A B sg k M fd) : dt k B ≠ 0 := by
  rcases Nat.eq_zero_or_pos k with z | z
  · rw [z]; show (1 : Rat) ≠ 0; decide
  · exact E.led k z (Nat.le_refl _)
theorem Ld.start (len : M.length = n) (row : ∀ L ∈ M, L.length = n) (sc : Sc W (qq M)) : Ld W n (qq M) (qq M) 1 0 M 1 :=
  ⟨len, row, fun i j _ _ _ _ => by rw [V0]; show _ * 1 = _; grind, fun i j _ _ h => by omega, sc, .inl rfl, by grind, fun m h1 h2 => by omega, by show (1 : Rat) = 1 * 1; grind⟩
theorem Ld.swap (E : Ld W n A B sg k M fd) {s : Nat} (hk : k < s) (hs : s < n) (len : M'.length = n) (row : ∀ L ∈ M', L.length = n) (e : ∀ i j, qq M' i j = if i = k then qq M s j else if i = s then qq M k j else qq M i j) : Ld W n A (swU B k s) (-sg) k M' (-fd) := by
  have lead : ∀ m, m ≤ k → dt m (swU B k s) = dt m B := fun m hm => O9 fun r hr c _ => by
    unfold swU
    rw [if_neg (by omega), if_neg (by omega)]
  refine ⟨len, row, fun i j h1 h2 h3 h4 => ?_, fun i j h1 h2 h3 => ?_, E.sc.swU, ?_, ?_, fun m h1 h2 => ?_, ?_⟩
  · rw [e, bd7 hk, lead k (Nat.le_refl _)]
    by_cases a : i = k
    · rw [if_pos a, if_pos a, E.ent s j (by omega) hs h3 h4]
    · rw [if_neg a, if_neg a]
      by_cases b : i = s
      · rw [if_pos b, if_pos b, E.ent k j (Nat.le_refl _) (by omega) h3 h4]
      · rw [if_neg b, if_neg b, E.ent i j h1 h2 h3 h4]
  · rw [e]
    split
    · exact E.zer s j (by omega) hs h3
    · split
      · exact E.zer k j (Nat.le_refl _) (by omega) h3
      · exact E.zer i j h1 h2 h3
  · rcases E.sgn with z | z
    · right; rw [z]
    · left; rw [z]; decide
  · rw [be8 (by omega) hs (by omega), E.det]; grind
  · rw [lead m h2]; exact E.led m h1 h2
  · rw [lead k (Nat.le_refl _), E.fnd]; grind
theorem Ld.step (E : Ld W n A B sg k M fd) (hk : k < n) (h0 : qq M k k ≠ 0) (len : M'.length = n) (row : ∀ L ∈ M', L.length = n) (e : ∀ i j, k < i → i < n → j < n → qq M' i j = qq M i j - qq M i k * (qq M k k)⁻¹ * qq M k j) : Ld W n A B sg (k + 1) M' (fd * qq M k k) := by
  have ekk := E.ent k k (Nat.le_refl _) hk (Nat.le_refl _) hk
  have dk := E.dk
  have next : dt (k + 1) B = qq M k k * dt k B := by rw [ekk, am6]
  have inv := Rat.mul_inv_cancel _ h0
  refine ⟨len, row, fun i j h1 h2 h3 h4 => ?_, fun i j h1 h2 h3 => ?_, E.sc, E.sgn, E.det, fun m h1 h2 => ?_, ?_⟩
  · rw [e i j (by omega) h2 h4, next]
    have sy := aj0 k B E.led i j (by omega) (by omega)
    rw [← ekk, ← E.ent i j (by omega) h2 (by omega) h4, ← E.ent i k (by omega) h2 (Nat.le_refl _) hk, ← E.ent k j (Nat.le_refl _) hk (by omega) h4] at sy
    have key : dt k B * ((qq M i j - qq M i k * (qq M k k)⁻¹ * qq M k j) * (qq M k k * dt k B)) = dt k B * mi B (k + 1) i j := by
      rw [← sy]
      generalize (qq M k k)⁻¹ = u at *
      generalize qq M k k = a at *
      generalize qq M i j = b at *
      generalize qq M i k = c at *
      generalize qq M k j = d at *
      generalize dt k B = f at *
      grind
    have iv := Rat.mul_inv_cancel _ dk
    have := congrArg (fun t => (dt k B)⁻¹ * t) key
    simp only [← Rat.mul_assoc] at this
    rw [Rat.mul_comm (dt k B)⁻¹, iv, Rat.one_mul, Rat.one_mul] at this
    rw [← this]; grind
  · rw [e i j (by omega) h2 (by omega)]
    rcases Nat.lt_or_ge j k with z | z
    · rw [E.zer i j (by omega) h2 z, E.zer k j (Nat.le_refl _) hk z]; grind
    · have : j = k := by omega
      subst this
      generalize (qq M j j)⁻¹ = u at *
      grind
  · rcases Nat.lt_or_ge k m with z | z
    · have : m = k + 1 := by omega
      subst this
      rw [next]
      intro y
      rcases Rat.mul_eq_zero.mp y with y | y
      · exact h0 y
      · exact dk y
    · exact E.led m h1 (by omega)
  · rw [next, E.fnd]; grind
theorem Ld.stuck (E : Ld W n A B sg k M fd) (hk : k < n) (h : ∀ i, k ≤ i → i < n → qq M i k = 0) : dt n A = 0 := by
  rw [E.det, ar5 k n B E.led hk fun i h1 h2 => ?_]
  · grind
  · rw [← E.ent i k h1 h2 (Nat.le_refl _) hk, h i h1 h2]; grind
theorem Ld.done (E : Ld W n A B sg n M fd) : fd = dt n A := by rw [E.fnd, E.det]
theorem Ld.bits (E : Ld W n A B sg k M fd) (n15 : n < 15) {i j : Nat} (h1 : k ≤ i) (h2 : i < n) (h4 : j < n) : (qq M i j).num.natAbs ≤ 2 ^ ((W + 4) * (n + 1)) ∧ (qq M i j).den ≤ 2 ^ ((W + 4) * (n + 1)) := by
  rcases Nat.lt_or_ge j k with z | z
  · rw [E.zer i j h1 h2 z]
    exact ⟨Nat.zero_le _, Nat.one_le_two_pow⟩
  · have := E.sc.minor (by omega) E.dk (E.ent i j h1 h2 z h4)
    refine ⟨Nat.le_trans this.1 (Nat.pow_le_pow_right (by decide) (Nat.mul_le_mul_left _ (by omega))), Nat.le_trans this.2 (Nat.pow_le_pow_right (by decide) ?_)⟩
    have := Nat.mul_le_mul_left (W + 4) (show k ≤ n by omega)
    rw [Nat.mul_succ]; omega
theorem Ld.fbits (E : Ld W n A B sg k M fd) (n15 : n < 15) (hk : k ≤ n) : fd.num.natAbs ≤ 2 ^ ((W + 4) * n) ∧ fd.den ≤ 2 ^ ((W + 4) * n) := by
  have := E.sc.det (k := k) (by omega)
  have e : fd.num.natAbs = (dt k B).num.natAbs ∧ fd.den = (dt k B).den := by
    rcases E.sgn with z | z
    · rw [E.fnd, z, Rat.one_mul]; exact ⟨rfl, rfl⟩
    · rw [E.fnd, z, show (-1 : Rat) * dt k B = - dt k B by grind, Rat.neg_num, Rat.neg_den, Int.natAbs_neg]; exact ⟨rfl, rfl⟩
  rw [e.1, e.2]
  refine ⟨Nat.le_trans this.1 (Nat.pow_le_pow_right (by decide) (Nat.mul_le_mul_left _ hk)), Nat.le_trans this.2 (Nat.pow_le_pow_right (by decide) ?_)⟩
  have := Nat.mul_le_mul (show W ≤ W + 4 by omega) hk
  exact this
end
section
variable {P : Program} {w : World} {K : PySem.W.Frag} {mg : Str → Option Value} {base : Heap}
def bpN : List (List Rat) → Nat
  | [] => 1
  | L :: Ls => w5 L * bpN Ls
theorem aV3 (X : List (List Rat)) (L : List Rat) : bpN (X ++ [L]) = bpN X * w5 L := by
  induction X with
  | nil => show w5 L * 1 = 1 * w5 L; omega
  | cons Y Ys ih => show w5 Y * bpN (Ys ++ [L]) = w5 Y * bpN Ys * w5 L; rw [ih, Nat.mul_assoc]
theorem aL3 : ∀ X : List (List Rat), 0 < bpN X
  | [] => Nat.one_pos
  | L :: Ls => Nat.mul_pos (U2 L) (aL3 Ls)
theorem aI5 {W : Nat} : ∀ {X : List (List Rat)}, (∀ L ∈ X, ClN W L) → bpN X ≤ 2 ^ (W * X.length)
  | [], _ => by show 1 ≤ _; exact Nat.one_le_two_pow
  | L :: Ls, h => by
    show w5 L * bpN Ls ≤ 2 ^ (W * (Ls.length + 1))
    rw [Nat.mul_succ, Nat.add_comm, Nat.pow_add]
    exact Nat.mul_le_mul (Nat.le_of_lt (h L List.mem_cons_self).l) (aI5 fun L' h' => h L' (List.mem_cons_of_mem _ h'))
theorem aF0 : ∀ X : List (List Rat), K0 (fun r => ((w5 ((X[r]?).getD []) : Nat) : Rat)) X.length = ((bpN X : Nat) : Rat)
  | [] => rfl
  | L :: Ls => by
    rw [List.length_cons, O6]
    have := aF0 Ls
    show ((w5 L : Nat) : Rat) * K0 (fun r => ((w5 ((Ls[r]?).getD []) : Nat) : Rat)) Ls.length = ((w5 L * bpN Ls : Nat) : Rat)
    rw [this, Rat.natCast_mul]
def ao0 (M : List (List Rat)) : List (List Int) := M.map fun L => M4 (w5 L) L
theorem aU3 {n : Nat} {M : List (List Rat)} (ln : M.length = n) (lm : ∀ L ∈ M, L.length = n) : dt n (mZ (ao0 M)) = ((bpN M : Nat) : Rat) * dt n (qq M) := by
  rw [← aF0, ln, ← ai3]
  refine O9 fun r hr c hc => ?_
  have e := List.getElem?_eq_getElem (l := M) (i := r) (by omega)
  generalize M[r]'(by omega) = L at e
  have lL := lm L (List.mem_of_getElem? e)
  unfold mZ zz qq ao0
  rw [List.getElem?_map, e]
  show ((aZ (M4 (w5 L) L) c : Int) : Rat) = ((w5 L : Nat) : Rat) * aQ L c
  have ec := List.getElem?_eq_getElem (l := L) (i := c) (by omega)
  generalize L[c]'(by omega) = q at ec
  have we := aP1 (U2 L) (ae3 (List.mem_of_getElem? ec))
  unfold aZ aQ M4
  rw [List.getElem?_map, ec]
  show ((q.num * ((w5 L : Nat) : Int).fdiv (q.den : Int) : Int) : Rat) = ((w5 L : Nat) : Rat) * q
  generalize q.num * ((w5 L : Nat) : Int).fdiv (q.den : Int) = z at *
  have l0 : (((w5 L : Nat) : Int) : Rat) ≠ 0 := fun y => by
    have : ((w5 L : Nat) : Int) = 0 := Rat.intCast_inj.mp y
    have := U2 L
    omega
  rw [we, Rat.divInt_eq_div]
  show _ = (((w5 L : Nat) : Int) : Rat) * _
  rw [Rat.mul_comm, Rat.div_mul_cancel l0]
def ao8 (K : PySem.W.Frag) : Sp := fun vs H Q _ => ∃ (a : Addr) (ts : List Addr) (M : List (List Rat)) (n W : Nat), vs = [.ref a] ∧ SqL K H a (ts.map V.ref) ∧ B9 K H ts M ∧ M.length = n ∧ (∀ L ∈ M, L.length = n ∧ ClN W L) ∧ n ≤ 15 ∧ eV W n n + eU W n ≤ 5900 ∧
  ∀ r H', d7 H H' → NmC K H' r (dt n (qq M)) → Q (.ref r) H'
abbrev C9 : Stmt := top 33
theorem v4 : j7 ["table", "rows", "bottom", "row", "many", "divisor", "wholes", "row_bottom"] ["table"] (d3 C9) := by and_intros
set_option maxHeartbeats 0 in
theorem ap9 {f f1 f2 f3 aN : Addr} (d : Df K mg "determinant" C9 ["table"] f) (G_cleared : Def P w K mg base CX0 2 "cleared" f1 ["numbers"] (ad7 K)) (G_eliminated : Def P w K mg base CX0 2 "eliminated" f2 ["rows"] (ax2 K)) (G_fraction : Def P w K mg base CX0 2 "fraction" f3 ["top", "bottom"] aa4) (c_NOUGHT : mg "NOUGHT" = some (.ref aN)) (tN : ∀ H, SqT K H aN (F0 0)) (n_len : mg "len" = none) : Def P w K mg base CX0 3 "determinant" f ["table"] (ao8 K) := by
  refine d.ok (N := ["table", "rows", "bottom", "row", "many", "divisor", "wholes", "row_bottom"]) v4 (by rintro vs H Q E ⟨_, _, _, _, _, h, _⟩; rw [h]; rfl) (fun cdv A outer s H vs Q E hr h => ?_)
  obtain ⟨a, ts, M, n, W, rfl, hA, hR, ln, lm, n15, hV, kk⟩ := h
  subst ln
  refine ⟨_, (d6 (m6 (i := 1) v4.nd rfl (Or.inl rfl) (L7 d2))
      (d6 (m6 (i := 2) v4.nd rfl (Or.inl rfl) d4)
      (d6 (T4 PassesOwn.never rfl (O7 (pv 0)) (i7 (i := 3) v4.nd rfl (Or.inl rfl)) (d6 (ac3 (i5 G_cleared hr (b7 (pv 3) d2) m3) (show PG _ _ (ak3 K 2 (K3 (C7 6) (K3 (C7 7) ak4))) from by (refine V6 (n := 2) ?_ ?_ ?_ ?_; rfl; (refine v5 ?_ ?_ ?_; (exact (i7 (i := 6) v4.nd rfl (Or.inl rfl))); (refine v5 ?_ ?_ ?_; (exact (i7 (i := 7) v4.nd rfl (Or.inl rfl))); (exact P7); rfl); rfl); rfl; rfl)))
      (d6 (ah2 (ap4 PySem.F.plainAttrs_list PySem.F.slot_list_append PySem.F.type_list_append O0 (pv 1) (b7 (pv 6) d2)))
      (d8 (bc6 (i := 2) v4.nd rfl (Or.inl rfl) (pv 7) be4)))))
      (d6 (ac3 (i5 G_eliminated hr (b7 (pv 1) d2) m3) (show PG _ _ (ak3 K 3 (K3 (C7 4) (K3 (C7 5) (K3 (C7 1) ak4)))) from by (refine V6 (n := 3) ?_ ?_ ?_ ?_; rfl; (refine v5 ?_ ?_ ?_; (exact (i7 (i := 4) v4.nd rfl (Or.inl rfl))); (refine v5 ?_ ?_ ?_; (exact (i7 (i := 5) v4.nd rfl (Or.inl rfl))); (refine v5 ?_ ?_ ?_; (exact (i7 (i := 1) v4.nd rfl (Or.inl rfl))); (exact P7); rfl); rfl); rfl); rfl; rfl)))
      (d8 (j1 (ah3 (t6 al2 (pv 4) (d9 m4 rfl n_len (by decide +kernel) (b7 (pv 0) d2)) (t5 _)) (i5 G_fraction hr (b7 (pv 5) (b7 (pv 2) d2)) m3) (A7 (v := .ref _) rfl c_NOUGHT rfl)))))))), ?_⟩
  rw [show start ["table", "rows", "bottom", "row", "many", "divisor", "wholes", "row_bottom"] [.ref a] = [some (.ref a), none, none, none, none, none, none, none] from rfl]
  simp! [ad7, ax2, aa4]
  have tl : ts.length = M.length := hR.length
  have W5 : W ≤ 5900 := by
    have : W ≤ eV W M.length M.length := Nat.le_add_right _ _
    omega
  have Wn : W * M.length ≤ 5900 := by
    have : W * M.length ≤ eU W M.length := Nat.le_trans (Nat.mul_le_mul_right _ (Nat.le_add_right _ _)) (Nat.le_add_right _ _)
    omega
  refine ⟨by decide, fun l hl => ?_⟩
  obtain ⟨I, hI⟩ : ∃ I : Nat → L2.St → Hp → Prop, ∀ i σ H1, I i σ H1 ↔ d7 H H1 ∧ ∃ (us : List Addr) (o3 o4 o5 o6 o7 : Option V), σ = [some (.ref a), some (.ref l), some (.int (bpN (M.take i) : Nat)), o3, o4, o5, o6, o7] ∧ H1 l = some (.lst (us.map V.ref)) ∧ l ∉ us ∧ RwZ H1 us (ao0 (M.take i)) := ⟨_, fun _ _ _ => Iff.rfl⟩
  refine ⟨_, rfl, a, rfl, ⟨_, (d7.new hl _).seq hA⟩, ar2 (xs := ts.map V.ref) I ((hI _ _ _).mpr ⟨d7.new hl _, [], _, _, _, _, _, rfl, d5, by simp, .nil⟩) (fun i σ H1 _ h => ((hI _ _ _).mp h).1.seq hA) ?_ ?_⟩
  · rintro i x σ H1 hx h
    obtain ⟨S, us, o3, o4, o5, o6, o7, rfl, el, nl, hU⟩ := (hI _ _ _).mp h
    obtain ⟨p, hp, rfl⟩ := ac2 hx
    obtain ⟨xs, L, e1, e2, e3⟩ := hR.get hp
    have hm := List.mem_of_getElem? e1
    have hi : i < M.length := (List.getElem?_eq_some_iff.mp e1).1
    obtain ⟨lL, cL⟩ := lm L hm
    simp! [ad7]
    have eh : H1 p = some (.lst xs) := S _ _ e2
    refine ⟨_, SqL.of eh, L, e3.mono S.tups, ⟨W, cL, by omega⟩, by omega, fun r l1 H2 s2 f1 er el1 => ?_⟩
    have el2 := s2 _ _ el
    have nll : l ≠ l1 := fun z => by rw [z, f1] at el; cases el
    refine ⟨_, SqT.of er, rfl, _, _, rfl, _, _, rfl, rfl, .inl ⟨_, SqL.of el2⟩, _, el2, ?_, _, rfl, ?_, ?_⟩
    · rw [List.length_map, hU.length, ao0, List.length_map, List.length_take]
      exact Nat.lt_of_lt_of_le (show _ < 100 by omega) (by decide)
    · refine Y4 (m := W * 15 + 1) (n := W) ?_ ?_ ?_
      · have b1 := aI5 (W := W) (X := M.take i) fun L' h' => (lm L' (List.mem_of_mem_take h')).2
        rw [List.length_take] at b1
        rw [Int.natAbs_natCast]
        refine Nat.lt_of_le_of_lt (Nat.le_trans b1 (Nat.pow_le_pow_right (by decide) (Nat.mul_le_mul_left W (show _ ≤ 15 by omega)))) ?_
        rw [Nat.pow_succ]
        have := Nat.two_pow_pos (W * 15)
        omega
      · rw [Int.natAbs_natCast]; exact cL.l
      · omega
    · have tk := m5 e1
      refine (hI _ _ _).mpr ⟨(S.trans s2).over hl _, us ++ [l1], some (.ref p), o4, o5, some (.ref l1), some (.int (w5 L : Nat)), ?_, ?_, ?_, ?_⟩
      · rw [tk, aV3, Int.natCast_mul]
      · rw [d5, List.map_append]; rfl
      · intro z
        rcases List.mem_append.mp z with z | z
        · exact nl z
        · exact nll (List.mem_singleton.mp z)
      · rw [tk]
        unfold ao0
        rw [List.map_append]
        refine RwZ.over ?_ ((hU.same s2).append (.cons el1 .nil))
        intro z
        rcases List.mem_append.mp z with z | z
        · exact nl z
        · exact nll (List.mem_singleton.mp z)
  · rintro σ H1 h
    obtain ⟨S, us, o3, o4, o5, o6, o7, rfl, el, nl, hU⟩ := (hI _ _ _).mp h
    rw [List.length_map, tl, List.take_length] at *
    simp! [ax2, aa4]
    have lw : (ao0 M).length = M.length := List.length_map _
    refine ⟨us, SqL.of el, ao0 M, hU, ?_, W, ?_, by omega, by rw [lw]; omega, fun r mn dv b H2 s2 er alt => ?_⟩
    · intro L' h'
      obtain ⟨L, hL, rfl⟩ := List.mem_map.mp h'
      rw [lw, M4, List.length_map]; exact (lm L hL).1
    · intro L' h' v hv
      obtain ⟨L, hL, rfl⟩ := List.mem_map.mp h'
      exact (lm L hL).2.w v hv
    rw [lw, aU3 rfl fun L hL => (lm L hL).1] at alt
    have bp := aL3 M
    have b0 : (((bpN M : Nat) : Int) : Rat) ≠ 0 := fun y => by
      have : ((bpN M : Nat) : Int) = 0 := Rat.intCast_inj.mp y
      omega
    refine ⟨_, SqT.of er, rfl, _, _, rfl, _, _, rfl, _, _, rfl, rfl, _, .inl ((S.trans s2).seq hA), rfl, ?_⟩
    rw [List.length_map, hR.length]
    rcases alt with ⟨em, ed⟩ | ⟨em, ed⟩
    · rw [if_pos (by rw [em])]
      refine ⟨_, rfl, ?_, by omega, fun r3 H3 s3 e3 => kk r3 H3 ((S.trans s2).trans s3) (.inl ?_)⟩
      · rw [Int.natAbs_natCast]
        have := aI5 (W := W) fun L hL => (lm L hL).2
        exact Nat.lt_of_le_of_lt this (Nat.lt_of_le_of_lt (Nat.pow_le_pow_right (by decide) Wn) (Nat.pow_lt_pow_right (by decide) (by decide)))
      · rw [e3, Rat.divInt_eq_div, ed]
        show some (HO.tup (F0 ((((bpN M : Nat) : Int) : Rat) * _ / _))) = _
        rw [Rat.mul_comm, Rat.mul_div_cancel b0]
    · rw [if_neg (fun z => em (by have := V.int.inj z; omega))]
      refine kk aN H2 (S.trans s2) (.inr ?_)
      rcases Rat.mul_eq_zero.mp ed with z | z
      · exact absurd z b0
      · rw [z]; exact tN
end
section
variable {P : Program} {w : World} {K : PySem.W.Frag} {mg : Str → Option Value} {base : Heap}
def atQ (qs : List Rat) (k : Int) : Rat := if 0 ≤ k then aQ qs k.toNat else 0
def E9 (qs : List Rat) (n i : Nat) : List Rat := (List.range n).map fun (c : Nat) => atQ qs ((n : Int) - 1 - 2 * (c : Int) + (i : Int))
def A9 (qs : List Rat) (n : Nat) : List (List Rat) := (List.range n).map (E9 qs n)
def am2 (K : PySem.W.Frag) : Sp := fun vs H Q _ => ∃ (a : Addr) (xs : List V) (qs : List Rat) (k : Int), vs = [.ref a, .int k] ∧ SqL K H a xs ∧ A8 K H xs qs ∧ ∀ r, NmC K H r (atQ qs k) → Q (.ref r) H
abbrev K8 : Stmt := top 35
theorem ax6 : j7 ["p", "power"] ["p", "power"] (d3 K8) := by and_intros
set_option maxHeartbeats 0 in
theorem az2 {f aN : Addr} (d : Df K mg "number_at" K8 ["p", "power"] f) (c_NOUGHT : mg "NOUGHT" = some (.ref aN)) (tN : ∀ H, SqT K H aN (F0 0)) (n_len : mg "len" = none) : Def P w K mg base CX0 1 "number_at" f ["p", "power"] (am2 K) := by
  refine d.ok (N := ["p", "power"]) ax6 (by rintro vs H Q E ⟨_, _, _, _, h, _⟩; rw [h]; rfl) (fun cdv A outer s H vs Q E hr h => ?_)
  obtain ⟨a, xs, qs, k, rfl, hA, hN, kk⟩ := h
  refine ⟨_, (d8 (j1 (ah3 (aC2 aJ9 ap6 d4 (pv 1) (d9 m4 rfl n_len (by decide +kernel) (b7 (pv 0) d2))) (j9 j5 (pv 0) (pv 1) (fun _ _ => rfl)) (A7 (v := .ref _) rfl c_NOUGHT rfl)))), ?_⟩
  rw [show start ["p", "power"] [.ref a, .int k] = [some (.ref a), some (.int k)] from rfl]
  subst_eqs
  have lx := hN.length
  refine K5 (fun h1 => ⟨xs, .inl hA, K5 (fun h2 => ?_) (fun h2 => ?_)⟩) (fun h1 => kk aN (.inr ?_))
  · obtain ⟨j, rfl⟩ : ∃ j : Nat, k = (j : Int) := ⟨k.toNat, by omega⟩
    have hj : j < qs.length := by omega
    have e := List.getElem?_eq_getElem hj
    obtain ⟨p, e1, e2⟩ := hN.get e
    refine ⟨xs, hA, _, u0 e1, kk p ?_⟩
    have : atQ qs (j : Int) = qs[j] := by
      unfold atQ aQ
      rw [if_pos (by omega), Int.toNat_natCast, e]; rfl
    rw [this]; exact e2
  · refine kk aN (.inr ?_)
    have : atQ qs k = 0 := by
      unfold atQ aQ
      rw [if_pos h1, List.getElem?_eq_none (by omega)]; rfl
    rw [this]; exact tN
  · have : atQ qs k = 0 := by
      unfold atQ
      rw [if_neg h1]
    rw [this]; exact tN
def aJ2 (K : PySem.W.Frag) (C : Addr) : Sp := fun vs H Q E => ∃ (a : Addr) (xs : List V) (qs : List Rat), vs = [.ref a] ∧ SqL K H a xs ∧ A8 K H xs qs ∧ qs.length ≤ 16 ∧ (qs.length < 2 → E (.ref C) none H) ∧ (2 ≤ qs.length → aB2 K H Q (A9 qs (qs.length - 1)))
abbrev U6 : Stmt := top 36
theorem aB7 : j7 ["p", "n"] ["p"] (d3 U6) := by and_intros
set_option maxHeartbeats 0 in
theorem aR9 {f f1 C : Addr} (d : Df K mg "steep" U6 ["p"] f) (G_number_at : Def P w K mg base CX0 1 "number_at" f1 ["p", "power"] (am2 K)) (x_NoPolynomial : ExT K mg "NoPolynomial" C) (n_len : mg "len" = none) (n_range : mg "range" = none) : Def P w K mg base (CXR P w) 2 "steep" f ["p"] (aJ2 K C) := by
  refine d.okR (N := ["p", "n"]) aB7 (by rintro vs H Q E ⟨_, _, _, h, _⟩; rw [h]; rfl) (fun cdv A outer s H vs Q E hr h => ?_)
  obtain ⟨a, xs, qs, rfl, hA, hN, l16, k1, k2⟩ := h
  refine ⟨_, (d6 (m6 (i := 1) aB7.nd rfl (Or.inr rfl) (i4 U1 (d9 m4 rfl n_len (by decide +kernel) (b7 (pv 0) d2)) d4))
      (d6 (C2 (t6 ap6 (pv 1) d4 (t5 _)) (d8 (aC5 x_NoPolynomial.ox PySem.F.excBase_ValueError rfl rfl x_NoPolynomial.m au8 (b7 K1 d2))) v0)
      (d8 (j1 (ah4 (Nc := ["p", "n", "row"]) (caps := [some 0, some 1, none]) rfl (ai7.of (osc := d3 U6) (N := ["p", "n"]) (ks := ["p", "n"]) rfl rfl rfl rfl (j0 rfl (j0 rfl v3)) (by decide +kernel)) (C3 rfl n_range (b7 (pv 1) d2)) (fun C s₂ H₂ fp pins => (i7 (i := 2) (show List.Nodup (["p", "n", "row"] : List Str) by decide +kernel) rfl (Or.inr rfl) (Or.inl rfl))) (fun C s₂ H₂ fp pins => (E7 (Nc := ["row", "p", "n", "column"]) (caps := [some 2, some 0, some 1, none]) rfl (Q8.of (osc := _) (N := ["p", "n", "row"]) (ks := ["row", "p", "n"]) rfl rfl rfl rfl (j0 rfl (j0 rfl (j0 rfl v3))) (by kernel_rfl)) (C3 rfl n_range (b7 (pv 1) d2)) (fun C s₂ H₂ fp pins => (i7 (i := 3) (show List.Nodup (["row", "p", "n", "column"] : List Str) by decide +kernel) rfl (Or.inl rfl) (Or.inr rfl))) (fun C s₂ H₂ fp pins => (i5 G_number_at hr (b7 (pv 1) (b7 (i4 E4 (i4 U1 (i4 U1 (pv 2) d4) (i4 B7 d4 (pv 3))) (pv 0)) d2)) m3))))))))), ?_⟩
  rw [show start ["p", "n"] [.ref a] = [some (.ref a), none] from rfl]
  subst_eqs
  have lx := hN.length
  refine ⟨xs, .inl hA, K5 (fun h1 => ⟨by decide, k1 (by omega)⟩) (fun h1 => ?_)⟩
  obtain ⟨n, hn⟩ : ∃ n : Nat, qs.length = n + 1 := ⟨qs.length - 1, by omega⟩
  have k2 := k2 (by omega)
  rw [hn, Nat.add_sub_cancel] at k2
  have en : ((xs.length : Int) - 1) = (n : Int) := by omega
  rw [en]
  refine ⟨by omega, by omega, fun D hD => ?_⟩
  refine Q7 (fun i σ H2 => ∃ o, σ = [some (.ref a), some (.int n), o] ∧ W6 K H D ((A9 qs n).take i) H2) ⟨_, rfl, W6.start hD⟩ ?_ ?_
  · rintro i σ H2 hi ⟨o, rfl, T⟩
    simp! [am2]
    have hi' : i < n := by omega
    refine ⟨by omega, by omega, fun D2 hD2 => ?_⟩
    refine Q7 (fun j σ H3 => ∃ o, σ = [some (.int (0 + i)), some (.ref a), some (.int n), o] ∧ ad3 K H2 D2 ((E9 qs n i).take j) H3) ⟨_, rfl, ad3.start hD2⟩ ?_ ?_
    · rintro j σ H3 hj ⟨o, rfl, R⟩
      have hj' : j < n := by omega
      simp! [am2]
      have hg : (E9 qs n i)[j]? = some (atQ qs ((n : Int) - 1 - 2 * (j : Int) + (i : Int))) := by unfold E9; rw [List.getElem?_map, ay0 hj']; rfl
      refine ⟨Y4 (m := 2) (n := 20) (by decide) (Nat.lt_of_lt_of_le (show _ < 100 by omega) (by decide)) (by decide), xs, (T.same.trans R.same).seq hA, qs, hN.mono (T.same.trans R.same).tups, fun r hr => ?_⟩
      rw [Int.zero_add, Int.zero_add] at hr
      obtain ⟨ys, eD, yl, R'⟩ := R.add hD2 (fun b o h => h) hr
      refine v7.mk hj eD (F9 (by rw [yl, List.length_take]; omega)) ⟨_, rfl, ?_⟩
      rw [m5 hg]
      exact R'
    · rintro σ H3 ⟨o, rfl, R⟩
      rw [B3 (by simp [E9])] at R
      obtain ⟨ys, eD, yl, T'⟩ := T.add hD hD2 R
      refine v7.mk hi eD (F9 (by rw [yl, List.length_take]; omega)) ⟨_, rfl, ?_⟩
      rw [m5 (show (A9 qs n)[i]? = some (E9 qs n i) by unfold A9; rw [List.getElem?_map, ay0 hi']; rfl)]
      exact T'
  · rintro σ H2 ⟨o, rfl, T⟩
    rw [B3 (by simp [A9])] at T
    exact T.res k2 hD
def P3 (M : List (List Rat)) (m : Nat) : List (List Rat) := (M.take m).map fun L => L.take m
def aw8 (K : PySem.W.Frag) : Sp := fun vs H Q _ => ∃ (a : Addr) (ts : List Addr) (M : List (List Rat)) (n W : Nat), vs = [.ref a] ∧ SqL K H a (ts.map V.ref) ∧ B9 K H ts M ∧ M.length = n ∧ (∀ L ∈ M, L.length = n ∧ ∀ m, ClN W (L.take m)) ∧ n ≤ 15 ∧ eV W n n + eU W n ≤ 5900 ∧
  ∀ r ys H', d7 H H' → H r = none → H' r = some (.lst ys) → A8 K H' ys ((List.range n).map fun m => dt (m + 1) (qq (P3 M (m + 1)))) → Q (.ref r) H'
abbrev U8 : Stmt := top 39
theorem aQ4 : j7 ["table"] ["table"] (d3 U8) := by and_intros
set_option maxHeartbeats 0 in
theorem aS1 {f f1 : Addr} (d : Df K mg "leads" U8 ["table"] f) (G_determinant : Def P w K mg base CX0 3 "determinant" f1 ["table"] (ao8 K)) (n_len : mg "len" = none) (n_range : mg "range" = none) : Def P w K mg base CX0 4 "leads" f ["table"] (aw8 K) := by
  refine d.ok (N := ["table"]) aQ4 (by rintro vs H Q E ⟨_, _, _, _, _, h, _⟩; rw [h]; rfl) (fun cdv A outer s H vs Q E hr h => ?_)
  obtain ⟨a, ts, M, n, W, rfl, hA, hR, ln, lm, n15, hV, kk⟩ := h
  refine ⟨_, (d8 (j1 (ah4 (Nc := ["table", "many"]) (caps := [some 0, none]) rfl (ai7.of (osc := d3 U8) (N := ["table"]) (ks := ["table"]) rfl rfl rfl rfl (j0 rfl v3) (by decide +kernel)) (Y1 rfl n_range (b7 d4 (b7 (i4 E4 (d9 m4 rfl n_len (by decide +kernel) (b7 (pv 0) d2)) d4) d2))) (fun C s₂ H₂ fp pins => (i7 (i := 1) (show List.Nodup (["table", "many"] : List Str) by decide +kernel) rfl (Or.inr rfl) (Or.inl rfl))) (fun C s₂ H₂ fp pins => (i5 G_determinant hr (b7 (E7 (Nc := ["many", "row"]) (caps := [some 1, none]) rfl (Q8.of (osc := _) (N := ["table", "many"]) (ks := ["many"]) rfl rfl rfl rfl (j0 rfl v3) (by kernel_rfl)) (show PI _ _ _ (aE2 K _) from by exact (O7 (A4 (by exact M6 : SlR _ (aG4 K)) (pv 0) C1 (B6 (pv 1))))) (fun C s₂ H₂ fp pins => (i7 (i := 1) (show List.Nodup (["many", "row"] : List Str) by decide +kernel) rfl (Or.inl rfl) (Or.inr rfl))) (fun C s₂ H₂ fp pins => (A4 (by exact M6 : SlR _ (aG4 K)) (pv 1) C1 (B6 (pv 0))))) d2) m3))))), ?_⟩
  rw [show start ["table"] [.ref a] = [some (.ref a)] from rfl]
  subst_eqs
  subst ln
  have tl : (ts.map V.ref).length = M.length := by rw [List.length_map, hR.length]
  refine ⟨_, .inl hA, by decide, by decide, by omega, by omega, fun D hD => ?_⟩
  obtain ⟨lq, hlq⟩ : ∃ lq, lq = (List.range M.length).map fun m => dt (m + 1) (qq (P3 M (m + 1))) := ⟨_, rfl⟩
  rw [← hlq] at kk
  have ll : lq.length = M.length := by rw [hlq, List.length_map, List.length_range]
  refine Q7 (fun i σ H2 => ∃ o, σ = [some (.ref a), o] ∧ ad3 K H D (lq.take i) H2) ⟨_, rfl, ad3.start hD⟩ ?_ ?_
  · rintro i σ H2 hi ⟨o, rfl, R⟩
    have hi' : i < M.length := by omega
    have hg : lq[i]? = some (dt (i + 1) (qq (P3 M (i + 1)))) := by rw [hlq, List.getElem?_map, ay0 hi']; rfl
    simp! [ao8]
    have A2 := R.same.seq hA
    have R2 := hR.same R.same
    rw [show (1 + (i : Int)) = ((i + 1 : Nat) : Int) by omega]
    refine ⟨_, A2, fun p hp => ?_⟩
    rw [P0 _ (show i + 1 ≤ (ts.map V.ref).length by omega)]
    obtain ⟨H3, y3, X, g3⟩ := t7 (.lst ((ts.map V.ref).take (i + 1))) hp
    rw [← y3]
    have R3 := R2.same X
    have lQ : (P3 M (i + 1)).length = i + 1 := by unfold P3; rw [List.length_map, List.length_take]; omega
    refine ⟨⟨_, SqL.of g3⟩, fun D2 hD2 => ?_⟩
    have lt' : ((ts.map V.ref).take (i + 1)).length = i + 1 := by rw [List.length_take]; omega
    refine ab2 ((ts.map V.ref).take (i + 1)) (fun j σ H4 => ∃ o, σ = [some (.int ((i + 1 : Nat) : Int)), o] ∧ W6 K H3 D2 ((P3 M (i + 1)).take j) H4) ⟨_, rfl, W6.start hD2⟩ (fun j σ H4 _ ⟨_, _, T⟩ => SqL.of (T.same _ _ g3)) ?_ ?_
    · rintro j x σ H4 hx ⟨o, rfl, T⟩
      have hj := (List.getElem?_eq_some_iff.mp hx).1
      rw [lt'] at hj
      rw [List.getElem?_take_of_lt hj] at hx
      obtain ⟨t, ht, rfl⟩ := ac2 hx
      obtain ⟨xs, L, e1, e2, e3⟩ := R3.get ht
      obtain ⟨lL, cL⟩ := lm L (List.mem_of_getElem? e1)
      have lx := e3.length
      have hgj : (P3 M (i + 1))[j]? = some (L.take (i + 1)) := by
        unfold P3
        rw [List.getElem?_map, List.getElem?_take_of_lt hj, e1]; rfl
      subst_eqs
      refine ⟨xs, SqL.of (T.same _ _ e2), fun q hq => ?_⟩
      rw [P0 _ (show i + 1 ≤ xs.length by omega)]
      have Rq : ad3 K H4 q (L.take (i + 1)) (upd H4 q (.lst (xs.take (i + 1)))) := ⟨d7.new hq _, _, d5, ((e3.take (i + 1)).mono T.same.tups).mono (d7.new hq _).tups⟩
      obtain ⟨ys, eD, yl, T'⟩ := T.add hD2 hq Rq
      refine v7.mk (by rw [lt']; exact hj) eD (F9 (by rw [yl, List.length_take]; omega)) ⟨_, rfl, ?_⟩
      rw [m5 hgj]
      exact T'
    · rintro σ H4 ⟨o, rfl, T⟩
      rw [B3 (by omega)] at T
      obtain ⟨s4, us, e4, _, _, R4⟩ := T
      have eb : eV W (i + 1) (i + 1) + eU W (i + 1) ≤ 5900 := by
        have h1 : eU W (i + 1) ≤ eU W M.length := Nat.add_le_add_right (Nat.mul_le_mul_left _ (by omega)) _
        have h2 : eV W (i + 1) (i + 1) ≤ eV W M.length M.length := Nat.add_le_add_left (Nat.mul_le_mul (by omega) (by omega)) _
        omega
      refine ⟨D2, rfl, us, SqL.of e4, P3 M (i + 1), R4, W, fun L' h' => ?_, by omega, by rw [lQ]; exact eb, fun r H5 s5 hr => ?_⟩
      · rw [lQ]
        unfold P3 at h'
        obtain ⟨L, hL, rfl⟩ := List.mem_map.mp h'
        obtain ⟨lL, cL⟩ := lm L (List.mem_of_mem_take hL)
        exact ⟨by rw [List.length_take]; omega, cL _⟩
      · rw [lQ] at hr
        obtain ⟨ys, eD, yl, R'⟩ := R.add hD (X.trans (s4.trans s5)) hr
        refine v7.mk hi eD (F9 (by rw [yl, List.length_take]; omega)) ⟨_, rfl, ?_⟩
        rw [m5 hg]
        exact R'
  · rintro σ H2 ⟨o, rfl, R⟩
    rw [B3 (by omega)] at R
    obtain ⟨s2, ys, e, n2⟩ := R
    exact kk D ys H2 s2 hD e n2
end
section
variable {P : Program} {w : World} {K : PySem.W.Frag} {mg : Str → Option Value} {base : Heap}
def ag4 (K : PySem.W.Frag) : Sp := fun vs H Q _ => ∃ v d, vs = [v] ∧ IsD K H v d ∧ Q (.bl (am9 d)) H
abbrev M7 : Stmt := top 25
theorem aB9 : j7 ["thing"] ["thing"] (d3 M7) := by and_intros
theorem aC9 {f : Addr} (d : Df K mg "is_whole" M7 ["thing"] f) (n_isinstance : mg "isinstance" = none) (n_int : mg "int" = none) (n_bool : mg "bool" = none) : Def P w K mg base CX0 1 "is_whole" f ["thing"] (ag4 K) := by
  refine d.ok (N := ["thing"]) aB9 (by rintro vs H Q E ⟨a, b, h, _⟩; rw [h]; rfl) (fun cdv A outer s H vs Q E hr h => ?_)
  obtain ⟨v, dd, rfl, hd, k⟩ := h
  refine ⟨_, (d8 (j1 (ay8 (d9 j2 rfl n_isinstance (by decide +kernel) (b7 (pv 0) (b7 (R9 (v := .ty "int") rfl n_int (by decide +kernel) rfl) d2))) (ap3 (aR6 (d9 j2 rfl n_isinstance (by decide +kernel) (b7 (pv 0) (b7 (R9 (v := .ty "bool") rfl n_bool (by decide +kernel) rfl) d2)))))))), ?_⟩
  rw [show start ["thing"] [v] = [some (v)] from rfl]
  subst_eqs
  refine ⟨trivial, _, hd.ty, _, aN4 hd, K5 (fun h => ⟨trivial, _, hd.ty, _, aH7 hd, ?_⟩) (fun h => ?_)⟩
  · have e : (!ba5 dd) = am9 dd := by
      cases dd with
      | v x => cases x <;> first | rfl | (exact absurd h (by simp [aA2]))
      | tup l => exact absurd h (by simp [aA2])
      | lst l => exact absurd h (by simp [aA2])
    rw [e]; exact k
  · have e : am9 dd = false := by
      cases dd with
      | v x => cases x <;> first | rfl | (exact absurd rfl h)
      | tup l => rfl
      | lst l => rfl
    rw [e] at k; exact k
end
end R
set_option maxRecDepth 100000
namespace L2
open PySem PySem.Spec PyProof.Rows
section
variable {K : PySem.W.Frag} {a b D : Addr} {xs ys : List V} {g : TG} {te : TE} {σ0 : St} {H0 : Hp} {Q : VK}
theorem aY6 (xs ys : List V) (Pv : Nat → St → Hp → Prop) (h0 : Pv 0 σ0 H0) (hl : ∀ i σ H, Pv i σ H → SqT K H a xs ∧ SqT K H b ys)
    (hs : ∀ i x y σ H p, xs[i]? = some x → ys[i]? = some y → Pv i σ H → H p = none → g (.ref p) σ (upd H p (.tup [x, y])) fun σ4 H4 => te σ4 H4 fun v H5 => v7 D (min xs.length ys.length) Pv i σ4 v H5)
    (hd : ∀ σ H, Pv (min xs.length ys.length) σ H → Q (.ref D) H) : af7 (bf7 K a b) D σ0 H0 g te Q := by
  refine ⟨fun i m σ H => m = min xs.length ys.length - i ∧ i ≤ min xs.length ys.length ∧ Pv i σ H, ⟨_, rfl, Nat.zero_le _, h0⟩, ?_⟩
  rintro i m σ H ⟨rfl, hi, p⟩
  obtain ⟨q, q'⟩ := hl i σ H p
  by_cases hlt : i < min xs.length ys.length
  · have h1 : i < xs.length := by omega
    have h2 : i < ys.length := by omega
    refine .inr ⟨⟨xs, ys, xs[i], ys[i], q, q', List.getElem?_eq_getElem h1, List.getElem?_eq_getElem h2⟩, ?_⟩
    intro v H3 hy
    obtain ⟨x, y, r, e1, e2, hr, rfl, rfl⟩ := hy xs ys q q'
    exact hs i x y σ _ r e1 e2 p hr
  · have e : i = min xs.length ys.length := by omega
    subst e
    exact .inl ⟨⟨xs, ys, q, q', by omega⟩, hd σ H p⟩
end
end L2
set_option maxRecDepth 100000
namespace R
open PySem L2 PyProof.Rows
section
variable {P : Program} {w : World} {K : PySem.W.Frag} {mg : Str → Option Value} {base : Heap}
def inD (n : Int) : D → Bool
  | .v (.int i) => decide (0 ≤ i) && decide (i < n)
  | _ => false
def ltD : D → D → Bool
  | .v (.int i), .v (.int j) => decide (i < j)
  | _, _ => false
def ac1 : List D → Bool
  | a :: b :: r => ltD a b && ac1 (b :: r)
  | _ => true
def plD (n : Int) : D → Bool
  | .tup l => !l.isEmpty && (l.all (inD n) && ac1 l)
  | _ => false
theorem aA3 {K : PySem.W.Frag} {H : Hp} {n : Int} : ∀ {xs : List V} {ds : List D}, L9 K H xs ds → ds.all (inD n) = true → ∃ js : List Int, xs = js.map V.int ∧ ds = js.map fun j => D.v (.int j)
  | _, _, .nil, _ => ⟨[], rfl, rfl⟩
  | _, _, .cons (x := x) (d := d) h t, e => by
    rw [List.all_cons, Bool.and_eq_true] at e
    obtain ⟨js, e1, e2⟩ := aA3 t e.2
    cases h with
    | v f =>
      cases x with
      | int i => exact ⟨i :: js, by rw [e1]; rfl, by rw [e2]; rfl⟩
      | _ => cases e.1
    | tup _ _ => cases e.1
    | lst _ _ => cases e.1
theorem aJ5 : ∀ js : List Int, ((List.zipWith (fun a b => decide (a < b)) js (js.drop 1)).all id) = ac1 (js.map fun j => D.v (.int j))
  | [] => rfl
  | [a] => rfl
  | a :: b :: r => by
    have := aJ5 (b :: r)
    show (decide (a < b) && (List.zipWith (fun a b => decide (a < b)) (b :: r) ((b :: r).drop 1)).all id) = (decide (a < b) && ac1 ((b :: r).map fun j => D.v (.int j)))
    rw [this]
def ao5 (K : PySem.W.Frag) : Sp := fun vs H Q _ => ∃ v d n, vs = [v, .int n] ∧ IsD K H v d ∧ (∀ l, d = .tup l → l.length ≤ 100) ∧ ∀ H', d7 H H' → Q (.bl (plD n d)) H'
abbrev B5 : Stmt := top 37
theorem as6 : j7 ["thing", "many"] ["thing", "many"] (d3 B5) := by and_intros
set_option maxHeartbeats 0 in
theorem at3 {f f1 : Addr} (d : Df K mg "are_places" B5 ["thing", "many"] f) (G_is_whole : Def P w K mg base CX0 1 "is_whole" f1 ["thing"] (ag4 K)) (n_isinstance : mg "isinstance" = none) (n_tuple : mg "tuple" = none) (n_all : mg "all" = none) (n_zip : mg "zip" = none) : Def P w K mg base CX0 2 "are_places" f ["thing", "many"] (ao5 K) := by
  refine d.ok (N := ["thing", "many"]) as6 (by rintro vs H Q E ⟨_, _, _, h, _⟩; rw [h]; rfl) (fun cdv A outer s H vs Q E hr h => ?_)
  obtain ⟨v, dd, n, rfl, hd, l100, k⟩ := h
  refine ⟨_, (d6 (C2 (PW.pt (R0 (M0 (N3 (d9 j2 rfl n_isinstance (by decide +kernel) (b7 (pv 0) (b7 (R9 (v := .ty "tuple") rfl n_tuple (by decide +kernel) rfl) d2))))) (V4 (M0 (ao9 (pv 0) (fun _ => rfl)))))) (d8 (j1 Q3)) v0)
      (d6 (C2 (M0 (N3 (d9 (as0 rfl) rfl n_all (by decide +kernel) (b7 (E7 (Nc := ["many", "place"]) (caps := [some 1, none]) rfl (Q8.of (osc := d3 B5) (N := ["thing", "many"]) (ks := ["many"]) rfl rfl rfl rfl (j0 rfl v3) (by decide +kernel)) (ap1 (pv 0)) (fun C s₂ H₂ fp pins => (i7 (i := 1) (show List.Nodup (["many", "place"] : List Str) by decide +kernel) rfl (Or.inl rfl) (Or.inr rfl))) (fun C s₂ H₂ fp pins => (ay8 (i5 G_is_whole hr (b7 (pv 1) d2) m3) (ap3 (aR7 aJ9 ap6 d4 (pv 1) (pv 0)))))) d2)))) (d8 (j1 Q3)) v0)
      (d8 (j1 (d9 (as0 rfl) rfl n_all (by decide +kernel) (b7 (E7 (Nc := ["place", "further"]) (caps := [none, none]) rfl (Q8.of (osc := d3 B5) (N := ["thing", "many"]) (ks := []) rfl rfl rfl rfl v3 (by decide +kernel)) (aX3 rfl n_zip (b7 (pv 0) (b7 (A4 aQ2 (pv 0) (B6 d4) C1) d2))) (fun C s₂ H₂ fp pins => (show PG _ _ (ak3 K 2 (K3 (C7 0) (K3 (C7 1) ak4))) from by (refine V6 (n := 2) ?_ ?_ ?_ ?_; rfl; (refine v5 ?_ ?_ ?_; (exact (i7 (i := 0) (show List.Nodup (["place", "further"] : List Str) by decide +kernel) rfl (Or.inl rfl) (Or.inr rfl))); (refine v5 ?_ ?_ ?_; (exact (i7 (i := 1) (show List.Nodup (["place", "further"] : List Str) by decide +kernel) rfl (Or.inl rfl) (Or.inr rfl))); (exact P7); rfl); rfl); rfl; rfl))) (fun C s₂ H₂ fp pins => (R7 ap6 (pv 0) (pv 1) (t5 _)))) d2)))))), ?_⟩
  rw [show start ["thing", "many"] [v, .int n] = [some (v), some (.int n)] from rfl]
  simp! [ag4, bg1]
  have no : plD n dd = false → ∀ H', d7 H H' → Q (.bl false) H' := fun e H' s => by have := k H' s; rw [e] at this; exact this
  refine ⟨trivial, _, hd.ty, _, aE1 hd, K5 (fun h => no ?_ _ (d7.refl _)) (fun h => ?_)⟩
  · cases dd with
    | v x => rfl
    | tup l => cases h
    | lst l => rfl
  cases hd with
  | v f => exact absurd rfl h
  | lst hS ht => exact absurd rfl h
  | @tup p xs ds hS ht =>
    have hl := ht.length
    have l1 := l100 ds rfl
    refine ⟨!xs.isEmpty, .inr (.inl ⟨xs, hS, rfl⟩), K5 (fun h1 => no ?_ _ (d7.refl _)) (fun h1 => ?_)⟩
    · cases ds with
      | nil => rfl
      | cons a b =>
        cases xs with
        | nil => cases hl
        | cons x y => cases h1
    have x0 : 0 < xs.length := by
      cases xs with
      | nil => exact absurd rfl h1
      | cons x y => exact Nat.succ_pos _
    have dne : ds.isEmpty = false := by
      cases ds with
      | nil => rw [hl] at x0; cases x0
      | cons a b => rfl
    refine ⟨p, rfl, ⟨_, hS⟩, fun D hD => ?_⟩
    refine ar9 xs (fun i σ H2 => ∃ o, σ = [some (.int n), o] ∧ d7 H H2 ∧ H2 D = some (.lst (((ds.take i).map (inD n)).map V.bl))) ⟨_, rfl, d7.new hD _, by rw [List.take_zero]; exact d5⟩ (fun i σ H2 _ ⟨_, _, s2, _⟩ => s2.tup hS) ?_ ?_
    · rintro i x σ H2 hx ⟨o, rfl, s2, e2⟩
      have hi := (List.getElem?_eq_some_iff.mp hx).1
      obtain ⟨d', hd', id'⟩ := ht.get hx
      have fin : ∀ b, b = inD n d' → v7 D xs.length (fun i σ H2 => ∃ o, σ = [some (.int n), o] ∧ d7 H H2 ∧ H2 D = some (.lst (((ds.take i).map (inD n)).map V.bl))) i [some (.int n), some x] (.bl b) H2 := fun b hb => by
        refine v7.mk hi e2 (F9 (by rw [List.length_map, List.length_map, List.length_take]; omega)) ⟨_, rfl, s2.over hD _, ?_⟩
        rw [d5, m5 hd', List.map_append, List.map_append, hb]; rfl
      simp! [ag4]
      refine ⟨d', id'.same s2, K5 (fun h2 => ?_) (fun h2 => fin _ ?_)⟩
      · obtain ⟨j, rfl⟩ := aF1 h2
        cases id' with
        | v f =>
          refine ⟨_, rfl, K5 (fun h3 => ⟨_, rfl, fin _ ?_⟩) (fun h3 => fin _ ?_)⟩
          · show _ = (decide (0 ≤ j) && decide (j < n))
            rw [decide_eq_true h3]; rfl
          · show _ = (decide (0 ≤ j) && decide (j < n))
            rw [decide_eq_false h3]; rfl
      · unfold inD
        split
        · exact absurd rfl h2
        · rfl
    · rintro σ H2 ⟨o, rfl, s2, e2⟩
      rw [B3 (by omega)] at e2
      refine ⟨D, rfl, ds.map (inD n), SqL.of e2, K5 (fun h2 => no ?_ _ s2) (fun h2 => ?_)⟩
      · show (!ds.isEmpty && (ds.all (inD n) && ac1 ds)) = false
        rw [dne, show ds.all (inD n) = false by rw [← h2, List.all_map]; rfl]; rfl
      have ha : ds.all (inD n) = true := by
        cases q : ds.all (inD n) with
        | true => rfl
        | false => exact absurd (show (ds.map (inD n)).all id = false by rw [List.all_map, ← q]; rfl) h2
      obtain ⟨js, rfl, rfl⟩ := aA3 ht ha
      have hS2 := s2.tup hS
      have jl : 0 < js.length := by rw [List.length_map] at x0; exact x0
      rw [List.length_map] at l1
      refine ⟨p, rfl, _, hS2, fun z => ?_, fun p2 hp2 => ?_⟩
      · have z1 := z.1
        simp only [HT.sIx] at z1
        rw [List.length_map] at z1
        rw [if_neg (by omega)] at z1
        omega
      rw [aY8]
      obtain ⟨H3, y3, X, g3⟩ := t7 (.tup ((js.map V.int).drop 1)) hp2
      rw [← y3]
      refine ⟨p, rfl, ⟨_, X.tup hS2⟩, ⟨_, SqT.of g3⟩, fun D2 hD2 => ?_⟩
      have hS3 := X.tup hS2
      have ml : min (js.map V.int).length ((js.map V.int).drop 1).length = js.length - 1 := by rw [List.length_drop, List.length_map]; omega
      refine aY6 (js.map V.int) ((js.map V.int).drop 1) (fun i σ H4 => ∃ o1 o2, σ = [o1, o2] ∧ d7 H3 H4 ∧ H4 D2 = some (.lst (((List.zipWith (fun a b => decide (a < b)) js (js.drop 1)).take i).map V.bl))) ⟨_, _, rfl, d7.new hD2 _, by rw [List.take_zero]; exact d5⟩ (by rintro i σ H4 ⟨_, _, _, s4, _⟩; exact ⟨s4.tup hS3, SqT.of (s4 _ _ g3)⟩) ?_ ?_
      · rintro i x y σ H4 q hx hy ⟨o1, o2, rfl, s4, e4⟩ hq
        have hi := (List.getElem?_eq_some_iff.mp hy).1
        rw [List.length_drop, List.length_map] at hi
        obtain ⟨x', hx', rfl⟩ := ar1 hx
        rw [← List.map_drop] at hy
        obtain ⟨y', hy', rfl⟩ := ar1 hy
        have T := d7.new hq (.tup [.int x', .int y'])
        have hz : (List.zipWith (fun a b => decide (a < b)) js (js.drop 1))[i]? = some (decide (x' < y')) := by
          rw [List.getElem?_zipWith, hx', hy']
        subst_eqs
        refine ⟨_, SqT.of d5, rfl, _, _, rfl, _, _, rfl, rfl, _, rfl, _, rfl, ?_⟩
        refine v7.mk (by rw [ml]; omega) (T _ _ e4) (F9 (by rw [List.length_map, List.length_take, List.length_zipWith]; omega)) ⟨_, _, rfl, (s4.trans T).over hD2 _, ?_⟩
        rw [d5, m5 hz, List.map_append]; rfl
      · rintro σ H4 ⟨o1, o2, rfl, s4, e4⟩
        rw [ml, B3 (by rw [List.length_zipWith, List.length_drop]; omega)] at e4
        refine ⟨D2, rfl, _, SqL.of e4, ?_⟩
        rw [aJ5]
        have := k H4 (s2.trans (X.trans s4))
        rw [show plD n (L2.D.tup (js.map fun j => L2.D.v (.int j))) = (!(js.map fun j => L2.D.v (.int j)).isEmpty && ((js.map fun j => L2.D.v (.int j)).all (inD n) && ac1 (js.map fun j => L2.D.v (.int j)))) from rfl, ha, dne] at this
        exact this
end
section
variable {P : Program} {w : World} {K : PySem.W.Frag} {mg : Str → Option Value} {base : Heap}
def aq7 : D → Nat
  | .tup l => l.length
  | _ => 0
def okM (n : Int) (dr dc : D) : Bool := plD n dr && (plD n dc && decide (aq7 dr = aq7 dc))
def U0 (is : List Nat) : D := .tup (is.map fun (i : Nat) => .v (.int (i : Int)))
def K7 (M : List (List Rat)) (js : List Nat) (i : Nat) : List Rat := js.map fun j => qq M i j
def U3 (M : List (List Rat)) (is js : List Nat) : List (List Rat) := is.map (K7 M js)
theorem aK2 {n : Int} : ∀ {js : List Int}, (js.map fun j => D.v (.int j)).all (inD n) = true → ∃ is : List Nat, js = is.map (fun (i : Nat) => (i : Int)) ∧ ∀ i ∈ is, (i : Int) < n
  | [], _ => ⟨[], rfl, fun _ h => by cases h⟩
  | j :: js, e => by
    rw [List.map_cons, List.all_cons, Bool.and_eq_true] at e
    obtain ⟨is, h1, h2⟩ := aK2 e.2
    have e1 : (decide (0 ≤ j) && decide (j < n)) = true := e.1
    rw [Bool.and_eq_true] at e1
    have a := of_decide_eq_true e1.1
    have b := of_decide_eq_true e1.2
    refine ⟨j.toNat :: is, ?_, fun i hi => ?_⟩
    · rw [h1, List.map_cons, Int.toNat_of_nonneg a]
    · rcases List.mem_cons.mp hi with z | z
      · rw [z, Int.toNat_of_nonneg a]; exact b
      · exact h2 i z
theorem aJ6 : ∀ (js : List Int) (lo n : Int), lo ≤ n → ac1 (js.map fun j => D.v (.int j)) = true → (∀ j, js.head? = some j → lo ≤ j) → (∀ j ∈ js, j < n) → (js.length : Int) ≤ n - lo
  | [], lo, n, h, _, _, _ => by show (0 : Int) ≤ _; omega
  | [a], lo, n, _, _, h1, h2 => by
    have := h1 a rfl
    have := h2 a List.mem_cons_self
    show (1 : Int) ≤ _; omega
  | a :: b :: r, lo, n, _, e, h1, h2 => by
    have e' : (decide (a < b) && ac1 ((b :: r).map fun j => D.v (.int j))) = true := e
    rw [Bool.and_eq_true] at e'
    have ab := of_decide_eq_true e'.1
    have l1 := h1 a rfl
    have l2 := h2 a List.mem_cons_self
    have ih := aJ6 (b :: r) (a + 1) n (by omega) e'.2 (fun j hj => by cases hj; omega) fun j hj => h2 j (List.mem_cons_of_mem _ hj)
    rw [List.length_cons]
    omega
theorem aR0 {K : PySem.W.Frag} {H : Hp} {v : V} {d : D} {n : Nat} (h : IsD K H v d) (e : plD n d = true) : ∃ (p : Addr) (is : List Nat), v = .ref p ∧ d = U0 is ∧ SqT K H p (is.map fun (i : Nat) => V.int (i : Int)) ∧ (∀ i ∈ is, i < n) ∧ aq7 d = is.length ∧ is.length ≤ n := by
  cases h with
  | v f => cases e
  | lst _ _ => cases e
  | @tup p xs ds hS ht =>
    have e' : (!ds.isEmpty && (ds.all (inD n) && ac1 ds)) = true := e
    rw [Bool.and_eq_true, Bool.and_eq_true] at e'
    obtain ⟨js, rfl, rfl⟩ := aA3 ht e'.2.1
    obtain ⟨is, rfl, h2⟩ := aK2 e'.2.1
    refine ⟨p, is, rfl, ?_, ?_, fun i hi => by have := h2 i hi; omega, ?_, ?_⟩
    · unfold U0; rw [List.map_map]; rfl
    · rw [List.map_map] at hS; exact hS
    · show (List.map _ _).length = _
      rw [List.length_map, List.length_map]
    · have := aJ6 (is.map fun (i : Nat) => (i : Int)) 0 n (by omega) e'.2.2 (fun j hj => by
        obtain ⟨i, _, rfl⟩ := List.mem_map.mp (List.mem_of_mem_head? hj)
        omega) fun j hj => by
        obtain ⟨i, hi, rfl⟩ := List.mem_map.mp hj
        exact h2 i hi
      rw [List.length_map] at this
      omega
def aJ3 (K : PySem.W.Frag) (C : Addr) : Sp := fun vs H Q E => ∃ (a : Addr) (vr vc : V) (ts : List Addr) (M : List (List Rat)) (n B W : Nat) (dr dc : D), vs = [.ref a, vr, vc] ∧ SqL K H a (ts.map V.ref) ∧ B9 K H ts M ∧ M.length = n ∧ (∀ L ∈ M, L.length = n ∧ ∀ q ∈ L, OvB B W q) ∧ 0 < B ∧ B < 2 ^ W ∧ n ≤ 15 ∧ eV W n n + eU W n ≤ 5900 ∧
  IsD K H vr dr ∧ IsD K H vc dc ∧ (∀ l, dr = .tup l → l.length ≤ 100) ∧ (∀ l, dc = .tup l → l.length ≤ 100) ∧
  (okM n dr dc = false → ∀ H', d7 H H' → E (.ref C) none H') ∧
  (okM n dr dc = true → ∀ is js, dr = U0 is → dc = U0 js → ∀ r H', d7 H H' → NmC K H' r (dt is.length (qq (U3 M is js))) → Q (.ref r) H')
abbrev U7 : Stmt := top 38
theorem aB8 : j7 ["table", "rows", "columns", "many"] ["table", "rows", "columns"] (d3 U7) := by and_intros
set_option maxHeartbeats 0 in
theorem aS0 {f f1 f2 C : Addr} (d : Df K mg "minor" U7 ["table", "rows", "columns"] f) (G_are_places : Def P w K mg base CX0 2 "are_places" f1 ["thing", "many"] (ao5 K)) (G_determinant : Def P w K mg base CX0 3 "determinant" f2 ["table"] (ao8 K)) (x_NoPair : ExT K mg "NoPair" C) (n_len : mg "len" = none) : Def P w K mg base (CXR P w) 4 "minor" f ["table", "rows", "columns"] (aJ3 K C) := by
  refine d.okR (N := ["table", "rows", "columns", "many"]) aB8 (by rintro vs H Q E ⟨_, _, _, _, _, _, _, _, _, _, h, _⟩; rw [h]; rfl) (fun cdv A outer s H vs Q E hr h => ?_)
  obtain ⟨a, vr, vc, ts, M, n, B, W, dr, dc, rfl, hA, hR, ln, lm, B0, hBW, n15, hV, ir, ic, lr, lc, k0, k1⟩ := h
  refine ⟨_, (d6 (m6 (i := 3) aB8.nd rfl (Or.inl rfl) (d9 m4 rfl n_len (by decide +kernel) (b7 (pv 0) d2)))
      (d6 (C2 (PW.pt (R0 (M0 (N3 (i5 G_are_places hr (b7 (pv 1) (b7 (pv 3) d2)) m3))) (R0 (M0 (N3 (i5 G_are_places hr (b7 (pv 2) (b7 (pv 3) d2)) m3))) (V4 (t6 ap5 (d9 m4 rfl n_len (by decide +kernel) (b7 (pv 1) d2)) (d9 m4 rfl n_len (by decide +kernel) (b7 (pv 2) d2)) (t5 _)))))) (d8 (aC5 x_NoPair.ox PySem.F.excBase_ValueError rfl rfl x_NoPair.m au8 (b7 K1 d2))) v0)
      (d8 (j1 (i5 G_determinant hr (b7 (ah4 (Nc := ["table", "columns", "row"]) (caps := [some 0, some 2, none]) rfl (ai7.of (osc := d3 U7) (N := ["table", "rows", "columns", "many"]) (ks := ["table", "columns"]) rfl rfl rfl rfl (j0 rfl (j0 rfl v3)) (by decide +kernel)) (ap1 (pv 1)) (fun C s₂ H₂ fp pins => (i7 (i := 2) (show List.Nodup (["table", "columns", "row"] : List Str) by decide +kernel) rfl (Or.inr rfl) (Or.inl rfl))) (fun C s₂ H₂ fp pins => (E7 (Nc := ["table", "row", "column"]) (caps := [some 0, some 2, none]) rfl (Q8.of (osc := _) (N := ["table", "columns", "row"]) (ks := ["table", "row"]) rfl rfl rfl rfl (j0 rfl (j0 rfl v3)) (by kernel_rfl)) (show PI _ _ _ (aT2 K _) from by exact (ap1 (pv 1))) (fun C s₂ H₂ fp pins => (i7 (i := 2) (show List.Nodup (["table", "row", "column"] : List Str) by decide +kernel) rfl (Or.inl rfl) (Or.inr rfl))) (fun C s₂ H₂ fp pins => (j9 (by exact j5 : IxR _ (ah1 K)) (j9 (by exact j5 : IxR _ (ah1 K)) (pv 0) (pv 1) (fun _ _ => rfl)) (pv 2) (fun _ _ => rfl)))))) d2) m3))))), ?_⟩
  rw [show start ["table", "rows", "columns", "many"] [.ref a, vr, vc] = [some (.ref a), some (vr), some (vc), none] from rfl]
  simp! [ao5, ao8]
  subst ln
  have tl : (ts.map V.ref).length = M.length := by rw [List.length_map, hR.length]
  have no : okM M.length dr dc = false → ∀ H', d7 H H' → 0 + 1 ≤ sizeLine ∧ E (.ref C) none H' := fun e H' s => ⟨by decide, k0 e H' s⟩
  refine ⟨_, .inl hA, dr, ir, lr, fun H1 s1 => ?_⟩
  rw [tl]
  refine K5 (fun h1 => no (by unfold okM; rw [h1]; rfl) _ s1) (fun h1 => ?_)
  refine ⟨dc, ic.same s1, lc, fun H2 s2 => ?_⟩
  refine K5 (fun h2 => no (by unfold okM; rw [h2, Bool.false_and, Bool.and_false]) _ (s1.trans s2)) (fun h2 => ?_)
  have S := s1.trans s2
  have p1 : plD M.length dr = true := by cases q : plD M.length dr with | true => rfl | false => exact absurd q h1
  have p2 : plD M.length dc = true := by cases q : plD M.length dc with | true => rfl | false => exact absurd q h2
  obtain ⟨pr, is, rfl, rfl, tr, ri, er, l1⟩ := aR0 (ir.same S) p1
  obtain ⟨pc, js, rfl, rfl, tc, ci, ec, l2⟩ := aR0 (ic.same S) p2
  refine ⟨pr, rfl, _, .inr tr, pc, rfl, _, .inr tc, rfl, ?_⟩
  rw [List.length_map, List.length_map]
  refine K5 (fun h3 => no ?_ _ S) (fun h3 => ?_)
  · unfold okM
    rw [er, ec, decide_eq_false (fun z => h3 (by rw [z])), Bool.and_false, Bool.and_false]
  have el : is.length = js.length := Classical.byContradiction fun z => h3 fun y => z (by omega)
  have k1 := k1 (by unfold okM; rw [p1, p2, er, ec, decide_eq_true el]; rfl) is js rfl rfl
  refine ⟨pr, rfl, ⟨_, tr⟩, fun D hD => ?_⟩
  have hA2 := S.seq hA
  have hR2 := hR.same S
  have at' : ∀ (i : Nat) (p : Addr), ts[i]? = some p → (ts.map V.ref)[i]? = some (.ref p) := fun i p e => by rw [List.getElem?_map, e]; rfl
  refine ar9 (is.map fun (i : Nat) => V.int (i : Int)) (fun i σ H3 => ∃ o, σ = [some (.ref a), some (.ref pc), o] ∧ W6 K H2 D ((U3 M is js).take i) H3) ⟨_, rfl, W6.start hD⟩ (fun i σ H3 _ ⟨_, _, T⟩ => T.same.tup tr) ?_ ?_
  · rintro i x σ H3 hx ⟨o, rfl, T⟩
    have hi := (List.getElem?_eq_some_iff.mp hx).1
    rw [List.length_map] at hi
    obtain ⟨u, hu, rfl⟩ : ∃ u, is[i]? = some u ∧ x = V.int (u : Int) := by
      rw [List.getElem?_map, List.getElem?_eq_getElem hi] at hx
      exact ⟨is[i], List.getElem?_eq_getElem hi, (Option.some.inj hx).symm⟩
    have um := ri u (List.mem_of_getElem? hu)
    subst_eqs
    refine ⟨⟨_, T.same.tup tc⟩, fun D2 hD2 => ?_⟩
    refine ar9 (js.map fun (j : Nat) => V.int (j : Int)) (fun j σ H4 => ∃ o, σ = [some (.ref a), some (.int (u : Int)), o] ∧ ad3 K H3 D2 ((K7 M js u).take j) H4) ⟨_, rfl, ad3.start hD2⟩ (fun j σ H4 _ ⟨_, _, R⟩ => R.same.tup (T.same.tup tc)) ?_ ?_
    · rintro j x σ H4 hx ⟨o, rfl, R⟩
      have hj := (List.getElem?_eq_some_iff.mp hx).1
      rw [List.length_map] at hj
      obtain ⟨v, hv, rfl⟩ : ∃ v, js[j]? = some v ∧ x = V.int (v : Int) := by
        rw [List.getElem?_map, List.getElem?_eq_getElem hj] at hx
        exact ⟨js[j], List.getElem?_eq_getElem hj, (Option.some.inj hx).symm⟩
      have vm := ci v (List.mem_of_getElem? hv)
      have S4 := T.same.trans R.same
      obtain ⟨pt, hpt⟩ : ∃ pt, ts[u]? = some pt := ⟨_, List.getElem?_eq_getElem (by rw [hR.length]; exact um)⟩
      obtain ⟨xs, L, e1, e2, e3⟩ := hR2.get hpt
      obtain ⟨lL, bL⟩ := lm L (List.mem_of_getElem? e1)
      have ev := List.getElem?_eq_getElem (l := L) (i := v) (by omega)
      obtain ⟨pq, f1, f2⟩ := e3.get ev
      have vq : qq M u v = L[v]'(by omega) := by
        unfold qq aQ
        rw [e1]
        show (L[v]?).getD 0 = _
        rw [ev]; rfl
      have hg : (K7 M js u)[j]? = some (qq M u v) := by unfold K7; rw [List.getElem?_map, hv]; rfl
      subst_eqs
      refine ⟨_, S4.seq hA2, _, u0 (at' _ _ hpt), pt, rfl, xs, SqL.of (S4 _ _ e2), _, u0 f1, ?_⟩
      obtain ⟨ys, eD, yl, R'⟩ := R.add hD2 (fun b o h => h) (f2.mono S4.tups)
      refine v7.mk (by rw [List.length_map]; exact hj) eD (F9 (by rw [yl, List.length_take]; unfold K7; rw [List.length_map]; omega)) ⟨_, rfl, ?_⟩
      rw [m5 hg, vq]
      exact R'
    · rintro σ H4 ⟨o, rfl, R⟩
      rw [B3 (by unfold K7; rw [List.length_map, List.length_map]; exact Nat.le_refl _)] at R
      obtain ⟨ys, eD, yl, T'⟩ := T.add hD hD2 R
      refine v7.mk (by rw [List.length_map]; exact hi) eD (F9 (by rw [yl, List.length_take]; unfold U3; rw [List.length_map]; omega)) ⟨_, rfl, ?_⟩
      rw [m5 (show (U3 M is js)[i]? = some (K7 M js u) by unfold U3; rw [List.getElem?_map, hu]; rfl)]
      exact T'
  · rintro σ H3 ⟨o, rfl, T⟩
    rw [B3 (by unfold U3; rw [List.length_map, List.length_map]; exact Nat.le_refl _)] at T
    obtain ⟨s3, us, e3, _, _, R3⟩ := T
    have lQ : (U3 M is js).length = is.length := by unfold U3; rw [List.length_map]
    have qb : ∀ i ∈ is, ∀ q ∈ K7 M js i, OvB B W q := fun i hi q hq => by
      obtain ⟨j, hj, rfl⟩ := List.mem_map.mp hq
      have e1 := List.getElem?_eq_getElem (l := M) (ri i hi)
      obtain ⟨lL, bL⟩ := lm _ (List.mem_of_getElem? e1)
      have e2 := List.getElem?_eq_getElem (l := M[i]'(ri i hi)) (i := j) (by rw [lL]; exact ci j hj)
      have : qq M i j = (M[i]'(ri i hi))[j]'(by rw [lL]; exact ci j hj) := by
        unfold qq aQ
        rw [e1]
        show ((M[i]'(ri i hi))[j]?).getD 0 = _
        rw [e2]; rfl
      rw [this]
      exact bL _ (List.mem_of_getElem? e2)
    have eb : eV W is.length is.length + eU W is.length ≤ 5900 := by
      have h1 : eU W is.length ≤ eU W M.length := Nat.add_le_add_right (Nat.mul_le_mul_left _ l1) _
      have h2 : eV W is.length is.length ≤ eV W M.length M.length := Nat.add_le_add_left (Nat.mul_le_mul l1 (by omega)) _
      omega
    refine ⟨D, rfl, us, SqL.of e3, U3 M is js, R3, W, fun L hL => ?_, by omega, by rw [lQ]; exact eb, fun r H4 s4 hr => ?_⟩
    · obtain ⟨i, hi, rfl⟩ := List.mem_map.mp hL
      have ll : (K7 M js i).length = js.length := by unfold K7; rw [List.length_map]
      exact ⟨by rw [lQ, ll, el], av9 B0 hBW (qb i hi)⟩
    · rw [lQ] at hr
      exact k1 r H4 (S.trans (s3.trans s4)) hr
end
section
variable {P : Program} {w : World} {K : PySem.W.Frag} {mg : Str → Option Value} {base : Heap}
abbrev N0 : Stmt := top 43
theorem P9 : j7 ["_law_top", "_law_bottom", "_law_one", "_law_other_here"] ["_law_top", "_law_bottom"] (d3 N0) := by and_intros
theorem aD2 {f : Addr} (d : Df K mg "_law_low" N0 ["_law_top", "_law_bottom"] f) (n_abs : mg "abs" = none) : Def P w K mg base CX0 1 "_law_low" f ["_law_top", "_law_bottom"] ao7 := by
  refine d.ok (N := ["_law_top", "_law_bottom", "_law_one", "_law_other_here"]) P9 (fun vs H Q E ⟨a, b, h, _⟩ => by rw [h]; rfl) (fun cdv A outer s H vs Q E hr h => ?_)
  obtain ⟨t, b, rfl, hb0, hb, k⟩ := h
  refine ⟨_, (d6 (m6 (i := 2) P9.nd rfl (Or.inl rfl) (d9 ad1 rfl n_abs (by decide +kernel) (b7 (pv 0) d2)))
      (d6 (m6 (i := 3) P9.nd rfl (Or.inl rfl) (d9 ad1 rfl n_abs (by decide +kernel) (b7 (pv 1) d2)))
      (d6 (aC3 PassesOwn.never (t6 ap7 (pv 3) d4 (t5 _)) (d8 (aG8 (i := 2) (j := 3) rfl P9.nd rfl rfl (by decide) rfl rfl (b7 (pv 3) (b7 (i4 S0 (pv 2) (pv 3)) d2)) rfl)))
      (d6 (C2 (t6 ap6 (pv 1) d4 (t5 _)) (d8 (m6 (i := 2) P9.nd rfl (Or.inl rfl) (i4 U1 d4 (pv 2)))) v0)
      (d8 (j1 (A3 (b7 (i4 M5 (pv 0) (pv 2)) (b7 (i4 M5 (pv 1) (pv 2)) d2))))))))), ?_⟩
  rw [show start ["_law_top", "_law_bottom", "_law_one", "_law_other_here"] [.int t, .int b] = [some (.int t), some (.int b), none, none] from rfl]
  subst_eqs
  refine aB4 (fun σ H1 => H1 = H ∧ ∃ x y : Int, σ = [some (.int t), some (.int b), some (.int x), some (.int y)] ∧ 0 ≤ x ∧ 0 ≤ y ∧ Int.gcd x y = Int.gcd t b) (fun σ _ => match σ with | [_, _, _, some (.int y)] => y.natAbs | _ => 0)
    ⟨rfl, _, _, rfl, by split <;> omega, by split <;> omega, ?_⟩ ?_ ?_
  · have e1 : (if t < 0 then -t else t) = (t.natAbs : Int) := by split <;> omega
    have e2 : (if b < 0 then -b else b) = (b.natAbs : Int) := by split <;> omega
    rw [e1, e2, Int.gcd_eq_natAbs_gcd_natAbs, Int.gcd_eq_natAbs_gcd_natAbs]; simp
  · rintro σ H1 ⟨rfl, x, y, rfl, hx, hy, hg⟩
    subst_eqs
    split
    · rename_i hy0
      exact ⟨by omega, hy, Int.fmod_nonneg_of_pos x hy0, by rw [aE3]; exact hg, ac7 x (by omega)⟩
    · rename_i hy0
      have hy' : y = 0 := by omega
      subst hy'
      have ex : x = (Int.gcd t b : Int) := by
        rw [Int.gcd_zero_right] at hg
        omega
      have gp := ab0 (t := t) hb0
      have gl := aH9 (a := t) hb0 hb
      by_cases hs : b < 0
      · rw [if_pos hs]
        obtain ⟨e1, e2⟩ := ak1 (t := t) (g := 0 - x) hb0 (by rw [if_pos hs, ex]; omega)
        have dv : ∀ i, as4 i (0 - x) := fun i => af5 (by omega) (by rw [show 0 - x = -x by omega, Int.natAbs_neg, ex]; exact Y9 gl)
        refine ⟨dv _, dv _, J4, fun r hr' => ?_⟩
        exact k r _ (d7.new hr' _) (by rw [d5]; unfold F0; rw [e1, e2])
      · rw [if_neg hs]
        obtain ⟨e1, e2⟩ := ak1 (t := t) (g := x) hb0 (by rw [if_neg hs, ex])
        have dv : ∀ i, as4 i x := fun i => af5 (by omega) (by rw [ex]; exact Y9 gl)
        refine ⟨dv _, dv _, J4, fun r hr' => ?_⟩
        exact k r _ (d7.new hr' _) (by rw [d5]; unfold F0; rw [e1, e2])
  · intro σ H1 Q1 Q2 hQ h
    simp only [ipM, aw6, aQ6, aT1, aB5, ao3, be5, tSl, aP6, ag3, aG4, ay3, aT5, F2, List.map_cons, List.map_nil, Option.bind_none, Option.bind_some, Option.join_some, aW2, bb5, bb8, tOr, bb3, aJ0, tB, tOp, tUn, bb6, tBM, ai9, tC, tCB, aW3, aF8, C7, aT8, ak3, K3, ak4, ao2, aM4, aW4, bb0, bb4, tIf, aQ0, bb2, aP7, aW5, aw7, aP9, aP8, aF7, aF6, bb7, rI, rI0, rU, ay2, ah1, aX1, aC1, rEq, rNe, aG6, aG5, aG3, bc3, bc4, aT4, aT3, aE2, aT2, am1, cxR, cxX, Cx.nox, Cx.wish, Cx.body, Cx.suite, List.getElem?_cons_zero, List.getElem?_cons_succ, List.set_cons_zero, List.set_cons_succ, Option.some.injEq, V.int.injEq, V.bl.injEq, V.ref.injEq, V.str.injEq, exists_eq_left', exists_eq_left, exists_and_left, true_and, and_true, List.cons.injEq, reduceCtorEq, Bool.false_eq_true, if_false, if_true, exists_const, ↓reduceIte, tyV, List.length_cons, List.length_nil, exists_eq, List.append_nil, List.cons_append, List.nil_append, decide_eq_true_eq, not_true_eq_false, not_false_eq_true, Bool.not_eq_true', decide_eq_false_iff_not, Bool.not_true, Bool.not_false, and_assoc, false_and, false_or, or_false] at h ⊢
    obtain ⟨v, e1, i, e2, e3⟩ := h
    exact ⟨v, e1, i, e2, hQ _ _ e3⟩
abbrev M9 : Stmt := top 41
theorem N6 : j7 ["_law_script", "_law_at", "_law_cell", "_law_prime", "_law_great"] ["_law_script", "_law_at"] (d3 M9) := by and_intros
set_option maxHeartbeats 0 in
theorem aD1 {f : Addr} (d : Df K mg "_law_urn" M9 ["_law_script", "_law_at"] f) (n_len : mg "len" = none) (n_abs : mg "abs" = none) : Def P w K mg base CX0 1 "_law_urn" f ["_law_script", "_law_at"] (ba1 K) := by
  refine d.ok (N := ["_law_script", "_law_at", "_law_cell", "_law_prime", "_law_great"]) N6 (fun vs H Q E ⟨x, y, p, h, _⟩ => by rw [h]; rfl) (fun cdv A outer s H vs Q E hr h => ?_)
  obtain ⟨a, ns, i, rfl, hS, h0, h64, k⟩ := h
  refine ⟨_, (d6 (m6 (i := 2) N6.nd rfl (Or.inl rfl) d4)
      (d6 (C2 (t6 ap6 (pv 1) (d9 m4 rfl n_len (by decide +kernel) (b7 (pv 0) d2)) (t5 _)) (d8 (m6 (i := 2) N6.nd rfl (Or.inl rfl) (j9 j5 (pv 0) (pv 1) (fun _ _ => rfl)))) v0)
      (d6 (m6 (i := 3) N6.nd rfl (Or.inl rfl) (j9 A5 (A3 (b7 d4 (b7 d4 (b7 d4 (b7 d4 (b7 d4 (b7 d4 (b7 d4 (b7 d4 d2))))))))) (i4 S0 (pv 1) d4) (fun _ _ => rfl)))
      (d6 (m6 (i := 4) N6.nd rfl (Or.inl rfl) d4)
      (d6 (C2 (t6 bg6 (d9 ad1 rfl n_abs (by decide +kernel) (b7 (pv 2) d2)) (i4 ac4 d4 d4) (t5 _)) (d8 (m6 (i := 4) N6.nd rfl (Or.inl rfl) (d9 ad1 rfl n_abs (by decide +kernel) (b7 (pv 2) d2)))) v0)
      (d8 (j1 (L7 (b7 (pv 4) (b7 (i4 S0 (i4 ac4 (i4 E4 (i4 E4 (i4 S0 (pv 2) (pv 3)) (i4 B7 d4 (pv 1))) d4) d4) (pv 3)) (b7 (pv 3) d2))))))))))), ?_⟩
  rw [show start ["_law_script", "_law_at", "_law_cell", "_law_prime", "_law_great"] [.ref a, .int i] = [some (.ref a), some (.int i), none, none, none] from rfl]
  refine j4 (fun σ H1 => H1 = H ∧ σ = [some (.ref a), some (.int i), some (.int 0), none, none]) (fun N hN => ?_) ?_
  · subst_eqs
    exact hN _ _ ⟨rfl, rfl⟩
  rintro σ H1 ⟨rfl, rfl⟩
  refine j4 (fun σ H2 => H2 = H1 ∧ ∃ c : Int, σ = [some (.ref a), some (.int i), some (.int c), none, none]) (fun N hN => ?_) ?_
  · subst_eqs
    refine ⟨_, .inl hS, K5 (fun hl => ?_) (fun _ => hN _ _ ⟨rfl, _, rfl⟩)⟩
    obtain ⟨c, hc⟩ := aO8 (ns := ns) h0 (by simpa using hl)
    exact ⟨_, hS, _, hc, hN _ _ ⟨rfl, c, rfl⟩⟩
  rintro σ H2 ⟨rfl, c, rfl⟩
  obtain ⟨pr, hpr, p1, p2⟩ := aQ9 h0
  refine j4 (fun σ H3 => d7 H2 H3 ∧ σ = [some (.ref a), some (.int i), some (.int c), some (.int pr), none]) (fun N hN => ?_) ?_
  · subst_eqs
    exact ⟨by decide, fun p hp => ⟨by decide, _, SqT.of d5, _, hpr, hN _ _ ⟨d7.new hp _, rfl⟩⟩⟩
  rintro σ H3 ⟨s1, rfl⟩
  refine j4 (fun σ H4 => H4 = H3 ∧ σ = [some (.ref a), some (.int i), some (.int c), some (.int pr), some (.int 0)]) (fun N hN => ?_) ?_
  · subst_eqs
    exact hN _ _ ⟨rfl, rfl⟩
  rintro σ H4 ⟨rfl, rfl⟩
  refine j4 (fun σ H5 => H5 = H4 ∧ ∃ g : Int, 0 ≤ g ∧ σ = [some (.ref a), some (.int i), some (.int c), some (.int pr), some (.int g)]) (fun N hN => ?_) ?_
  · subst_eqs
    exact ⟨⟨by decide, by decide, by decide⟩, K5 (fun _ => hN _ _ ⟨rfl, _, by split <;> omega, rfl⟩) (fun _ => hN _ _ ⟨rfl, _, Int.le_refl _, rfl⟩)⟩
  rintro σ H5 ⟨rfl, g, hg, rfl⟩
  subst_eqs
  have m0 := Int.fmod_nonneg_of_pos c (show 0 < pr by omega)
  have m1 := Int.fmod_lt_of_pos c (show 0 < pr by omega)
  refine ⟨by omega, bd5 (by decide), ⟨by decide, by decide, by omega⟩, by omega, by decide, fun r hr' => ?_⟩
  refine k r _ (s1.trans (d7.new hr' _)) (s1.free hr') ⟨g, _, pr, d5, hg, Int.fmod_nonneg_of_pos _ (by omega), ?_, by omega, by omega⟩
  have := Int.fmod_lt_of_pos ((c.fmod pr + 65537 * i + 101) ^ (3 : Int).toNat) (show 0 < pr by omega)
  omega
abbrev L6 : Stmt := top 42
theorem ah0 : j7 ["_law_urn_here", "_law_many", "_law_drawn"] ["_law_urn_here", "_law_many"] (d3 L6) := by and_intros
set_option maxHeartbeats 0 in
theorem az6 {f : Addr} (d : Df K mg "_law_draw" L6 ["_law_urn_here", "_law_many"] f) : Def P w K mg base CX0 1 "_law_draw" f ["_law_urn_here", "_law_many"] B4 := by
  refine d.ok (N := ["_law_urn_here", "_law_many", "_law_drawn"]) ah0 (fun vs H Q E ⟨x, y, h, _⟩ => by rw [h]; rfl) (fun cdv A outer s H vs Q E hr h => ?_)
  obtain ⟨u, n, rfl, ⟨g, m, p, hu, g0, m0, m1, p0, p1⟩, n0, n1, k⟩ := h
  refine ⟨_, (d6 (C2 (t6 ap7 (j9 j5 (pv 0) d4 (fun _ _ => rfl)) d4 (t5 _)) (d6 (m6 (i := 2) ah0.nd rfl (Or.inl rfl) (i4 S0 (j9 j5 (pv 0) d4 (fun _ _ => rfl)) (pv 1)))
      (d6 (ac3 (i4 M5 (j9 j5 (pv 0) d4 (fun _ _ => rfl)) (pv 1)) (ap2 (pv 0) d4 ab8))
      (d8 (j1 (pv 2))))) v0)
      (d6 (ac3 (i4 S0 (i4 E4 (i4 B7 (j9 j5 (pv 0) d4 (fun _ _ => rfl)) d4) d4) (j9 j5 (pv 0) d4 (fun _ _ => rfl))) (ap2 (pv 0) d4 ab8))
      (d8 (j1 (i4 S0 (i4 M5 (i4 S0 (i4 ac4 (i4 M5 (j9 j5 (pv 0) d4 (fun _ _ => rfl)) d4) d4) d4) d4) (pv 1)))))), ?_⟩
  rw [show start ["_law_urn_here", "_law_many", "_law_drawn"] [.ref u, .int n] = [some (.ref u), some (.int n), none] from rfl]
  have L1 : SqL K H u [.int g, .int m, .int p] := SqL.of hu
  have x0 : ∀ g m p : Int, atI [V.int g, .int m, .int p] 0 = some (.int g) := fun _ _ _ => rfl
  have x1 : ∀ g m p : Int, atI [V.int g, .int m, .int p] 1 = some (.int m) := fun _ _ _ => rfl
  have x2 : ∀ g m p : Int, atI [V.int g, .int m, .int p] 2 = some (.int p) := fun _ _ _ => rfl
  subst_eqs
  have dn : ∀ i, as4 i n := fun i => af5 (by omega) (Nat.lt_of_lt_of_le (show n.natAbs < 2 ^ 40 by omega) (t9 (by decide)))
  refine ⟨_, L1, _, x0 g m p, _, rfl, K5 (fun hg => ?_) (fun hg => ?_)⟩
  · refine ⟨_, L1, _, x0 g m p, _, rfl, by omega, _, L1, _, x0 g m p, _, rfl, dn _, _, hu, 0, rfl, ?_⟩
    exact k _ _ (Int.fmod_nonneg_of_pos _ n0) (Int.fmod_lt_of_pos _ n0) (j8.upd _ _ _) ⟨g.fdiv n, m, p, d5, Int.fdiv_nonneg g0 (by omega), m0, m1, p0, p1⟩
  · have q0 := Int.fmod_nonneg_of_pos (m * 60013 + 12289) p0
    have q1 := Int.fmod_lt_of_pos (m * 60013 + 12289) p0
    have z : SqL K (upd H u (.lst [.int g, .int ((m * 60013 + 12289).fmod p), .int p])) u [.int g, .int ((m * 60013 + 12289).fmod p), .int p] := SqL.of d5
    have d16 : 0 ≤ ((m * 60013 + 12289).fmod p).fdiv 16 ∧ ((m * 60013 + 12289).fmod p).fdiv 16 < 2 ^ 40 := by
      rw [Int.fdiv_eq_ediv_of_nonneg _ (by decide)]
      omega
    refine ⟨_, L1, _, x1 g m p, _, rfl, aD6 (by decide), _, L1, _, x2 g m p, _, rfl, by omega, _, hu, 1, rfl, _, z, _, x1 _ _ _, _, rfl, af5 (by decide) (Nat.lt_of_lt_of_le (show (16 : Int).natAbs < 2 ^ 40 by decide) (t9 (by decide))), ⟨by decide, by decide, by omega⟩, by decide, af5 (by decide) (Nat.lt_of_lt_of_le (show (8 : Int).natAbs < 2 ^ 40 by decide) (t9 (by decide))), by omega, ?_⟩
    exact k _ _ (Int.fmod_nonneg_of_pos _ n0) (Int.fmod_lt_of_pos _ n0) (j8.upd _ _ _) ⟨g, _, p, d5, g0, q0, by omega, p0, p1⟩
abbrev L5 : Stmt := top 47
theorem ax9 : j7 ["_law_urn_here"] ["_law_urn_here"] (d3 L5) := by and_intros
set_option maxHeartbeats 0 in
theorem az5 {f fd : Addr} (d : Df K mg "_law_kind" L5 ["_law_urn_here"] f) (G__law_draw : Def P w K mg base CX0 1 "_law_draw" fd ["_law_urn_here", "_law_many"] B4) : Def P w K mg base CX0 2 "_law_kind" f ["_law_urn_here"] aG0 := by
  refine d.ok (N := ["_law_urn_here"]) ax9 (fun vs H Q E ⟨u, h, _⟩ => by rw [h]; rfl) (fun cdv A outer s H vs Q E hr h => ?_)
  obtain ⟨u, rfl, hu, k⟩ := h
  refine ⟨_, (d8 (j1 (j9 j5 (L7 (b7 d4 (b7 d4 (b7 d4 (b7 d4 (b7 d4 (b7 d4 (b7 d4 (b7 d4 d2))))))))) (i5 G__law_draw hr (b7 (pv 0) (b7 d4 d2)) m3) (fun _ _ => rfl)))), ?_⟩
  rw [show start ["_law_urn_here"] [.ref u] = [some (.ref u)] from rfl]
  simp! [B4]
  refine ⟨by decide, fun l hl => ⟨P6 hu hl, by decide, by decide, fun r H' r0 r1 sx hu' => ?_⟩⟩
  have e := sx l _ d5 (E8 hu hl)
  have sx' : j8 u H H' := j8.trans (d7.x (d7.new hl _) u) sx
  have h3 : r = 0 ∨ r = 1 ∨ r = 2 ∨ r = 3 ∨ r = 4 ∨ r = 5 ∨ r = 6 ∨ r = 7 := by omega
  rcases h3 with h | h | h | h | h | h | h | h <;> subst h <;> exact ⟨_, SqL.of e, _, rfl, k _ H' (by decide) sx' hu'⟩
abbrev D9 : Stmt := top 48
theorem ac0 : j7 ["_law_urn_here", "_law_kind_here", "_law_top"] ["_law_urn_here", "_law_kind_here"] (d3 D9) := by and_intros
abbrev F5 : Stmt := top 51
theorem as7 : j7 ["_law_thing"] ["_law_thing"] (d3 F5) := by and_intros
theorem at4 {f : Addr} (d : Df K mg "_law_whole" F5 ["_law_thing"] f) (n_isinstance : mg "isinstance" = none) (n_int : mg "int" = none) (n_bool : mg "bool" = none) : Def P w K mg base CX0 1 "_law_whole" f ["_law_thing"] ag5 := by
  refine d.ok (N := ["_law_thing"]) as7 (fun vs H Q E ⟨u, h, _⟩ => by rw [h]; rfl) (fun cdv A outer s H vs Q E hr h => ?_)
  obtain ⟨i, rfl, k⟩ := h
  refine ⟨_, (d8 (j1 (ay8 (d9 j2 rfl n_isinstance (by decide +kernel) (b7 (pv 0) (b7 (R9 (v := .ty "int") rfl n_int (by decide +kernel) rfl) d2))) (ap3 (aR6 (d9 j2 rfl n_isinstance (by decide +kernel) (b7 (pv 0) (b7 (R9 (v := .ty "bool") rfl n_bool (by decide +kernel) rfl) d2)))))))), ?_⟩
  rw [show start ["_law_thing"] [.int i] = [some (.int i)] from rfl]
  subst_eqs
  exact ⟨trivial, _, .of (.int i), _, aE0, bh9 ⟨trivial, _, .of (.int i), _, az9, k⟩⟩
abbrev A1 : Stmt := top 52
theorem ag9 : j7 ["_law_thing"] ["_law_thing"] (d3 A1) := by and_intros
set_option maxHeartbeats 0 in
theorem ah6 {f fw fl : Addr} (d : Df K mg "_law_is_number" A1 ["_law_thing"] f) (G__law_whole : Def P w K mg base CX0 1 "_law_whole" fw ["_law_thing"] ag5) (G__law_low : Def P w K mg base CX0 1 "_law_low" fl ["_law_top", "_law_bottom"] ao7) (n_isinstance : mg "isinstance" = none) (n_tuple : mg "tuple" = none) (n_len : mg "len" = none) :
    Def P w K mg base CX0 2 "_law_is_number" f ["_law_thing"] (am3 K) := by
  refine d.ok (N := ["_law_thing"]) ag9 (fun vs H Q E ⟨u, q, h, _⟩ => by rw [h]; rfl) (fun cdv A outer s H vs Q E hr h => ?_)
  obtain ⟨x, q, rfl, ⟨ap, rfl, hS⟩, hd, k⟩ := h
  have hu := hr.units
  refine ⟨_, (d6 (C2 (PW.pt (R0 (M0 (N3 (d9 j2 rfl n_isinstance (by decide +kernel) (b7 (pv 0) (b7 (R9 (v := .ty "tuple") rfl n_tuple (by decide +kernel) rfl) d2))))) (R0 (t6 ap5 (d9 m4 rfl n_len (by decide +kernel) (b7 (pv 0) d2)) d4 (t5 _)) (R0 (M0 (N3 (i5 G__law_whole hr (b7 (j9 A5 (pv 0) d4 (fun _ _ => rfl)) d2) m3))) (V4 (M0 (N3 (i5 G__law_whole hr (b7 (j9 A5 (pv 0) d4 (fun _ _ => rfl)) d2) m3)))))))) (d8 (j1 Q3)) v0)
      (d8 (j1 (ay8 (R7 ap7 (j9 A5 (pv 0) d4 (fun _ _ => rfl)) d4 (t5 _)) (ap3 (R7 (az0 hu) (i5 G__law_low hr (b7 (j9 A5 (pv 0) d4 (fun _ _ => rfl)) (b7 (j9 A5 (pv 0) d4 (fun _ _ => rfl)) d2)) m3) (pv 0) (t5 _))))))), ?_⟩
  rw [show start ["_law_thing"] [.ref ap] = [some (.ref ap)] from rfl]
  have dq := B8 q
  simp! [ag5, aG1]
  refine ⟨trivial, _, .sqt hS, _, aD9, ?_⟩
  simp! [ag5, aG1]
  refine ⟨_, .inr hS, ?_⟩
  simp! [ag5, aG1, F0]
  refine K5 (fun hh => absurd rfl hh) (fun _ => ?_)
  refine ⟨_, hS, _, at0 q, _, rfl, _, hS, _, at1 q, _, rfl, _, hS, _, at1 q, _, rfl, ?_⟩
  rw [if_pos dq]
  refine ⟨_, hS, _, at0 q, _, hS, _, at1 q, _, _, rfl, by omega, hd, fun r H' sm hr' => ?_⟩
  rw [Rat.num_divInt_den] at hr'
  refine ⟨Q6 q, Q6 q, rfl, ae0 (SqT.of hr'), ae0 (sm.tup hS), az7 q q, aU8 q, ?_⟩
  rw [aA5]; exact k H' sm
end
section
variable {P : Program} {w : World} {K : PySem.W.Frag} {mg : Str → Option Value} {base : Heap}
abbrev F8 : Stmt := top 49
theorem af2 : j7 ["_law_urn_here", "_law_kind_here", "_law_found"] ["_law_urn_here", "_law_kind_here"] (d3 F8) := by and_intros
end
structure BtN (k : Nat) (q : Rat) : Prop where
  n : q.num.natAbs < 2 ^ 20000
  d : q.den < 2 ^ k
theorem BtN.d' {n : Nat} {q : Rat} (b : BtN n q) : (q.den : Int).natAbs < 2 ^ n := by rw [Int.natAbs_natCast]; exact b.d
theorem BdN.t {n : Nat} {q : Rat} (b : BdN n q) (h : n ≤ 20000) : BtN n q := ⟨Nat.lt_of_lt_of_le b.n (t9 h), b.d⟩
section
variable {P : Program} {w : World} {K : PySem.W.Frag} {mg : Str → Option Value} {base : Heap}
def aj3 (K : PySem.W.Frag) (op : Rat → Rat → Rat) : Sp := fun vs H Q _ => ∃ (x y : V) (p q : Rat) (m n : Nat), vs = [x, y] ∧ Num K H x p ∧ Num K H y q ∧ BtN m p ∧ BtN n q ∧ m + n ≤ 6000 ∧ aB3 H Q (op p q)
theorem bg8 {p q : Rat} {m n : Nat} (bp : BtN m p) (bq : BtN n q) (h : m + n ≤ 6000) : ((p.den : Int) * q.den).natAbs < 2 ^ 6000 := by
  rw [Int.natAbs_mul]
  have := Nat.mul_lt_mul'' bp.d' bq.d'
  rw [← Nat.pow_add] at this
  exact Nat.lt_of_lt_of_le this (t9 h)
theorem aK7 (p q : Rat) : (p.den : Int) * q.den ≠ 0 := Int.ne_of_gt (Int.mul_pos (B8 p) (B8 q))
abbrev F7 : Stmt := top 45
theorem as8 : j7 ["_law_one", "_law_other_here"] ["_law_one", "_law_other_here"] (d3 F7) := by and_intros
theorem at6 {f fl : Addr} (d : Df K mg "_law_times" F7 ["_law_one", "_law_other_here"] f) (G__law_low : Def P w K mg base CX0 1 "_law_low" fl ["_law_top", "_law_bottom"] ao7) : Def P w K mg base CX0 2 "_law_times" f ["_law_one", "_law_other_here"] (aj3 K (· * ·)) := by
  refine d.ok (N := ["_law_one", "_law_other_here"]) as8 (by rintro vs H Q E ⟨x, y, p, q, m, n, h, _⟩; rw [h]; rfl) (fun cdv A outer s H vs Q E hr h => ?_)
  obtain ⟨x, y, p, q, m, n, rfl, ⟨ap, rfl, hp⟩, ⟨aq, rfl, hq⟩, bp, bq, hmn, k⟩ := h
  refine ⟨_, (d8 (j1 (i5 G__law_low hr (b7 (i4 B7 (j9 A5 (pv 0) d4 (fun _ _ => rfl)) (j9 A5 (pv 1) d4 (fun _ _ => rfl))) (b7 (i4 B7 (j9 A5 (pv 0) d4 (fun _ _ => rfl)) (j9 A5 (pv 1) d4 (fun _ _ => rfl))) d2)) m3))), ?_⟩
  rw [show start ["_law_one", "_law_other_here"] [.ref ap, .ref aq] = [some (.ref ap), some (.ref aq)] from rfl]
  subst_eqs
  refine ⟨_, hp, _, at0 p, _, hq, _, at0 q, _, rfl, _, rfl, Y4 bp.n bq.n (by omega), _, hp, _, at1 p, _, hq, _, at1 q, _, rfl, _, rfl, Y4 bp.d' bq.d' (by omega), ?_⟩
  refine ⟨_, _, rfl, aK7 p q, bg8 bp bq hmn, ?_⟩
  rw [← aq5]
  exact k
end
section
variable {P : Program} {w : World} {K : PySem.W.Frag} {mg : Str → Option Value} {base : Heap}
abbrev L4 : Stmt := top 44
theorem ax8 : j7 ["_law_one", "_law_other_here"] ["_law_one", "_law_other_here"] (d3 L4) := by and_intros
theorem az4 {f fl : Addr} (d : Df K mg "_law_less" L4 ["_law_one", "_law_other_here"] f) (G__law_low : Def P w K mg base CX0 1 "_law_low" fl ["_law_top", "_law_bottom"] ao7) : Def P w K mg base CX0 2 "_law_less" f ["_law_one", "_law_other_here"] (aj3 K (· - ·)) := by
  refine d.ok (N := ["_law_one", "_law_other_here"]) ax8 (by rintro vs H Q E ⟨x, y, p, q, m, n, h, _⟩; rw [h]; rfl) (fun cdv A outer s H vs Q E hr h => ?_)
  obtain ⟨x, y, p, q, m, n, rfl, ⟨ap, rfl, hp⟩, ⟨aq, rfl, hq⟩, bp, bq, hmn, k⟩ := h
  refine ⟨_, (d8 (j1 (i5 G__law_low hr (b7 (i4 U1 (i4 B7 (j9 A5 (pv 0) d4 (fun _ _ => rfl)) (j9 A5 (pv 1) d4 (fun _ _ => rfl))) (i4 B7 (j9 A5 (pv 1) d4 (fun _ _ => rfl)) (j9 A5 (pv 0) d4 (fun _ _ => rfl)))) (b7 (i4 B7 (j9 A5 (pv 0) d4 (fun _ _ => rfl)) (j9 A5 (pv 1) d4 (fun _ _ => rfl))) d2)) m3))), ?_⟩
  rw [show start ["_law_one", "_law_other_here"] [.ref ap, .ref aq] = [some (.ref ap), some (.ref aq)] from rfl]
  subst_eqs
  refine ⟨_, hp, _, at0 p, _, hq, _, at1 q, _, rfl, _, rfl, Y4 bp.n bq.d' (by omega), _, hq, _, at0 q, _, hp, _, at1 p, _, rfl, _, rfl, Y4 bq.n bp.d' (by omega), _, hp, _, at1 p, _, hq, _, at1 q, _, rfl, _, rfl, Y4 bp.d' bq.d' (by omega), ?_⟩
  refine ⟨_, _, rfl, aK7 p q, bg8 bp bq hmn, ?_⟩
  rw [← aF9]
  exact k
end
section
variable {P : Program} {w : World} {K : PySem.W.Frag} {mg : Str → Option Value} {base : Heap}
def aw9 (K : PySem.W.Frag) : Sp := fun vs H Q _ => ∃ (x y : V) (p q : Rat) (m n : Nat), vs = [x, y] ∧ Num K H x p ∧ Num K H y q ∧ BtN m p ∧ q ≠ 0 ∧ q.num.natAbs < 2 ^ n ∧ q.den < 2 ^ 20000 ∧ m + n ≤ 6000 ∧ aB3 H Q (p / q)
abbrev K9 : Stmt := top 46
theorem ax7 : j7 ["_law_one", "_law_other_here"] ["_law_one", "_law_other_here"] (d3 K9) := by and_intros
theorem az3 {f fl : Addr} (d : Df K mg "_law_over" K9 ["_law_one", "_law_other_here"] f) (G__law_low : Def P w K mg base CX0 1 "_law_low" fl ["_law_top", "_law_bottom"] ao7) : Def P w K mg base CX0 2 "_law_over" f ["_law_one", "_law_other_here"] (aw9 K) := by
  refine d.ok (N := ["_law_one", "_law_other_here"]) ax7 (by rintro vs H Q E ⟨x, y, p, q, m, n, h, _⟩; rw [h]; rfl) (fun cdv A outer s H vs Q E hr h => ?_)
  obtain ⟨x, y, p, q, m, n, rfl, ⟨ap, rfl, hp⟩, ⟨aq, rfl, hq⟩, bp, q0, bq, bd, hmn, k⟩ := h
  refine ⟨_, (d8 (j1 (i5 G__law_low hr (b7 (i4 B7 (j9 A5 (pv 0) d4 (fun _ _ => rfl)) (j9 A5 (pv 1) d4 (fun _ _ => rfl))) (b7 (i4 B7 (j9 A5 (pv 0) d4 (fun _ _ => rfl)) (j9 A5 (pv 1) d4 (fun _ _ => rfl))) d2)) m3))), ?_⟩
  rw [show start ["_law_one", "_law_other_here"] [.ref ap, .ref aq] = [some (.ref ap), some (.ref aq)] from rfl]
  have bd' : (q.den : Int).natAbs < 2 ^ 20000 := by rw [Int.natAbs_natCast]; exact bd
  subst_eqs
  refine ⟨_, hp, _, at0 p, _, hq, _, at1 q, _, rfl, _, rfl, Y4 bp.n bd' (by omega), _, hp, _, at1 p, _, hq, _, at0 q, _, rfl, _, rfl, Y4 bp.d' bq (by omega), ?_⟩
  refine ⟨_, _, rfl, Int.mul_ne_zero (Int.ne_of_gt (B8 p)) (fun z => q0 (aS3.mp z)), ?_, ?_⟩
  · rw [Int.natAbs_mul]
    have := Nat.mul_lt_mul'' bp.d' bq
    rw [← Nat.pow_add] at this
    exact Nat.lt_of_lt_of_le this (t9 hmn)
  · rw [← aI2]
    exact k
end
end R
set_option maxRecDepth 100000
namespace L2
open PySem PySem.Spec PyProof.Rows
theorem aI3 {D : Addr} {g : TG} {tt : TT} {te : TE} {σ0 : St} {H0 : Hp} {Q : VK} {lo : Int} {n : Nat} (Pv : Nat → St → Hp → Prop) (h0 : Pv 0 σ0 H0)
    (hs : ∀ i σ H, i < n → Pv i σ H → g (.int (lo + i)) σ H fun σ4 H4 => tt σ4 H4 fun b H4' => if b = true then te σ4 H4' fun y H5 => v7 D n Pv i σ4 y H5 else aL7 n Pv i σ4 H4')
    (hd : ∀ σ H, Pv n σ H → Q (.ref D) H) : aW1 (Itr lo n) D σ0 H0 g tt te Q := by
  refine ⟨fun i m σ H => m = n - i ∧ i ≤ n ∧ Pv i σ H, ⟨_, rfl, Nat.zero_le _, h0⟩, ?_⟩
  rintro i m σ H ⟨rfl, hi, p⟩
  by_cases hlt : i < n
  · refine .inr ⟨hlt, ?_⟩
    intro x H3 hy
    obtain ⟨rfl, rfl⟩ := hy
    exact hs i σ _ hlt p
  · have e : i = n := by omega
    subst e
    exact .inl ⟨Nat.le_refl _, hd σ H p⟩
end L2
namespace R
open PySem L2 PyProof.Rows
theorem B9.set {K : PySem.W.Frag} {H : Hp} : ∀ {ts : List Addr} {M : List (List Rat)} (k : Nat) {p : Addr} {xs : List V} {L : List Rat}, B9 K H ts M → H p = some (.lst xs) → A8 K H xs L → B9 K H (ts.set k p) (M.set k L)
  | _, _, _, _, _, _, .nil, _, _ => .nil
  | _, _, 0, _, _, _, .cons _ _ t, e, f => .cons e f t
  | _, _, k + 1, _, _, _, .cons h n t, e, f => .cons h n (t.set k e f)
theorem aG7 {M : List (List Rat)} {k : Nat} (hk : k < M.length) (L : List Rat) (i j : Nat) : qq (M.set k L) i j = if i = k then aQ L j else qq M i j := by
  unfold qq
  rw [List.getElem?_set]
  by_cases z : k = i
  · rw [if_pos z, if_pos hk, if_pos z.symm]; rfl
  · rw [if_neg z, if_neg (Ne.symm z)]
theorem au5 {B W : Nat} {M : List (List Rat)} (hB : 0 < B) (hW : B < 2 ^ W) (h : ∀ L ∈ M, ∀ q ∈ L, OvB B W q) : Sc W (qq M) := by
  refine ⟨fun _ => (B : Int), fun r => ⟨by show (0 : Int) < (B : Int); omega, by simpa using hW, fun c => ?_⟩⟩
  have : OvB B W (qq M r c) := by
    unfold qq
    cases e : M[r]? with
    | none => exact OvB.zero _ _
    | some L =>
      show OvB B W (aQ L c)
      unfold aQ
      cases e2 : L[c]? with
      | none => exact OvB.zero _ _
      | some q => exact h L (List.mem_of_getElem? e) q (List.mem_of_getElem? e2)
  obtain ⟨v, e, b⟩ := this
  refine ⟨v, ?_, b⟩
  have b0 : ((B : Int) : Rat) ≠ 0 := fun y => by
    have : (B : Int) = 0 := Rat.intCast_inj.mp y
    omega
  rw [e, Rat.divInt_eq_div, Rat.mul_comm, Rat.div_mul_cancel b0]
theorem BdN.inv {m : Nat} {q : Rat} (h0 : q ≠ 0) (h : BdN m q) : BdN m q⁻¹ := by
  have hn : q.num ≠ 0 := fun z => h0 (Rat.num_eq_zero.mp z)
  have e : q⁻¹ = Rat.divInt q.den q.num := by rw [Rat.inv_def]
  have b := aj5 (x := q⁻¹) (d := q.num) (m := (q.den : Int)) (by
    rw [e, Rat.divInt_eq_div]
    exact Rat.div_mul_cancel fun y => hn (Rat.intCast_inj.mp y)) hn
  exact ⟨Nat.lt_of_le_of_lt b.1 (by rw [Int.natAbs_natCast]; exact h.d), Nat.lt_of_le_of_lt b.2 h.n⟩
theorem B9.at {K : PySem.W.Frag} {H : Hp} {ts : List Addr} {M : List (List Rat)} {n m : Nat} (h : B9 K H ts M) (ln : M.length = n) (lm : ∀ L ∈ M, L.length = m) {i : Nat} (hi : i < n) : ∃ (p : Addr) (xs : List V) (L : List Rat), (ts.map V.ref)[i]? = some (.ref p) ∧ ts[i]? = some p ∧ M[i]? = some L ∧ H p = some (.lst xs) ∧ A8 K H xs L ∧ L.length = m ∧ ∀ j, qq M i j = aQ L j := by
  have e := List.getElem?_eq_getElem (l := ts) (i := i) (by rw [h.length, ln]; exact hi)
  obtain ⟨xs, L, e1, e2, e3⟩ := h.get e
  exact ⟨_, xs, L, by rw [List.getElem?_map, e]; rfl, e, e1, e2, e3, lm L (List.mem_of_getElem? e1), fun j => by unfold qq; rw [e1]; rfl⟩
section
variable {P : Program} {w : World} {K : PySem.W.Frag} {mg : Str → Option Value} {base : Heap}
def ax0 (K : PySem.W.Frag) : Sp := fun vs H Q _ => ∃ (a : Addr) (ts : List Addr) (M : List (List Rat)) (n B W : Nat), vs = [.ref a] ∧ SqL K H a (ts.map V.ref) ∧ B9 K H ts M ∧ M.length = n ∧ (∀ L ∈ M, L.length = n ∧ ∀ q ∈ L, OvB B W q) ∧ 0 < B ∧ B < 2 ^ W ∧ n ≤ 14 ∧ (W + 4) * (n + 1) ≤ 900 ∧
  ∀ r H', d7 H H' → H' r = some (.tup (F0 (dt n (qq M)))) → Q (.ref r) H'
theorem J3 {H : Hp} : ∀ ks : List Nat, L9 K H (ks.map fun (k : Nat) => V.int (k : Int)) (ks.map fun (k : Nat) => D.v (.int (k : Int)))
  | [] => .nil
  | _ :: ks => .cons (.v rfl) (J3 ks)
theorem aS2 (ks : List Nat) : okD (.lst (ks.map fun (k : Nat) => D.v (.int (k : Int)))) (.lst []) = true := by
  cases ks <;> simp [okD, Y2]
theorem aU1 (ks : List Nat) : eqD (.lst (ks.map fun (k : Nat) => D.v (.int (k : Int)))) (.lst []) = ks.isEmpty := by
  cases ks <;> simp [eqD, L8]
theorem av7 : ∀ ks : List Nat, ad0 (ks.map fun (k : Nat) => D.v (.int (k : Int))) ≤ 1
  | [] => by simp [ad0]
  | k :: ks => by
    have := av7 ks
    rw [List.map_cons, ad0, dpD]; omega
theorem aY5 (ks : List Nat) : dpD (.lst (ks.map fun (k : Nat) => D.v (.int (k : Int)))) ≤ 60 := by
  rw [dpD]; have := av7 ks; omega
structure aw4 (K : PySem.W.Frag) (H : Hp) (l : Addr) (ts : List Addr) (M : List (List Rat)) (H3 : Hp) : Prop where
  same : d7 H H3
  fr : H l = none
  at' : H3 l = some (.lst (ts.map V.ref))
  nl : l ∉ ts
  rws : B9 K H3 ts M
theorem aw4.next {H H3 H4 : Hp} {l : Addr} {ts : List Addr} {M : List (List Rat)} (d : aw4 K H l ts M H3) (s : d7 H3 H4) : aw4 K H l ts M H4 := ⟨d.same.trans s, d.fr, s _ _ d.at', d.nl, d.rws.same s⟩
theorem ba7 {qa D : Addr} {ts : List Addr} {M : List (List Rat)} {H1 : Hp} {Q : VK} (hA : SqL K H1 qa (ts.map V.ref)) (R : B9 K H1 ts M) (hD : H1 D = none) (hl : M.length ≤ 50) (k : ∀ H2, W6 K H1 D M H2 → Q (.ref D) H2) : af7 (Itl K qa) D [none] (upd H1 D (.lst [])) (C7 0) (tCB (aQ6 K) (ao2 (ai9 0) aM4)) Q := by
  refine ab2 (ts.map V.ref) (fun j σ H3 => ∃ o, σ = [o] ∧ W6 K H1 D (M.take j) H3) ⟨_, rfl, W6.start hD⟩ (fun j σ H3 _ ⟨o, _, T⟩ => T.same.seq hA) ?_ ?_
  · rintro j x σ H3 hx ⟨o, rfl, T⟩
    have hj := (List.getElem?_eq_some_iff.mp hx).1
    obtain ⟨pr, hpr, rfl⟩ := ac2 hx
    obtain ⟨ys, Lr, hLr, er, nr⟩ := R.get hpr
    subst_eqs
    refine ⟨ys, .inl (SqL.of (T.same _ _ er)), fun l hl' => ?_⟩
    obtain ⟨ys', eD, yl, T'⟩ := T.add hD hl' ⟨d7.new hl' (.lst ys), ys, d5, (nr.mono T.same.tups).mono (d7.new hl' _).tups⟩
    refine v7.mk hj eD (F9 (by rw [yl, List.length_take]; omega)) ⟨_, rfl, ?_⟩
    rw [m5 hLr]
    exact T'
  · rintro σ H3 ⟨o, rfl, T⟩
    rw [B3 (by rw [List.length_map, R.length]; exact Nat.le_refl _)] at T
    exact k H3 T
abbrev E1 : Stmt := top 50
theorem C4 : j7 ["_law_table", "_law_rows", "_law_found", "_law_i", "_law_some", "_law_k", "_law_often"] ["_law_table"] (d3 E1) := by and_intros
set_option maxHeartbeats 0 in
theorem aD3 {f f1 f2 f3 : Addr} (d : Df K mg "_law_det" E1 ["_law_table"] f) (G__law_times : Def P w K mg base CX0 2 "_law_times" f1 ["_law_one", "_law_other_here"] (aj3 K (· * ·))) (G__law_less : Def P w K mg base CX0 2 "_law_less" f2 ["_law_one", "_law_other_here"] (aj3 K (· - ·))) (G__law_over : Def P w K mg base CX0 2 "_law_over" f3 ["_law_one", "_law_other_here"] (aw9 K)) (n_len : mg "len" = none) (n_range : mg "range" = none) (n_list : mg "list" = none) (n_zip : mg "zip" = none) : Def P w K mg base CX0 3 "_law_det" f ["_law_table"] (ax0 K) := by
  refine d.ok (N := ["_law_table", "_law_rows", "_law_found", "_law_i", "_law_some", "_law_k", "_law_often"]) C4 (by rintro vs H Q E ⟨_, _, _, _, _, _, h, _⟩; rw [h]; rfl) (fun cdv A outer s H vs Q E hr h => ?_)
  obtain ⟨a, ts, M, n, B, W, rfl, hA, hR, ln, lm, B0, hBW, n14, hW, kk⟩ := h
  have hu := hr.units
  refine ⟨_, (d6 (m6 (i := 1) C4.nd rfl (Or.inr rfl) (E7 (Nc := ["_law_row"]) (caps := [none]) rfl (Q8.of (osc := d3 E1) (N := ["_law_table", "_law_rows", "_law_found", "_law_i", "_law_some", "_law_k", "_law_often"]) (ks := []) rfl rfl rfl rfl v3 (by decide +kernel)) (O7 (pv 0)) (fun C s₂ H₂ fp pins => (i7 (i := 0) (show List.Nodup (["_law_row"] : List Str) by decide +kernel) rfl (Or.inl rfl) (Or.inr rfl))) (fun C s₂ H₂ fp pins => (N9 (by exact S3 : aa3 _ (.type "list") (aQ6 K)) rfl n_list (by decide +kernel) (b7 (pv 0) d2)))))
      (d6 (m6 (i := 2) C4.nd rfl (Or.inl rfl) (A3 (b7 d4 (b7 d4 d2))))
      (d6 (T4 PassesOwn.never rfl (C3 rfl n_range (b7 (d9 m4 rfl n_len (by decide +kernel) (b7 (pv 1) d2)) d2)) (i7 (i := 3) C4.nd rfl (Or.inr rfl)) (d6 (ay4 (i₀ := 4) C4.nd rfl (Or.inl rfl) (Nc := ["_law_rows", "_law_i", "_law_k"]) (caps := [some 1, some 3, none]) rfl (Q8.of (osc := d3 E1) (N := ["_law_table", "_law_rows", "_law_found", "_law_i", "_law_some", "_law_k", "_law_often"]) (ks := ["_law_rows", "_law_i"]) rfl rfl rfl rfl (j0 rfl (j0 rfl v3)) (by decide +kernel)) (Y1 rfl n_range (b7 (pv 3) (b7 (d9 m4 rfl n_len (by decide +kernel) (b7 (pv 1) d2)) d2))) (fun C s₂ H₂ fp pins => (i7 (i := 2) (show List.Nodup (["_law_rows", "_law_i", "_law_k"] : List Str) by decide +kernel) rfl (Or.inl rfl) (Or.inr rfl))) (fun C s₂ H₂ fp pins => (t6 ap5 (j9 (by exact A5 : IxR _ (aX1 K)) (j9 (by exact j5 : IxR _ (ah1 K)) (j9 (by exact j5 : IxR _ (ah1 K)) (pv 0) (pv 2) (fun _ _ => rfl)) (pv 1) (fun _ _ => rfl)) d4 (fun _ _ => rfl)) d4 (t5 _))) (fun C s₂ H₂ fp pins => (pv 2)))
      (d6 (C2 (t6 (az0 hu) (pv 4) (L7 d2) (t5 _)) (d8 (j1 (A3 (b7 d4 (b7 d4 d2))))) v0)
      (d6 (C2 (t6 ap5 (j9 j5 (pv 4) d4 (fun _ _ => rfl)) (pv 3) (t5 _)) (d6 (ac3 (A3 (b7 (j9 j5 (pv 1) (j9 j5 (pv 4) d4 (fun _ _ => rfl)) (fun _ _ => rfl)) (b7 (j9 j5 (pv 1) (pv 3) (fun _ _ => rfl)) d2))) (show PG _ _ (ak3 K 2 (K3 (aT8 _ _ aC1) (K3 (aT8 _ _ aC1) ak4))) from by (refine V6 (n := 2) ?_ ?_ ?_ ?_; rfl; (refine v5 ?_ ?_ ?_; (exact (ap2 (pv 1) (pv 3) ab8)); (refine v5 ?_ ?_ ?_; (exact (ap2 (pv 1) (j9 j5 (pv 4) d4 (fun _ _ => rfl)) ab8)); (exact P7); rfl); rfl); rfl; rfl)))
      (d8 (m6 (i := 2) C4.nd rfl (Or.inl rfl) (A3 (b7 (i4 U1 d4 (j9 A5 (pv 2) d4 (fun _ _ => rfl))) (b7 (j9 A5 (pv 2) d4 (fun _ _ => rfl)) d2)))))) v0)
      (d6 (m6 (i := 2) C4.nd rfl (Or.inl rfl) (i5 G__law_times hr (b7 (pv 2) (b7 (j9 j5 (j9 j5 (pv 1) (pv 3) (fun _ _ => rfl)) (pv 3) (fun _ _ => rfl)) d2)) m3))
      (d8 (T4 PassesOwn.never rfl (Y1 rfl n_range (b7 (i4 E4 (pv 3) d4) (b7 (d9 m4 rfl n_len (by decide +kernel) (b7 (pv 1) d2)) d2))) (i7 (i := 5) C4.nd rfl (Or.inl rfl)) (d6 (m6 (i := 6) C4.nd rfl (Or.inr rfl) (i5 G__law_over hr (b7 (j9 j5 (j9 j5 (pv 1) (pv 5) (fun _ _ => rfl)) (pv 3) (fun _ _ => rfl)) (b7 (j9 j5 (j9 j5 (pv 1) (pv 3) (fun _ _ => rfl)) (pv 3) (fun _ _ => rfl)) d2)) m3))
      (d8 (ac3 (E7 (Nc := ["_law_often", "_law_a", "_law_b"]) (caps := [some 6, none, none]) rfl (Q8.of (osc := d3 E1) (N := ["_law_table", "_law_rows", "_law_found", "_law_i", "_law_some", "_law_k", "_law_often"]) (ks := ["_law_often"]) rfl rfl rfl rfl (j0 rfl v3) (by decide +kernel)) (aR5 rfl n_zip (b7 (j9 j5 (pv 1) (pv 5) (fun _ _ => rfl)) (b7 (j9 j5 (pv 1) (pv 3) (fun _ _ => rfl)) d2))) (fun C s₂ H₂ fp pins => (show PG _ _ (ak3 K 2 (K3 (C7 1) (K3 (C7 2) ak4))) from by (refine V6 (n := 2) ?_ ?_ ?_ ?_; rfl; (refine v5 ?_ ?_ ?_; (exact (i7 (i := 1) (show List.Nodup (["_law_often", "_law_a", "_law_b"] : List Str) by decide +kernel) rfl (Or.inl rfl) (Or.inr rfl))); (refine v5 ?_ ?_ ?_; (exact (i7 (i := 2) (show List.Nodup (["_law_often", "_law_a", "_law_b"] : List Str) by decide +kernel) rfl (Or.inl rfl) (Or.inr rfl))); (exact P7); rfl); rfl); rfl; rfl))) (fun C s₂ H₂ fp pins => (i5 G__law_less hr (b7 (pv 1) (b7 (i5 G__law_times hr (b7 (pv 0) (b7 (pv 2) d2)) m3) d2)) m3))) (ap2 (pv 1) (pv 5) ab8)))))))))))
      (d8 (j1 (pv 2)))))), ?_⟩
  rw [show start ["_law_table", "_law_rows", "_law_found", "_law_i", "_law_some", "_law_k", "_law_often"] [.ref a] = [some (.ref a), none, none, none, none, none, none] from rfl]
  subst_eqs
  have lm1 : ∀ L ∈ M, L.length = n := fun L hL => (lm L hL).1
  have sc : Sc W (qq M) := au5 B0 hBW fun L hL => (lm L hL).2
  have bw : ∀ k, k ≤ n → (W + 4) * k ≤ 900 := fun k hk => Nat.le_trans (Nat.mul_le_mul_left _ (by omega)) hW
  refine ⟨⟨_, hA⟩, fun l hl => ba7 hA hR hl (by omega) fun H1 T => ⟨by decide, fun p hp => ?_⟩⟩
  obtain ⟨S1, ts1, el1, n1, _, R1⟩ := T
  obtain ⟨H2, y2, X2, g2⟩ := t7 (.tup [.int 1, .int 1]) hp
  rw [← y2]
  obtain ⟨I, hI⟩ : ∃ I : Nat → L2.St → Hp → Prop, ∀ i σ H3, I i σ H3 ↔ ∃ (ts' : List Addr) (M' : List (List Rat)) (B' : Mt) (sg fd : Rat) (pf : Addr) (o3 o4 o5 o6 : Option V), σ = [some (.ref a), some (.ref l), some (.ref pf), o3, o4, o5, o6] ∧ aw4 K H l ts' M' H3 ∧ Ld W n (qq M) B' sg i M' fd ∧ H3 pf = some (.tup (F0 fd)) := ⟨_, fun _ _ _ => Iff.rfl⟩
  have lt1 : ts1.length = n := by rw [R1.length, ln]
  refine ⟨_, rfl, l, rfl, _, .inl (SqL.of (X2 _ _ el1)), _, rfl, ?_, ?_, O1 I ((hI _ _ _).mpr ⟨ts1, M, qq M, 1, 1, p, _, _, _, _, rfl, ⟨S1.trans X2, hl, X2 _ _ el1, fun z => (n1 l z).2 rfl, R1.same X2⟩, Ld.start ln lm1 sc, g2⟩) ?_ ?_⟩
  · omega
  · rw [List.length_map, lt1]; omega
  · rintro i σ H3 hi h
    obtain ⟨ts', M', B', sg, fd, pf, o3, o4, o5, o6, rfl, D3, E3, ef⟩ := (hI _ _ _).mp h
    rw [List.length_map, lt1] at hi
    rw [Int.zero_add]
    have bit : ∀ {k : Nat} {N : List (List Rat)} {B2 : Mt} {s2 f2 : Rat}, Ld W n (qq M) B2 s2 k N f2 → ∀ x y, k ≤ x → x < n → y < n → BdN 901 (qq N x y) := fun E x y h1 h2 h3 => by
      have b := E.bits (by omega) h1 h2 h3
      have le : 2 ^ ((W + 4) * (n + 1)) < 2 ^ 901 := Nat.pow_lt_pow_right (by decide) (by omega)
      exact ⟨Nat.lt_of_le_of_lt b.1 le, Nat.lt_of_le_of_lt b.2 le⟩
    refine j4 (fun σ H4 => d7 H3 H4 ∧ ∃ (c : Addr) (ks : List Nat), σ = [some (.ref a), some (.ref l), some (.ref pf), some (.int i), some (.ref c), o5, o6] ∧ H4 c = some (.lst (ks.map fun (k : Nat) => V.int (k : Int))) ∧ (∀ k ∈ ks, i ≤ k ∧ k < n ∧ qq M' k i ≠ 0) ∧ (ks = [] → ∀ x, i ≤ x → x < n → qq M' x i = 0) ∧ l ≠ c) (fun N hN => ?_) ?_
    · subst_eqs
      have lts := D3.rws.length
      refine ⟨_, .inl (SqL.of D3.at'), by omega, by omega, by omega, by rw [List.length_map, lts, E3.len]; omega, fun D hD => ?_⟩
      rw [List.length_map, lts, E3.len, show ((n : Int) - (i : Int)).toNat = n - i by omega]
      obtain ⟨Pv, hPv⟩ : ∃ Pv : Nat → L2.St → Hp → Prop, ∀ j σ H4, Pv j σ H4 ↔ d7 H3 H4 ∧ ∃ (o : Option V) (ks : List Nat), σ = [some (.ref l), some (.int i), o] ∧ H4 D = some (.lst (ks.map fun (k : Nat) => V.int (k : Int))) ∧ (∀ k ∈ ks, i ≤ k ∧ k < n ∧ qq M' k i ≠ 0) ∧ ks.length ≤ j ∧ (ks = [] → ∀ x, i ≤ x → x < i + j → qq M' x i = 0) := ⟨_, fun _ _ _ => Iff.rfl⟩
      refine aI3 Pv ((hPv _ _ _).mpr ⟨d7.new hD _, _, [], rfl, d5, by simp, Nat.le_refl _, fun _ x h1 h2 => by omega⟩) ?_ ?_
      · rintro j σ H4 hj h
        obtain ⟨s4, o, ks, rfl, e4, k4, lk, z4⟩ := (hPv _ _ _).mp h
        obtain ⟨q, xs, L, f1, f2, f3, f4, f5, f6, f7⟩ := D3.rws.at E3.len E3.row (i := i + j) (by omega)
        have ei := List.getElem?_eq_getElem (l := L) (i := i) (by omega)
        obtain ⟨pq, g1, g2⟩ := f5.get ei
        have vq : qq M' (i + j) i = L[i]'(by omega) := by rw [f7]; unfold aQ; rw [ei]; rfl
        rw [← vq] at g2
        have ij : (i : Int) + (j : Int) = ((i + j : Nat) : Int) := by omega
        subst_eqs
        refine ⟨_, s4.seq (SqL.of D3.at'), _, by rw [ij]; exact u0 f1, q, rfl, xs, SqL.of (s4 _ _ f4), _, u0 g1, pq, rfl, _, (g2.mono s4.tups).sqt, _, at0 _, rfl, ?_⟩
        rw [ij]
        refine K5 (fun h1 => ?_) (fun h1 => ?_)
        · have h0 : qq M' (i + j) i ≠ 0 := fun z => h1 (by rw [z]; rfl)
          refine v7.mk hj e4 (by rw [List.length_map]; exact Nat.lt_of_lt_of_le (show _ < 100 by omega) (by decide)) ((hPv _ _ _).mpr ⟨s4.over hD _, _, ks ++ [i + j], rfl, by rw [d5, List.map_append]; rfl, ?_, by rw [List.length_append]; show _ + 1 ≤ _; omega, fun z => absurd z (by simp)⟩)
          intro k hk
          rcases List.mem_append.mp hk with z | z
          · exact k4 k z
          · rw [List.mem_singleton.mp z]; exact ⟨by omega, by omega, h0⟩
        · have h0 : qq M' (i + j) i = 0 := Classical.byContradiction fun z => h1 fun y => z (Rat.num_eq_zero.mp (V.int.inj y))
          refine aL7.mk hj ((hPv _ _ _).mpr ⟨s4, _, ks, rfl, e4, k4, by omega, fun z x h2 h3 => ?_⟩)
          by_cases y : x = i + j
          · rw [y]; exact h0
          · exact z4 z x h2 (by omega)
      · rintro σ H4 h
        obtain ⟨s4, o, ks, rfl, e4, k4, lk, z4⟩ := (hPv _ _ _).mp h
        exact hN _ _ ⟨s4, D, ks, rfl, e4, k4, fun z x h1 h2 => z4 z x h1 (by omega), i6 D3.at' hD⟩
    rintro σ H4 ⟨s4, c, ks, rfl, ec, k4, z4, lc⟩
    have D4 := D3.next s4
    have ef4 := s4 _ _ ef
    refine j4 (fun σ H5 => d7 H4 H5 ∧ σ = [some (.ref a), some (.ref l), some (.ref pf), some (.int i), some (.ref c), o5, o6] ∧ ks ≠ []) (fun N hN => ?_) ?_
    · subst_eqs
      refine ⟨Nat.zero_le _, fun q hq => ?_⟩
      obtain ⟨H5, y5, X5, g5⟩ := t7 (.lst []) hq
      rw [← y5]
      refine ⟨.lst (ks.map fun (k : Nat) => .v (.int (k : Int))), .lst [], rfl, .lst (SqL.of (X5 _ _ ec)) (J3 ks), .lst (SqL.of g5) .nil, aS2 ks, aY5 ks, _, rfl, ?_⟩
      rw [aU1]
      refine K5 (fun h1 => ⟨by decide, fun r hr => ?_⟩) (fun h1 => hN _ _ ⟨X5, rfl, fun z => h1 (by rw [z]; rfl)⟩)
      have z0 : dt n (qq M) = 0 := E3.stuck hi (z4 (List.isEmpty_iff.mp h1))
      refine kk r _ ((D4.same.trans X5).trans (d7.new hr _)) ?_
      rw [d5, z0]; rfl
    rintro σ H5 ⟨s5, rfl, kn⟩
    obtain ⟨s, ks', rfl⟩ : ∃ s ks', ks = s :: ks' := by
      cases ks with
      | nil => exact absurd rfl kn
      | cons s ks' => exact ⟨s, ks', rfl⟩
    obtain ⟨is, sn, q0⟩ := k4 s List.mem_cons_self
    have D5 := D4.next s5
    have ec5 := s5 _ _ ec
    have ef5 := s5 _ _ ef4
    have lts := D3.rws.length
    have a0 : atI ((s :: ks').map fun (k : Nat) => V.int (k : Int)) 0 = some (.int (s : Int)) := u0 (j := 0) rfl
    refine j4 (fun σ H6 => ∃ (ts2 : List Addr) (M2 : List (List Rat)) (B2 : Mt) (sg2 fd2 : Rat) (pf2 : Addr), σ = [some (.ref a), some (.ref l), some (.ref pf2), some (.int i), some (.ref c), o5, o6] ∧ aw4 K H l ts2 M2 H6 ∧ Ld W n (qq M) B2 sg2 i M2 fd2 ∧ H6 pf2 = some (.tup (F0 fd2)) ∧ qq M2 i i ≠ 0) (fun N hN => ?_) ?_
    · subst_eqs
      obtain ⟨q, xs, L, f1, f2, f3, f4, f5, f6, f7⟩ := D5.rws.at E3.len E3.row (i := i) hi
      obtain ⟨q', xs', L', f1', f2', f3', f4', f5', f6', f7'⟩ := D5.rws.at E3.len E3.row (i := s) sn
      refine ⟨_, SqL.of ec5, .int (s : Int), a0, rfl, ?_⟩
      refine K5 (fun h1 => ?_) (fun h1 => ?_)
      · have si : i ≠ s := fun z => h1 (by rw [z])
        refine ⟨_, SqL.of ec5, .int (s : Int), a0, _, _, rfl, SqL.of D5.at', _, u0 f1', _, SqL.of D5.at', _, u0 f1, by decide, fun r hr => ?_⟩
        obtain ⟨H6, y6, X6, g6⟩ := t7 (.tup [V.ref q', V.ref q]) hr
        rw [← y6]
        have e6 := X6 _ _ D5.at'
        have lt' : (ts'.map V.ref).length = n := by rw [List.length_map, lts, E3.len]
        have fl : pf ≠ l := fun z => by rw [z, D5.at'] at ef5; cases ef5
        have si' : i < s := by omega
        have nl2 : l ∉ (ts'.set i q').set s q := fun z => by
          rcases List.mem_or_eq_of_mem_set z with z | z
          · rcases List.mem_or_eq_of_mem_set z with z | z
            · exact D5.nl z
            · exact D5.nl (z ▸ List.mem_of_getElem? f2')
          · exact D5.nl (z ▸ List.mem_of_getElem? f2)
        have ml : (M'.set i L').length = n := by rw [List.length_set, E3.len]
        have qe : ∀ x y, qq ((M'.set i L').set s L) x y = if x = i then qq M' s y else if x = s then qq M' i y else qq M' x y := fun x y => by
          rw [aG7 (by rw [ml]; exact sn), aG7 (by rw [E3.len]; exact hi), f7, f7']
          by_cases z : x = s
          · rw [if_pos z, if_neg (by omega), if_pos z]
          · rw [if_neg z, if_neg z]
        have rl : ∀ N ∈ (M'.set i L').set s L, N.length = n := fun N hN => by
          rcases List.mem_or_eq_of_mem_set hN with z | z
          · rcases List.mem_or_eq_of_mem_set z with z | z
            · exact E3.row N z
            · rw [z]; exact f6'
          · rw [z]; exact f6
        have pf8 : ∀ o1 o2, upd (upd H6 l o1) l o2 pf = some (.tup (F0 fd)) := fun o1 o2 => by rw [i0 fl, i0 fl]; exact X6 _ _ ef5
        refine ⟨_, SqT.of g6, rfl, _, _, rfl, _, e6, i, aA1 (by rw [lt']; exact hi), _, _, rfl, _, SqL.of (show _ = some (HO.lst ((s :: ks').map fun (k : Nat) => V.int (k : Int))) by rw [i0 (Ne.symm lc)]; exact X6 _ _ ec5), _, a0, _, _, rfl, d5, s, aA1 (by rw [List.length_set, lt']; exact sn), rfl, _, SqT.of (pf8 _ _), _, at0 _, _, rfl, _, SqT.of (pf8 _ _), _, at1 _, by decide, fun r2 hr2 => ?_⟩
        have S8 : d7 H _ := ((D5.same.trans X6).over D5.fr (.lst ((ts'.map V.ref).set i (V.ref q')))).over D5.fr (.lst (((ts'.map V.ref).set i (V.ref q')).set s (V.ref q)))
        have em : ((ts'.map V.ref).set i (V.ref q')).set s (V.ref q) = ((ts'.set i q').set s q).map V.ref := by rw [List.map_set, List.map_set]
        have R8 := ((((D5.rws.same X6).set i (X6 _ _ f4') (f5'.mono X6.tups)).set s (X6 _ _ f4) (f5.mono X6.tups)).over (o := .lst ((ts'.map V.ref).set i (V.ref q'))) e6 nl2).over (o := .lst (((ts'.map V.ref).set i (V.ref q')).set s (V.ref q))) d5 nl2
        have X9 := d7.new hr2 (.tup [V.int (0 - fd.num), V.int (fd.den : Int)])
        refine hN _ _ ⟨_, (M'.set i L').set s L, _, _, -fd, r2, rfl, ⟨S8.trans X9, D5.fr, ?_, nl2, R8.same X9⟩, E3.swap si' sn (by rw [List.length_set, ml]) rl qe, ?_, ?_⟩
        · refine X9 _ _ ?_
          rw [d5, em]
        · rw [d5]
          unfold F0
          rw [Rat.neg_num, Rat.neg_den, Int.zero_sub]
        · rw [qe, if_pos rfl]; exact q0
      · have si : s = i := Classical.byContradiction fun z => h1 fun y => z (by have := V.int.inj y; omega)
        rw [si] at q0
        exact hN _ _ ⟨ts', M', B', sg, fd, pf, rfl, D5, E3, ef5, q0⟩
    rintro σ H6 ⟨ts2, M2, B2, sg2, fd2, pf2, rfl, D6, E6, ef6, q2⟩
    simp! [aj3]
    obtain ⟨q, xs, L, f1, f2, f3, f4, f5, f6, f7⟩ := D6.rws.at E6.len E6.row (i := i) hi
    have ei := List.getElem?_eq_getElem (l := L) (i := i) (by omega)
    obtain ⟨pq, g1, gq⟩ := f5.get ei
    have vq : qq M2 i i = L[i]'(by omega) := by rw [f7]; unfold aQ; rw [ei]; rfl
    rw [← vq] at gq
    have bf : BdN 901 fd2 := by
      have b := E6.fbits (by omega) (by omega)
      have le : 2 ^ ((W + 4) * n) < 2 ^ 901 := Nat.pow_lt_pow_right (by decide) (by have := bw n (Nat.le_refl _); omega)
      exact ⟨Nat.lt_of_le_of_lt b.1 le, Nat.lt_of_le_of_lt b.2 le⟩
    have bii := bit E6 i i (Nat.le_refl _) hi hi
    refine ⟨_, SqL.of D6.at', _, u0 f1, q, rfl, xs, SqL.of f4, _, u0 g1, fd2, ⟨_, rfl, SqT.of ef6⟩, qq M2 i i, ⟨_, rfl, gq.sqt⟩, 901, bf.t (by omega), 901, bii.t (by omega), by omega, fun r H7 s7 er => ?_⟩
    have D7 := D6.next s7
    have lt2 : (ts2.map V.ref).length = n := by rw [List.length_map, D6.rws.length, E6.len]
    obtain ⟨J, hJ⟩ : ∃ J : Nat → L2.St → Hp → Prop, ∀ j σ H8, J j σ H8 ↔ ∃ (ts3 : List Addr) (M3 : List (List Rat)) (o5 o6 : Option V), σ = [some (.ref a), some (.ref l), some (.ref r), some (.int i), some (.ref c), o5, o6] ∧ aw4 K H l ts3 M3 H8 ∧ M3.length = n ∧ (∀ N ∈ M3, N.length = n) ∧ H8 r = some (.tup (F0 (fd2 * qq M2 i i))) ∧ ∀ x y, y < n → qq M3 x y = if i < x ∧ x < i + 1 + j then qq M2 x y - qq M2 x i * (qq M2 i i)⁻¹ * qq M2 i y else qq M2 x y := ⟨_, fun _ _ _ => Iff.rfl⟩
    refine ⟨_, rfl, _, _, rfl, rfl, _, rfl, l, rfl, _, .inl (SqL.of D7.at'), _, _, rfl, ⟨by omega, by omega, by omega, by rw [lt2]; omega⟩, O1 J ((hJ _ _ _).mpr ⟨ts2, M2, _, _, rfl, D7, E6.len, E6.row, er, fun x y _ => by rw [if_neg (by omega)]⟩) ?_ ?_⟩
    · rintro j σ H8 hj h
      obtain ⟨ts3, M3, o5', o6', rfl, D8, l8, r8, er8, v8⟩ := (hJ _ _ _).mp h
      rw [lt2] at hj
      have hk : i + 1 + j < n := by omega
      have ek : (i : Int) + 1 + (j : Int) = ((i + 1 + j : Nat) : Int) := by omega
      rw [ek]
      obtain ⟨k, hkk⟩ : ∃ k, k = i + 1 + j := ⟨_, rfl⟩
      rw [← hkk]
      have lt3 : (ts3.map V.ref).length = n := by rw [List.length_map, D8.rws.length, l8]
      obtain ⟨q, xs, L, f1, f2, f3, f4, f5, f6, f7⟩ := D8.rws.at l8 r8 (i := i) hi
      obtain ⟨q', xs', L', f1', f2', f3', f4', f5', f6', f7'⟩ := D8.rws.at l8 r8 (i := k) (by omega)
      have vL : ∀ y, y < n → aQ L y = qq M2 i y := fun y hy => by rw [← f7, v8 i y hy, if_neg (by omega)]
      have vL' : ∀ y, y < n → aQ L' y = qq M2 k y := fun y hy => by rw [← f7', v8 k y hy, if_neg (by omega)]
      have at2 : ∀ {xs : List V} {L : List Rat}, A8 K H8 xs L → L.length = n → ∀ y, y < n → ∃ py, xs[y]? = some (.ref py) ∧ NmC K H8 py (aQ L y) := fun hN hl y hy => by
        rename_i xs L
        have ey := List.getElem?_eq_getElem (l := L) (i := y) (by omega)
        obtain ⟨py, g1, g2⟩ := hN.get ey
        exact ⟨py, g1, by unfold aQ; rw [ey]; exact g2⟩
      obtain ⟨p1, g1, h1⟩ := at2 f5' f6' i hi
      obtain ⟨p2, g2, h2⟩ := at2 f5 f6 i hi
      rw [vL' i hi] at h1
      rw [vL i hi] at h2
      have bki := bit E6 k i (by omega) (by omega) hi
      simp! [aw9]
      refine ⟨_, SqL.of D8.at', _, u0 f1', q', rfl, _, SqL.of f4', _, u0 g1, _, SqL.of D8.at', _, u0 f1, q, rfl, _, SqL.of f4, _, u0 g2, _, ⟨_, rfl, h1.sqt⟩, _, ⟨_, rfl, h2.sqt⟩, 901, bki.t (by omega), q2, 901, bii.n, Y9 bii.d (by omega), by omega, fun ro H9 s9 eo => ?_⟩
      obtain ⟨tt, htt⟩ : ∃ tt, tt = qq M2 k i / qq M2 i i := ⟨_, rfl⟩
      rw [← htt] at eo
      have bt : BdN 1802 tt := by rw [htt, Rat.div_def]; exact bki.mul (bii.inv q2)
      obtain ⟨NR, hNR⟩ : ∃ NR, NR = (List.range n).map fun y => qq M2 k y - tt * qq M2 i y := ⟨_, rfl⟩
      have nl : NR.length = n := by rw [hNR, List.length_map, List.length_range]
      have nv : ∀ y, y < n → NR[y]? = some (qq M2 k y - tt * qq M2 i y) := fun y hy => by rw [hNR, List.getElem?_map, List.getElem?_range hy]; rfl
      have lx' : xs'.length = n := by rw [f5'.length, f6']
      have lx : xs.length = n := by rw [f5.length, f6]
      refine ⟨_, SqL.of (s9 _ _ D8.at'), _, u0 f1', _, SqL.of (s9 _ _ D8.at'), _, u0 f1, q', rfl, q, rfl, ⟨_, SqL.of (s9 _ _ f4')⟩, ⟨_, SqL.of (s9 _ _ f4)⟩, fun D hD => ?_⟩
      have mn : min xs'.length xs.length = n := by omega
      obtain ⟨Pv, hPv⟩ : ∃ Pv : Nat → L2.St → Hp → Prop, ∀ y σ H10, Pv y σ H10 ↔ ∃ (o1 o2 : Option V), σ = [some (.ref ro), o1, o2] ∧ ad3 K H9 D (NR.take y) H10 := ⟨_, fun _ _ _ => Iff.rfl⟩
      refine aV0 xs' xs Pv ((hPv _ _ _).mpr ⟨_, _, rfl, ad3.start hD⟩) (fun y σ H10 h => ?_) ?_ ?_
      · obtain ⟨_, _, _, R⟩ := (hPv _ _ _).mp h
        exact ⟨SqL.of (R.same _ _ (s9 _ _ f4')), SqL.of (R.same _ _ (s9 _ _ f4))⟩
      · rintro y vx vy σ H10 pp hx hy h hpp
        obtain ⟨o1, o2, rfl, R⟩ := (hPv _ _ _).mp h
        have yn : y < n := by have := (List.getElem?_eq_some_iff.mp hx).1; omega
        obtain ⟨pa, ga, ha⟩ := at2 f5' f6' y yn
        obtain ⟨pb, gb, hb⟩ := at2 f5 f6 y yn
        rw [vL' y yn] at ha
        rw [vL y yn] at hb
        rw [ga] at hx
        rw [gb] at hy
        cases hx
        cases hy
        obtain ⟨H11, y11, X11, g11⟩ := t7 (.tup [V.ref pa, V.ref pb]) hpp
        rw [← y11]
        have S := (s9.trans R.same).trans X11
        have bky := bit E6 k y (by omega) (by omega) yn
        have biy := bit E6 i y (Nat.le_refl _) hi yn
        simp! [aj3]
        refine ⟨_, SqT.of g11, rfl, _, _, rfl, _, _, rfl, rfl, ?_⟩
        refine ⟨tt, ⟨_, rfl, SqT.of ((R.same.trans X11) _ _ eo)⟩, _, ⟨_, rfl, (hb.mono S.tups).sqt⟩, 1802, bt.t (by omega), 901, biy.t (by omega), by omega, fun r1 H12 s12 e12 => ?_⟩
        refine ⟨_, ⟨_, rfl, ((ha.mono S.tups).mono s12.tups).sqt⟩, _, ⟨_, rfl, SqT.of e12⟩, 901, bky.t (by omega), 2703, (bt.mul biy).t (by omega), by omega, fun r2 H13 s13 e13 => ?_⟩
        obtain ⟨ys, eD, yl, R'⟩ := R.add hD ((X11.trans s12).trans s13) (Or.inl e13)
        refine v7.mk (by rw [mn]; exact yn) eD (F9 (by rw [yl, List.length_take]; omega)) ((hPv _ _ _).mpr ⟨_, _, rfl, ?_⟩)
        rw [m5 (nv y yn)]
        exact R'
      · intro σ H10 h
        obtain ⟨o1, o2, rfl, R⟩ := (hPv _ _ _).mp h
        rw [B3 (by rw [mn, nl]; exact Nat.le_refl _)] at R
        obtain ⟨s10, ys, eD, nD⟩ := R
        have S10 := s9.trans s10
        have D10 := D8.next S10
        have lD : l ≠ D := i6 (s9 _ _ D8.at') hD
        have rl : r ≠ l := fun z => by rw [z, D8.at'] at er8; cases er8
        have nl2 : l ∉ ts3.set k D := fun z => by
          rcases List.mem_or_eq_of_mem_set z with z | z
          · exact D8.nl z
          · exact lD z
        refine ⟨_, D10.at', k, aA1 (by rw [lt3]; omega), (hJ _ _ _).mpr ⟨ts3.set k D, M3.set k NR, _, _, rfl, ⟨D10.same.over D10.fr _, D10.fr, by rw [d5, List.map_set], nl2, ((D10.rws.set k eD nD).over D10.at' nl2)⟩, by rw [List.length_set, l8], fun N hN => ?_, by rw [i0 rl]; exact S10 _ _ er8, fun x y hy => ?_⟩⟩
        · rcases List.mem_or_eq_of_mem_set hN with z | z
          · exact r8 N z
          · rw [z]; exact nl
        · rw [aG7 (by rw [l8]; omega)]
          by_cases z : x = k
          · rw [if_pos z, z, if_pos (by omega)]
            unfold aQ
            rw [nv y hy, htt, Rat.div_def]; rfl
          · rw [if_neg z, v8 x y hy]
            by_cases w : i < x ∧ x < i + 1 + j
            · rw [if_pos w, if_pos (by omega)]
            · rw [if_neg w, if_neg (by omega)]
    · intro σ H8 h
      obtain ⟨ts3, M3, o5', o6', rfl, D8, l8, r8, er8, v8⟩ := (hJ _ _ _).mp h
      rw [lt2] at v8
      refine (hI _ _ _).mpr ⟨ts3, M3, B2, sg2, _, r, _, _, _, _, rfl, D8, E6.step hi q2 l8 r8 fun x y h1 h2 h3 => ?_, er8⟩
      rw [v8 x y h3, if_pos (by omega)]
  · intro σ H3 h
    obtain ⟨ts', M', B', sg, fd, pf, o3, o4, o5, o6, rfl, D3, E3, ef⟩ := (hI _ _ _).mp h
    rw [List.length_map, lt1] at E3
    subst_eqs
    refine kk pf H3 D3.same ?_
    rw [ef, E3.done]
end
section
variable {P : Program} {w : World} {K : PySem.W.Frag} {mg : Str → Option Value} {base : Heap}
def af1 (j i : Nat) : List V := [V.bl (decide (j = i)), V.bl (decide (j = i + 1)), V.bl (decide (j = i + 2)), V.bl (decide (j = i + 3))]
abbrev F6 : Stmt := top 54
theorem J2 : j7 ["_law_e", "_law_told", "_law_names"] ["_law_e"] (d3 F6) := by and_intros
set_option maxHeartbeats 0 in
theorem at5 {a : CAd} {f : Addr} (d : Df K mg "_law_which" F6 ["_law_e"] f) (X : XTx K mg a) (n_isinstance : mg "isinstance" = none) (n_ValueError : mg "ValueError" = none) : aW0 P w K mg base 1 "_law_which" f ["_law_e"] (ag6 K a) := by
  obtain ⟨x_NoFraction, x_NoPolynomial, x_NoStretch, x_NoRow, x_NoPair, x_NoBack, x_NoForm, x_NoParts, x_NoDegree, x_NoSteps, x_NoBox, x_NoGain, x_NoText, x_NoLine, x_NoName, x_NoDeed⟩ := X
  refine d.okX (N := ["_law_e", "_law_told", "_law_names"]) J2 (fun vs H Q E ⟨u, q, j, h, _⟩ => by rw [h]; rfl) (fun cdv A outer s H vs Q E hr h => ?_)
  obtain ⟨e, C, j, rfl, kt, hj, he, k⟩ := h
  refine ⟨_, (d6 (m6 (i := 1) J2.nd rfl (Or.inl rfl) (L7 (b7 (d9 j2 rfl n_isinstance (by decide +kernel) (b7 (pv 0) (b7 (A7 (v := .ref _) rfl x_NoFraction.m rfl) d2))) (b7 (d9 j2 rfl n_isinstance (by decide +kernel) (b7 (pv 0) (b7 (A7 (v := .ref _) rfl x_NoPolynomial.m rfl) d2))) (b7 (d9 j2 rfl n_isinstance (by decide +kernel) (b7 (pv 0) (b7 (A7 (v := .ref _) rfl x_NoStretch.m rfl) d2))) (b7 (d9 j2 rfl n_isinstance (by decide +kernel) (b7 (pv 0) (b7 (A7 (v := .ref _) rfl x_NoRow.m rfl) d2))) d2))))))
      (d6 (m6 (i := 1) J2.nd rfl (Or.inl rfl) (i4 W3 (pv 1) (L7 (b7 (d9 j2 rfl n_isinstance (by decide +kernel) (b7 (pv 0) (b7 (A7 (v := .ref _) rfl x_NoPair.m rfl) d2))) (b7 (d9 j2 rfl n_isinstance (by decide +kernel) (b7 (pv 0) (b7 (A7 (v := .ref _) rfl x_NoBack.m rfl) d2))) (b7 (d9 j2 rfl n_isinstance (by decide +kernel) (b7 (pv 0) (b7 (A7 (v := .ref _) rfl x_NoForm.m rfl) d2))) (b7 (d9 j2 rfl n_isinstance (by decide +kernel) (b7 (pv 0) (b7 (A7 (v := .ref _) rfl x_NoParts.m rfl) d2))) d2)))))))
      (d6 (m6 (i := 1) J2.nd rfl (Or.inl rfl) (i4 W3 (pv 1) (L7 (b7 (d9 j2 rfl n_isinstance (by decide +kernel) (b7 (pv 0) (b7 (A7 (v := .ref _) rfl x_NoDegree.m rfl) d2))) (b7 (d9 j2 rfl n_isinstance (by decide +kernel) (b7 (pv 0) (b7 (A7 (v := .ref _) rfl x_NoSteps.m rfl) d2))) (b7 (d9 j2 rfl n_isinstance (by decide +kernel) (b7 (pv 0) (b7 (A7 (v := .ref _) rfl x_NoBox.m rfl) d2))) (b7 (d9 j2 rfl n_isinstance (by decide +kernel) (b7 (pv 0) (b7 (A7 (v := .ref _) rfl x_NoGain.m rfl) d2))) d2)))))))
      (d6 (m6 (i := 1) J2.nd rfl (Or.inl rfl) (i4 W3 (pv 1) (L7 (b7 (d9 j2 rfl n_isinstance (by decide +kernel) (b7 (pv 0) (b7 (A7 (v := .ref _) rfl x_NoText.m rfl) d2))) (b7 (d9 j2 rfl n_isinstance (by decide +kernel) (b7 (pv 0) (b7 (A7 (v := .ref _) rfl x_NoLine.m rfl) d2))) (b7 (d9 j2 rfl n_isinstance (by decide +kernel) (b7 (pv 0) (b7 (A7 (v := .ref _) rfl x_NoName.m rfl) d2))) (b7 (d9 j2 rfl n_isinstance (by decide +kernel) (b7 (pv 0) (b7 (A7 (v := .ref _) rfl x_NoDeed.m rfl) d2))) d2)))))))
      (d6 (m6 (i := 2) J2.nd rfl (Or.inl rfl) K1)
      (d6 (C2 (PW.pt (R0 (t6 ap5 (ap4 PySem.F.plainAttrs_list PySem.F.slot_list_count PySem.F.type_list_count aS7 (pv 1) (b7 Q3 d2)) d4 (t5 _)) (V4 (M0 (N3 (d9 j2 rfl n_isinstance (by decide +kernel) (b7 (pv 0) (b7 (R9 (v := .ty "ValueError") rfl n_ValueError (by decide +kernel) rfl) d2)))))))) (d8 (j1 K1)) v0)
      (d8 (j1 (j9 j5 (ap4 PySem.F.plainAttrs_str PySem.F.slot_str_split PySem.F.type_str_split aS4 (pv 2) (b7 K1 d2)) (ap4 PySem.F.plainAttrs_list PySem.F.slot_list_index PySem.F.type_list_index aS6 (pv 1) (b7 Q3 d2)) (fun _ _ => rfl)))))))))), ?_⟩
  rw [show start ["_law_e", "_law_told", "_law_names"] [.ref e] = [some (.ref e), none, none] from rfl]
  have ty : ∀ {H' : Hp}, d7 H H' → TyX K H' (.ref e) (.ref C) := fun sm => .exc (sm _ _ he) kt.ec
  refine j4 (fun σ H1 => ∃ l, σ = [some (.ref e), some (.ref l), none] ∧ d7 H H1 ∧ H1 l = some (.lst (af1 j 0))) (fun N hN => ?_) ?_
  · subst_eqs
    exact ⟨trivial, _, ty (d7.refl _), _, kt.k_NoFraction, trivial, _, ty (d7.refl _), _, kt.k_NoPolynomial, trivial, _, ty (d7.refl _), _, kt.k_NoStretch, trivial, _, ty (d7.refl _), _, kt.k_NoRow, by decide, fun l h => hN _ _ ⟨l, rfl, d7.new h _, d5⟩⟩
  rintro σ H1 ⟨l1, rfl, sA1, eA1⟩
  refine j4 (fun σ H2 => ∃ l, σ = [some (.ref e), some (.ref l), none] ∧ d7 H H2 ∧ H2 l = some (.lst (af1 j 0 ++ af1 j 4))) (fun N hN => ?_) ?_
  · subst_eqs
    exact ⟨trivial, _, ty sA1, _, kt.k_NoPair, trivial, _, ty sA1, _, kt.k_NoBack, trivial, _, ty sA1, _, kt.k_NoForm, trivial, _, ty sA1, _, kt.k_NoParts, by decide, fun p hp => ⟨_, (i0 (i6 eA1 hp)).trans eA1, _, d5, (show (8 : Nat) ≤ sizeLine from by decide), fun l h => hN _ _ ⟨l, rfl, (sA1.trans (d7.new hp _)).trans (d7.new h _), d5⟩⟩⟩
  rintro σ H2 ⟨l2, rfl, sA2, eA2⟩
  refine j4 (fun σ H2 => ∃ l, σ = [some (.ref e), some (.ref l), none] ∧ d7 H H2 ∧ H2 l = some (.lst (af1 j 0 ++ af1 j 4 ++ af1 j 8))) (fun N hN => ?_) ?_
  · subst_eqs
    exact ⟨trivial, _, ty sA2, _, kt.k_NoDegree, trivial, _, ty sA2, _, kt.k_NoSteps, trivial, _, ty sA2, _, kt.k_NoBox, trivial, _, ty sA2, _, kt.k_NoGain, by decide, fun p hp => ⟨_, (i0 (i6 eA2 hp)).trans eA2, _, d5, (show (12 : Nat) ≤ sizeLine from by decide), fun l h => hN _ _ ⟨l, rfl, (sA2.trans (d7.new hp _)).trans (d7.new h _), d5⟩⟩⟩
  rintro σ H3 ⟨l3, rfl, sA3, eA3⟩
  refine j4 (fun σ H2 => ∃ l, σ = [some (.ref e), some (.ref l), none] ∧ d7 H H2 ∧ H2 l = some (.lst (af1 j 0 ++ af1 j 4 ++ af1 j 8 ++ af1 j 12))) (fun N hN => ?_) ?_
  · subst_eqs
    exact ⟨trivial, _, ty sA3, _, kt.k_NoText, trivial, _, ty sA3, _, kt.k_NoLine, trivial, _, ty sA3, _, kt.k_NoName, trivial, _, ty sA3, _, kt.k_NoDeed, by decide, fun p hp => ⟨_, (i0 (i6 eA3 hp)).trans eA3, _, d5, (show (16 : Nat) ≤ sizeLine from by decide), fun l h => hN _ _ ⟨l, rfl, (sA3.trans (d7.new hp _)).trans (d7.new h _), d5⟩⟩⟩
  rintro σ H4 ⟨l4, rfl, sA4, eA4⟩
  have eT : H4 l4 = some (.lst (aP5 j)) := eA4
  clear eA4
  subst_eqs
  refine ⟨.inl ⟨_, SqL.of eT⟩, _, eT, rfl, au4 j hj, rfl, ?_⟩
  rw [aF4 j hj]
  refine K5 (fun hh => absurd rfl hh) (fun _ => ?_)
  refine ⟨trivial, _, ty sA4, _, kt.kV, ?_⟩
  refine K5 (fun hh => absurd hh (by decide)) (fun _ => ?_)
  refine ⟨by decide +kernel, by decide +kernel, by decide +kernel, by decide +kernel, by rw [al1]; decide, fun l hl => ?_⟩
  have eT' : (upd H4 l (.lst ((ad8 "fraction polynomial stretch row pair back form parts degree steps box gain text line name deed" " ").map V.str))) l4 = some (.lst (aP5 j)) := (i0 (i6 eT hl)).trans eT
  refine ⟨.inl ⟨_, SqL.of eT'⟩, _, eT', rfl, au4 j hj, _, aP4 j hj, _, SqL.of d5, _, aY0 hj, ?_⟩
  exact k _ (sA4.trans (d7.new hl _))
end
theorem av2 {α β : Type} (f : α → β) : ∀ (l : List α) (j : Nat), (l.map f).eraseIdx j = (l.eraseIdx j).map f
  | [], _ => rfl
  | _ :: _, 0 => rfl
  | a :: l, j + 1 => congrArg (f a :: ·) (av2 f l j)
section
variable {P : Program} {w : World} {K : PySem.W.Frag} {mg : Str → Option Value} {base : Heap}
def aj2 : Sp := fun vs H Q _ => ∃ (u : Addr) (n many : Nat), vs = [.ref u, .int (n : Int), .int (many : Int)] ∧ p7 H u ∧ 1 ≤ many ∧ many ≤ n ∧ n ≤ 100 ∧
  ∀ r (ks : List Nat) H', j8 u H H' → p7 H' u → H r = none → H' r = some (.tup (ks.map fun (k : Nat) => V.int (k : Int))) → ks.length = many → (∀ k ∈ ks, k < n) → ks.Pairwise (· < ·) → Q (.ref r) H'
abbrev D1 : Stmt := top 59
theorem S9 : j7 ["_law_urn_here", "_law_n", "_law_many", "_law_left", "_law_turn"] ["_law_urn_here", "_law_n", "_law_many"] (d3 D1) := by and_intros
set_option maxHeartbeats 0 in
theorem aq0 {f f1 : Addr} (d : Df K mg "_law_places" D1 ["_law_urn_here", "_law_n", "_law_many"] f) (G__law_draw : Def P w K mg base CX0 1 "_law_draw" f1 ["_law_urn_here", "_law_many"] B4) (n_len : mg "len" = none) (n_range : mg "range" = none) (n_list : mg "list" = none) (n_tuple : mg "tuple" = none) : Def P w K mg base CX0 2 "_law_places" f ["_law_urn_here", "_law_n", "_law_many"] aj2 := by
  refine d.ok (N := ["_law_urn_here", "_law_n", "_law_many", "_law_left", "_law_turn"]) S9 (by rintro vs H Q E ⟨_, _, _, h, _⟩; rw [h]; rfl) (fun cdv A outer s H vs Q E hr h => ?_)
  obtain ⟨u, n, many, rfl, hu, m1, mn, n100, k⟩ := h
  refine ⟨_, (d6 (m6 (i := 3) S9.nd rfl (Or.inl rfl) (ay7 rfl rfl n_list (by decide +kernel) rfl n_range (b7 (pv 1) d2)))
      (d6 (T4 PassesOwn.never rfl (C3 rfl n_range (b7 (i4 U1 (pv 1) (pv 2)) d2)) (i7 (i := 4) S9.nd rfl (Or.inl rfl)) (d8 (ah2 (ap4 PySem.F.plainAttrs_list PySem.F.slot_list_pop PySem.F.type_list_pop aS5 (pv 3) (b7 (i5 G__law_draw hr (b7 (pv 0) (b7 (d9 m4 rfl n_len (by decide +kernel) (b7 (pv 3) d2)) d2)) m3) d2)))))
      (d8 (j1 (N9 at9 rfl n_tuple (by decide +kernel) (b7 (pv 3) d2)))))), ?_⟩
  rw [show start ["_law_urn_here", "_law_n", "_law_many", "_law_left", "_law_turn"] [.ref u, .int (n : Int), .int (many : Int)] = [some (.ref u), some (.int (n : Int)), some (.int (many : Int)), none, none] from rfl]
  simp! [aZ9]
  refine ⟨n, rfl, by omega, fun l hl => ?_⟩
  have lu : l ≠ u := E8 hu hl
  obtain ⟨I, hI⟩ : ∃ I : Nat → L2.St → Hp → Prop, ∀ i σ H1, I i σ H1 ↔ ∃ (ks : List Nat) (o : Option V), σ = [some (.ref u), some (.int (n : Int)), some (.int (many : Int)), some (.ref l), o] ∧ j8 u H H1 ∧ p7 H1 u ∧ H1 l = some (.lst (ks.map fun (k : Nat) => V.int (k : Int))) ∧ ks.length = n - i ∧ (∀ k ∈ ks, k < n) ∧ ks.Pairwise (· < ·) := ⟨_, fun _ _ _ => Iff.rfl⟩
  have nm : ((n : Int) - (many : Int)).toNat = n - many := by omega
  refine ⟨_, rfl, _, rfl, _, _, rfl, rfl, _, rfl, by omega, by omega, O1 I ((hI _ _ _).mpr ⟨List.range n, _, rfl, d7.x (d7.new hl _) u, P6 hu hl, d5, by rw [List.length_range]; rfl, fun k hk => List.mem_range.mp hk, List.pairwise_lt_range⟩) ?_ ?_⟩
  · rintro i σ H1 hi h
    obtain ⟨ks, o, rfl, s1, u1, e1, l1, k1, p1⟩ := (hI _ _ _).mp h
    rw [nm] at hi
    simp! [B4, aQ5]
    refine ⟨.inl ⟨_, SqL.of e1⟩, _, .inl (SqL.of e1), u1, by rw [List.length_map]; omega, by rw [List.length_map]; omega, fun r H2 r0 r1 s2 u2 => ?_⟩
    obtain ⟨j, rfl⟩ : ∃ j : Nat, r = (j : Int) := ⟨r.toNat, by omega⟩
    rw [List.length_map] at r1
    have hj : j < ks.length := by omega
    have e2 := s2 _ _ e1 lu
    refine ⟨_, e2, by omega, by omega, j, (aA0 (aA1 (by rw [List.length_map]; exact hj))).1, _, by rw [List.getElem?_map, List.getElem?_eq_getElem hj]; rfl, (hI _ _ _).mpr ⟨ks.eraseIdx j, _, rfl, fun b o h n => ?_, u2.other lu, by rw [d5, av2], by rw [List.length_eraseIdx_of_lt hj]; omega, fun k hk => k1 k (List.mem_of_mem_eraseIdx hk), p1.sublist (List.eraseIdx_sublist ..)⟩⟩
    rw [i0 (i6 h hl)]
    exact s2 _ _ (s1 _ _ h n) n
  · intro σ H1 h
    obtain ⟨ks, o, rfl, s1, u1, e1, l1, k1, p1⟩ := (hI _ _ _).mp h
    rw [nm] at l1
    subst_eqs
    refine ⟨_, .inl ⟨SqL.of e1, fun q hq => ?_⟩⟩
    exact k q ks _ (s1.trans (d7.x (d7.new hq _) u)) (P6 u1 hq) (s1.free u1 hq) d5 (by omega) k1 p1
end
section
variable {P : Program} {w : World} {K : PySem.W.Frag} {mg : Str → Option Value} {base : Heap}
def ax1 (K : PySem.W.Frag) : Sp := fun vs H Q _ => ∃ (a : Addr) (ts : List Addr) (M : List (List Rat)), vs = [.ref a, .int M.length] ∧ H a = some (.lst (ts.map V.ref)) ∧ B9 K H ts M ∧ M.length ≤ 7 ∧ (∀ L ∈ M, L.length = M.length ∧ ∀ q ∈ L, BdN 6000 q) ∧ ∀ H', d7 H H' → Q (.bl true) H'
abbrev y9 : Stmt := top 53
theorem Y0 : j7 ["_law_thing", "_law_n", "_law_row"] ["_law_thing", "_law_n"] (d3 y9) := by and_intros
set_option maxHeartbeats 0 in
theorem aj6 {f fd : Addr} (d : Df K mg "_law_is_table" y9 ["_law_thing", "_law_n"] f) (G__law_is_number : Def P w K mg base CX0 2 "_law_is_number" fd ["_law_thing"] (am3 K)) (n_isinstance : mg "isinstance" = none) (n_list : mg "list" = none) (n_len : mg "len" = none) (n_all : mg "all" = none) : Def P w K mg base CX0 3 "_law_is_table" f ["_law_thing", "_law_n"] (ax1 K) := by
  refine d.ok (N := ["_law_thing", "_law_n", "_law_row"]) Y0 (by rintro vs H Q E ⟨_, _, _, h, _⟩; rw [h]; rfl) (fun cdv A outer s H vs Q E hr h => ?_)
  obtain ⟨a, ts, M, rfl, ha, hR, hM, hL, k⟩ := h
  have hu := hr.units
  refine ⟨_, (d6 (C2 (PW.pt (R0 (M0 (N3 (d9 j2 rfl n_isinstance (by decide +kernel) (b7 (pv 0) (b7 (R9 (v := .ty "list") rfl n_list (by decide +kernel) rfl) d2))))) (V4 (t6 ap5 (d9 m4 rfl n_len (by decide +kernel) (b7 (pv 0) d2)) (pv 1) (t5 _))))) (d8 (j1 Q3)) v0)
      (d6 (T4 PassesOwn.never rfl (O7 (pv 0)) (i7 (i := 2) Y0.nd rfl (Or.inl rfl)) (d8 (C2 (PW.pt (R0 (M0 (N3 (d9 j2 rfl n_isinstance (by decide +kernel) (b7 (pv 2) (b7 (R9 (v := .ty "list") rfl n_list (by decide +kernel) rfl) d2))))) (R0 (t6 ap5 (d9 m4 rfl n_len (by decide +kernel) (b7 (pv 2) d2)) (pv 1) (t5 _)) (V4 (M0 (N3 (d9 (as0 rfl) rfl n_all (by decide +kernel) (b7 (E7 (Nc := ["_law_one"]) (caps := [none]) rfl (Q8.of (osc := d3 y9) (N := ["_law_thing", "_law_n", "_law_row"]) (ks := []) rfl rfl rfl rfl v3 (by decide +kernel)) (O7 (pv 2)) (fun C s₂ H₂ fp pins => (i7 (i := 0) (show List.Nodup (["_law_one"] : List Str) by decide +kernel) rfl (Or.inl rfl) (Or.inr rfl))) (fun C s₂ H₂ fp pins => (i5 G__law_is_number hr (b7 (pv 0) d2) m3))) d2)))))))) (d8 (j1 Q3)) v0)))
      (d8 (j1 Q3)))), ?_⟩
  rw [show start ["_law_thing", "_law_n", "_law_row"] [.ref a, .int M.length] = [some (.ref a), some (.int M.length), none] from rfl]
  subst_eqs
  have hRl := hR.length
  refine ⟨trivial, _, .of (.lst ha), _, af4, K5 (fun z => by cases z) (fun _ => ?_)⟩
  refine ⟨_, .inl (SqL.of ha), rfl, K5 (fun z => absurd (by rw [List.length_map, hRl]) z) (fun _ => ?_)⟩
  refine ⟨_, rfl, a, rfl, ⟨_, SqL.of ha⟩, ar2 (xs := ts.map V.ref) (fun i σ H2 => ∃ o, σ = [some (.ref a), some (.int M.length), o] ∧ d7 H H2) ⟨_, rfl, d7.refl _⟩ (fun i σ H2 _ ⟨_, _, s2⟩ => SqL.of (s2 _ _ ha)) ?_ ?_⟩
  · rintro i x σ H2 hx ⟨o, rfl, s2⟩
    obtain ⟨t, ht, rfl⟩ := ac2 hx
    obtain ⟨xs, L, hL', et, nt⟩ := hR.get ht
    have hLm := hL L (List.mem_of_getElem? hL')
    have lx := nt.length
    have l7 := hLm.1
    have et2 := s2 _ _ et
    subst_eqs
    refine ⟨trivial, _, .of (.lst et2), _, af4, K5 (fun z => by cases z) (fun _ => ?_)⟩
    refine ⟨_, .inl (SqL.of et2), rfl, K5 (fun z => absurd (by rw [lx, l7]) z) (fun _ => ?_)⟩
    refine ⟨⟨_, SqL.of et2⟩, fun D hD => ?_⟩
    refine ab2 xs (fun j σ H3 => ∃ o, σ = [o] ∧ d7 H2 H3 ∧ H3 D = some (.lst ((List.replicate j true).map V.bl))) ⟨_, rfl, d7.new hD _, d5⟩ (fun j σ H3 _ ⟨o, _, s3, _⟩ => SqL.of (s3 _ _ et2)) ?_ ?_
    · rintro j x σ H3 hx2 ⟨o, rfl, s3, e3⟩
      have hj : j < xs.length := (List.getElem?_eq_some_iff.mp hx2).1
      obtain ⟨p, q, rfl, hq, hp⟩ := nt.getV hx2
      subst_eqs
      have sq := (hLm.2 q (List.mem_of_getElem? hq)).bd6 (by decide)
      refine ⟨_, q, rfl, ⟨p, rfl, (hp.mono (s2.trans s3).tups).sqt⟩, ?_, fun H4 s4 => ?_⟩
      · rw [Int.natAbs_natCast]
        exact sq.d
      · refine v7.mk hj (s4 _ _ e3) (by simp; exact Nat.lt_of_lt_of_le (show j < 1000 by omega) (by decide)) ⟨_, rfl, (s3.trans s4).over hD _, ?_⟩
        rw [d5, List.replicate_succ', List.map_append]
        rfl
    · rintro σ H3 ⟨o, rfl, s3, e3⟩
      refine ⟨D, rfl, _, SqL.of e3, K5 (fun z => by simp at z) (fun _ => s2.trans s3)⟩
  · rintro σ H2 ⟨o, rfl, s2⟩
    subst_eqs
    exact k H2 s2
end
section
variable {P : Program} {w : World} {K : PySem.W.Frag} {mg : Str → Option Value} {base : Heap}
def N5 (K : PySem.W.Frag) : Sp := fun vs H Q _ => ∃ (a : Addr) (xs : List V) (qs : List Rat), vs = [.ref a] ∧ SqL K H a xs ∧ A8 K H xs qs ∧ qs.length ≤ 16 ∧ (qs.length < 2 → ∀ t H', d7 H H' → H' t = some (.tup [.str "refused", .str "polynomial"]) → Q (.ref t) H') ∧ (2 ≤ qs.length → aB2 K H Q (A9 qs (qs.length - 1)))
abbrev w9 : Stmt := top 56
theorem S6 : j7 ["_law_p", "_law_e"] ["_law_p"] (d3 w9) := by and_intros
set_option maxHeartbeats 0 in
theorem af9 {a : CAd} {f fw fg : Addr} (d : Df K mg "_law_steep_said" w9 ["_law_p"] f) (G_steep : Def P w K mg base (CXR P w) 2 "steep" fg ["p"] (aJ2 K a.c_NoPolynomial)) (G__law_which : aW0 P w K mg base 1 "_law_which" fw ["_law_e"] (ag6 K a)) (x_RestError : ExT K mg "RestError" a.c_RestError) (kt : aV8 K a a.c_NoPolynomial 1) :
    Def P w K mg base CX0 3 "_law_steep_said" f ["_law_p"] (N5 K) := by
  refine d.ok (N := ["_law_p", "_law_e"]) S6 (by rintro vs H Q E ⟨_, _, _, h, _⟩; rw [h]; rfl) (fun cdv A outer s H vs Q E hr h => ?_)
  obtain ⟨al, xs, qs, rfl, hA, hN, l16, k0, k1⟩ := h
  refine ⟨_, (d8 (aQ8 (i := 1) (C := a.c_RestError) rfl rfl rfl S6.nd rfl rfl rfl x_RestError.m (fun E xe pn hx => (d8 (j1 (i5 G_steep hr (b7 (pv 0) d2) hx)))) (fun b => (d8 (j1 (A3 (b7 K1 (b7 (aJ8 G__law_which (hr.toX.mark _) (b7 (pv 1) d2)) d2)))))))), ?_⟩
  rw [show start ["_law_p", "_law_e"] [.ref al] = [some (.ref al), none] from rfl]
  simp! [bb1, ag6]
  exact ⟨al, xs, qs, rfl, hA, hN, l16, fun h0 => ⟨kt.ex, fun e he => ⟨_, rfl, e, rfl, _, 1, kt, by decide, d5, fun H2 s2 => ⟨J4, fun p hp => k0 h0 p _ ((d7.new he _).trans (s2.trans (d7.new hp _))) d5⟩⟩⟩, k1⟩
def ab7 (K : PySem.W.Frag) : Sp := fun vs H Q _ => ∃ (a : Addr) (vr vc : V) (ts : List Addr) (M : List (List Rat)) (n B W : Nat) (dr dc : D), vs = [.ref a, vr, vc] ∧ SqL K H a (ts.map V.ref) ∧ B9 K H ts M ∧ M.length = n ∧ (∀ L ∈ M, L.length = n ∧ ∀ q ∈ L, OvB B W q) ∧ 0 < B ∧ B < 2 ^ W ∧ n ≤ 15 ∧ eV W n n + eU W n ≤ 5900 ∧
  IsD K H vr dr ∧ IsD K H vc dc ∧ (∀ l, dr = .tup l → l.length ≤ 100) ∧ (∀ l, dc = .tup l → l.length ≤ 100) ∧
  (okM n dr dc = false → ∀ t H', d7 H H' → H' t = some (.tup [.str "refused", .str "pair"]) → Q (.ref t) H') ∧
  (okM n dr dc = true → ∀ is js, dr = U0 is → dc = U0 js → ∀ r H', d7 H H' → NmC K H' r (dt is.length (qq (U3 M is js))) → Q (.ref r) H')
abbrev x8 : Stmt := top 57
theorem T0 : j7 ["_law_table", "_law_rows", "_law_columns", "_law_e"] ["_law_table", "_law_rows", "_law_columns"] (d3 x8) := by and_intros
set_option maxHeartbeats 0 in
theorem ag0 {a : CAd} {f fw fg : Addr} (d : Df K mg "_law_minor_said" x8 ["_law_table", "_law_rows", "_law_columns"] f) (G_minor : Def P w K mg base (CXR P w) 4 "minor" fg ["table", "rows", "columns"] (aJ3 K a.c_NoPair)) (G__law_which : aW0 P w K mg base 1 "_law_which" fw ["_law_e"] (ag6 K a)) (x_RestError : ExT K mg "RestError" a.c_RestError) (kt : aV8 K a a.c_NoPair 4) :
    Def P w K mg base CX0 5 "_law_minor_said" f ["_law_table", "_law_rows", "_law_columns"] (ab7 K) := by
  refine d.ok (N := ["_law_table", "_law_rows", "_law_columns", "_law_e"]) T0 (by rintro vs H Q E ⟨_, _, _, _, _, _, _, _, _, _, h, _⟩; rw [h]; rfl) (fun cdv A outer s H vs Q E hr h => ?_)
  obtain ⟨al, vr, vc, ts, M, n, B, W, dr, dc, rfl, hA, hR, ln, lm, B0, hBW, n15, hV, ir, ic, lr, lc, k0, k1⟩ := h
  refine ⟨_, (d8 (aQ8 (i := 3) (C := a.c_RestError) rfl rfl rfl T0.nd rfl rfl rfl x_RestError.m (fun E xe pn hx => (d8 (j1 (i5 G_minor hr (b7 (pv 0) (b7 (pv 1) (b7 (pv 2) d2))) hx)))) (fun b => (d8 (j1 (A3 (b7 K1 (b7 (aJ8 G__law_which (hr.toX.mark _) (b7 (pv 3) d2)) d2)))))))), ?_⟩
  rw [show start ["_law_table", "_law_rows", "_law_columns", "_law_e"] [.ref al, vr, vc] = [some (.ref al), some (vr), some (vc), none] from rfl]
  simp! [bb1, ag6]
  exact ⟨al, vr, vc, ts, M, n, B, W, dr, dc, rfl, hA, hR, ln, lm, B0, hBW, n15, hV, ir, ic, lr, lc, fun h0 H1 s1 => ⟨kt.ex, fun e he => ⟨_, rfl, e, rfl, _, 4, kt, by decide, d5, fun H2 s2 => ⟨J4, fun p hp => k0 h0 p _ (s1.trans ((d7.new he _).trans (s2.trans (d7.new hp _)))) d5⟩⟩⟩, k1⟩
end
def NK (kd : Int) (q : Rat) : Prop := if kd = 2 then BdN 40 q else if kd = 0 then OvB 60 10 q else OvB 1 4 q
theorem bg5 {t d : Int} (h1 : 1 ≤ d) (h6 : d ≤ 6) (h : t.natAbs ≤ 9) : OvB 60 10 (Rat.divInt t d) := by
  have h0 : d = 1 ∨ d = 2 ∨ d = 3 ∨ d = 4 ∨ d = 5 ∨ d = 6 := by omega
  rcases h0 with rfl | rfl | rfl | rfl | rfl | rfl
  · exact ⟨t * 60, (Rat.divInt_eq_divInt_iff (by decide) (by decide)).mpr (by omega), by omega⟩
  · exact ⟨t * 30, (Rat.divInt_eq_divInt_iff (by decide) (by decide)).mpr (by omega), by omega⟩
  · exact ⟨t * 20, (Rat.divInt_eq_divInt_iff (by decide) (by decide)).mpr (by omega), by omega⟩
  · exact ⟨t * 15, (Rat.divInt_eq_divInt_iff (by decide) (by decide)).mpr (by omega), by omega⟩
  · exact ⟨t * 12, (Rat.divInt_eq_divInt_iff (by decide) (by decide)).mpr (by omega), by omega⟩
  · exact ⟨t * 10, (Rat.divInt_eq_divInt_iff (by decide) (by decide)).mpr (by omega), by omega⟩
theorem ov1 {t : Int} (h : t.natAbs ≤ 9) : OvB 1 4 (Rat.divInt t 1) := ⟨t, rfl, by omega⟩
theorem NK.ovb0 {q : Rat} (h : NK 0 q) : OvB 60 10 q := by unfold NK at h; rw [if_neg (by decide), if_pos rfl] at h; exact h
theorem NK.ovb1 {q : Rat} (h : NK 1 q) : OvB 1 4 q := by unfold NK at h; rw [if_neg (by decide), if_neg (by decide)] at h; exact h
theorem bh0 {t b : Int} (hb : b ≠ 0) (h1 : t.natAbs ≤ 9) (h2 : b.natAbs ≤ 7) : BdN 4 (Rat.divInt t b) := by
  have := aa1 (t := t) hb
  exact ⟨Nat.lt_of_le_of_lt this.1 (by omega), Nat.lt_of_le_of_lt this.2 (by omega)⟩
section
variable {P : Program} {w : World} {K : PySem.W.Frag} {mg : Str → Option Value} {base : Heap}
def W8 : Sp := fun vs H Q _ => ∃ u kd, vs = [.ref u, .int kd] ∧ p7 H u ∧ ∀ r q H', NK kd q → j8 u H H' → p7 H' u → H' r = some (.tup (F0 q)) → Q (.ref r) H'
set_option maxHeartbeats 0 in
theorem al9 {f fd fl : Addr} (d : Df K mg "_law_number" D9 ["_law_urn_here", "_law_kind_here"] f) (G__law_draw : Def P w K mg base CX0 1 "_law_draw" fd ["_law_urn_here", "_law_many"] B4) (G__law_low : Def P w K mg base CX0 1 "_law_low" fl ["_law_top", "_law_bottom"] ao7) (n_int : mg "int" = none) : Def P w K mg base CX0 2 "_law_number" f ["_law_urn_here", "_law_kind_here"] W8 := by
  refine d.ok (N := ["_law_urn_here", "_law_kind_here", "_law_top"]) ac0 (fun vs H Q E ⟨u, kd, h, _⟩ => by rw [h]; rfl) (fun cdv A outer s H vs Q E hr h => ?_)
  obtain ⟨u, kd, rfl, hu, k⟩ := h
  refine ⟨_, (d6 (C2 (t6 al2 (pv 1) d4 (t5 _)) (d6 (m6 (i := 2) ac0.nd rfl (Or.inl rfl) (i4 E4 (i4 B7 (i5 G__law_draw hr (b7 (pv 0) (b7 (i4 ac4 d4 d4) d2)) m3) (i4 ac4 d4 d4)) (i5 G__law_draw hr (b7 (pv 0) (b7 (i4 ac4 d4 d4) d2)) m3)))
      (d8 (j1 (i5 G__law_low hr (b7 (i4 B7 (pv 2) (j9 j5 (L7 (b7 d4 (b7 (au9 ai8 d4) d2))) (i5 G__law_draw hr (b7 (pv 0) (b7 d4 d2)) m3) (fun _ _ => rfl))) (b7 (i4 E4 d4 (i4 B7 (i5 G__law_draw hr (b7 (pv 0) (b7 (i4 ac4 d4 d4) d2)) m3) (i4 ac4 d4 d4))) d2)) m3)))) v0)
      (d8 (j1 (i5 G__law_low hr (b7 (i4 U1 (i5 G__law_draw hr (b7 (pv 0) (b7 d4 d2)) m3) d4) (b7 (i4 E4 d4 (i4 B7 (i5 G__law_draw hr (b7 (pv 0) (b7 d4 d2)) m3) (N9 ak7 rfl n_int (by decide +kernel) (b7 (R7 al2 (pv 1) d4 (t5 _)) d2)))) d2)) m3)))), ?_⟩
  rw [show start ["_law_urn_here", "_law_kind_here", "_law_top"] [.ref u, .int kd] = [some (.ref u), some (.int kd), none] from rfl]
  have e10 : (10 : Int) ^ Int.toNat 6 = 1000000 := by decide
  simp! [B4, aG1]
  refine K5 (fun hk2 => ?_) (fun hk2 => ?_)
  · refine ⟨⟨by decide, by decide, by decide⟩, hu, by decide, by decide, fun r2 H2 a2 b2 s2 u2 => ?_⟩
    refine ⟨⟨by decide, by decide, by decide⟩, aD6 (by decide), ⟨by decide, by decide, by decide⟩, u2, by decide, by decide, fun r3 H3 a3 b3 s3 u3 => ?_⟩
    refine ⟨by decide, fun l hl => ⟨P6 u3 hl, by decide, by decide, fun r4 H4 a4 b4 s4 u4 => ?_⟩⟩
    have e := s4 l _ d5 (E8 u3 hl)
    have b2' : r2 < 1000000 := b2
    have b3' : r3 < 1000000 := b3
    have sx : j8 u H H4 := s2.trans (s3.trans (j8.trans (d7.x (d7.new hl _) u) s4))
    have fin : ∀ sg : Int, sg = 1 ∨ sg = -1 → (bf8 10 6 ∧ p7 H4 u ∧ 0 < (10 : Int) ^ Int.toNat 6 ∧ (10 : Int) ^ Int.toNat 6 < 2 ^ 40 ∧ ∀ (r : Int) (H' : Hp), 0 ≤ r → r < 10 ^ Int.toNat 6 → j8 u H4 H' → p7 H' u →
        bf8 10 6 ∧ IntMulOk r (10 ^ Int.toNat 6) ∧ ao7 [V.int ((r2 * 10 ^ Int.toNat 6 + r3) * sg), V.int (1 + r * 10 ^ Int.toNat 6)] H' Q E0) := by
      intro sg hsg
      refine ⟨⟨by decide, by decide, by decide⟩, u4, by decide, by decide, fun r5 H5 a5 b5 s5 u5 => ⟨⟨by decide, by decide, by decide⟩, aD6 (by decide), ?_⟩⟩
      rw [e10] at b5 ⊢
      refine ⟨_, _, rfl, by omega, Nat.lt_of_lt_of_le (show (1 + r5 * 1000000).natAbs < 2 ^ 64 by omega) (t9 (by decide)), fun r H' sm hr' => ?_⟩
      refine k r _ H' (by unfold NK; rw [if_pos hk2]; refine (bf9 (by omega) ?_ (by omega)).bdN; rcases hsg with h | h <;> subst h <;> omega) (sx.trans (s5.trans (d7.x sm u))) (d7.urn sm u5) hr'
    have h3 : r4 = 0 ∨ r4 = 1 := by omega
    rcases h3 with h | h <;> subst h
    · exact ⟨_, SqL.of e, _, rfl, _, rfl, aD6 (by decide), fin 1 (.inl rfl)⟩
    · exact ⟨_, SqL.of e, _, rfl, _, rfl, aD6 (by decide), fin (-1) (.inr rfl)⟩
  · refine ⟨hu, by decide, by decide, fun r2 H2 a2 b2 s2 u2 => ⟨u2, by decide, by decide, fun r3 H3 a3 b3 s3 u3 => ⟨bd5 (by omega), ?_⟩⟩⟩
    have hz : ∃ z : Int, z = r3 * (if kd = 0 then 1 else 0) ∧ 0 ≤ z ∧ z ≤ 5 ∧ (kd ≠ 0 → z = 0) := by
      refine ⟨_, rfl, ?_, ?_, ?_⟩
      · split <;> omega
      · split <;> omega
      · intro h; rw [if_neg h, Int.mul_zero]
    obtain ⟨z, ez, z0, z6, zk⟩ := hz
    rw [← ez]
    refine ⟨_, _, rfl, by omega, Nat.lt_of_lt_of_le (show (1 + z).natAbs < 2 ^ 64 by omega) (t9 (by decide)), fun r H' sm hr' => ?_⟩
    exact k r _ H' (by
      unfold NK
      rw [if_neg hk2]
      by_cases h0 : kd = 0
      · rw [if_pos h0]; exact bg5 (by omega) (by omega) (by omega)
      · rw [if_neg h0, zk h0]; exact ov1 (by omega)) (s2.trans (s3.trans (d7.x sm u))) (d7.urn sm u3) hr'
def ao6 : Sp := fun vs H Q _ => ∃ u kd, vs = [.ref u, .int kd] ∧ p7 H u ∧ ∀ r q H', NK kd q → q ≠ 0 → j8 u H H' → p7 H' u → H' r = some (.tup (F0 q)) → Q (.ref r) H'
set_option maxHeartbeats 0 in
theorem aq2 {f fd fl : Addr} (d : Df K mg "_law_other" F8 ["_law_urn_here", "_law_kind_here"] f) (G__law_draw : Def P w K mg base CX0 1 "_law_draw" fd ["_law_urn_here", "_law_many"] B4) (GD__law_number : Def P w K mg base CX0 2 "_law_number" fl ["_law_urn_here", "_law_kind_here"] W8) : Def P w K mg base CX0 3 "_law_other" f ["_law_urn_here", "_law_kind_here"] ao6 := by
  refine d.ok (N := ["_law_urn_here", "_law_kind_here", "_law_found"]) af2 (fun vs H Q E ⟨u, kd, h, _⟩ => by rw [h]; rfl) (fun cdv A outer s H vs Q E hr h => ?_)
  obtain ⟨u, kd, rfl, hu, k⟩ := h
  have G__law_number := GD__law_number
  refine ⟨_, (d6 (m6 (i := 2) af2.nd rfl (Or.inl rfl) (i5 G__law_number hr (b7 (pv 0) (b7 (pv 1) d2)) m3))
      (d6 (C2 (t6 al2 (j9 A5 (pv 2) d4 (fun _ _ => rfl)) d4 (t5 _)) (d8 (j1 (A3 (b7 (i4 E4 d4 (i5 G__law_draw hr (b7 (pv 0) (b7 d4 d2)) m3)) (b7 d4 d2))))) v0)
      (d8 (j1 (pv 2))))), ?_⟩
  rw [show start ["_law_urn_here", "_law_kind_here", "_law_found"] [.ref u, .int kd] = [some (.ref u), some (.int kd), none] from rfl]
  simp! [B4]
  refine ⟨u, kd, rfl, hu, fun r q H1 sm s1 u1 e1 => ?_⟩
  refine ⟨r, rfl, _, SqT.of e1, _, at0 q, rfl, K5 (fun _ => ?_) (fun hn => ?_)⟩
  · refine ⟨u1, by decide, by decide, fun r2 H2 a2 b2 s2 u2 => ⟨J4, fun l hl => ?_⟩⟩
    have hd := aq3 (n := 1 + r2) (d := 1) (by decide) (by simp)
    refine k l (Rat.divInt (1 + r2) 1) _ (by
      unfold NK
      split
      · exact (bh0 (by decide) (by omega) (by decide)).mono (by decide)
      · split
        · exact bg5 (by decide) (by decide) (by omega)
        · exact ov1 (by omega)) ?_ (s1.trans (s2.trans (d7.x (d7.new hl _) u))) (P6 u2 hl) ?_
    · intro z
      rw [z] at hd
      have : (0 : Rat).num = 0 := rfl
      omega
    · rw [d5]
      unfold F0
      rw [hd.1, hd.2]
  · refine k r q H1 sm (fun z => hn ?_) s1 u1 e1
    rw [z]; rfl
end
theorem aK1 {kd : Int} : NK kd 0 := by
  unfold NK
  split
  · exact BdN.zero (by decide)
  · split <;> exact OvB.zero _ _
section
variable {P : Program} {w : World} {K : PySem.W.Frag} {mg : Str → Option Value} {base : Heap}
def ax3 : Sp := fun vs H Q _ => ∃ u kd n, vs = [.ref u, .int kd, .int n] ∧ p7 H u ∧ 0 ≤ n ∧ n ≤ 100 ∧ ∀ r ts M H', j8 u H H' → p7 H' u → H r = none → (∀ t ∈ ts, H t = none ∧ t ≠ u) → r ≠ u → H' r = some (.lst (ts.map V.ref)) → Rws H' ts M → (M.length : Int) = n → (∀ L ∈ M, (L.length : Int) = n ∧ ∀ q ∈ L, NK kd q) → Q (.ref r) H'
abbrev v1 : Stmt := top 55
theorem ae7 : j7 ["_law_urn_here", "_law_kind_here", "_law_n"] ["_law_urn_here", "_law_kind_here", "_law_n"] (d3 v1) := by and_intros
set_option maxHeartbeats 0 in
theorem ae9 {f f1 f2 : Addr} (d : Df K mg "_law_drawn_table" v1 ["_law_urn_here", "_law_kind_here", "_law_n"] f) (G__law_draw : Def P w K mg base CX0 1 "_law_draw" f1 ["_law_urn_here", "_law_many"] B4) (GD__law_number : Def P w K mg base CX0 2 "_law_number" f2 ["_law_urn_here", "_law_kind_here"] W8) (n_range : mg "range" = none) (n_int : mg "int" = none) : Def P w K mg base CX0 3 "_law_drawn_table" f ["_law_urn_here", "_law_kind_here", "_law_n"] ax3 := by
  refine d.ok (N := ["_law_urn_here", "_law_kind_here", "_law_n"]) ae7 (by rintro vs H Q E ⟨_, _, _, h, _⟩; rw [h]; rfl) (fun cdv A outer s H vs Q E hr h => ?_)
  obtain ⟨u, kd, n, rfl, hu, n0, n9, k⟩ := h
  have G__law_number := GD__law_number
  refine ⟨_, (d8 (j1 (E7 (Nc := ["_law_urn_here", "_law_n", "_law_kind_here", "_law_i"]) (caps := [some 0, some 2, some 1, none]) rfl (Q8.of (osc := d3 v1) (N := ["_law_urn_here", "_law_kind_here", "_law_n"]) (ks := ["_law_urn_here", "_law_n", "_law_kind_here"]) rfl rfl rfl rfl (j0 rfl (j0 rfl (j0 rfl v3))) (by decide +kernel)) (C3 rfl n_range (b7 (pv 2) d2)) (fun C s₂ H₂ fp pins => (i7 (i := 3) (show List.Nodup (["_law_urn_here", "_law_n", "_law_kind_here", "_law_i"] : List Str) by decide +kernel) rfl (Or.inl rfl) (Or.inr rfl))) (fun C s₂ H₂ fp pins => (E7 (Nc := ["_law_urn_here", "_law_kind_here", "_law_j"]) (caps := [some 0, some 2, none]) rfl (Q8.of (osc := _) (N := ["_law_urn_here", "_law_n", "_law_kind_here", "_law_i"]) (ks := ["_law_urn_here", "_law_kind_here"]) rfl rfl rfl rfl (j0 rfl (j0 rfl v3)) (by kernel_rfl)) (C3 rfl n_range (b7 (pv 1) d2)) (fun C s₂ H₂ fp pins => (i7 (i := 2) (show List.Nodup (["_law_urn_here", "_law_kind_here", "_law_j"] : List Str) by decide +kernel) rfl (Or.inl rfl) (Or.inr rfl))) (fun C s₂ H₂ fp pins => (j9 (by exact j5 : IxR _ (ah1 K)) (L7 (b7 (A3 (b7 d4 (b7 d4 d2))) (b7 (i5 G__law_number hr (b7 (pv 0) (b7 (pv 1) d2)) m3) d2))) (N9 ak7 rfl n_int (by decide +kernel) (b7 (R7 ap7 (i5 G__law_draw hr (b7 (pv 0) (b7 d4 d2)) m3) d4 (t5 _)) d2)) (fun _ _ => rfl)))))))), ?_⟩
  rw [show start ["_law_urn_here", "_law_kind_here", "_law_n"] [.ref u, .int kd, .int n] = [some (.ref u), some (.int kd), some (.int n)] from rfl]
  simp! [B4]
  refine ⟨by omega, by omega, fun D hD => ?_⟩
  have hDu : D ≠ u := E8 hu hD
  refine Q7 (fun i σ H2 => ∃ o, σ = [some (.ref u), some (.int n), some (.int kd), o] ∧ j8 u H H2 ∧ p7 H2 u ∧ ∃ ts M, H2 D = some (.lst (ts.map V.ref)) ∧ (∀ t ∈ ts, H t = none ∧ t ≠ u ∧ t ≠ D) ∧ Rws H2 ts M ∧ M.length = i ∧ ∀ L ∈ M, (L.length : Int) = n ∧ ∀ q ∈ L, NK kd q)
    ⟨_, rfl, d7.x (d7.new hD _) u, P6 hu hD, [], [], d5, by simp, .nil, rfl, by simp⟩ ?_ ?_
  · rintro i σ H2 hi ⟨o, rfl, s2, u2, ts, M, eD, hts, hR, hM, hL⟩
    simp! [B4]
    refine ⟨by omega, by omega, fun D2 hD2 => ?_⟩
    have hD2u : D2 ≠ u := E8 u2 hD2
    have hD2D : D2 ≠ D := (i6 eD hD2).symm
    have sN := d7.new hD2 (.lst [])
    refine Q7 (fun j σ H3 => ∃ o, σ = [some (.ref u), some (.int kd), o] ∧ j8 u H2 H3 ∧ p7 H3 u ∧ ∃ xs qs, H3 D2 = some (.lst xs) ∧ K6 H3 xs qs ∧ qs.length = j ∧ ∀ q ∈ qs, NK kd q)
      ⟨_, rfl, d7.x sN u, P6 u2 hD2, [], [], d5, .nil, rfl, by simp⟩ ?_ ?_
    · rintro j σ H3 hj ⟨o, rfl, s3, u3, xs, qs, e3, n3, hl, hs⟩
      simp! [B4]
      refine ⟨J4, fun p hp => ?_⟩
      have S1 := d7.new hp (.tup [.int 0, .int 1])
      have pu : p ≠ u := E8 u3 hp
      refine ⟨u, kd, rfl, d7.urn S1 u3, fun rn q H4 sq s4 u4 e4 => ⟨J4, fun p2 hp2 => ?_⟩⟩
      have ep : H4 p = some (.tup (F0 0)) := s4 p _ d5 pu
      have S2 := d7.new hp2 (.lst [.ref p, .ref rn])
      have p2u : p2 ≠ u := E8 u4 hp2
      refine ⟨d7.urn S2 u4, by decide, by decide, fun r5 H5 a5 b5 s5 u5 => ?_⟩
      have e5 := s5 p2 _ d5 p2u
      have sx : j8 u H3 H5 := (d7.x S1 u).trans (s4.trans ((d7.x S2 u).trans s5))
      have eD2 := sx _ _ e3 hD2u
      have hz : H5 p = some (.tup (F0 0)) := s5.tups (d7.urn S2 u4) _ _ (S2 _ _ ep)
      have hq : H5 rn = some (.tup (F0 q)) := s5.tups (d7.urn S2 u4) _ _ (S2 _ _ e4)
      by_cases h5 : 0 < r5
      · rw [if_pos h5]
        refine ⟨_, SqL.of e5, _, rfl, v7.mk hj eD2 (by rw [n3.length, hl]; exact Nat.lt_of_lt_of_le (show j < 1000 by omega) (by decide)) ?_⟩
        refine ⟨_, rfl, (s3.trans sx).over hD2 _, u5.other hD2u, _, d5, qs ++ [q], ((n3.mono (sx.tups u3)).append (.cons hq .nil)).mono (af0.lst eD2), by simp [hl], fun x hx => ?_⟩
        rcases List.mem_append.mp hx with z | z
        · exact hs x z
        · rw [List.mem_singleton.mp z]; exact sq
      · rw [if_neg h5]
        refine ⟨_, SqL.of e5, _, rfl, v7.mk hj eD2 (by rw [n3.length, hl]; exact Nat.lt_of_lt_of_le (show j < 1000 by omega) (by decide)) ?_⟩
        refine ⟨_, rfl, (s3.trans sx).over hD2 _, u5.other hD2u, _, d5, qs ++ [0], ((n3.mono (sx.tups u3)).append (.cons hz .nil)).mono (af0.lst eD2), by simp [hl], fun x hx => ?_⟩
        rcases List.mem_append.mp hx with z | z
        · exact hs x z
        · rw [List.mem_singleton.mp z]; exact aK1
    · rintro σ H3 ⟨o, rfl, s3, u3, xs, qs, e3, n3, hl, hs⟩
      have eD3 := s3 _ _ eD hDu
      have hts3 : Rws H3 ts M := hR.samex s3 u2 fun t ht => (hts t ht).2.1
      refine v7.mk hi eD3 (by rw [List.length_map, hR.length, hM]; exact Nat.lt_of_lt_of_le (show i < 1000 by omega) (by decide)) ?_
      refine ⟨_, rfl, (s2.trans s3).over hD _, u3.other hDu, ts ++ [D2], ?_, ?_, M ++ [qs], ?_, by simp [hM], ?_⟩
      · rw [d5, List.map_append]; rfl
      · intro t ht
        rcases List.mem_append.mp ht with z | z
        · exact hts t z
        · rw [List.mem_singleton.mp z]; exact ⟨s2.free u2 hD2, hD2u, hD2D⟩
      · have hn : D ∉ ts ++ [D2] := fun z => by
          rcases List.mem_append.mp z with z | z
          · exact (hts D z).2.2 rfl
          · exact hD2D (List.mem_singleton.mp z).symm
        exact (hts3.append (.cons e3 n3 .nil)).over eD3 hn
      · intro L hL'
        rcases List.mem_append.mp hL' with z | z
        · exact hL L z
        · rw [List.mem_singleton.mp z]; exact ⟨by omega, hs⟩
  · rintro σ H2 ⟨o, rfl, s2, u2, ts, M, eD, hts, hR, hM, hL⟩
    exact k D ts M H2 s2 u2 hD (fun t ht => ⟨(hts t ht).1, (hts t ht).2.1⟩) hDu eD hR (by omega) hL
end
section
variable {P : Program} {w : World} {K : PySem.W.Frag} {mg : Str → Option Value} {base : Heap}
theorem aD4 {us : List Addr} {i : Nat} {x : Addr} (nd : us.Nodup) (h : us[i]? = some x) : x ∉ us.take i ++ us.drop (i + 1) := by
  have hi := (List.getElem?_eq_some_iff.mp h).1
  have e : us = us.take i ++ x :: us.drop (i + 1) := by
    conv => lhs; rw [← List.take_append_drop i us]
    rw [List.drop_eq_getElem_cons hi, (List.getElem?_eq_some_iff.mp h).2]
  rw [e] at nd
  intro z
  have p := List.nodup_append.mp nd
  rcases List.mem_append.mp z with z | z
  · exact p.2.2 x z x List.mem_cons_self rfl
  · exact (List.nodup_cons.mp p.2.1).1 z
theorem NK.b40 {kd : Int} {q : Rat} (h : NK kd q) : BdN 40 q := by
  unfold NK at h
  split at h
  · exact h
  · split at h
    · exact (h.bdN (by decide) (by decide)).mono (by decide)
    · exact (h.bdN (by decide) (by decide)).mono (by decide)
theorem bh1 {kd : Int} {ps : List Rat} (h : ∀ q ∈ ps, NK kd q) (k : Int) : BdN 6000 (atQ ps k) := by
  unfold atQ aQ
  split
  · cases e : ps[k.toNat]? with
    | none => exact BdN.zero (by decide)
    | some q => exact (h q (List.mem_of_getElem? e)).b40.mono (by decide)
  · exact BdN.zero (by decide)
def ag7 (K : PySem.W.Frag) : Sp := fun vs H Q _ => ∃ u, vs = [.ref u] ∧ p7 H u ∧ ∀ H', j8 u H H' → p7 H' u → Q (.bl true) H'
abbrev t4 : Stmt := top 58
theorem o0 : j7 ["_law_urn_here", "_law_kind_here", "_law_n", "_law_p", "_law_handed", "_law_due", "_law_i", "_law_turn", "_law_powers", "_law_told", "_law_at"] ["_law_urn_here"] (d3 t4) := by and_intros
set_option maxHeartbeats 0 in
theorem ae8 {f f1 f2 f3 f4 f5 f6 : Addr} (d : Df K mg "_law_steep_right" t4 ["_law_urn_here"] f) (G__law_draw : Def P w K mg base CX0 1 "_law_draw" f1 ["_law_urn_here", "_law_many"] B4) (G__law_kind : Def P w K mg base CX0 2 "_law_kind" f2 ["_law_urn_here"] aG0) (GD__law_number : Def P w K mg base CX0 2 "_law_number" f3 ["_law_urn_here", "_law_kind_here"] W8) (GD__law_other : Def P w K mg base CX0 3 "_law_other" f4 ["_law_urn_here", "_law_kind_here"] ao6) (G__law_steep_said : Def P w K mg base CX0 3 "_law_steep_said" f5 ["_law_p"] (N5 K)) (G__law_is_table : Def P w K mg base CX0 3 "_law_is_table" f6 ["_law_thing", "_law_n"] (ax1 K)) (n_len : mg "len" = none) (n_range : mg "range" = none) (n_list : mg "list" = none) (n_int : mg "int" = none) : Def P w K mg base CX0 4 "_law_steep_right" f ["_law_urn_here"] (ag7 K) := by
  refine d.ok (N := ["_law_urn_here", "_law_kind_here", "_law_n", "_law_p", "_law_handed", "_law_due", "_law_i", "_law_turn", "_law_powers", "_law_told", "_law_at"]) o0 (by rintro vs H Q E ⟨_, h, _⟩; rw [h]; rfl) (fun cdv A outer s H vs Q E hr h => ?_)
  obtain ⟨u, rfl, hU, k⟩ := h
  have hu := hr.units
  have G__law_number := GD__law_number
  have G__law_other := GD__law_other
  refine ⟨_, (d6 (m6 (i := 1) o0.nd rfl (Or.inr rfl) (i5 G__law_kind hr (b7 (pv 0) d2) m3))
      (d6 (m6 (i := 2) o0.nd rfl (Or.inr rfl) (i4 E4 d4 (i5 G__law_draw hr (b7 (pv 0) (b7 d4 d2)) m3)))
      (d6 (m6 (i := 3) o0.nd rfl (Or.inr rfl) (E7 (Nc := ["_law_urn_here", "_law_kind_here", "_law_i"]) (caps := [some 0, some 1, none]) rfl (Q8.of (osc := d3 t4) (N := ["_law_urn_here", "_law_kind_here", "_law_n", "_law_p", "_law_handed", "_law_due", "_law_i", "_law_turn", "_law_powers", "_law_told", "_law_at"]) (ks := ["_law_urn_here", "_law_kind_here"]) rfl rfl rfl rfl (j0 rfl (j0 rfl v3)) (by decide +kernel)) (C3 rfl n_range (b7 (pv 2) d2)) (fun C s₂ H₂ fp pins => (i7 (i := 2) (show List.Nodup (["_law_urn_here", "_law_kind_here", "_law_i"] : List Str) by decide +kernel) rfl (Or.inl rfl) (Or.inr rfl))) (fun C s₂ H₂ fp pins => (j9 (by exact j5 : IxR _ (ah1 K)) (L7 (b7 (A3 (b7 d4 (b7 d4 d2))) (b7 (i5 G__law_number hr (b7 (pv 0) (b7 (pv 1) d2)) m3) d2))) (N9 ak7 rfl n_int (by decide +kernel) (b7 (R7 ap7 (i5 G__law_draw hr (b7 (pv 0) (b7 d4 d2)) m3) d4 (t5 _)) d2)) (fun _ _ => rfl)))))
      (d6 (ah2 (ap4 PySem.F.plainAttrs_list PySem.F.slot_list_append PySem.F.type_list_append O0 (pv 3) (b7 (i5 G__law_other hr (b7 (pv 0) (b7 (pv 1) d2)) m3) d2)))
      (d6 (m6 (i := 4) o0.nd rfl (Or.inl rfl) (N9 S3 rfl n_list (by decide +kernel) (b7 (pv 3) d2)))
      (d6 (m6 (i := 5) o0.nd rfl (Or.inl rfl) (L7 d2))
      (d6 (T4 PassesOwn.never rfl (C3 rfl n_range (b7 (pv 2) d2)) (i7 (i := 6) o0.nd rfl (Or.inr rfl)) (d6 (aa7 (i₀ := 8) o0.nd rfl (Or.inl rfl) (Nc := ["_law_n", "_law_i", "_law_j"]) (caps := [some 2, some 6, none]) rfl (Q8.of (osc := d3 t4) (N := ["_law_urn_here", "_law_kind_here", "_law_n", "_law_p", "_law_handed", "_law_due", "_law_i", "_law_turn", "_law_powers", "_law_told", "_law_at"]) (ks := ["_law_n", "_law_i"]) rfl rfl rfl rfl (j0 rfl (j0 rfl v3)) (by decide +kernel)) (C3 rfl n_range (b7 (pv 2) d2)) (fun C s₂ H₂ fp pins => (i7 (i := 2) (show List.Nodup (["_law_n", "_law_i", "_law_j"] : List Str) by decide +kernel) rfl (Or.inl rfl) (Or.inr rfl))) (fun C s₂ H₂ fp pins => (i4 E4 (i4 U1 (i4 U1 (pv 0) d4) (i4 B7 d4 (pv 2))) (pv 1))))
      (d8 (ah2 (ap4 PySem.F.plainAttrs_list PySem.F.slot_list_append PySem.F.type_list_append O0 (pv 5) (b7 (E7 (Nc := ["_law_p", "_law_n", "_law_power"]) (caps := [some 3, some 2, none]) rfl (Q8.of (osc := d3 t4) (N := ["_law_urn_here", "_law_kind_here", "_law_n", "_law_p", "_law_handed", "_law_due", "_law_i", "_law_turn", "_law_powers", "_law_told", "_law_at"]) (ks := ["_law_p", "_law_n"]) rfl rfl rfl rfl (j0 rfl (j0 rfl v3)) (by decide +kernel)) (O7 (pv 8)) (fun C s₂ H₂ fp pins => (i7 (i := 2) (show List.Nodup (["_law_p", "_law_n", "_law_power"] : List Str) by decide +kernel) rfl (Or.inl rfl) (Or.inr rfl))) (fun C s₂ H₂ fp pins => (ah3 (aC2 aJ9 aJ9 d4 (pv 2) (pv 1)) (j9 (by exact j5 : IxR _ (ah1 K)) (pv 0) (pv 2) (fun _ _ => rfl)) (A3 (b7 d4 (b7 d4 d2)))))) d2))))))
      (d6 (T4 PassesOwn.never rfl (C3 rfl n_range (b7 d4 d2)) (i7 (i := 7) o0.nd rfl (Or.inl rfl)) (d6 (m6 (i := 9) o0.nd rfl (Or.inl rfl) (i5 G__law_steep_said hr (b7 (pv 4) d2) m3))
      (d6 (C2 (PW.pt (R0 (t6 (W0 hu) (pv 9) (pv 5) (t5 _)) (R0 (M0 (N3 (i5 G__law_is_table hr (b7 (pv 9) (b7 (pv 2) d2)) m3))) (V4 (t6 (W0 hu) (pv 4) (pv 3) (t5 _)))))) (d8 (j1 Q3)) v0)
      (d6 (m6 (i := 10) o0.nd rfl (Or.inl rfl) (i5 G__law_draw hr (b7 (pv 0) (b7 (pv 2) d2)) m3))
      (d6 (ah2 (aH1 PySem.F.plainAttrs_list PySem.F.slot_list_clear PySem.F.type_list_clear aS8 (j9 j5 (pv 9) (pv 10) (fun _ _ => rfl))))
      (d8 (C2 (t6 (W0 hu) (i4 W3 (A4 M6 (pv 9) C1 (B6 (pv 10))) (A4 M6 (pv 9) (B6 (i4 E4 (pv 10) d4)) C1)) (i4 W3 (A4 M6 (pv 5) C1 (B6 (pv 10))) (A4 M6 (pv 5) (B6 (i4 E4 (pv 10) d4)) C1)) (t5 _)) (d8 (j1 Q3)) v0)))))))
      (d8 (j1 (R7 (az0 hu) (i5 G__law_steep_said hr (b7 (A4 M6 (pv 3) (B6 (pv 2)) C1) d2) m3) (A3 (b7 K1 (b7 K1 d2))) (t5 _)))))))))))), ?_⟩
  rw [show start ["_law_urn_here", "_law_kind_here", "_law_n", "_law_p", "_law_handed", "_law_due", "_law_i", "_law_turn", "_law_powers", "_law_told", "_law_at"] [.ref u] = [some (.ref u), none, none, none, none, none, none, none, none, none, none] from rfl]
  refine j4 (fun σ H1 => ∃ kd : Int, σ = [some (.ref u), some (.int kd), none, none, none, none, none, none, none, none, none] ∧ j8 u H H1 ∧ p7 H1 u) (fun N hN => ?_) ?_
  · simp! [aG0]
    exact ⟨hU, fun r H1 _ s1 u1 => hN _ _ ⟨r, rfl, s1, u1⟩⟩
  rintro σ H1 ⟨kd, rfl, s1, u1⟩
  refine j4 (fun σ H2 => ∃ n : Nat, σ = [some (.ref u), some (.int kd), some (.int (n : Int)), none, none, none, none, none, none, none, none] ∧ j8 u H H2 ∧ p7 H2 u ∧ 1 ≤ n ∧ n ≤ 7) (fun N hN => ?_) ?_
  · simp! [B4]
    refine ⟨u1, by decide, by decide, fun r H2 r0 r7 s2 u2 => ?_⟩
    obtain ⟨j, rfl⟩ : ∃ j : Nat, r = (j : Int) := ⟨r.toNat, by omega⟩
    exact hN _ _ ⟨1 + j, by rw [Int.natCast_add]; rfl, s1.trans s2, u2, by omega, by omega⟩
  rintro σ H2 ⟨n, rfl, s2, u2, n1, n7⟩
  refine j4 (fun σ H3 => ∃ (pl : Addr) (xs : List V) (qs : List Rat), σ = [some (.ref u), some (.int kd), some (.int (n : Int)), some (.ref pl), none, none, none, none, none, none, none] ∧ j8 u H H3 ∧ p7 H3 u ∧ LsX u H3 pl xs qs ∧ qs.length = n ∧ (∀ q ∈ qs, NK kd q) ∧ H pl = none) (fun N hN => ?_) ?_
  · subst_eqs
    refine ⟨by omega, by omega, fun D hD => ?_⟩
    have Du : D ≠ u := E8 u2 hD
    obtain ⟨Pv, hPv⟩ : ∃ Pv : Nat → L2.St → Hp → Prop, ∀ j σ H3, Pv j σ H3 ↔ ∃ (o : Option V) (xs : List V) (qs : List Rat), σ = [some (.ref u), some (.int kd), o] ∧ j8 u H2 H3 ∧ p7 H3 u ∧ H3 D = some (.lst xs) ∧ K6 H3 xs qs ∧ qs.length = j ∧ ∀ q ∈ qs, NK kd q := ⟨_, fun _ _ _ => Iff.rfl⟩
    refine Q7 Pv ((hPv _ _ _).mpr ⟨_, [], [], rfl, d7.x (d7.new hD _) u, P6 u2 hD, d5, .nil, rfl, by simp⟩) ?_ ?_
    · rintro j σ H3 hj h
      obtain ⟨o, xs, qs, rfl, s3, u3, e3, n3, l3, q3⟩ := (hPv _ _ _).mp h
      simp! [W8, B4]
      refine ⟨J4, fun p hp => ?_⟩
      have S1 := d7.new hp (.tup [.int 0, .int 1])
      have pu : p ≠ u := E8 u3 hp
      refine ⟨d7.urn S1 u3, fun rn q H4 sq s4 u4 e4 => ⟨J4, fun p2 hp2 => ?_⟩⟩
      have ep : H4 p = some (.tup (F0 0)) := s4 p _ d5 pu
      have S2 := d7.new hp2 (.lst [.ref p, .ref rn])
      have p2u : p2 ≠ u := E8 u4 hp2
      refine ⟨d7.urn S2 u4, by decide, by decide, fun r5 H5 a5 b5 s5 u5 => ?_⟩
      have e5 := s5 p2 _ d5 p2u
      have sx : j8 u H3 H5 := (d7.x S1 u).trans (s4.trans ((d7.x S2 u).trans s5))
      have eD := sx _ _ e3 Du
      have hz : H5 p = some (.tup (F0 0)) := s5.tups (d7.urn S2 u4) _ _ (S2 _ _ ep)
      have hq : H5 rn = some (.tup (F0 q)) := s5.tups (d7.urn S2 u4) _ _ (S2 _ _ e4)
      have add : ∀ (r : Addr) (q : Rat), H5 r = some (.tup (F0 q)) → NK kd q → v7 D ((n : Int)).toNat Pv j [some (.ref u), some (.int kd), some (.int (0 + (j : Int)))] (.ref r) H5 := fun r q hr hk => by
        refine v7.mk hj eD (F9 (by rw [n3.length, l3]; omega)) ((hPv _ _ _).mpr ⟨_, _, qs ++ [q], rfl, (s3.trans sx).over hD _, u5.other Du, d5, ((n3.mono (sx.tups u3)).append (.cons hr .nil)).mono (af0.lst eD), by rw [List.length_append, l3]; rfl, fun x hx => ?_⟩)
        rcases List.mem_append.mp hx with z | z
        · exact q3 x z
        · rw [List.mem_singleton.mp z]; exact hk
      by_cases h5 : 0 < r5
      · rw [if_pos h5]
        exact ⟨_, SqL.of e5, _, rfl, add rn q hq sq⟩
      · rw [if_neg h5]
        exact ⟨_, SqL.of e5, _, rfl, add p 0 hz aK1⟩
    · intro σ H3 h
      obtain ⟨o, xs, qs, rfl, s3, u3, e3, n3, l3, q3⟩ := (hPv _ _ _).mp h
      exact hN _ _ ⟨D, xs, qs, rfl, s2.trans s3, u3, ⟨Du, e3, n3⟩, by omega, q3, s2.free u2 hD⟩
  rintro σ H3 ⟨pl, xs, qs, rfl, s3, u3, X3, l3, k3, fp⟩
  refine j4 (fun σ H4 => ∃ (xs : List V) (ps : List Rat), σ = [some (.ref u), some (.int kd), some (.int (n : Int)), some (.ref pl), none, none, none, none, none, none, none] ∧ j8 u H H4 ∧ p7 H4 u ∧ LsX u H4 pl xs ps ∧ ps.length = n + 1 ∧ ∀ q ∈ ps, NK kd q) (fun N hN => ?_) ?_
  · simp! [ao6]
    refine ⟨.inl ⟨_, SqL.of X3.at'⟩, u3, fun r q H4 nk q0 s4 u4 e4 => ?_⟩
    have e := s4 _ _ X3.at' X3.au
    refine ⟨_, e, F9 (by rw [X3.nums.length, l3]; omega), hN _ _ ⟨xs ++ [.ref r], qs ++ [q], rfl, fun b o h n => ?_, u4.other X3.au, ⟨X3.au, d5, ((X3.nums.mono (s4.tups u3)).append (.cons e4 .nil)).mono (af0.lst e)⟩, by rw [List.length_append, l3]; rfl, fun x hx => ?_⟩⟩
    · rw [i0 (i6 h fp)]
      exact s4 _ _ (s3 _ _ h n) n
    · rcases List.mem_append.mp hx with z | z
      · exact k3 x z
      · rw [List.mem_singleton.mp z]; exact nk
  rintro σ H4 ⟨xs, ps, rfl, s4, u4, X4, l4, k4⟩
  refine j4 (fun σ H5 => ∃ (hl : Addr), σ = [some (.ref u), some (.int kd), some (.int (n : Int)), some (.ref pl), some (.ref hl), none, none, none, none, none, none] ∧ j8 u H H5 ∧ p7 H5 u ∧ LsX u H5 pl xs ps ∧ LsX u H5 hl xs ps) (fun N hN => ?_) ?_
  · subst_eqs
    refine ⟨_, .inl (SqL.of X4.at'), fun l hl => ?_⟩
    have X := d7.new hl (.lst xs)
    exact hN _ _ ⟨l, rfl, s4.trans (d7.x X u), P6 u4 hl, X4.same X, ⟨E8 u4 hl, d5, X4.nums.mono X.tups⟩⟩
  rintro σ H5 ⟨hl, rfl, s5, u5, X5, Y5⟩
  refine j4 (fun σ H6 => ∃ (dl : Addr), σ = [some (.ref u), some (.int kd), some (.int (n : Int)), some (.ref pl), some (.ref hl), some (.ref dl), none, none, none, none, none] ∧ H5 dl = none ∧ H6 = upd H5 dl (.lst [])) (fun N hN => ?_) ?_
  · subst_eqs
    exact ⟨Nat.zero_le _, fun p hp => hN _ _ ⟨p, rfl, hp, rfl⟩⟩
  rintro σ H6 ⟨dl, rfl, fd, rfl⟩
  have du : dl ≠ u := E8 u5 fd
  refine j4 (fun σ H6 => ∃ (ts : List Addr) (o6 o8 : Option V), σ = [some (.ref u), some (.int kd), some (.int (n : Int)), some (.ref pl), some (.ref hl), some (.ref dl), o6, none, o8, none, none] ∧ d7 H5 H6 ∧ TbX u H6 dl ts (A9 ps n)) (fun N hN => ?_) ?_
  · obtain ⟨I, hI⟩ : ∃ I : Nat → L2.St → Hp → Prop, ∀ i σ H6, I i σ H6 ↔ ∃ (ts : List Addr) (o6 o8 : Option V), σ = [some (.ref u), some (.int kd), some (.int (n : Int)), some (.ref pl), some (.ref hl), some (.ref dl), o6, none, o8, none, none] ∧ d7 H5 H6 ∧ H6 dl = some (.lst (ts.map V.ref)) ∧ (∀ t ∈ ts, H5 t = none ∧ t ≠ dl) ∧ Rws H6 ts ((A9 ps n).take i) := ⟨_, fun _ _ _ => Iff.rfl⟩
    have lS : (A9 ps n).length = n := by unfold A9; rw [List.length_map, List.length_range]
    refine ⟨_, rfl, _, rfl, by omega, by omega, O1 I ((hI _ _ _).mpr ⟨[], _, _, rfl, d7.new fd _, d5, by simp, .nil⟩) ?_ ?_⟩
    · rintro i σ H6 hi h
      obtain ⟨ts, o6, o8, rfl, s6, e6, f6, R6⟩ := (hI _ _ _).mp h
      rw [Int.toNat_natCast] at hi
      refine j4 (fun σ H7 => ∃ (c : Addr), σ = [some (.ref u), some (.int kd), some (.int (n : Int)), some (.ref pl), some (.ref hl), some (.ref dl), some (.int (i : Int)), none, some (.ref c), none, none] ∧ d7 H6 H7 ∧ H7 c = some (.lst ((List.range n).map fun (j : Nat) => V.int ((n : Int) - 1 - 2 * (j : Int) + (i : Int))))) (fun N hN => ?_) ?_
      · subst_eqs
        refine ⟨by omega, by omega, fun D hD => ?_⟩
        rw [Int.toNat_natCast, Int.zero_add]
        obtain ⟨Pv, hPv⟩ : ∃ Pv : Nat → L2.St → Hp → Prop, ∀ j σ H7, Pv j σ H7 ↔ ∃ (o : Option V), σ = [some (.int (n : Int)), some (.int (i : Int)), o] ∧ d7 H6 H7 ∧ H7 D = some (.lst ((List.range j).map fun (j : Nat) => V.int ((n : Int) - 1 - 2 * (j : Int) + (i : Int)))) := ⟨_, fun _ _ _ => Iff.rfl⟩
        refine Q7 Pv ((hPv _ _ _).mpr ⟨_, rfl, d7.new hD _, d5⟩) ?_ ?_
        · rintro j σ H7 hj h
          obtain ⟨o, rfl, s7, e7⟩ := (hPv _ _ _).mp h
          subst_eqs
          refine ⟨bd5 (by decide), v7.mk hj e7 (F9 (by rw [List.length_map, List.length_range]; omega)) ((hPv _ _ _).mpr ⟨_, rfl, s7.over hD _, ?_⟩)⟩
          rw [d5, List.range_succ, List.map_append, Int.zero_add]; rfl
        · intro σ H7 h
          obtain ⟨o, rfl, s7, e7⟩ := (hPv _ _ _).mp h
          exact hN _ _ ⟨D, rfl, s7, e7⟩
      rintro σ H7 ⟨c, rfl, s7, e7⟩
      subst_eqs
      refine ⟨.inl ⟨_, SqL.of (s7 _ _ e6)⟩, ⟨_, SqL.of e7⟩, fun D hD => ?_⟩
      have S57 := s6.trans s7
      have X7 := X5.same S57
      obtain ⟨Pv, hPv⟩ : ∃ Pv : Nat → L2.St → Hp → Prop, ∀ j σ H8, Pv j σ H8 ↔ ∃ (o : Option V) (ys : List V), σ = [some (.ref pl), some (.int (n : Int)), o] ∧ d7 H7 H8 ∧ H8 D = some (.lst ys) ∧ K6 H8 ys ((E9 ps n i).take j) := ⟨_, fun _ _ _ => Iff.rfl⟩
      refine ab2 ((List.range n).map fun (j : Nat) => V.int ((n : Int) - 1 - 2 * (j : Int) + (i : Int))) Pv ((hPv _ _ _).mpr ⟨_, [], rfl, d7.new hD _, d5, .nil⟩) (fun j σ H8 _ h => ?_) ?_ ?_
      · obtain ⟨_, _, _, s8, _⟩ := (hPv _ _ _).mp h
        exact SqL.of (s8 _ _ e7)
      · rintro j x σ H8 hx h
        obtain ⟨o, ys, rfl, s8, e8, n8⟩ := (hPv _ _ _).mp h
        have hj := (List.getElem?_eq_some_iff.mp hx).1
        rw [List.length_map, List.length_range] at hj
        rw [List.getElem?_map, List.getElem?_range hj] at hx
        cases hx
        have hg : (E9 ps n i)[j]? = some (atQ ps ((n : Int) - 1 - 2 * (j : Int) + (i : Int))) := by unfold E9; rw [List.getElem?_map, List.getElem?_range hj]; rfl
        subst_eqs
        generalize (n : Int) - 1 - 2 * (j : Int) + (i : Int) = pw at hg ⊢
        have add : ∀ (r : Addr) (H9 : Hp), d7 H8 H9 → H9 r = some (.tup (F0 (atQ ps pw))) → v7 D ((List.range n).map fun (j : Nat) => V.int ((n : Int) - 1 - 2 * (j : Int) + (i : Int))).length Pv j [some (.ref pl), some (.int (n : Int)), some (.int pw)] (.ref r) H9 := fun r H9 s9 e9 => by
          have eD := s9 _ _ e8
          refine v7.mk (by rw [List.length_map, List.length_range]; exact hj) eD (F9 (by rw [n8.length, List.length_take]; omega)) ((hPv _ _ _).mpr ⟨_, _, rfl, (s8.trans s9).over hD _, d5, ?_⟩)
          rw [m5 hg]
          exact ((n8.mono s9.tups).append (.cons e9 .nil)).mono (af0.lst eD)
        have zero : atQ ps pw = 0 → 0 + 1 + 1 ≤ sizeLine ∧ ∀ p, H8 p = none → v7 D ((List.range n).map fun (j : Nat) => V.int ((n : Int) - 1 - 2 * (j : Int) + (i : Int))).length Pv j [some (.ref pl), some (.int (n : Int)), some (.int pw)] (.ref p) (upd H8 p (.tup [.int 0, .int 1])) := fun z => ⟨by decide, fun p hp => add p _ (d7.new hp _) (by rw [d5, z]; rfl)⟩
        refine K5 (fun h1 => K5 (fun h2 => ?_) (fun h2 => zero ?_)) (fun h1 => zero ?_)
        · obtain ⟨w, rfl⟩ : ∃ w : Nat, pw = (w : Int) := ⟨pw.toNat, by omega⟩
          have ew := List.getElem?_eq_getElem (l := ps) (i := w) (by omega)
          obtain ⟨pq, g1, g2⟩ := X7.nums.get ew
          refine ⟨_, SqL.of (s8 _ _ X7.at'), _, u0 g1, add pq H8 (d7.refl _) ?_⟩
          have : atQ ps (w : Int) = ps[w]'(by omega) := by
            unfold atQ aQ
            rw [if_pos h1, Int.toNat_natCast, ew]; rfl
          rw [this]; exact s8 _ _ g2
        · unfold atQ aQ
          rw [if_pos h1, List.getElem?_eq_none (by omega)]; rfl
        · unfold atQ
          rw [if_neg h1]
      · intro σ H8 h
        obtain ⟨o, ys, rfl, s8, e8, n8⟩ := (hPv _ _ _).mp h
        have lr : (E9 ps n i).length = n := by unfold E9; rw [List.length_map, List.length_range]
        rw [List.length_map, List.length_range, B3 (by rw [lr]; exact Nat.le_refl _)] at n8
        have e9 := (s7.trans s8) _ _ e6
        have lD : dl ≠ D := i6 (s7 _ _ e6) hD
        have nn : dl ∉ ts ++ [D] := fun z => by
          rcases List.mem_append.mp z with z | z
          · exact (f6 dl z).2 rfl
          · exact lD (List.mem_singleton.mp z)
        refine ⟨_, e9, F9 (by rw [List.length_map, R6.length, List.length_take]; omega), (hI _ _ _).mpr ⟨ts ++ [D], _, _, rfl, ((S57.trans s8).over fd _), by rw [d5, List.map_append]; rfl, fun t ht => ?_, ?_⟩⟩
        · rcases List.mem_append.mp ht with z | z
          · exact f6 t z
          · rw [List.mem_singleton.mp z]; exact ⟨S57.free hD, Ne.symm lD⟩
        · rw [m5 (show (A9 ps n)[i]? = some (E9 ps n i) by unfold A9; rw [List.getElem?_map, List.getElem?_range hi]; rfl)]
          exact ((R6.same (s7.trans s8)).append (.cons e8 n8 .nil)).over e9 nn
    · intro σ H6 h
      obtain ⟨ts, o6, o8, rfl, s6, e6, f6, R6⟩ := (hI _ _ _).mp h
      rw [Int.toNat_natCast, B3 (by rw [lS]; exact Nat.le_refl _)] at R6
      exact hN _ _ ⟨ts, o6, o8, rfl, s6, ⟨du, fun t ht => E8 u5 (f6 t ht).1, e6, R6⟩⟩
  rintro σ H6 ⟨ts, o6, o8, rfl, s6, T6⟩
  have u6 := d7.urn s6 u5
  have X6 := X5.same s6
  have Y6 := Y5.same s6
  have lS : (A9 ps n).length = n := by unfold A9; rw [List.length_map, List.length_range]
  have lR : ∀ L ∈ A9 ps n, L.length = n := fun L hL => by
    obtain ⟨i, _, rfl⟩ := List.mem_map.mp hL
    unfold E9; rw [List.length_map, List.length_range]
  obtain ⟨J, hJ⟩ : ∃ J : Nat → L2.St → Hp → Prop, ∀ i σ H7, J i σ H7 ↔ ∃ o7 o9 o10 : Option V, σ = [some (.ref u), some (.int kd), some (.int (n : Int)), some (.ref pl), some (.ref hl), some (.ref dl), o6, o7, o8, o9, o10] ∧ j8 u H6 H7 ∧ p7 H7 u := ⟨_, fun _ _ _ => Iff.rfl⟩
  refine j4 (J 2) (fun N hN => ?_) ?_
  · refine ⟨2, rfl, by decide, by decide, O1 J ((hJ _ _ _).mpr ⟨_, _, _, rfl, fun b o h _ => h, u6⟩) ?_ (fun σ H7 h => hN _ _ h)⟩
    rintro i σ H7 hi h
    obtain ⟨o7, o9, o10, rfl, s7, u7⟩ := (hJ _ _ _).mp h
    have T7 := T6.samex s7 u6
    have X7 := X6.samex s7 u6
    have Y7 := Y6.samex s7 u6
    refine j4 (fun σ H8 => ∃ (ta : Addr) (us : List Addr), σ = [some (.ref u), some (.int kd), some (.int (n : Int)), some (.ref pl), some (.ref hl), some (.ref dl), o6, some (.int (0 + (i : Int))), o8, some (.ref ta), o10] ∧ d7 H7 H8 ∧ H7 ta = none ∧ (∀ t ∈ us, H7 t = none ∧ t ≠ ta) ∧ us.Nodup ∧ H8 ta = some (.lst (us.map V.ref)) ∧ B9 K H8 us (A9 ps n)) (fun N hN => ?_) ?_
    · simp! [N5]
      refine ⟨_, SqL.of Y7.at', ps, Y7.nums.toC, by omega, fun z => absurd z (by omega), fun _ r us H8 s8 fr ft nd e8 R8 => ?_⟩
      rw [l4, Nat.add_sub_cancel] at R8
      exact hN _ _ ⟨r, us, rfl, s8, fr, ft, nd, e8, R8⟩
    rintro σ H8 ⟨ta, us, rfl, s8, fr, ft, nd, e8, R8⟩
    have T8 := T7.same s8
    have X8 := X7.same s8
    have Y8 := Y7.same s8
    have u8 := d7.urn s8 u7
    refine j4 (fun σ H9 => σ = [some (.ref u), some (.int kd), some (.int (n : Int)), some (.ref pl), some (.ref hl), some (.ref dl), o6, some (.int (0 + (i : Int))), o8, some (.ref ta), o10] ∧ d7 H8 H9) (fun N hN => ?_) ?_
    · simp! [ax1]
      refine ⟨K2 (A9 ps n), K2 (A9 ps n), rfl, .lst (SqL.of e8) R8.isDs, T8.isD, ad9 _ _, ai4 _, _, rfl, ?_⟩
      rw [ae1, decide_eq_true rfl]
      refine ⟨us, A9 ps n, by rw [lS], e8, R8, by omega, fun L hL => ⟨by rw [lS]; exact lR L hL, fun q hq => ?_⟩, fun H9 s9 => ?_⟩
      · obtain ⟨i, _, rfl⟩ := List.mem_map.mp hL
        obtain ⟨c, _, rfl⟩ := List.mem_map.mp hq
        exact bh1 k4 _
      · refine ⟨K4 ps, K4 ps, rfl, (Y8.same s9).isD, (X8.same s9).isD, aq1 _ _, Nat.le_trans (aA9 _) (by decide), _, rfl, ?_⟩
        rw [ai2, decide_eq_true rfl]
        exact hN _ _ ⟨rfl, s9⟩
    rintro σ H9 ⟨rfl, s9⟩
    refine j4 (fun σ H10 => ∃ at' : Nat, σ = [some (.ref u), some (.int kd), some (.int (n : Int)), some (.ref pl), some (.ref hl), some (.ref dl), o6, some (.int (0 + (i : Int))), o8, some (.ref ta), some (.int (at' : Int))] ∧ j8 u H9 H10 ∧ p7 H10 u ∧ at' < n) (fun N hN => ?_) ?_
    · simp! [B4]
      refine ⟨d7.urn s9 u8, by omega, by omega, fun r H10 r0 r1 s10 u10 => ?_⟩
      obtain ⟨j, rfl⟩ : ∃ j : Nat, r = (j : Int) := ⟨r.toNat, by omega⟩
      exact hN _ _ ⟨j, rfl, s10, u10, by omega⟩
    rintro σ H10 ⟨at', rfl, s10, u10, an⟩
    have lu : us.length = n := by rw [R8.length, lS]
    obtain ⟨lr, hlr⟩ : ∃ lr, us[at']? = some lr := ⟨_, List.getElem?_eq_getElem (by omega)⟩
    have mlr := List.mem_of_getElem? hlr
    have tau : ta ≠ u := E8 u7 fr
    have tu : ∀ t ∈ us, t ≠ u := fun t ht => E8 u7 (ft t ht).1
    have e10 := s10 _ _ (s9 _ _ e8) tau
    have R10 := (R8.same s9).samex s10 (d7.urn s9 u8) tu
    have S7 : j8 u H7 H10 := (d7.x (s8.trans s9) u).trans s10
    obtain ⟨zs, Lr, _, elr, _⟩ := R10.get hlr
    have at2 : (us.map V.ref)[at']? = some (.ref lr) := by rw [List.getElem?_map, hlr]; rfl
    refine j4 (fun σ H11 => H11 = upd H10 lr (.lst []) ∧ σ = [some (.ref u), some (.int kd), some (.int (n : Int)), some (.ref pl), some (.ref hl), some (.ref dl), o6, some (.int (0 + (i : Int))), o8, some (.ref ta), some (.int (at' : Int))]) (fun N hN => ?_) ?_
    · simp! [aQ7]
      exact ⟨_, SqL.of e10, _, u0 at2, .inl ⟨_, SqL.of elr⟩, lr, rfl, _, elr, hN _ _ ⟨rfl, rfl⟩⟩
    rintro σ H11 ⟨y11, rfl⟩
    have S11 : j8 u H7 H11 := by rw [y11]; exact S7.over (ft lr mlr).1 _
    have u11 : p7 H11 u := by rw [y11]; exact u10.other (tu lr mlr)
    have T11 := T7.samex S11 u7
    have e11 : H11 ta = some (.lst (us.map V.ref)) := by rw [y11, i0 (Ne.symm (ft lr mlr).2)]; exact e10
    have nl : lr ∉ us.take at' ++ us.drop (at' + 1) := fun z => aD4 nd hlr z
    have R11 : B9 K H11 (us.take at' ++ us.drop (at' + 1)) ((A9 ps n).take at' ++ (A9 ps n).drop (at' + 1)) := by
      rw [y11]; exact ((R10.take at').append (R10.drop (at' + 1))).over elr nl
    subst_eqs
    refine ⟨_, SqL.of e11, fun p0 hp0 => ?_⟩
    obtain ⟨G0, y0, Z0, g0⟩ := t7 (.lst (P1 (us.map V.ref) none (some (at' : Int)))) hp0
    rw [← y0]
    refine ⟨_, SqL.of (Z0 _ _ e11), fun p1 hp1 => ?_⟩
    obtain ⟨G1, y1, Z1, g1⟩ := t7 (.lst (P1 (us.map V.ref) (some ((at' : Int) + 1)) none)) hp1
    rw [← y1]
    have c1 : P1 (us.map V.ref) none (some (at' : Int)) = (us.take at').map V.ref := by rw [P0 _ (by rw [List.length_map]; omega), List.map_take]
    have c2 : P1 (us.map V.ref) (some ((at' : Int) + 1)) none = (us.drop (at' + 1)).map V.ref := by rw [show (at' : Int) + 1 = ((at' + 1 : Nat) : Int) by omega, aa2 _ (by rw [List.length_map]; omega), List.map_drop]
    rw [c1] at g0
    rw [c2] at g1
    refine ⟨_, Z1 _ _ g0, _, g1, ?_, fun p2 hp2 => ?_⟩
    · rw [List.length_map, List.length_map, List.length_take, List.length_drop]
      exact Nat.le_trans (show _ ≤ 100 by omega) (by decide)
    obtain ⟨G2, y2, Z2, g2⟩ := t7 (.lst ((us.take at').map V.ref ++ (us.drop (at' + 1)).map V.ref)) hp2
    rw [← y2]
    have Z02 := (Z0.trans Z1).trans Z2
    have lt : ts.length = n := by rw [T11.rws.length, lS]
    refine ⟨_, SqL.of (Z02 _ _ T11.at'), fun p3 hp3 => ?_⟩
    obtain ⟨G3, y3, Z3, g3⟩ := t7 (.lst (P1 (ts.map V.ref) none (some (at' : Int)))) hp3
    rw [← y3]
    refine ⟨_, SqL.of (Z3 _ _ (Z02 _ _ T11.at')), fun p4 hp4 => ?_⟩
    obtain ⟨G4, y4, Z4, g4⟩ := t7 (.lst (P1 (ts.map V.ref) (some ((at' : Int) + 1)) none)) hp4
    rw [← y4]
    have c3 : P1 (ts.map V.ref) none (some (at' : Int)) = (ts.take at').map V.ref := by rw [P0 _ (by rw [List.length_map]; omega), List.map_take]
    have c4 : P1 (ts.map V.ref) (some ((at' : Int) + 1)) none = (ts.drop (at' + 1)).map V.ref := by rw [show (at' : Int) + 1 = ((at' + 1 : Nat) : Int) by omega, aa2 _ (by rw [List.length_map]; omega), List.map_drop]
    rw [c3] at g3
    rw [c4] at g4
    refine ⟨_, Z4 _ _ g3, _, g4, ?_, fun p5 hp5 => ?_⟩
    · rw [List.length_map, List.length_map, List.length_take, List.length_drop]
      exact Nat.le_trans (show _ ≤ 100 by omega) (by decide)
    obtain ⟨G5, y5, Z5, g5⟩ := t7 (.lst ((ts.take at').map V.ref ++ (ts.drop (at' + 1)).map V.ref)) hp5
    rw [← y5]
    have Z35 := (Z3.trans Z4).trans Z5
    have Z := Z02.trans Z35
    have RT := (T11.rws.toC (K := K)).same Z
    rw [← List.map_append] at g5 g2
    refine ⟨K2 ((A9 ps n).take at' ++ (A9 ps n).drop (at' + 1)), K2 ((A9 ps n).take at' ++ (A9 ps n).drop (at' + 1)), rfl, .lst (SqL.of (Z35 _ _ g2)) (R11.same Z).isDs, .lst (SqL.of g5) ((RT.take at').append (RT.drop (at' + 1))).isDs, ad9 _ _, ai4 _, _, rfl, ?_⟩
    rw [ae1, decide_eq_true rfl]
    exact (hJ _ _ _).mpr ⟨_, _, _, rfl, s7.trans (S11.trans (d7.x Z u)), d7.urn Z u11⟩
  intro σ H7 h
  obtain ⟨o7, o9, o10, rfl, s7, u7⟩ := (hJ _ _ _).mp h
  have X7 := X6.samex s7 u6
  simp! [N5]
  refine ⟨_, SqL.of X7.at', fun p hp => ?_⟩
  have lx : xs.length = n + 1 := by rw [X7.nums.length, l4]
  rw [aa2 _ (by omega)]
  obtain ⟨H8, y8, X8, g8⟩ := t7 (.lst (xs.drop n)) hp
  rw [← y8]
  have ld : (ps.drop n).length = 1 := by rw [List.length_drop, l4]; omega
  refine ⟨_, SqL.of g8, ps.drop n, ((X7.nums.drop n).mono X8.tups).toC, by omega, fun _ t H9 s9 e9 => ⟨J4, fun p2 hp2 => ?_⟩, fun z => by omega⟩
  have X9 := d7.new hp2 (.tup [.str "refused", .str "polynomial"])
  refine ⟨Q5 "refused" "polynomial", Q5 "refused" "polynomial", rfl, Q4 (SqT.of (X9 _ _ e9)), Q4 (SqT.of d5), ah7 _ _ _ _, am8 _ _, ?_⟩
  rw [ai1]
  exact k _ ((s5.trans (d7.x s6 u)).trans (s7.trans (d7.x ((X8.trans s9).trans X9) u))) (d7.urn ((X8.trans s9).trans X9) u7)
end
end R
set_option maxRecDepth 100000
local macro_rules | `(tactic| simp_wf) => `(tactic| first | rfl | decide | exact .inl rfl | (intro _; rfl))
namespace R
open PySem L2 PyProof.Rows
theorem aZ0 (xs : List V) {lo hi : Option Int} (h : HT.sIx xs.length 0 lo = 0 ∧ HT.sIx xs.length xs.length hi = xs.length) : P1 xs lo hi = xs := by
  unfold P1
  rw [h.1, h.2]; simp
theorem slW {K : PySem.W.Frag} {H : Hp} {a : Addr} {xs : List V} {lo hi : Option Int} {Q : VK} (h : SqT K H a xs) (k : ∀ r H', d7 H H' → SqT K H' r (P1 xs lo hi) → Q (.ref r) H') : bg0 K (.ref a) lo hi H Q :=
  ⟨a, xs, rfl, h, fun w => k a H (d7.refl _) (by rw [aZ0 xs w]; exact h), fun _ p hp => k p _ (d7.new hp _) (SqT.of d5)⟩
theorem aE9 {K : PySem.W.Frag} {H : Hp} {a b : Addr} {xs ys : List V} {Q : VK} (h : SqT K H a xs) (h' : SqT K H b ys) (l : xs.length + ys.length ≤ 1000) (k : ∀ r H', d7 H H' → SqT K H' r (xs ++ ys) → Q (.ref r) H') : ba2 K (.ref a) (.ref b) H Q :=
  ⟨a, b, xs, ys, rfl, rfl, h, h', Nat.le_trans l (by decide), fun z => k b H (d7.refl _) (by rw [z]; exact h'), fun _ z => k a H (d7.refl _) (by rw [z, List.append_nil]; exact h), fun _ _ p hp => k p _ (d7.new hp _) (SqT.of d5)⟩
abbrev nV (is : List Nat) : List V := is.map fun (i : Nat) => V.int (i : Int)
abbrev nD (is : List Nat) : List D := is.map fun (i : Nat) => D.v (.int (i : Int))
theorem bc8 {n : Nat} {a b : List D} {x : D} (h : inD n x = false) : plD n (.tup (a ++ [x] ++ b)) = false := by
  show (!(a ++ [x] ++ b).isEmpty && ((a ++ [x] ++ b).all (inD n) && ac1 (a ++ [x] ++ b))) = false
  rw [List.all_append, List.all_append, List.all_cons, h]; simp
theorem ay1 (x : Int) : ∀ l : List D, ac1 (l ++ [.v (.int x), .v (.int x)]) = false
  | [] => by show (decide (x < x) && true) = false; simp
  | [a] => by
    show (ltD a (.v (.int x)) && ac1 ([] ++ [.v (.int x), .v (.int x)])) = false
    rw [ay1 x []]; simp
  | a :: b :: l => by
    show (ltD a b && ac1 ((b :: l) ++ [.v (.int x), .v (.int x)])) = false
    rw [ay1 x (b :: l)]; simp
theorem bc9 {n : Nat} (x : Int) (l : List D) : plD n (.tup (l ++ [.v (.int x), .v (.int x)])) = false := by
  show (!(l ++ [D.v (.int x), D.v (.int x)]).isEmpty && ((l ++ [D.v (.int x), D.v (.int x)]).all (inD n) && ac1 (l ++ [D.v (.int x), D.v (.int x)]))) = false
  rw [ay1]; simp
theorem ac6 : ∀ a b : List D, O8 (a ++ b) = (O8 a && O8 b)
  | [], b => by simp [O8]
  | d :: a, b => by rw [List.cons_append, O8, O8, ac6 a b, Bool.and_assoc]
theorem am5 : ∀ is : List Nat, O8 (nD is) = true
  | [] => by simp [O8]
  | i :: is => by show O8 (_ :: nD is) = true; rw [O8, noU, am5 is]; rfl
theorem aE5 (xs : List V) (z : V) : P1 (xs ++ [z]) (some (-1)) none = [z] := by
  unfold P1
  have e1 : HT.sIx (xs ++ [z]).length 0 (some (-1)) = xs.length := by
    simp only [HT.sIx]
    rw [if_pos (by decide), List.length_append, List.length_singleton]; omega
  rw [e1, HT.sIx_none, List.drop_left, List.length_append, List.length_singleton, Nat.add_sub_cancel_left]; rfl
theorem aE6 (z : V) (xs : List V) : P1 (z :: xs) none (some 1) = [z] := P0 (m := 1) (z :: xs) (by simp)
theorem aq9 {K : PySem.W.Frag} {H : Hp} {x : V} {d : D} (h : IsD K H x d) (a b : List Nat) : L9 K H (nV a ++ [x] ++ nV b) (nD a ++ [d] ++ nD b) := ((J3 a).append (.cons h .nil)).append (J3 b)
theorem aq4 {d : D} (h : noU d = true) (a b : List Nat) : noU (.tup (nD a ++ [d] ++ nD b)) = true := by
  rw [noU, ac6, ac6, am5, am5, O8, h]; rfl
theorem aK0 (x : Int) (a : List Nat) : noU (.tup (nD a ++ [.v (.int x), .v (.int x)])) = true := by
  rw [noU, ac6, am5]; rfl
structure aZ5 (n : Nat) (d : D) : Prop where
  p : plD n d = false
  l : ∀ l, d = .tup l → l.length ≤ 100
theorem aB1 {n : Nat} {d : D} (h : inD n d = false) {a b : List Nat} (l : a.length + b.length ≤ 50) : aZ5 n (.tup (nD a ++ [d] ++ nD b)) := ⟨bc8 h, fun l' e => by
  injection e with e
  rw [← e, List.length_append, List.length_append, List.length_map, List.length_map, List.length_singleton]; omega⟩
theorem aL4 {n : Nat} (x : Int) {a : List Nat} (l : a.length ≤ 50) : aZ5 n (.tup (nD a ++ [.v (.int x), .v (.int x)])) := ⟨bc9 x _, fun l' e => by
  injection e with e
  rw [← e, List.length_append, List.length_map]; show _ + 2 ≤ 100; omega⟩
section
variable {P : Program} {w : World} {K : PySem.W.Frag} {mg : Str → Option Value} {base : Heap}
def ax4 (K : PySem.W.Frag) : Sp := fun vs H Q _ => ∃ (u p : Addr) (n : Nat) (is : List Nat), vs = [.ref u, .ref p, .int (n : Int)] ∧ p7 H u ∧ H p = some (.tup (is.map fun (i : Nat) => V.int (i : Int))) ∧ 1 ≤ is.length ∧ is.length ≤ 7 ∧ (∀ i ∈ is, i < n) ∧
  ∀ x d H', j8 u H H' → p7 H' u → IsD K H' x d → plD n d = false → (∀ l, d = .tup l → l.length ≤ 100) → Q x H'
abbrev x9 : Stmt := top 60
theorem C0 : j7 ["_law_urn_here", "_law_some", "_law_n", "_law_at", "_law_odd", "_law_ahead", "_law_behind"] ["_law_urn_here", "_law_some", "_law_n"] (d3 x9) := by and_intros
set_option maxHeartbeats 0 in
theorem ag1 {f f1 : Addr} (d : Df K mg "_law_bad_places" x9 ["_law_urn_here", "_law_some", "_law_n"] f) (G__law_draw : Def P w K mg base CX0 1 "_law_draw" f1 ["_law_urn_here", "_law_many"] B4) (n_len : mg "len" = none) (n_list : mg "list" = none) : Def P w K mg base CX0 2 "_law_bad_places" f ["_law_urn_here", "_law_some", "_law_n"] (ax4 K) := by
  refine d.ok (N := ["_law_urn_here", "_law_some", "_law_n", "_law_at", "_law_odd", "_law_ahead", "_law_behind"]) C0 (by rintro vs H Q E ⟨_, _, _, _, h, _⟩; rw [h]; rfl) (fun cdv A outer s H vs Q E hr h => ?_)
  obtain ⟨u, p, n, is, rfl, hU, hp, l1, l7, hlt, k⟩ := h
  refine ⟨_, (@d6 _ _ _ _ _ (@m6 _ _ 3 _ _ _ _ C0.nd rfl (Or.inl rfl) (@i5 _ _ _ _ _ _ _ _ _ _ _ _ _ _ G__law_draw hr (@b7 _ _ _ _ _ (pv 0) (@b7 _ _ _ _ _ (@d9 _ _ _ _ _ _ _ _ _ m4 rfl n_len (by decide +kernel) (@b7 _ _ _ _ _ (pv 1) d2 (by simp_wf)) (by simp_wf) (by simp_wf) (by simp_wf) (by simp_wf)) d2 (by simp_wf)) (by simp_wf)) m3 (by simp_wf) (by simp_wf) (by simp_wf) (by simp_wf) (by simp_wf)) (by simp_wf) (by simp_wf)) (@d6 _ _ _ _ _ (@aG8 _ _ 5 6 _ _ _ _ _ _ _ _ _ _ _ rfl C0.nd rfl rfl (by decide) rfl rfl (@b7 _ _ _ _ _ (@A4 _ _ _ _ _ _ _ _ _ _ am4 (pv 1) C1 (B6 (pv 3))) (@b7 _ _ _ _ _ (@A4 _ _ _ _ _ _ _ _ _ _ am4 (pv 1) (B6 (@i4 _ _ _ _ _ _ _ _ E4 (pv 3) d4)) C1) d2 (by simp_wf)) (by simp_wf)) rfl (by simp_wf)) (@d6 _ _ _ _ _ (@m6 _ _ 4 _ _ _ _ C0.nd rfl (Or.inl rfl) (@L7 _ _ _ _ (@b7 _ _ _ _ _ (@N9 _ _ _ _ _ _ _ _ _ S3 rfl n_list (by decide +kernel) (@b7 _ _ _ _ _ (pv 1) d2 (by simp_wf)) (by simp_wf) (by simp_wf) (by simp_wf) (by simp_wf)) (@b7 _ _ _ _ _ (@i4 _ _ _ _ _ _ _ _ U9 (@i4 _ _ _ _ _ _ _ _ U9 (pv 5) (@A3 _ _ _ _ _ (@b7 _ _ _ _ _ (pv 2) d2 (by simp_wf)))) (pv 6)) (@b7 _ _ _ _ _ (@i4 _ _ _ _ _ _ _ _ U9 (pv 1) (@A4 _ _ _ _ _ _ _ _ _ _ am4 (pv 1) (B6 (@au9 _ _ _ _ _ _ ai8 d4)) C1)) (@b7 _ _ _ _ _ (@A3 _ _ _ _ _ d2) (@b7 _ _ _ _ _ ay6 (@b7 _ _ _ _ _ (@i4 _ _ _ _ _ _ _ _ U9 (@i4 _ _ _ _ _ _ _ _ U9 (pv 5) (@A3 _ _ _ _ _ (@b7 _ _ _ _ _ (@au9 _ _ _ _ _ _ ai8 d4) d2 (by simp_wf)))) (pv 6)) d2 (by simp_wf)) (by simp_wf)) (by simp_wf)) (by simp_wf)) (by simp_wf)) (by simp_wf))) (by simp_wf) (by simp_wf)) (@d6 _ _ _ _ _ (@m6 _ _ 4 _ _ _ _ C0.nd rfl (Or.inl rfl) (@i4 _ _ _ _ _ _ _ _ W3 (pv 4) (@L7 _ _ _ _ (@b7 _ _ _ _ _ (@i4 _ _ _ _ _ _ _ _ U9 (@i4 _ _ _ _ _ _ _ _ U9 (pv 5) (@A3 _ _ _ _ _ (@b7 _ _ _ _ _ ay6 d2 (by simp_wf)))) (pv 6)) (@b7 _ _ _ _ _ (@i4 _ _ _ _ _ _ _ _ U9 (@aX5 _ _ _ _ _ _ _ (pv 1) (B6 (@au9 _ _ _ _ _ _ ai8 d4))) (@A4 _ _ _ _ _ _ _ _ _ _ am4 (pv 1) C1 (B6 d4))) (@b7 _ _ _ _ _ d4 (@b7 _ _ _ _ _ K1 d2 (by simp_wf)) (by simp_wf)) (by simp_wf)) (by simp_wf)))) (by simp_wf) (by simp_wf)) (@d8 _ _ _ (@j1 _ _ _ _ (@j9 _ _ _ _ _ _ _ j5 (pv 4) (@i5 _ _ _ _ _ _ _ _ _ _ _ _ _ _ G__law_draw hr (@b7 _ _ _ _ _ (pv 0) (@b7 _ _ _ _ _ d4 d2 (by simp_wf)) (by simp_wf)) m3 (by simp_wf) (by simp_wf) (by simp_wf) (by simp_wf) (by simp_wf)) (fun _ _ => rfl)))))))), ?_⟩
  rw [show start ["_law_urn_here", "_law_some", "_law_n", "_law_at", "_law_odd", "_law_ahead", "_law_behind"] [.ref u, .ref p, .int (n : Int)] = [some (.ref u), some (.ref p), some (.int (n : Int)), none, none, none, none] from rfl]
  have tp : SqT K H p (nV is) := SqT.of hp
  have pu : p ≠ u := fun z => by obtain ⟨g, m, q, e, _⟩ := hU; rw [← z, hp] at e; cases e
  refine j4 (fun σ H1 => ∃ j : Nat, σ = [some (.ref u), some (.ref p), some (.int (n : Int)), some (.int (j : Int)), none, none, none] ∧ j8 u H H1 ∧ p7 H1 u ∧ j < is.length) (fun N hN => ?_) ?_
  · simp! [B4]
    refine ⟨_, .inr tp, hU, by rw [List.length_map]; omega, by rw [List.length_map]; omega, fun r H1 r0 r1 s1 u1 => ?_⟩
    obtain ⟨j, rfl⟩ : ∃ j : Nat, r = (j : Int) := ⟨r.toNat, by omega⟩
    rw [List.length_map] at r1
    exact hN _ _ ⟨j, rfl, s1, u1, by omega⟩
  rintro σ H1 ⟨j, rfl, s1, u1, hj⟩
  have tp1 : SqT K H1 p (nV is) := SqT.of (s1 _ _ hp pu)
  refine j4 (fun σ H2 => ∃ ah bh : Addr, σ = [some (.ref u), some (.ref p), some (.int (n : Int)), some (.int (j : Int)), none, some (.ref ah), some (.ref bh)] ∧ d7 H1 H2 ∧ SqT K H2 ah (nV (is.take j)) ∧ SqT K H2 bh (nV (is.drop (j + 1)))) (fun N hN => ?_) ?_
  · subst_eqs
    refine slW tp1 fun ah H2 s2 t2 => slW (s2.tup tp1) fun bh H3 s3 t3 => hN _ _ ⟨ah, bh, rfl, s2.trans s3, ?_, ?_⟩
    · rw [P0 _ (by rw [List.length_map]; omega), ← List.map_take] at t2
      exact s3.tup t2
    · rw [show (j : Int) + 1 = ((j + 1 : Nat) : Int) by omega, aa2 _ (by rw [List.length_map]; omega), ← List.map_drop] at t3
      exact t3
  rintro σ H2 ⟨ah, bh, rfl, s2, ta, tb⟩
  have tp2 := s2.tup tp1
  obtain ⟨init, z, ez⟩ : ∃ init z, is = init ++ [z] := ⟨is.dropLast, is.getLast (fun q => by rw [q] at l1; cases l1), (List.dropLast_concat_getLast _).symm⟩
  obtain ⟨hd, T1, eh⟩ : ∃ hd T1, is = hd :: T1 := by
    cases is with
    | nil => cases l1
    | cons a r => exact ⟨a, r, rfl⟩
  have ev : nV is = nV init ++ [.int (z : Int)] := by rw [ez]; exact List.map_append
  have ew : nV is = .int (hd : Int) :: nV T1 := by rw [eh]; rfl
  have er : (nV is).reverse = nV T1.reverse ++ [.int (hd : Int)] := by rw [ew, List.reverse_cons, ← List.map_reverse]
  have la : (nV (is.take j)).length ≤ 7 := by rw [List.length_map, List.length_take]; omega
  have lb : (nV (is.drop (j + 1))).length ≤ 7 := by rw [List.length_map, List.length_drop]; omega
  have ls : (nV is).length ≤ 7 := by rw [List.length_map]; exact l7
  refine j4 (fun σ H3 => ∃ (od l0 : Addr) (vs : List V) (ds : List D), σ = [some (.ref u), some (.ref p), some (.int (n : Int)), some (.int (j : Int)), some (.ref od), some (.ref ah), some (.ref bh)] ∧ d7 H2 H3 ∧ H2 l0 = none ∧ H3 od = some (.lst (.ref l0 :: vs)) ∧ H3 l0 = some (.lst (nV is)) ∧ L9 K H3 vs ds ∧ O8 ds = true ∧ ds.length = 5 ∧ ∀ d ∈ ds, aZ5 n d) (fun N hN => ?_) ?_
  · subst_eqs
    refine ⟨_, .inr tp2, fun l0 h0 => ?_⟩
    obtain ⟨G0, y0, Z0, g0⟩ := t7 (.lst (nV is)) h0
    rw [← y0]
    refine ⟨by decide, fun q1 h1 => ?_⟩
    obtain ⟨G1, y1, Z1, g1⟩ := t7 (.tup [.int (n : Int)]) h1
    rw [← y1]
    refine aE9 ((Z0.trans Z1).tup ta) (SqT.of g1) (by rw [List.length_singleton]; omega) fun r2 G2 Z2 g2 => aE9 g2 (((Z0.trans Z1).trans Z2).tup tb) (by rw [List.length_append, List.length_singleton]; omega) fun r3 G3 Z3 g3 => ?_
    have Y3 := ((Z0.trans Z1).trans Z2).trans Z3
    refine slW (Y3.tup tp2) fun r4 G4 Z4 g4 => aE9 ((Y3.trans Z4).tup tp2) g4 ?_ fun r5 G5 Z5 g5 => ⟨by decide, fun q6 h6 => ?_⟩
    · rw [ev] at ls ⊢; rw [aE5, List.length_singleton]; omega
    obtain ⟨G6, y6, Z6, g6⟩ := t7 (.tup []) h6
    rw [← y6]
    refine ⟨by decide, fun q7 h7 => ?_⟩
    obtain ⟨G7, y7, Z7, g7⟩ := t7 (.tup [.int (-1)]) h7
    rw [← y7]
    have Y7 := ((((Y3.trans Z4).trans Z5).trans Z6).trans Z7)
    refine aE9 (Y7.tup ta) (SqT.of g7) (by rw [List.length_singleton]; omega) fun r8 G8 Z8 g8 => aE9 g8 ((Y7.trans Z8).tup tb) (by rw [List.length_append, List.length_singleton]; omega) fun r9 G9 Z9 g9 => ?_
    rw [ev, aE5, List.append_assoc] at g5
    refine ⟨by decide, fun od ho => ?_⟩
    have X := d7.new ho (.lst [V.ref l0, V.ref r3, V.ref r5, V.ref q6, V.non, V.ref r9])
    have V9 := Z9.trans X
    have V7 := (Z7.trans Z8).trans V9
    have V5 := Z6.trans V7
    have V3 := (Z4.trans Z5).trans V5
    have lt1 : (is.take j).length + (is.drop (j + 1)).length ≤ 50 := by rw [List.length_take, List.length_drop]; omega
    have li : init.length ≤ 50 := by rw [ez, List.length_append] at l7; omega
    refine hN _ _ ⟨od, l0, _, [.tup (nD (is.take j) ++ [.v (.int (n : Int))] ++ nD (is.drop (j + 1))), .tup (nD init ++ [.v (.int (z : Int)), .v (.int (z : Int))]), .tup [], .v .non, .tup (nD (is.take j) ++ [.v (.int (-1))] ++ nD (is.drop (j + 1)))], rfl, Y3.trans V3, h0, d5, ((Z1.trans Z2).trans (Z3.trans V3)) _ _ g0, ?_, ?_, rfl, ?_⟩
    · exact .cons (.tup (V3.tup g3) (aq9 (.v rfl) _ _)) (.cons (.tup (V5.tup g5) ((J3 init).append (.cons (.v rfl) (.cons (.v rfl) .nil)))) (.cons (.tup (SqT.of (V7 _ _ g6)) .nil) (.cons (.v rfl) (.cons (.tup (X.tup g9) (aq9 (.v rfl) _ _)) .nil))))
    · rw [O8, O8, O8, O8, O8, O8, aq4 rfl, aq4 rfl, aK0]; rfl
    · intro d hd
      simp only [List.mem_cons, List.not_mem_nil, or_false] at hd
      rcases hd with rfl | rfl | rfl | rfl | rfl
      · exact aB1 (by show (decide (0 ≤ (n : Int)) && decide ((n : Int) < (n : Int))) = false; simp) lt1
      · exact aL4 _ li
      · exact ⟨rfl, fun l e => by cases e; decide⟩
      · exact ⟨rfl, fun l e => by cases e⟩
      · exact aB1 rfl lt1
  rintro σ H3 ⟨od, l0, vs, ds, rfl, s3, f0, e3, e0, i3, nu, ld, bd⟩
  have lu0 : l0 ≠ u := E8 (d7.urn s2 u1) f0
  simp! [aZ8, B4]
  refine ⟨by decide, fun q1 h1 => ?_⟩
  obtain ⟨G1, y1, Z1, g1⟩ := t7 (.tup [.non]) h1
  rw [← y1]
  refine aE9 ((s3.trans Z1).tup ta) (SqT.of g1) (by rw [List.length_singleton]; omega) fun r2 G2 Z2 g2 => aE9 g2 (((s3.trans Z1).trans Z2).tup tb) (by rw [List.length_append, List.length_singleton]; omega) fun r3 G3 Z3 g3 => ?_
  have Y3 := (Z1.trans Z2).trans Z3
  have tp3 := (s3.trans Y3).tup tp2
  refine ⟨_, tp3, fun q4 h4 => ?_⟩
  obtain ⟨G4, y4, Z4, g4⟩ := t7 (.tup (nV is).reverse) h4
  rw [← y4]
  refine slW (Z4.tup tp3) fun r5 G5 Z5 g5 => aE9 (SqT.of (Z5 _ _ g4)) g5 ?_ fun r6 G6 Z6 g6 => ⟨by decide, fun q7 h7 => ?_⟩
  · rw [List.length_reverse]
    rw [ew] at ls ⊢
    rw [aE6, List.length_singleton]; omega
  rw [er, ew, aE6, List.append_assoc] at g6
  obtain ⟨G7, y7, Z7, g7⟩ := t7 (.lst [V.ref r3, V.ref r6, V.int 0, V.str "0"]) h7
  rw [← y7]
  have Y7 := ((Y3.trans Z4).trans (Z5.trans Z6)).trans Z7
  refine ⟨_, Y7 _ _ e3, _, g7, ?_, fun q8 h8 => ?_⟩
  · rw [List.length_cons, i3.length, ld]; show 5 + 1 + 4 ≤ sizeLine; decide
  obtain ⟨G8, y8, Z8, g8⟩ := t7 (.lst (V.ref l0 :: vs ++ [V.ref r3, V.ref r6, V.int 0, V.str "0"])) h8
  rw [← y8]
  have Y8 := Y7.trans Z8
  have u3 := d7.urn s3 (d7.urn s2 u1)
  have u8 := d7.urn Y8 u3
  refine ⟨u8, by decide, by decide, fun r H9 r0 r9 s9 u9 => ?_⟩
  obtain ⟨m, rfl⟩ : ∃ m : Nat, r = (m : Int) := ⟨r.toNat, by omega⟩
  have q8u : q8 ≠ u := E8 (d7.urn Y7 u3) h8
  have lr : (T1.reverse).length ≤ 50 := by rw [eh, List.length_cons] at l7; rw [List.length_reverse]; omega
  have lt1 : (is.take j).length + (is.drop (j + 1)).length ≤ 50 := by rw [List.length_take, List.length_drop]; omega
  have SX : j8 u H H9 := (s1.trans (d7.x ((s2.trans s3).trans Y8) u)).trans s9
  have i8 : L9 K G8 (vs ++ [V.ref r3, V.ref r6, V.int 0, V.str "0"]) (ds ++ [.tup (nD (is.take j) ++ [.v .non] ++ nD (is.drop (j + 1))), .tup (nD T1.reverse ++ [.v (.int (hd : Int)), .v (.int (hd : Int))]), .v (.int 0), .v (.str "0")]) := (i3.same Y8).append (.cons (.tup (((Z4.trans (Z5.trans Z6)).trans (Z7.trans Z8)).tup g3) (aq9 (.v rfl) _ _)) (.cons (.tup ((Z7.trans Z8).tup g6) ((J3 T1.reverse).append (.cons (.v rfl) (.cons (.v rfl) .nil)))) (.cons (.v rfl) (.cons (.v rfl) .nil))))
  have nu8 : O8 (ds ++ [.tup (nD (is.take j) ++ [.v .non] ++ nD (is.drop (j + 1))), .tup (nD T1.reverse ++ [.v (.int (hd : Int)), .v (.int (hd : Int))]), .v (.int 0), .v (.str "0")]) = true := by
    rw [ac6, nu, O8, O8, O8, O8, O8, aq4 rfl, aK0]; rfl
  have i9 := aa9 s9 u8 nu8 i8
  have l9 : (V.ref l0 :: vs ++ [V.ref r3, V.ref r6, V.int 0, V.str "0"]).length = 10 := by
    rw [List.length_append, List.length_cons, i3.length, ld]; rfl
  have hm : m < (V.ref l0 :: vs ++ [V.ref r3, V.ref r6, V.int 0, V.str "0"]).length := by rw [l9]; omega
  refine ⟨_, SqL.of (s9 _ _ g8 q8u), _, u0 (List.getElem?_eq_getElem hm), ?_⟩
  have hv := List.getElem?_eq_getElem hm
  generalize (V.ref l0 :: vs ++ [V.ref r3, V.ref r6, V.int 0, V.str "0"])[m] = x at hv ⊢
  cases m with
  | zero =>
    cases hv
    exact k _ (.lst (nD is)) H9 SX u9 (.lst (SqL.of (s9 _ _ (Y8 _ _ e0) lu0)) (J3 is)) rfl (fun l e => by cases e)
  | succ m =>
    rw [List.cons_append, List.getElem?_cons_succ] at hv
    obtain ⟨d, hd', id⟩ := i9.get hv
    have hmem := List.mem_of_getElem? hd'
    have B : aZ5 n d := by
      rcases List.mem_append.mp hmem with y | y
      · exact bd d y
      · simp only [List.mem_cons, List.not_mem_nil, or_false] at y
        rcases y with rfl | rfl | rfl | rfl
        · exact aB1 rfl lt1
        · exact aL4 _ lr
        · exact ⟨rfl, fun l e => by cases e⟩
        · exact ⟨rfl, fun l e => by cases e⟩
    exact k x d H9 SX u9 id B.p B.l
end
theorem bb9 {M : List (List Rat)} {n B W : Nat} (h : ∀ L ∈ M, L.length = n ∧ ∀ q ∈ L, OvB B W q) (is js : List Nat) : (U3 M is js).length = is.length ∧ ∀ L ∈ U3 M is js, L.length = js.length ∧ ∀ q ∈ L, OvB B W q := by
  refine ⟨by unfold U3; rw [List.length_map], fun L hL => ?_⟩
  obtain ⟨i, _, rfl⟩ := List.mem_map.mp hL
  refine ⟨by unfold K7; rw [List.length_map], fun q hq => ?_⟩
  obtain ⟨j, _, rfl⟩ := List.mem_map.mp hq
  unfold qq
  cases e : M[i]? with
  | none => exact OvB.zero _ _
  | some L =>
    show OvB B W (aQ L j)
    unfold aQ
    cases e2 : L[j]? with
    | none => exact OvB.zero _ _
    | some q => exact (h L (List.mem_of_getElem? e)).2 q (List.mem_of_getElem? e2)
theorem aJ7 : ∀ {is : List Nat}, is.Pairwise (· < ·) → ac1 (is.map fun (i : Nat) => D.v (.int (i : Int))) = true
  | [], _ => rfl
  | [_], _ => rfl
  | a :: b :: r, h => by
    have h1 := List.pairwise_cons.mp h
    have h2 := h1.1 b List.mem_cons_self
    show (decide ((a : Int) < (b : Int)) && ac1 ((b :: r).map fun (i : Nat) => D.v (.int (i : Int)))) = true
    rw [aJ7 h1.2, decide_eq_true (by omega)]; rfl
theorem aR1 {n : Nat} {is : List Nat} (h0 : 1 ≤ is.length) (h : ∀ i ∈ is, i < n) (p : is.Pairwise (· < ·)) : plD n (U0 is) = true := by
  have h1 : (is.map fun (i : Nat) => D.v (.int (i : Int))).all (inD n) = true := List.all_eq_true.mpr fun d hd => by
    obtain ⟨i, hi, rfl⟩ := List.mem_map.mp hd
    have := h i hi
    show (decide (0 ≤ (i : Int)) && decide ((i : Int) < (n : Int))) = true
    rw [decide_eq_true (by omega), decide_eq_true (by omega)]; rfl
  have h2 : (is.map fun (i : Nat) => D.v (.int (i : Int))).isEmpty = false := by
    cases is with
    | nil => simp at h0
    | cons a r => rfl
  show (!(is.map fun (i : Nat) => D.v (.int (i : Int))).isEmpty && ((is.map fun (i : Nat) => D.v (.int (i : Int))).all (inD n) && ac1 (is.map fun (i : Nat) => D.v (.int (i : Int))))) = true
  rw [h1, h2, aJ7 p]; rfl
theorem bd3 {n : Nat} {is js : List Nat} (h0 : 1 ≤ is.length) (l : is.length = js.length) (hi : ∀ i ∈ is, i < n) (hj : ∀ i ∈ js, i < n) (pi : is.Pairwise (· < ·)) (pj : js.Pairwise (· < ·)) : okM n (U0 is) (U0 js) = true := by
  unfold okM
  rw [aR1 h0 hi pi, aR1 (l ▸ h0) hj pj]
  have : aq7 (U0 is) = aq7 (U0 js) := by
    show (is.map _).length = (js.map _).length
    rw [List.length_map, List.length_map, l]
  rw [decide_eq_true this]; rfl
theorem aC8 {is js : List Nat} (h : U0 is = U0 js) : is = js := by
  have h' : (is.map fun (i : Nat) => D.v (.int (i : Int))) = js.map fun (i : Nat) => D.v (.int (i : Int)) := by injection h
  refine List.map_inj_right (f := fun (i : Nat) => D.v (.int (i : Int))) (fun x y e => ?_) |>.mp h'
  have e1 : V.int (x : Int) = V.int (y : Int) := by injection e
  have e2 := V.int.inj e1
  omega
section
variable {P : Program} {w : World} {K : PySem.W.Frag} {mg : Str → Option Value} {base : Heap}
structure TbC (K : PySem.W.Frag) (u : Addr) (H : Hp) (a : Addr) (ts : List Addr) (M : List (List Rat)) : Prop where
  au : a ≠ u
  tu : ∀ t ∈ ts, t ≠ u
  at' : H a = some (.lst (ts.map V.ref))
  rws : B9 K H ts M
theorem TbC.samex {u a : Addr} {H H' : Hp} {ts : List Addr} {M : List (List Rat)} (t : TbC K u H a ts M) (s : j8 u H H') (hu : p7 H u) : TbC K u H' a ts M := ⟨t.au, t.tu, s _ _ t.at' t.au, t.rws.samex s hu t.tu⟩
theorem aR2 {a pr pc D : Addr} {ts : List Addr} {M : List (List Rat)} {n : Nat} {is js : List Nat} {H2 : Hp} {Q : VK} (tr : SqT K H2 pr (is.map fun (i : Nat) => V.int (i : Int))) (tc : SqT K H2 pc (js.map fun (i : Nat) => V.int (i : Int))) (hA2 : SqL K H2 a (ts.map V.ref)) (hR2 : B9 K H2 ts M) (lm : ∀ L ∈ M, L.length = n) (ri : ∀ i ∈ is, i < M.length) (ci : ∀ j ∈ js, j < n) (l1 : is.length ≤ 50) (l2 : js.length ≤ 50) (hD : H2 D = none) (k : ∀ H3, W6 K H2 D (U3 M is js) H3 → Q (.ref D) H3) :
    af7 (Itt K pr) D [some (.ref a), some (.ref pc), none] (upd H2 D (.lst [])) (C7 2) (fun σ H Q => ∃ v, σ[1]? = some (some v) ∧ ∃ b, v = V.ref b ∧ (∃ xs, SqT K H b xs) ∧ ∀ D, H D = none → af7 (Itt K b) D [(σ[0]?).join, (σ[2]?).join, none] (upd H D (.lst [])) (C7 2) (tOp (ah1 K) (tOp (ah1 K) (ai9 0) (ai9 1)) (ai9 2)) Q) Q := by
  have at' : ∀ (i : Nat) (p : Addr), ts[i]? = some p → (ts.map V.ref)[i]? = some (.ref p) := fun i p e => by rw [List.getElem?_map, e]; rfl
  refine ar9 (is.map fun (i : Nat) => V.int (i : Int)) (fun i σ H3 => ∃ o, σ = [some (.ref a), some (.ref pc), o] ∧ W6 K H2 D ((U3 M is js).take i) H3) ⟨_, rfl, W6.start hD⟩ (fun i σ H3 _ ⟨_, _, T⟩ => T.same.tup tr) ?_ ?_
  · rintro i x σ H3 hx ⟨o, rfl, T⟩
    have hi := (List.getElem?_eq_some_iff.mp hx).1
    rw [List.length_map] at hi
    obtain ⟨u, hu, rfl⟩ : ∃ u, is[i]? = some u ∧ x = V.int (u : Int) := by
      rw [List.getElem?_map, List.getElem?_eq_getElem hi] at hx
      exact ⟨is[i], List.getElem?_eq_getElem hi, (Option.some.inj hx).symm⟩
    have um := ri u (List.mem_of_getElem? hu)
    subst_eqs
    refine ⟨⟨_, T.same.tup tc⟩, fun D2 hD2 => ?_⟩
    refine ar9 (js.map fun (j : Nat) => V.int (j : Int)) (fun j σ H4 => ∃ o, σ = [some (.ref a), some (.int (u : Int)), o] ∧ ad3 K H3 D2 ((K7 M js u).take j) H4) ⟨_, rfl, ad3.start hD2⟩ (fun j σ H4 _ ⟨_, _, R⟩ => R.same.tup (T.same.tup tc)) ?_ ?_
    · rintro j x σ H4 hx ⟨o, rfl, R⟩
      have hj := (List.getElem?_eq_some_iff.mp hx).1
      rw [List.length_map] at hj
      obtain ⟨v, hv, rfl⟩ : ∃ v, js[j]? = some v ∧ x = V.int (v : Int) := by
        rw [List.getElem?_map, List.getElem?_eq_getElem hj] at hx
        exact ⟨js[j], List.getElem?_eq_getElem hj, (Option.some.inj hx).symm⟩
      have vm := ci v (List.mem_of_getElem? hv)
      have S4 := T.same.trans R.same
      obtain ⟨pt, hpt⟩ : ∃ pt, ts[u]? = some pt := ⟨_, List.getElem?_eq_getElem (by rw [hR2.length]; exact um)⟩
      obtain ⟨xs, L, e1, e2, e3⟩ := hR2.get hpt
      have lL := lm L (List.mem_of_getElem? e1)
      have ev := List.getElem?_eq_getElem (l := L) (i := v) (by omega)
      obtain ⟨pq, f1, f2⟩ := e3.get ev
      have vq : qq M u v = L[v]'(by omega) := by
        unfold qq aQ
        rw [e1]
        show (L[v]?).getD 0 = _
        rw [ev]; rfl
      have hg : (K7 M js u)[j]? = some (qq M u v) := by unfold K7; rw [List.getElem?_map, hv]; rfl
      subst_eqs
      refine ⟨_, S4.seq hA2, _, u0 (at' _ _ hpt), pt, rfl, xs, SqL.of (S4 _ _ e2), _, u0 f1, ?_⟩
      obtain ⟨ys, eD, yl, R'⟩ := R.add hD2 (fun b o h => h) (f2.mono S4.tups)
      refine v7.mk (by rw [List.length_map]; exact hj) eD (F9 (by rw [yl, List.length_take]; unfold K7; rw [List.length_map]; omega)) ⟨_, rfl, ?_⟩
      rw [m5 hg, vq]
      exact R'
    · rintro σ H4 ⟨o, rfl, R⟩
      rw [B3 (by unfold K7; rw [List.length_map, List.length_map]; exact Nat.le_refl _)] at R
      obtain ⟨ys, eD, yl, T'⟩ := T.add hD hD2 R
      refine v7.mk (by rw [List.length_map]; exact hi) eD (F9 (by rw [yl, List.length_take]; unfold U3; rw [List.length_map]; omega)) ⟨_, rfl, ?_⟩
      rw [m5 (show (U3 M is js)[i]? = some (K7 M js u) by unfold U3; rw [List.getElem?_map, hu]; rfl)]
      exact T'
  · rintro σ H3 ⟨o, rfl, T⟩
    rw [B3 (by unfold U3; rw [List.length_map, List.length_map]; exact Nat.le_refl _)] at T
    exact k H3 T
structure PlX (H : Hp) (p : Addr) (is : List Nat) (n m : Nat) : Prop where
  at' : H p = some (.tup (is.map fun (i : Nat) => V.int (i : Int)))
  len : is.length = m
  lt : ∀ i ∈ is, i < n
  ris : is.Pairwise (· < ·)
end
section
variable {P : Program} {w : World} {K : PySem.W.Frag} {mg : Str → Option Value} {base : Heap}
theorem as1 {n : Nat} (h : n ≤ 7) : eV 10 n n + eU 10 n ≤ 5900 := by
  have : n = 0 ∨ n = 1 ∨ n = 2 ∨ n = 3 ∨ n = 4 ∨ n = 5 ∨ n = 6 ∨ n = 7 := by omega
  rcases this with rfl | rfl | rfl | rfl | rfl | rfl | rfl | rfl <;> decide
theorem TbC.same {u a : Addr} {H H' : Hp} {ts : List Addr} {M : List (List Rat)} (t : TbC K u H a ts M) (s : d7 H H') : TbC K u H' a ts M := ⟨t.au, t.tu, s _ _ t.at', t.rws.same s⟩
theorem PlX.same {H H' : Hp} {p : Addr} {is : List Nat} {n m : Nat} (t : PlX H p is n m) (s : d7 H H') : PlX H' p is n m := ⟨s _ _ t.at', t.len, t.lt, t.ris⟩
theorem PlX.samex {u : Addr} {H H' : Hp} {p : Addr} {is : List Nat} {n m : Nat} (t : PlX H p is n m) (s : j8 u H H') (hu : p7 H u) : PlX H' p is n m := ⟨s.tups hu _ _ t.at', t.len, t.lt, t.ris⟩
theorem TbC.isD {u a : Addr} {H : Hp} {ts : List Addr} {M : List (List Rat)} (t : TbC K u H a ts M) : IsD K H (.ref a) (K2 M) := .lst (SqL.of t.at') t.rws.isDs
abbrev p6 : Stmt := top 61
theorem j6 : j7 ["_law_urn_here", "_law_n", "_law_table", "_law_handed", "_law_many", "_law_due", "_law_found", "_law_bad", "_law_rows", "_law_columns"] ["_law_urn_here"] (d3 p6) := by and_intros
set_option maxHeartbeats 0 in
theorem ac5 {f f1 f2 f3 f4 f5 f6 f7 f8 : Addr} (d : Df K mg "_law_minors_right" p6 ["_law_urn_here"] f) (G__law_draw : Def P w K mg base CX0 1 "_law_draw" f1 ["_law_urn_here", "_law_many"] B4) (G__law_drawn_table : Def P w K mg base CX0 3 "_law_drawn_table" f2 ["_law_urn_here", "_law_kind_here", "_law_n"] ax3) (G__law_places : Def P w K mg base CX0 2 "_law_places" f3 ["_law_urn_here", "_law_n", "_law_many"] aj2) (G__law_det : Def P w K mg base CX0 3 "_law_det" f4 ["_law_table"] (ax0 K)) (G__law_minor_said : Def P w K mg base CX0 5 "_law_minor_said" f5 ["_law_table", "_law_rows", "_law_columns"] (ab7 K)) (G__law_is_number : Def P w K mg base CX0 2 "_law_is_number" f6 ["_law_thing"] (am3 K)) (G_leads : Def P w K mg base CX0 4 "leads" f7 ["table"] (aw8 K)) (G__law_bad_places : Def P w K mg base CX0 2 "_law_bad_places" f8 ["_law_urn_here", "_law_some", "_law_n"] (ax4 K)) (n_len : mg "len" = none) (n_range : mg "range" = none) (n_list : mg "list" = none) (n_tuple : mg "tuple" = none) : Def P w K mg base CX0 6 "_law_minors_right" f ["_law_urn_here"] (ag7 K) := by
  refine d.ok (N := ["_law_urn_here", "_law_n", "_law_table", "_law_handed", "_law_many", "_law_due", "_law_found", "_law_bad", "_law_rows", "_law_columns"]) j6 (by rintro vs H Q E ⟨_, h, _⟩; rw [h]; rfl) (fun cdv A outer s H vs Q E hr h => ?_)
  obtain ⟨u, rfl, hU, k⟩ := h
  have hu := hr.units
  refine ⟨_, (@d6 _ _ _ _ _ (@m6 _ _ 1 _ _ _ _ j6.nd rfl (Or.inl rfl) (@i4 _ _ _ _ _ _ _ _ E4 d4 (@i5 _ _ _ _ _ _ _ _ _ _ _ _ _ _ G__law_draw hr (@b7 _ _ _ _ _ (pv 0) (@b7 _ _ _ _ _ d4 d2 (by simp_wf)) (by simp_wf)) m3 (by simp_wf) (by simp_wf) (by simp_wf) (by simp_wf) (by simp_wf))) (by simp_wf) (by simp_wf)) (@d6 _ _ _ _ _ (@m6 _ _ 2 _ _ _ _ j6.nd rfl (Or.inr rfl) (@i5 _ _ _ _ _ _ _ _ _ _ _ _ _ _ G__law_drawn_table hr (@b7 _ _ _ _ _ (pv 0) (@b7 _ _ _ _ _ (@i5 _ _ _ _ _ _ _ _ _ _ _ _ _ _ G__law_draw hr (@b7 _ _ _ _ _ (pv 0) (@b7 _ _ _ _ _ d4 d2 (by simp_wf)) (by simp_wf)) m3 (by simp_wf) (by simp_wf) (by simp_wf) (by simp_wf) (by simp_wf)) (@b7 _ _ _ _ _ (pv 1) d2 (by simp_wf)) (by simp_wf)) (by simp_wf)) m3 (by simp_wf) (by simp_wf) (by simp_wf) (by simp_wf) (by simp_wf)) (by simp_wf) (by simp_wf)) (@d6 _ _ _ _ _ (@aa7 _ _ _ _ _ _ _ _ _ 3 _ ["_law_row"] [none] _ _ _ j6.nd rfl (Or.inl rfl) rfl (Q8.of (osc := d3 p6) (N := ["_law_urn_here", "_law_n", "_law_table", "_law_handed", "_law_many", "_law_due", "_law_found", "_law_bad", "_law_rows", "_law_columns"]) (ks := []) rfl rfl rfl rfl v3 (by decide +kernel)) (@O7 _ _ _ _ (pv 2)) (fun C s₂ H₂ fp pins => (i7 (i := 0) (show List.Nodup (["_law_row"] : List Str) by decide +kernel) rfl (Or.inl rfl) (Or.inr rfl))) (fun C s₂ H₂ fp pins => (N9 (by exact S3 : aa3 _ (.type "list") (aQ6 K)) rfl n_list (by decide +kernel) (b7 (pv 0) d2))) (by simp_wf) (by simp_wf) (by simp_wf)) (@d6 _ _ _ _ _ (@m6 _ _ 4 _ _ _ _ j6.nd rfl (Or.inl rfl) (@i4 _ _ _ _ _ _ _ _ E4 d4 (@i5 _ _ _ _ _ _ _ _ _ _ _ _ _ _ G__law_draw hr (@b7 _ _ _ _ _ (pv 0) (@b7 _ _ _ _ _ (pv 1) d2 (by simp_wf)) (by simp_wf)) m3 (by simp_wf) (by simp_wf) (by simp_wf) (by simp_wf) (by simp_wf))) (by simp_wf) (by simp_wf)) (@d6 _ _ _ _ _ (@ac3 _ _ _ _ _ _ (@A3 _ _ _ _ _ (@b7 _ _ _ _ _ (@i5 _ _ _ _ _ _ _ _ _ _ _ _ _ _ G__law_places hr (@b7 _ _ _ _ _ (pv 0) (@b7 _ _ _ _ _ (pv 1) (@b7 _ _ _ _ _ (pv 4) d2 (by simp_wf)) (by simp_wf)) (by simp_wf)) m3 (by simp_wf) (by simp_wf) (by simp_wf) (by simp_wf) (by simp_wf)) (@b7 _ _ _ _ _ (@i5 _ _ _ _ _ _ _ _ _ _ _ _ _ _ G__law_places hr (@b7 _ _ _ _ _ (pv 0) (@b7 _ _ _ _ _ (pv 1) (@b7 _ _ _ _ _ (pv 4) d2 (by simp_wf)) (by simp_wf)) (by simp_wf)) m3 (by simp_wf) (by simp_wf) (by simp_wf) (by simp_wf) (by simp_wf)) d2 (by simp_wf)) (by simp_wf))) (show PG _ _ (ak3 K 2 (K3 (C7 8) (K3 (C7 9) ak4))) from by (refine V6 (n := 2) ?_ ?_ ?_ ?_; rfl; (refine v5 ?_ ?_ ?_; (exact (i7 (i := 8) j6.nd rfl (Or.inl rfl))) ; (refine v5 ?_ ?_ ?_; (exact (i7 (i := 9) j6.nd rfl (Or.inr rfl))) ; (exact P7) ; rfl) ; rfl) ; rfl; rfl)) (by simp_wf) (by simp_wf) (by simp_wf)) (@d6 _ _ _ _ _ (@m6 _ _ 5 _ _ _ _ j6.nd rfl (Or.inl rfl) (@i5 _ _ _ _ _ _ _ _ _ _ _ _ _ _ G__law_det hr (@b7 _ _ _ _ _ (@ah4 _ _ _ _ _ _ _ ["_law_table", "_law_columns", "_law_i"] [some 2, some 9, none] _ _ _ rfl (ai7.of (osc := d3 p6) (N := ["_law_urn_here", "_law_n", "_law_table", "_law_handed", "_law_many", "_law_due", "_law_found", "_law_bad", "_law_rows", "_law_columns"]) (ks := ["_law_table", "_law_columns"]) rfl rfl rfl rfl (j0 rfl (j0 rfl v3)) (by decide +kernel)) (@ap1 _ _ _ _ (pv 8)) (fun C s₂ H₂ fp pins => (i7 (i := 2) (show List.Nodup (["_law_table", "_law_columns", "_law_i"] : List Str) by decide +kernel) rfl (Or.inr rfl) (Or.inl rfl))) (fun C s₂ H₂ fp pins => (E7 (Nc := ["_law_table", "_law_i", "_law_j"]) (caps := [some 0, some 2, none]) rfl (Q8.of (osc := _) (N := ["_law_table", "_law_columns", "_law_i"]) (ks := ["_law_table", "_law_i"]) rfl rfl rfl rfl (j0 rfl (j0 rfl v3)) (by kernel_rfl)) (show PI _ _ _ (aT2 K _) from by exact (ap1 (pv 1))) (fun C s₂ H₂ fp pins => (i7 (i := 2) (show List.Nodup (["_law_table", "_law_i", "_law_j"] : List Str) by decide +kernel) rfl (Or.inl rfl) (Or.inr rfl))) (fun C s₂ H₂ fp pins => (j9 (by exact j5 : IxR _ (ah1 K)) (j9 (by exact j5 : IxR _ (ah1 K)) (pv 0) (pv 1) (fun _ _ => rfl)) (pv 2) (fun _ _ => rfl))))) (by simp_wf)) d2 (by simp_wf)) m3 (by simp_wf) (by simp_wf) (by simp_wf) (by simp_wf) (by simp_wf)) (by simp_wf) (by simp_wf)) (@d6 _ _ _ _ _ (@m6 _ _ 6 _ _ _ _ j6.nd rfl (Or.inl rfl) (@i5 _ _ _ _ _ _ _ _ _ _ _ _ _ _ G__law_minor_said hr (@b7 _ _ _ _ _ (pv 3) (@b7 _ _ _ _ _ (pv 8) (@b7 _ _ _ _ _ (pv 9) d2 (by simp_wf)) (by simp_wf)) (by simp_wf)) m3 (by simp_wf) (by simp_wf) (by simp_wf) (by simp_wf) (by simp_wf)) (by simp_wf) (by simp_wf)) (@d6 _ _ _ _ _ (@C2 _ _ _ _ _ _ _ _ (@PW.pt _ _ _ (@R0 _ _ _ _ _ _ _ (@t6 _ _ _ _ _ _ _ _ (W0 hu) (pv 6) (pv 5) (t5 _)) (@R0 _ _ _ _ _ _ _ (@M0 _ _ _ _ (@N3 _ _ _ (@i5 _ _ _ _ _ _ _ _ _ _ _ _ _ _ G__law_is_number hr (@b7 _ _ _ _ _ (pv 6) d2 (by simp_wf)) m3 (by simp_wf) (by simp_wf) (by simp_wf) (by simp_wf) (by simp_wf)) (by simp_wf))) (@V4 _ _ _ _ (@t6 _ _ _ _ _ _ _ _ (W0 hu) (pv 3) (pv 2) (t5 _)))))) (@d8 _ _ _ (@j1 _ _ _ _ Q3)) v0) (@d6 _ _ _ _ _ (@aC4 _ _ _ _ _ _ _ _ _ 5 _ ["_law_table", "_law_k"] [some 2, none] _ _ _ j6.nd rfl (Or.inl rfl) rfl (ai7.of (osc := d3 p6) (N := ["_law_urn_here", "_law_n", "_law_table", "_law_handed", "_law_many", "_law_due", "_law_found", "_law_bad", "_law_rows", "_law_columns"]) (ks := ["_law_table"]) rfl rfl rfl rfl (j0 rfl v3) (by decide +kernel)) (@Y1 _ _ _ _ _ _ _ rfl n_range (@b7 _ _ _ _ _ d4 (@b7 _ _ _ _ _ (@i4 _ _ _ _ _ _ _ _ E4 (pv 1) d4) d2 (by simp_wf)) (by simp_wf)) (by simp_wf) (by simp_wf)) (fun C s₂ H₂ fp pins => (i7 (i := 1) (show List.Nodup (["_law_table", "_law_k"] : List Str) by decide +kernel) rfl (Or.inr rfl) (Or.inl rfl))) (fun C s₂ H₂ fp pins => (i5 G__law_det hr (b7 (E7 (Nc := ["_law_k", "_law_row"]) (caps := [some 1, none]) rfl (Q8.of (osc := _) (N := ["_law_table", "_law_k"]) (ks := ["_law_k"]) rfl rfl rfl rfl (j0 rfl v3) (by kernel_rfl)) (show PI _ _ _ (aE2 K _) from by exact (O7 (A4 (by exact M6 : SlR _ (aG4 K)) (pv 0) C1 (B6 (pv 1))))) (fun C s₂ H₂ fp pins => (i7 (i := 1) (show List.Nodup (["_law_k", "_law_row"] : List Str) by decide +kernel) rfl (Or.inl rfl) (Or.inr rfl))) (fun C s₂ H₂ fp pins => (A4 (by exact M6 : SlR _ (aG4 K)) (pv 1) C1 (B6 (pv 0))))) d2) m3)) (by simp_wf) (by simp_wf) (by simp_wf)) (@d6 _ _ _ _ _ (@C2 _ _ _ _ _ _ _ _ (@PW.pt _ _ _ (@R0 _ _ _ _ _ _ _ (@t6 _ _ _ _ _ _ _ _ (W0 hu) (@i5 _ _ _ _ _ _ _ _ _ _ _ _ _ _ G_leads hr (@b7 _ _ _ _ _ (pv 3) d2 (by simp_wf)) m3 (by simp_wf) (by simp_wf) (by simp_wf) (by simp_wf) (by simp_wf)) (pv 5) (t5 _)) (@V4 _ _ _ _ (@t6 _ _ _ _ _ _ _ _ (W0 hu) (pv 3) (pv 2) (t5 _))))) (@d8 _ _ _ (@j1 _ _ _ _ Q3)) v0) (@d6 _ _ _ _ _ (@m6 _ _ 7 _ _ _ _ j6.nd rfl (Or.inl rfl) (@i5 _ _ _ _ _ _ _ _ _ _ _ _ _ _ G__law_bad_places hr (@b7 _ _ _ _ _ (pv 0) (@b7 _ _ _ _ _ (pv 8) (@b7 _ _ _ _ _ (pv 1) d2 (by simp_wf)) (by simp_wf)) (by simp_wf)) m3 (by simp_wf) (by simp_wf) (by simp_wf) (by simp_wf) (by simp_wf)) (by simp_wf) (by simp_wf)) (@d6 _ _ _ _ _ (@C2 _ _ _ _ _ _ _ _ (@t6 _ _ _ _ _ _ _ _ (W0 hu) (@i5 _ _ _ _ _ _ _ _ _ _ _ _ _ _ G__law_minor_said hr (@b7 _ _ _ _ _ (pv 3) (@b7 _ _ _ _ _ (pv 7) (@b7 _ _ _ _ _ (pv 9) d2 (by simp_wf)) (by simp_wf)) (by simp_wf)) m3 (by simp_wf) (by simp_wf) (by simp_wf) (by simp_wf) (by simp_wf)) (@A3 _ _ _ _ _ (@b7 _ _ _ _ _ K1 (@b7 _ _ _ _ _ K1 d2 (by simp_wf)) (by simp_wf))) (t5 _)) (@d8 _ _ _ (@j1 _ _ _ _ Q3)) v0) (@d6 _ _ _ _ _ (@C2 _ _ _ _ _ _ _ _ (@t6 _ _ _ _ _ _ _ _ (W0 hu) (@i5 _ _ _ _ _ _ _ _ _ _ _ _ _ _ G__law_minor_said hr (@b7 _ _ _ _ _ (pv 3) (@b7 _ _ _ _ _ (pv 8) (@b7 _ _ _ _ _ (@i5 _ _ _ _ _ _ _ _ _ _ _ _ _ _ G__law_bad_places hr (@b7 _ _ _ _ _ (pv 0) (@b7 _ _ _ _ _ (pv 9) (@b7 _ _ _ _ _ (pv 1) d2 (by simp_wf)) (by simp_wf)) (by simp_wf)) m3 (by simp_wf) (by simp_wf) (by simp_wf) (by simp_wf) (by simp_wf)) d2 (by simp_wf)) (by simp_wf)) (by simp_wf)) m3 (by simp_wf) (by simp_wf) (by simp_wf) (by simp_wf) (by simp_wf)) (@A3 _ _ _ _ _ (@b7 _ _ _ _ _ K1 (@b7 _ _ _ _ _ K1 d2 (by simp_wf)) (by simp_wf))) (t5 _)) (@d8 _ _ _ (@j1 _ _ _ _ Q3)) v0) (@d8 _ _ _ (@j1 _ _ _ _ (@bg4 _ _ _ _ _ _ _ (@R7 _ _ _ _ _ _ _ _ al2 (pv 4) (pv 1) (t5 _)) (@ap3 _ _ _ _ _ (@R7 _ _ _ _ _ _ _ _ (az0 hu) (@i5 _ _ _ _ _ _ _ _ _ _ _ _ _ _ G__law_minor_said hr (@b7 _ _ _ _ _ (pv 3) (@b7 _ _ _ _ _ (pv 8) (@b7 _ _ _ _ _ (@aC7 _ _ _ _ _ _ _ rfl rfl n_tuple (by decide +kernel) rfl n_range (@b7 _ _ _ _ _ (@i4 _ _ _ _ _ _ _ _ E4 (pv 4) d4) d2 (by simp_wf)) (by simp_wf) (by simp_wf)) d2 (by simp_wf)) (by simp_wf)) (by simp_wf)) m3 (by simp_wf) (by simp_wf) (by simp_wf) (by simp_wf) (by simp_wf)) (@A3 _ _ _ _ _ (@b7 _ _ _ _ _ K1 (@b7 _ _ _ _ _ K1 d2 (by simp_wf)) (by simp_wf))) (t5 _))))))))))))))))))), ?_⟩
  rw [show start ["_law_urn_here", "_law_n", "_law_table", "_law_handed", "_law_many", "_law_due", "_law_found", "_law_bad", "_law_rows", "_law_columns"] [.ref u] = [some (.ref u), none, none, none, none, none, none, none, none, none] from rfl]
  refine j4 (fun σ H1 => ∃ n : Nat, σ = [some (.ref u), some (.int (n : Int)), none, none, none, none, none, none, none, none] ∧ j8 u H H1 ∧ p7 H1 u ∧ 1 ≤ n ∧ n ≤ 7) (fun N hN => ?_) ?_
  · simp! [B4]
    refine ⟨hU, by decide, by decide, fun r H2 r0 r7 s2 u2 => ?_⟩
    obtain ⟨j, rfl⟩ : ∃ j : Nat, r = (j : Int) := ⟨r.toNat, by omega⟩
    exact hN _ _ ⟨1 + j, by rw [Int.natCast_add]; rfl, s2, u2, by omega, by omega⟩
  rintro σ H1 ⟨n, rfl, s1, u1, n1, n7⟩
  refine j4 (fun σ H2 => ∃ (tb : Addr) (ts : List Addr) (M : List (List Rat)), σ = [some (.ref u), some (.int (n : Int)), some (.ref tb), none, none, none, none, none, none, none] ∧ j8 u H H2 ∧ p7 H2 u ∧ TbC K u H2 tb ts M ∧ M.length = n ∧ ∀ L ∈ M, L.length = n ∧ ∀ q ∈ L, OvB 60 10 q) (fun N hN => ?_) ?_
  · simp! [B4, ax3]
    refine ⟨u1, by decide, by decide, fun kd H2 k0 k2 s2 u2 => ⟨u2, by omega, by omega, fun r ts M H3 s3 u3 fr ft ru e3 R3 lM oM => ?_⟩⟩
    have up : ∀ {q : Rat}, NK kd q → OvB 60 10 q := fun h => by
      have : kd = 0 ∨ kd = 1 := by omega
      rcases this with rfl | rfl
      · exact h.ovb0
      · exact h.ovb1.up (by decide) (C := 60) (c := 6) (by decide) (by decide)
    exact hN _ _ ⟨r, ts, M, rfl, (s1.trans s2).trans s3, u3, ⟨ru, fun t ht => (ft t ht).2, e3, R3.toC⟩, by omega, fun L hL => ⟨by have := (oM L hL).1; omega, fun q hq => up ((oM L hL).2 q hq)⟩⟩
  rintro σ H2 ⟨tb, ts, M, rfl, s2, u2, T2, lM, oM⟩
  refine j4 (fun σ H3 => ∃ (hd : Addr) (us : List Addr), σ = [some (.ref u), some (.int (n : Int)), some (.ref tb), some (.ref hd), none, none, none, none, none, none] ∧ j8 u H H3 ∧ p7 H3 u ∧ TbC K u H3 tb ts M ∧ TbC K u H3 hd us M) (fun N hN => ?_) ?_
  · subst_eqs
    refine ⟨⟨_, SqL.of T2.at'⟩, fun D hD => ba7 (SqL.of T2.at') T2.rws hD (by omega) fun H3 T => ?_⟩
    obtain ⟨s3, us, e3, n3, _, R3⟩ := T
    exact hN _ _ ⟨D, us, rfl, s2.trans (d7.x s3 u), d7.urn s3 u2, T2.same s3, ⟨E8 u2 hD, fun t ht => E8 u2 (n3 t ht).1, e3, R3⟩⟩
  rintro σ H3 ⟨hd, us, rfl, s3, u3, T3, V3⟩
  refine j4 (fun σ H4 => ∃ (m : Nat), σ = [some (.ref u), some (.int (n : Int)), some (.ref tb), some (.ref hd), some (.int (m : Int)), none, none, none, none, none] ∧ j8 u H3 H4 ∧ p7 H4 u ∧ 1 ≤ m ∧ m ≤ n) (fun N hN => ?_) ?_
  · simp! [B4]
    refine ⟨u3, by omega, by omega, fun r H4 r0 r1 s4 u4 => ?_⟩
    obtain ⟨j, rfl⟩ : ∃ j : Nat, r = (j : Int) := ⟨r.toNat, by omega⟩
    exact hN _ _ ⟨1 + j, by rw [Int.natCast_add]; rfl, s4, u4, by omega, by omega⟩
  rintro σ H4 ⟨m, rfl, s4, u4, m1, m2⟩
  refine j4 (fun σ H5 => ∃ (pr pc : Addr) (is js : List Nat), σ = [some (.ref u), some (.int (n : Int)), some (.ref tb), some (.ref hd), some (.int (m : Int)), none, none, none, some (.ref pr), some (.ref pc)] ∧ j8 u H4 H5 ∧ p7 H5 u ∧ PlX H5 pr is n m ∧ PlX H5 pc js n m) (fun N hN => ?_) ?_
  · simp! [aj2]
    refine ⟨n, rfl, m, rfl, u4, m1, m2, by omega, fun pr is H8 s8 u8 f8 e8 l8 b8 p8 => ⟨n, rfl, m, rfl, u8, m1, m2, by omega, fun pc js H9 s9 u9 f9 e9 l9 b9 p9 => ?_⟩⟩
    exact ⟨by decide, fun p hp => ⟨_, SqT.of d5, rfl, _, _, rfl, _, _, rfl, rfl, hN _ _ ⟨pr, pc, is, js, rfl, (s8.trans s9).trans (d7.x (d7.new hp _) u), P6 u9 hp, ⟨d7.new hp _ _ _ (s9 _ _ e8 (E8 u4 f8)), l8, b8, p8⟩, ⟨d7.new hp _ _ _ e9, l9, b9, p9⟩⟩⟩⟩
  rintro σ H5 ⟨pr, pc, is, js, rfl, s5, u5, Pi, Pj⟩
  have S35 := s4.trans s5
  have T5 := T3.samex S35 u3
  have V5 := V3.samex S35 u3
  obtain ⟨lS, oS⟩ := bb9 oM is js
  obtain ⟨q, hq⟩ : ∃ q, q = dt m (qq (U3 M is js)) := ⟨_, rfl⟩
  have ok := bd3 (by rw [Pi.len]; exact m1) (by rw [Pi.len, Pj.len]) Pi.lt Pj.lt Pi.ris Pj.ris
  have b60 : (60 : Nat) < 2 ^ 10 := by decide
  refine j4 (fun σ H6 => ∃ r : Addr, σ = [some (.ref u), some (.int (n : Int)), some (.ref tb), some (.ref hd), some (.int (m : Int)), some (.ref r), none, none, some (.ref pr), some (.ref pc)] ∧ d7 H5 H6 ∧ H6 r = some (.tup (F0 q))) (fun N hN => ?_) ?_
  · subst_eqs
    have tr : SqT K H5 pr (is.map fun (i : Nat) => V.int (i : Int)) := SqT.of Pi.at'
    have tc : SqT K H5 pc (js.map fun (i : Nat) => V.int (i : Int)) := SqT.of Pj.at'
    refine ⟨⟨_, tr⟩, fun D hD => aR2 (M := M) (is := is) (js := js) tr tc (SqL.of T5.at') T5.rws (fun L hL => (oM L hL).1) (by rw [lM]; exact Pi.lt) Pj.lt (by rw [Pi.len]; omega) (by rw [Pj.len]; omega) hD fun H6 T => ?_⟩
    obtain ⟨s6, vs, e6, _, _, R6⟩ := T
    simp only [ax0]
    refine ⟨D, vs, U3 M is js, m, 60, 10, rfl, SqL.of e6, R6, by rw [lS, Pi.len], fun L hL => ⟨by rw [(oS L hL).1, Pj.len], (oS L hL).2⟩, by decide, b60, by omega, Nat.le_trans (Nat.mul_le_mul_left 14 (show m + 1 ≤ 8 by omega)) (by decide), fun r2 H7 s7 e7 => ?_⟩
    rw [← hq] at e7
    exact hN _ _ ⟨r2, rfl, s6.trans s7, e7⟩
  rintro σ H6 ⟨rd, rfl, s6, e6⟩
  have minor : ∀ (H' : Hp) (vr vc : V) (dr dc : D) (Q' : VK), TbC K u H' hd us M → IsD K H' vr dr → IsD K H' vc dc → (∀ l, dr = .tup l → l.length ≤ 100) → (∀ l, dc = .tup l → l.length ≤ 100) → (okM n dr dc = false → ∀ t H'', d7 H' H'' → H'' t = some (.tup [.str "refused", .str "pair"]) → Q' (.ref t) H'') → (okM n dr dc = true → ∀ is js, dr = U0 is → dc = U0 js → ∀ r H'', d7 H' H'' → NmC K H'' r (dt is.length (qq (U3 M is js))) → Q' (.ref r) H'') → ab7 K [.ref hd, vr, vc] H' Q' E0 := fun H' vr vc dr dc Q' T h1 h2 h3 h4 k0 k1 => ⟨hd, vr, vc, us, M, n, 60, 10, dr, dc, rfl, SqL.of T.at', T.rws, lM, oM, by decide, b60, by omega, as1 n7, h1, h2, h3, h4, k0, k1⟩
  have dpi : ∀ H', PlX H' pr is n m → IsD K H' (.ref pr) (U0 is) := fun H' h => .tup (SqT.of h.at') (J3 is)
  have dpj : ∀ H', PlX H' pc js n m → IsD K H' (.ref pc) (U0 js) := fun H' h => .tup (SqT.of h.at') (J3 js)
  have lpi : ∀ l, U0 is = .tup l → l.length ≤ 100 := fun l e => by
    injection e with e
    rw [← e, List.length_map, Pi.len]; omega
  have lpj : ∀ l, U0 js = .tup l → l.length ≤ 100 := fun l e => by
    injection e with e
    rw [← e, List.length_map, Pj.len]; omega
  refine j4 (fun σ H7 => ∃ r : Addr, σ = [some (.ref u), some (.int (n : Int)), some (.ref tb), some (.ref hd), some (.int (m : Int)), some (.ref rd), some (.ref r), none, some (.ref pr), some (.ref pc)] ∧ d7 H6 H7 ∧ NmC K H7 r q) (fun N hN => ?_) ?_
  · subst_eqs
    refine minor _ _ _ _ _ _ (V5.same s6) (dpi _ (Pi.same s6)) (dpj _ (Pj.same s6)) lpi lpj (fun z => by rw [ok] at z; cases z) (fun _ is' js' e1 e2 r H7 s7 h7 => ?_)
    rw [← aC8 e1, ← aC8 e2, Pi.len, ← hq] at h7
    exact hN _ _ ⟨r, rfl, s7, h7⟩
  rintro σ H7 ⟨rf, rfl, s7, e7⟩
  have S57 := s6.trans s7
  have T7 := T5.same S57
  have V7 := V5.same S57
  refine j4 (fun σ H8 => σ = [some (.ref u), some (.int (n : Int)), some (.ref tb), some (.ref hd), some (.int (m : Int)), some (.ref rd), some (.ref rf), none, some (.ref pr), some (.ref pc)] ∧ d7 H7 H8) (fun N hN => ?_) ?_
  · have qd : (q.den : Int).natAbs < 2 ^ 6000 := by
      rw [Int.natAbs_natCast, hq]
      have b := ((au5 (B := 60) (W := 10) (by decide) (by decide) fun L hL => (oS L hL).2).det (k := m) (by omega)).2
      exact Nat.lt_of_le_of_lt b (Nat.pow_lt_pow_right (by decide) (by omega))
    simp! [am3]
    refine ⟨Q6 q, Q6 q, rfl, ae0 e7.sqt, ae0 (SqT.of (s7 _ _ e6)), az7 _ _, aU8 _, _, rfl, ?_⟩
    rw [aA5]
    refine ⟨q, e7.sqt, qd, fun H8 s8 => ⟨K2 M, K2 M, rfl, (V7.same s8).isD, (T7.same s8).isD, ad9 _ _, ai4 _, _, rfl, ?_⟩⟩
    rw [ae1, decide_eq_true rfl]
    exact hN _ _ ⟨rfl, s8⟩
  rintro σ H8 ⟨rfl, s8⟩
  have T8 := T7.same s8
  have V8 := V7.same s8
  obtain ⟨LQ, hLQ⟩ : ∃ LQ, LQ = (List.range n).map fun i => dt (i + 1) (qq (P3 M (i + 1))) := ⟨_, rfl⟩
  have gL : ∀ i, i < n → LQ[i]? = some (dt (i + 1) (qq (P3 M (i + 1)))) := fun i hi => by rw [hLQ, List.getElem?_map, List.getElem?_range hi]; rfl
  have lLQ : LQ.length = n := by rw [hLQ, List.length_map, List.length_range]
  refine j4 (fun σ H9 => ∃ (dl : Addr) (ys : List V), σ = [some (.ref u), some (.int (n : Int)), some (.ref tb), some (.ref hd), some (.int (m : Int)), some (.ref dl), some (.ref rf), none, some (.ref pr), some (.ref pc)] ∧ d7 H8 H9 ∧ H9 dl = some (.lst ys) ∧ K6 H9 ys LQ) (fun N hN => ?_) ?_
  · subst_eqs
    refine ⟨by omega, by omega, by omega, by omega, fun D hD => ?_⟩
    rw [show ((n : Int) + 1 - 1).toNat = n by omega]
    obtain ⟨Pv, hPv⟩ : ∃ Pv : Nat → L2.St → Hp → Prop, ∀ j σ H9, Pv j σ H9 ↔ ∃ (o : Option V) (ys : List V), σ = [some (.ref tb), o] ∧ d7 H8 H9 ∧ H9 D = some (.lst ys) ∧ K6 H9 ys (LQ.take j) := ⟨_, fun _ _ _ => Iff.rfl⟩
    refine Q7 Pv ((hPv _ _ _).mpr ⟨_, [], rfl, d7.new hD _, d5, .nil⟩) ?_ ?_
    · rintro j σ H9 hj h
      obtain ⟨o, ys, rfl, s9, e9, n9⟩ := (hPv _ _ _).mp h
      have kj : (1 : Int) + (j : Int) = ((j + 1 : Nat) : Int) := by omega
      rw [kj]
      have T9 := T8.same s9
      have lt : (ts.map V.ref).length = n := by rw [List.length_map, T9.rws.length, lM]
      subst_eqs
      refine ⟨_, SqL.of T9.at', fun p hp => ?_⟩
      rw [P0 _ (by rw [lt]; omega)]
      obtain ⟨G0, y0, Z0, g0⟩ := t7 (.lst ((ts.map V.ref).take (j + 1))) hp
      rw [← y0]
      refine ⟨⟨_, SqL.of g0⟩, fun D2 hD2 => ?_⟩
      have lq : (P3 M (j + 1)).length = j + 1 := by unfold P3; rw [List.length_map, List.length_take]; omega
      obtain ⟨Pw, hPw⟩ : ∃ Pw : Nat → L2.St → Hp → Prop, ∀ i σ H10, Pw i σ H10 ↔ ∃ (o : Option V), σ = [some (.int ((j + 1 : Nat) : Int)), o] ∧ W6 K G0 D2 ((P3 M (j + 1)).take i) H10 := ⟨_, fun _ _ _ => Iff.rfl⟩
      refine ab2 ((ts.map V.ref).take (j + 1)) Pw ((hPw _ _ _).mpr ⟨_, rfl, W6.start hD2⟩) (fun i σ H10 _ h => ?_) ?_ ?_
      · obtain ⟨_, _, T⟩ := (hPw _ _ _).mp h
        exact T.same.seq (SqL.of g0)
      · rintro i x σ H10 hx h
        obtain ⟨o2, rfl, T⟩ := (hPw _ _ _).mp h
        have hi := (List.getElem?_eq_some_iff.mp hx).1
        have hi' : i < j + 1 := by rw [List.length_take] at hi; omega
        rw [List.getElem?_take_of_lt hi'] at hx
        obtain ⟨pt, hpt, rfl⟩ := ac2 hx
        obtain ⟨xs, L, e1, e2, e3⟩ := T9.rws.get hpt
        have lL := (oM L (List.mem_of_getElem? e1)).1
        have S10 := Z0.trans T.same
        subst_eqs
        refine ⟨_, SqL.of (S10 _ _ e2), fun p2 hp2 => ?_⟩
        rw [P0 _ (by rw [e3.length]; omega)]
        have X := d7.new hp2 (.lst (xs.take (j + 1)))
        obtain ⟨zs, eD, zl, T'⟩ := T.add hD2 hp2 ⟨X, _, d5, (((e3.mono S10.tups).mono X.tups).take (j + 1))⟩
        refine v7.mk hi eD (F9 (by rw [zl, List.length_take]; omega)) ((hPw _ _ _).mpr ⟨_, rfl, ?_⟩)
        rw [m5 (show (P3 M (j + 1))[i]? = some (L.take (j + 1)) by unfold P3; rw [List.getElem?_map, List.getElem?_take_of_lt hi', e1]; rfl)]
        exact T'
      · intro σ H10 h
        obtain ⟨o2, rfl, T⟩ := (hPw _ _ _).mp h
        rw [B3 (by rw [List.length_take, lt, lq]; omega)] at T
        obtain ⟨s10, vs, e10, _, _, R10⟩ := T
        simp only [ax0]
        refine ⟨D2, vs, P3 M (j + 1), j + 1, 60, 10, rfl, SqL.of e10, R10, lq, fun L hL => ?_, by decide, b60, by omega, Nat.le_trans (Nat.mul_le_mul_left 14 (show j + 1 + 1 ≤ 8 by omega)) (by decide), fun r2 H11 s11 e11 => ?_⟩
        · obtain ⟨L', hL', rfl⟩ := List.mem_map.mp hL
          have := oM L' (List.mem_of_mem_take hL')
          exact ⟨by rw [List.length_take, this.1]; omega, fun x hx => this.2 x (List.mem_of_mem_take hx)⟩
        · have S11 := (Z0.trans s10).trans s11
          have eD := S11 _ _ e9
          refine v7.mk hj eD (F9 (by rw [n9.length, List.length_take]; omega)) ((hPv _ _ _).mpr ⟨_, _, rfl, (s9.trans S11).over hD _, d5, ?_⟩)
          rw [m5 (gL j hj)]
          exact ((n9.mono S11.tups).append (.cons e11 .nil)).mono (af0.lst eD)
    · intro σ H9 h
      obtain ⟨o, ys, rfl, s9, e9, n9⟩ := (hPv _ _ _).mp h
      rw [B3 (by rw [lLQ]; exact Nat.le_refl _)] at n9
      exact hN _ _ ⟨D, ys, rfl, s9, e9, n9⟩
  rintro σ H9 ⟨dl, ys, rfl, s9, e9, n9⟩
  have T9 := T8.same s9
  have V9 := V8.same s9
  refine j4 (fun σ H10 => σ = [some (.ref u), some (.int (n : Int)), some (.ref tb), some (.ref hd), some (.int (m : Int)), some (.ref dl), some (.ref rf), none, some (.ref pr), some (.ref pc)] ∧ d7 H9 H10) (fun N hN => ?_) ?_
  · simp! [aw8]
    refine ⟨us, SqL.of V9.at', M, V9.rws, 10, fun L hL => ⟨by rw [lM]; exact (oM L hL).1, fun i => av9 (B := 60) (by decide) b60 fun x hx => (oM L hL).2 x (List.mem_of_mem_take hx)⟩, by omega, by rw [lM]; exact as1 n7, fun r zs H10 s10 fr e10 n10 => ?_⟩
    rw [lM, ← hLQ] at n10
    refine ⟨K4 LQ, K4 LQ, rfl, .lst (SqL.of e10) n10.isDs, ar0 (SqL.of (s10 _ _ e9)) (n9.mono s10.tups), aq1 _ _, Nat.le_trans (aA9 _) (by decide), _, rfl, ?_⟩
    rw [ai2, decide_eq_true rfl]
    refine ⟨K2 M, K2 M, rfl, (V9.same s10).isD, (T9.same s10).isD, ad9 _ _, ai4 _, _, rfl, ?_⟩
    rw [ae1, decide_eq_true rfl]
    exact hN _ _ ⟨rfl, s10⟩
  rintro σ H10 ⟨rfl, s10⟩
  have S510 := ((S57.trans s8).trans s9).trans s10
  have V10 := V9.same s10
  have u10 := d7.urn S510 u5
  have Pi10 := Pi.same S510
  have Pj10 := Pj.same S510
  have s310 : j8 u H H10 := (s3.trans S35).trans (d7.x S510 u)
  have refuse : ∀ (H' : Hp) (t : Addr) (Q' : V → Hp → Prop), H' t = some (.tup [.str "refused", .str "pair"]) → (∀ H'', d7 H' H'' → Q' (.bl false) H'') → ∀ p, H' p = none → bg2 K (.ref t) (.ref p) (upd H' p (.tup [.str "refused", .str "pair"])) Q' := fun H' t Q' e kq p hp => by
    have X := d7.new hp (.tup [.str "refused", .str "pair"])
    refine ⟨Q5 "refused" "pair", Q5 "refused" "pair", rfl, Q4 (SqT.of (X _ _ e)), Q4 (SqT.of d5), ah7 _ _ _ _, am8 _ _, ?_⟩
    rw [ai1]
    exact kq _ X
  refine j4 (fun σ H11 => ∃ (x : V) (d : D), σ = [some (.ref u), some (.int (n : Int)), some (.ref tb), some (.ref hd), some (.int (m : Int)), some (.ref dl), some (.ref rf), some x, some (.ref pr), some (.ref pc)] ∧ j8 u H10 H11 ∧ p7 H11 u ∧ IsD K H11 x d ∧ plD n d = false ∧ ∀ l, d = .tup l → l.length ≤ 100) (fun N hN => ?_) ?_
  · simp! [ax4]
    exact ⟨n, rfl, u10, is, Pi10.at', by rw [Pi.len]; exact m1, by rw [Pi.len]; omega, Pi.lt, fun x d H11 s11 u11 i11 p11 l11 => hN _ _ ⟨x, d, rfl, s11, u11, i11, p11, l11⟩⟩
  rintro σ H11 ⟨x, d, rfl, s11, u11, i11, p11, l11⟩
  have V11 := V10.samex s11 u10
  have Pi11 := Pi10.samex s11 u10
  have Pj11 := Pj10.samex s11 u10
  refine j4 (fun σ H12 => σ = [some (.ref u), some (.int (n : Int)), some (.ref tb), some (.ref hd), some (.int (m : Int)), some (.ref dl), some (.ref rf), some x, some (.ref pr), some (.ref pc)] ∧ d7 H11 H12) (fun N hN => ?_) ?_
  · subst_eqs
    refine minor _ _ _ _ _ _ V11 i11 (dpj _ Pj11) l11 lpj (fun _ t H12 s12 e12 => ⟨J4, fun p hp => refuse H12 t _ e12 (fun H13 s13 => ⟨false, rfl, hN _ _ ⟨rfl, s12.trans s13⟩⟩) p hp⟩) (fun z => ?_)
    unfold okM at z
    rw [p11] at z; cases z
  rintro σ H12 ⟨rfl, s12⟩
  have V12 := V11.same s12
  have u12 := d7.urn s12 u11
  have Pi12 := Pi11.same s12
  have Pj12 := Pj11.same s12
  refine j4 (fun σ H13 => σ = [some (.ref u), some (.int (n : Int)), some (.ref tb), some (.ref hd), some (.int (m : Int)), some (.ref dl), some (.ref rf), some x, some (.ref pr), some (.ref pc)] ∧ j8 u H12 H13 ∧ p7 H13 u) (fun N hN => ?_) ?_
  · simp! [ax4]
    refine ⟨n, rfl, u12, js, Pj12.at', by rw [Pj.len]; exact m1, by rw [Pj.len]; omega, Pj.lt, fun y d' H13 s13 u13 i13 p13 l13 => ?_⟩
    refine minor _ _ _ _ _ _ (V12.samex s13 u12) (dpi _ (Pi12.samex s13 u12)) i13 lpi l13 (fun _ t H14 s14 e14 => ⟨J4, fun p hp => refuse H14 t _ e14 (fun H15 s15 => ⟨false, rfl, hN _ _ ⟨rfl, s13.trans (d7.x (s14.trans s15) u), d7.urn (s14.trans s15) u13⟩⟩) p hp⟩) (fun z => ?_)
    unfold okM at z
    rw [p13, Bool.false_and, Bool.and_false] at z; cases z
  rintro σ H13 ⟨rfl, s13, u13⟩
  have V13 := V12.samex s13 u12
  have Pi13 := Pi12.samex s13 u12
  have SX : j8 u H H13 := s310.trans (s11.trans ((d7.x s12 u).trans s13))
  simp! [aZ7]
  refine ⟨rfl, K5 (fun _ => k H13 SX u13) (fun hmn => ⟨m + 1, by omega, by omega, fun l hl => ?_⟩)⟩
  have X := d7.new hl (.tup ((List.range (m + 1)).map fun (k : Nat) => V.int (k : Int)))
  refine minor _ _ _ (U0 is) (U0 (List.range (m + 1))) _ (V13.same X) (dpi _ (Pi13.same X)) (.tup (SqT.of d5) (J3 _)) lpi (fun l' e => ?_) (fun _ t H14 s14 e14 => ⟨J4, fun p hp => ?_⟩) (fun z => ?_)
  · injection e with e
    rw [← e, List.length_map, List.length_range]; omega
  · have X2 := d7.new hp (.tup [.str "refused", .str "pair"])
    refine ⟨Q5 "refused" "pair", Q5 "refused" "pair", rfl, Q4 (SqT.of (X2 _ _ e14)), Q4 (SqT.of d5), ah7 _ _ _ _, am8 _ _, ?_⟩
    rw [ai1]
    have XX := (X.trans s14).trans X2
    exact k _ (SX.trans (d7.x XX u)) (d7.urn XX u13)
  · unfold okM at z
    have : ¬ aq7 (U0 is) = aq7 (U0 (List.range (m + 1))) := by
      show ¬ (is.map _).length = ((List.range (m + 1)).map _).length
      rw [List.length_map, List.length_map, List.length_range, Pi.len]; omega
    rw [decide_eq_false this, Bool.and_false, Bool.and_false] at z; cases z
end
section
variable {P : Program} {w : World} {K : PySem.W.Frag} {mg : Str → Option Value} {base : Heap}
abbrev af3 : Stmt := top 62
theorem aG2 : j7 ["_law_script", "_law_at", "_law_urn_here"] ["_law_script"] (d3 af3) := by and_intros
set_option maxHeartbeats 0 in
theorem bd2 {f g1 g2 g3 g4 : Addr} {fd : FuncData} (F : Fun K "law" "law" af3 f fd) (G__law_urn : Def P w K mg base CX0 1 "_law_urn" g1 ["_law_script", "_law_at"] (ba1 K)) (G__law_steep_right : Def P w K mg base CX0 4 "_law_steep_right" g2 ["_law_urn_here"] (ag7 K)) (G__law_minors_right : Def P w K mg base CX0 6 "_law_minors_right" g3 ["_law_urn_here"] (ag7 K)) (G__law_steep_said : Def P w K mg base CX0 3 "_law_steep_said" g4 ["_law_p"] (N5 K))
    (n_range : mg "range" = none) (n_max : mg "max" = none) (n_min : mg "min" = none) (n_len : mg "len" = none) : ai6 P w K mg base CX0 (6 + 1) f fd ["_law_script"] (aJ4 K) := by
  refine F.ok (N := ["_law_script", "_law_at", "_law_urn_here"]) aG2 (fun vs H Q E ⟨x, y, h, _⟩ => by rw [h]; rfl) (fun cdv A outer s H vs Q E hr h => ?_)
  obtain ⟨as, ns, rfl, hS, h63, k⟩ := h
  have hu := hr.units
  refine ⟨_, (d6 (C2 (t6 (W0 hu) (i5 G__law_steep_said hr (b7 (L7 d2) d2) m3) (A3 (b7 K1 (b7 K1 d2))) (t5 _)) (d8 (j1 Q3)) v0)
      (d6 (T4 PassesOwn.never rfl (C3 rfl n_range (b7 (d9 (aO7 rfl) rfl n_max (by decide +kernel) (b7 d4 (b7 (d9 (aO6 rfl) rfl n_min (by decide +kernel) (b7 d4 (b7 (d9 m4 rfl n_len (by decide +kernel) (b7 (pv 0) d2)) d2))) d2))) d2)) (i7 (i := 1) aG2.nd rfl (Or.inl rfl)) (d6 (m6 (i := 2) aG2.nd rfl (Or.inl rfl) (i5 G__law_urn hr (b7 (pv 0) (b7 (pv 1) d2)) m3))
      (d8 (C2 (PW.pt (R0 (M0 (N3 (i5 G__law_steep_right hr (b7 (pv 2) d2) m3))) (V4 (M0 (N3 (i5 G__law_minors_right hr (b7 (pv 2) d2) m3)))))) (d8 (j1 Q3)) v0))))
      (d8 (j1 Q3)))), ?_⟩
  rw [show start ["_law_script", "_law_at", "_law_urn_here"] [.ref as] = [some (.ref as), none, none] from rfl]
  have hlen : (((ns.map V.int).length : Nat) : Int) = (ns.length : Int) := by rw [List.length_map]
  refine j4 (fun σ H1 => σ = [some (.ref as), none, none] ∧ d7 H H1) (fun N hN => ?_) ?_
  · simp! [N5]
    refine ⟨Nat.zero_le _, fun p hp => ?_⟩
    obtain ⟨H1, y1, X1, g1⟩ := t7 (.lst []) hp
    rw [← y1]
    refine ⟨_, SqL.of g1, [], .nil, Nat.zero_le _, fun _ t H2 s2 e2 => ⟨J4, fun p2 hp2 => ?_⟩, fun z => absurd z (by decide)⟩
    have X2 := d7.new hp2 (.tup [.str "refused", .str "polynomial"])
    refine ⟨Q5 "refused" "polynomial", Q5 "refused" "polynomial", rfl, Q4 (SqT.of (X2 _ _ e2)), Q4 (SqT.of d5), ah7 _ _ _ _, am8 _ _, _, rfl, ?_⟩
    rw [ai1]
    exact hN _ _ ⟨rfl, (X1.trans s2).trans X2⟩
  rintro σ H0 ⟨rfl, s0⟩
  refine ⟨_, rfl, as, _, rfl, .inl (s0.seq hS), 3, _, rfl, 1, _, rfl, _, rfl, ?_, ?_, O1 (fun i σ H1 => ∃ o1 o2 : Option V, σ = [some (.ref as), o1, o2] ∧ SqL K H1 as (ns.map V.int)) ⟨_, _, rfl, s0.seq hS⟩ ?_ ?_⟩
  · rw [hlen]; split <;> split <;> omega
  · rw [hlen]; split <;> split <;> omega
  · rintro i σ H1 hi ⟨o1, o2, rfl, hS1⟩
    rw [hlen] at hi
    have hi4 : i < 4 := by
      revert hi
      split <;> split <;> omega
    subst_eqs
    refine ⟨as, ns, _, rfl, hS1, by omega, by omega, fun u H2 s2 hu0 hu2 => ?_⟩
    refine ⟨u, rfl, hu2, fun H3 s3 hu3 => ?_⟩
    refine ⟨true, rfl, K5 (fun h => absurd h (by decide)) (fun _ => ?_)⟩
    refine ⟨u, rfl, hu3, fun H4 s4 hu4 => ?_⟩
    exact ⟨true, rfl, K5 (fun h => absurd h (by decide)) (fun _ => ((d7.x s2 u).trans (s3.trans s4)).seq hu0 hS1)⟩
  · rintro σ H1 ⟨o1, o2, rfl, hS1⟩
    exact k H1
end
end R
set_option maxRecDepth 100000
def PySem.W.Fast.tw13903111817592529048 : Unit := ()
def PySem.W.Fast.tw6481382417399733435 : Unit := ()
def PySem.W.Fast.tw1310573313814413392 : Unit := ()
def PySem.W.Fast.tw15587056175254729262 : Unit := ()
def PySem.W.Fast.tw10050230089820571670 : Unit := ()
def PySem.W.Fast.tw2409029270279538266 : Unit := ()
def PySem.W.Fast.tw17136063938381957476 : Unit := ()
def PySem.W.Fast.tw16679688425284678383 : Unit := ()
def PySem.W.Fast.tw17420003705796678846 : Unit := ()
def PySem.W.Fast.tw9535615906315951443 : Unit := ()
def PySem.W.Fast.tw8679199010531604830 : Unit := ()
def PySem.W.Fast.tw17856178655935167068 : Unit := ()
def PySem.W.Fast.tw3554883106831574734 : Unit := ()
def PySem.W.Fast.tw10484195690354361891 : Unit := ()
def PySem.W.Fast.tw9776133958189038101 : Unit := ()
def PySem.W.Fast.tw11441107172678177705 : Unit := ()
def PySem.W.Fast.tw4185279557259963083 : Unit := ()
def PySem.W.Fast.tw16395589686579710945 : Unit := ()
def PySem.W.Fast.tw858308170287326496 : Unit := ()
def PySem.W.Fast.tw9587546012150864407 : Unit := ()
def PySem.W.Fast.tw18357817065448157457 : Unit := ()
def PySem.W.Fast.tw7838799091370679108 : Unit := ()
def PySem.W.Fast.tw4343529135696720157 : Unit := ()
def PySem.W.Fast.tw1158937397421338926 : Unit := ()
def PySem.W.Fast.tw1354319323430470403 : Unit := ()
def PySem.W.Fast.tw8366824146992808626 : Unit := ()
def PySem.W.Fast.tw12608284314215578960 : Unit := ()
def PySem.W.Fast.tw13270318010259528768 : Unit := ()
def PySem.W.Fast.tw16963973458339463623 : Unit := ()
def PySem.W.Fast.tw8879885402129694061 : Unit := ()
def PySem.W.Fast.tw13486558973517635099 : Unit := ()
def PySem.W.Fast.tw12645487368935643390 : Unit := ()
def PySem.W.Fast.tw8635119542393193480 : Unit := ()
def PySem.W.Fast.tw8830194934051131446 : Unit := ()
def PySem.W.Fast.tw14901759238910426415 : Unit := ()
def PySem.W.Fast.tw4937578829732256539 : Unit := ()
def PySem.W.Fast.tw10561181988823436771 : Unit := ()
def PySem.W.Fast.tw9110631312090184413 : Unit := ()
def PySem.W.Fast.tw10917322947385863330 : Unit := ()
def PySem.W.Fast.tw10553274770594872288 : Unit := ()
def PySem.W.Fast.tw10319725919059914084 : Unit := ()
def PySem.W.Fast.tw2849234590624979493 : Unit := ()
def PySem.W.Fast.tw9901248438881545801 : Unit := ()
def PySem.W.Fast.tw17304877451883886264 : Unit := ()
def PySem.W.Fast.tw11334720179174501255 : Unit := ()
def PySem.W.Fast.tw3820646865114976810 : Unit := ()
def PySem.W.Fast.tw2278013156219972776 : Unit := ()
def PySem.W.Fast.tw16134147720009803933 : Unit := ()
def PySem.W.Fast.tw13982998241916801355 : Unit := ()
def PySem.W.Fast.tw6038937409003360217 : Unit := ()
def PySem.W.Fast.tw8650571652158210770 : Unit := ()
def PySem.W.Fast.tw720498837712295873 : Unit := ()
def PySem.W.Fast.tw6652687982083283992 : Unit := ()
def PySem.W.Fast.tw16601248721518182280 : Unit := ()
def PySem.W.Fast.tw12107357898819183894 : Unit := ()
def PySem.W.Fast.tw13871349688035016104 : Unit := ()
def PySem.W.Fast.tw17026061581848104665 : Unit := ()
def PySem.W.Fast.tw14808181213104193946 : Unit := ()
def PySem.W.Fast.tw6943636553647853452 : Unit := ()
def PySem.W.Fast.tw2520678924269881587 : Unit := ()
def PySem.W.Fast.tw5213624042472733921 : Unit := ()
def PySem.W.Fast.tw6036439181561749688 : Unit := ()
def PySem.W.Fast.tw491371987488327190 : Unit := ()
def PySem.W.Fast.tw6327798036363353811 : Unit := ()
def PySem.W.Fast.tw11790890548173189160 : Unit := ()
def PySem.W.Fast.tw9178278753718307154 : Unit := ()
def PySem.W.Fast.tw9934413081922391173 : Unit := ()
def PySem.W.Fast.tw6183685893203187969 : Unit := ()
def PySem.W.Fast.tw193811294149502839 : Unit := ()
def PySem.W.Fast.tw14842272136260553300 : Unit := ()
def PySem.W.Fast.tw7625103337941387273 : Unit := ()
def PySem.W.Fast.tw14977850154441954596 : Unit := ()
def PySem.W.Fast.tw5516429779488964272 : Unit := ()
def PySem.W.Fast.tw4776322775384235046 : Unit := ()
def PySem.W.Fast.tw7892652926701343233 : Unit := ()
def PySem.W.Fast.tw7817249749243910953 : Unit := ()
def PySem.W.Fast.tw15942261870295423995 : Unit := ()
def PySem.W.Fast.tw11929142812291166385 : Unit := ()
def PySem.W.Fast.tw257209433746190537 : Unit := ()
def PySem.W.Fast.tw15472098056344261833 : Unit := ()
def PySem.W.Fast.tw11877876267075993847 : Unit := ()
def PySem.W.Fast.tw16729781826165682382 : Unit := ()
def PySem.W.Fast.tw744008136180467885 : Unit := ()
def PySem.W.Fast.tw4853780059881820562 : Unit := ()
def PySem.W.Fast.tw11802725029122512376 : Unit := ()
def PySem.W.Fast.tw15573145647468441594 : Unit := ()
def PySem.W.Fast.tw15874185193549034916 : Unit := ()
def PySem.W.Fast.tw4692624431886122524 : Unit := ()
def PySem.W.Fast.tw12652207629434703003 : Unit := ()
def PySem.W.Fast.tw8702818507393169426 : Unit := ()
def PySem.W.Fast.tw3081873269127073089 : Unit := ()
def PySem.W.Fast.tw5177774804926367742 : Unit := ()
def PySem.W.Fast.tw6250655493427814063 : Unit := ()
def PySem.W.Fast.tw11069243853733366438 : Unit := ()
def PySem.W.Fast.tw15112098139121654999 : Unit := ()
def PySem.W.Fast.tw12783208181304769080 : Unit := ()
def PySem.W.Fast.tw14869797854317833253 : Unit := ()
def PySem.W.Fast.tw5199994074239449533 : Unit := ()
def PySem.W.Fast.tw14268464012479478587 : Unit := ()
def PySem.W.Fast.tw5259473741231238474 : Unit := ()
def PySem.W.Fast.tw8901002048948387302 : Unit := ()
def PySem.W.Fast.tw10955639807798080952 : Unit := ()
def PySem.W.Fast.tw17256422424984577046 : Unit := ()
def PySem.W.Fast.tw10890653181351020855 : Unit := ()
def PySem.W.Fast.tw3460170991262249446 : Unit := ()
def PySem.W.Fast.tw12389183361027571510 : Unit := ()
def PySem.W.Fast.tw1924806926940351065 : Unit := ()
def PySem.W.Fast.tw9334952828869806044 : Unit := ()
def PySem.W.Fast.tw14654493614420220707 : Unit := ()
def PySem.W.Fast.tw13159296736309378785 : Unit := ()
def PySem.W.Fast.tw11891576311131503177 : Unit := ()
def PySem.W.Fast.tw17076130473886934438 : Unit := ()
def PySem.W.Fast.tw1735636731128862292 : Unit := ()
def PySem.W.Fast.tw15884971525182403870 : Unit := ()
def PySem.W.Fast.tw5163775819361899870 : Unit := ()
def PySem.W.Fast.tw13737332964706368535 : Unit := ()
def PySem.W.Fast.tw2187680701484797884 : Unit := ()
def PySem.W.Fast.tw1929813543946136587 : Unit := ()
def PySem.W.Fast.tw3092803450232622139 : Unit := ()
def PySem.W.Fast.tw13479401283296663074 : Unit := ()
def PySem.W.Fast.tw18139138902061508171 : Unit := ()
def PySem.W.Fast.tw4102943952990741203 : Unit := ()
def PySem.W.Fast.tw17171612773796443966 : Unit := ()
def PySem.W.Fast.tw3245479839144341739 : Unit := ()
def PySem.W.Fast.tw3254345343815218547 : Unit := ()
def PySem.W.Fast.tw2352904217078198984 : Unit := ()
def PySem.W.Fast.tw4779685817016640549 : Unit := ()
def PySem.W.Fast.tw11611363105888877573 : Unit := ()
def PySem.W.Fast.tw16867508965847994855 : Unit := ()
def PySem.W.Fast.tw15870470190592554305 : Unit := ()
def PySem.W.Fast.tw8477915560649980756 : Unit := ()
def PySem.W.Fast.tw5219959082466555524 : Unit := ()
def PySem.W.Fast.tw11868166443854254376 : Unit := ()
def PySem.W.Fast.tw15043100906847969542 : Unit := ()
def PySem.W.Fast.tw8396753295925435133 : Unit := ()
def PySem.W.Fast.tw7492818113488315937 : Unit := ()
def PySem.W.Fast.tw7326636068507547509 : Unit := ()
def PySem.W.Fast.tw18271804896813549870 : Unit := ()
def PySem.W.Fast.tw3811425697387937804 : Unit := ()
def PySem.W.Fast.tw2434159097081284695 : Unit := ()
def PySem.W.Fast.tw5503693409804020696 : Unit := ()
def PySem.W.Fast.tw605259946645692762 : Unit := ()
def PySem.W.Fast.tw14045363179164126522 : Unit := ()
def PySem.W.Fast.tw592536491662862900 : Unit := ()
def PySem.W.Fast.tw11117979999817918534 : Unit := ()
def PySem.W.Fast.tw1995720409839407903 : Unit := ()
def PySem.W.Fast.tw12556642288995059229 : Unit := ()
def PySem.W.Fast.tw7782514698667052881 : Unit := ()
def PySem.W.Fast.tw14550296223350856654 : Unit := ()
def PySem.W.Fast.tw13269893936962339921 : Unit := ()
def PySem.W.Fast.tw10593031856254714220 : Unit := ()
def PySem.W.Fast.tw4519371683145600383 : Unit := ()
def PySem.W.Fast.tw18197298415452598961 : Unit := ()
def PySem.W.Fast.tw14778863085282038335 : Unit := ()
def PySem.W.Fast.tw9400387936820375494 : Unit := ()
def PySem.W.Fast.tw14647558437718888056 : Unit := ()
def PySem.W.Fast.tw13185985043000064985 : Unit := ()
def PySem.W.Fast.tw2968496149797136184 : Unit := ()
def PySem.W.Fast.tw6730917072481092824 : Unit := ()
def PySem.W.Fast.tw8706952653157604225 : Unit := ()
def PySem.W.Fast.tw15651667176884606343 : Unit := ()
def PySem.W.Fast.tw14184098405246470750 : Unit := ()
def PySem.W.Fast.tw13059631976907940779 : Unit := ()
def PySem.W.Fast.tw16963848249045402689 : Unit := ()
def PySem.W.Fast.tw8155057556569069830 : Unit := ()
def PySem.W.Fast.tw16530861609291906713 : Unit := ()
def PySem.W.Fast.tw13106935311591092264 : Unit := ()
def PySem.W.Fast.tw407737026359618158 : Unit := ()
def PySem.W.Fast.tw5866406968117760588 : Unit := ()
def PySem.W.Fast.tw4969204273659941944 : Unit := ()
def PySem.W.Fast.tw13150191892783895087 : Unit := ()
def PySem.W.Fast.tw9667045027741168221 : Unit := ()
def PySem.W.Fast.tw7345519667069918079 : Unit := ()
def PySem.W.Fast.tw14962607918703927074 : Unit := ()
def PySem.W.Fast.tw2362351075521402538 : Unit := ()
def PySem.W.Fast.tw15001500621020990726 : Unit := ()
def PySem.W.Fast.tw10767006796785508235 : Unit := ()
def PySem.W.Fast.tw11975513010002088890 : Unit := ()
def PySem.W.Fast.tw12089771346638230363 : Unit := ()
def PySem.W.Fast.tw987436375047433941 : Unit := ()
def PySem.W.Fast.tw14329869664998505590 : Unit := ()
def PySem.W.Fast.tw15497091329404162632 : Unit := ()
def PySem.W.Fast.tw13898170849481766959 : Unit := ()
def PySem.W.Fast.tw14613783967395433304 : Unit := ()
def PySem.W.Fast.tw2369303389676999131 : Unit := ()
def PySem.W.Fast.tw1327930369976510470 : Unit := ()
def PySem.W.Fast.tw17634605781421606888 : Unit := ()
def PySem.W.Fast.tw16478512974564877334 : Unit := ()
def PySem.W.Fast.tw17614719627808078420 : Unit := ()
def PySem.W.Fast.tw14378939230076575020 : Unit := ()
def PySem.W.Fast.tw1571197359333529302 : Unit := ()
def PySem.W.Fast.tw17814464546423115718 : Unit := ()
def PySem.W.Fast.tw5869772399941997330 : Unit := ()
def PySem.W.Fast.tw3800434469161663806 : Unit := ()
def PySem.W.Fast.tw11282608641094155562 : Unit := ()
def PySem.W.Fast.tw3225835342681121746 : Unit := ()
def PySem.W.Fast.tw5623915277145323726 : Unit := ()
def PySem.W.Fast.tw5202575281767305111 : Unit := ()
def PySem.W.Fast.tw4163722920881858424 : Unit := ()
def PySem.W.Fast.tw9075330975131905182 : Unit := ()
def PySem.W.Fast.tw10160341047439765330 : Unit := ()
def PySem.W.Fast.tw3010522495235663053 : Unit := ()
def PySem.W.Fast.tw16319455163434097325 : Unit := ()
def PySem.W.Fast.tw17613961574064706856 : Unit := ()
def PySem.W.Fast.tw7240178467577645864 : Unit := ()
def PySem.W.Fast.tw8006650491152403579 : Unit := ()
def PySem.W.Fast.tw7924704231352901613 : Unit := ()
def PySem.W.Fast.tw18303468872153922911 : Unit := ()
def PySem.W.Fast.tw11851358374727875178 : Unit := ()
def PySem.W.Fast.tw17828987655475984127 : Unit := ()
def PySem.W.Fast.tw9289657663977068075 : Unit := ()
def PySem.W.Fast.tw6455710727285909798 : Unit := ()
def PySem.W.Fast.tw259546802467818258 : Unit := ()
def PySem.W.Fast.tw18196282743470212729 : Unit := ()
def PySem.W.Fast.tw14150721378102908470 : Unit := ()
def PySem.W.Fast.tw6943244434094007527 : Unit := ()
def PySem.W.Fast.tw15143354140785896739 : Unit := ()
def PySem.W.Fast.tw17256719278853922870 : Unit := ()
def PySem.W.Fast.tw1201896212843517025 : Unit := ()
def PySem.W.Fast.tw5511388173694327467 : Unit := ()
def PySem.W.Fast.tw9467482536884123092 : Unit := ()
def PySem.W.Fast.tw2016412231841091833 : Unit := ()
def PySem.W.Fast.tw13572262896646022518 : Unit := ()
def PySem.W.Fast.tw11010943397721729945 : Unit := ()
def PySem.W.Fast.tw8524097731005753166 : Unit := ()
def PySem.W.Fast.tw9459566724241696823 : Unit := ()
def PySem.W.Fast.tw15182994746871381315 : Unit := ()
def PySem.W.Fast.tw11356125583811170717 : Unit := ()
def PySem.W.Fast.tw4250018672725567671 : Unit := ()
def PySem.W.Fast.tw15900798490948864382 : Unit := ()
def PySem.W.Fast.tw8607342911028174527 : Unit := ()
def PySem.W.Fast.tw15102929790813383108 : Unit := ()
def PySem.W.Fast.tw16693637848435926751 : Unit := ()
def PySem.W.Fast.tw16749791359763306268 : Unit := ()
def PySem.W.Fast.tw3576851981142513863 : Unit := ()
def PySem.W.Fast.tw95951216735148285 : Unit := ()
def PySem.W.Fast.tw3565982810795624942 : Unit := ()
def PySem.W.Fast.tw8276322122348118964 : Unit := ()
def PySem.W.Fast.tw6947610852957621135 : Unit := ()
def PySem.W.Fast.tw7803623495748736452 : Unit := ()
def PySem.W.Fast.tw8070870049654826173 : Unit := ()
def PySem.W.Fast.tw18377036240376728413 : Unit := ()
def PySem.W.Fast.tw3574429375029867819 : Unit := ()
def PySem.W.Fast.tw18439157735609377924 : Unit := ()
def PySem.W.Fast.tw4323952779300297369 : Unit := ()
def PySem.W.Fast.tw3271562041896703973 : Unit := ()
def PySem.W.Fast.tw2330267826156074018 : Unit := ()
def PySem.W.Fast.tw7269921007223729480 : Unit := ()
def PySem.W.Fast.tw1825031652439728259 : Unit := ()
def PySem.W.Fast.tw2065325965769249547 : Unit := ()
def PySem.W.Fast.tw13824154512181566942 : Unit := ()
def PySem.W.Fast.tw4891008528744545269 : Unit := ()
def PySem.W.Fast.tw16145725752090525074 : Unit := ()
def PySem.W.Fast.tw11419584981452910939 : Unit := ()
def PySem.W.Fast.tw13050949942182760296 : Unit := ()
def PySem.W.Fast.tw10941415772054308360 : Unit := ()
def PySem.W.Fast.tw13744849680939071643 : Unit := ()
def PySem.W.Fast.tw8901870229362698189 : Unit := ()
def PySem.W.Fast.tw11607026347874543386 : Unit := ()
def PySem.W.Fast.tw1836803811549121728 : Unit := ()
def PySem.W.Fast.tw14158852013702926187 : Unit := ()
def PySem.W.Fast.tw7990256293659099854 : Unit := ()
def PySem.W.Fast.tw4918179763876676568 : Unit := ()
def PySem.W.Fast.tw3902569894958740026 : Unit := ()
def PySem.W.Fast.tw7530723362862900387 : Unit := ()
def PySem.W.Fast.tw5585571272372156311 : Unit := ()
def PySem.W.Fast.tw4866518980542367303 : Unit := ()
def PySem.W.Fast.tw11145380339762290168 : Unit := ()
def PySem.W.Fast.tw4521917498049983249 : Unit := ()
def PySem.W.Fast.tw14912529703915779192 : Unit := ()
def PySem.W.Fast.tw14060534302709722438 : Unit := ()
def PySem.W.Fast.tw960917260921221364 : Unit := ()
def PySem.W.Fast.tw15151521313328904252 : Unit := ()
def PySem.W.Fast.tw13843096639478550673 : Unit := ()
def PySem.W.Fast.tw12419523958215539982 : Unit := ()
def PySem.W.Fast.tw4455210130786611110 : Unit := ()
def PySem.W.Fast.tw17966726941918840568 : Unit := ()
def PySem.W.Fast.tw5700175272686120499 : Unit := ()
def PySem.W.Fast.tw12248057728502375067 : Unit := ()
def PySem.W.Fast.tw14312660503017709821 : Unit := ()
def PySem.W.Fast.tw7547677659361430799 : Unit := ()
def PySem.W.Fast.tw8379504141851785208 : Unit := ()
def PySem.W.Fast.tw15072990798517999949 : Unit := ()
def PySem.W.Fast.tw11869714926225824339 : Unit := ()
def PySem.W.Fast.tw11503593532721655872 : Unit := ()
def PySem.W.Fast.tw6725128465495843936 : Unit := ()
def PySem.W.Fast.tw7634380733851735905 : Unit := ()
def PySem.W.Fast.tw5710777904000406737 : Unit := ()
def PySem.W.Fast.tw16384229813135624085 : Unit := ()
def PySem.W.Fast.tw1857782769501794529 : Unit := ()
def PySem.W.Fast.tw15661209563942346086 : Unit := ()
def PySem.W.Fast.tw5156022397015914918 : Unit := ()
def PySem.W.Fast.tw6284210735624304526 : Unit := ()
def PySem.W.Fast.tw7472179854284522793 : Unit := ()
def PySem.W.Fast.tw13010886322471100496 : Unit := ()
def PySem.W.Fast.tw505492036587699067 : Unit := ()
def PySem.W.Fast.tw12112434164360919408 : Unit := ()
def PySem.W.Fast.tw14620297655936076007 : Unit := ()
namespace R
open PySem L2 PyProof.Rows
section
variable {l : PySem.W.OpenLaw} {w : World} {K : PySem.W.Frag} {h : Heap} {mg : Str → Option Value}
set_option maxHeartbeats 0 in
theorem bf0 {fa f0 f1 f2 f3 f4 f5 f6 f7 f8 f9 f10 f11 f12 f13 f14 f15 f16 f17 f18 f19 f20 f21 f22 f23 f24 f25 f26 f27 f28 f29 f30 f31 f32 f33 f34 : Addr} {C_NoFraction C_NoPolynomial C_NoStretch C_NoRow C_NoPair C_NoBack C_NoForm C_NoParts C_NoDegree C_NoSteps C_NoBox C_NoGain C_NoText C_NoLine C_NoName C_NoDeed C_RestError : Addr} {od0 an0 : Option Addr} {sl0 : Array (Option Value)} {oc0 kV0 dc0 pm0 cd0 ct0 : Value} {od1 an1 : Option Addr} {sl1 : Array (Option Value)} {oc1 kV1 dc1 pm1 cd1 ct1 : Value} {od2 an2 : Option Addr} {sl2 : Array (Option Value)} {oc2 kV2 dc2 pm2 cd2 ct2 : Value} {od3 an3 : Option Addr} {sl3 : Array (Option Value)} {oc3 kV3 dc3 pm3 cd3 ct3 : Value} {od4 an4 : Option Addr} {sl4 : Array (Option Value)} {oc4 kV4 dc4 pm4 cd4 ct4 : Value} {od5 an5 : Option Addr} {sl5 : Array (Option Value)} {oc5 kV5 dc5 pm5 cd5 ct5 : Value} {od6 an6 : Option Addr} {sl6 : Array (Option Value)} {oc6 kV6 dc6 pm6 cd6 ct6 : Value} {od7 an7 : Option Addr} {sl7 : Array (Option Value)} {oc7 kV7 dc7 pm7 cd7 ct7 : Value} {od8 an8 : Option Addr} {sl8 : Array (Option Value)} {oc8 kV8 dc8 pm8 cd8 ct8 : Value} {od9 an9 : Option Addr} {sl9 : Array (Option Value)} {oc9 kV9 dc9 pm9 cd9 ct9 : Value} {od10 an10 : Option Addr} {sl10 : Array (Option Value)} {oc10 kV10 dc10 pm10 cd10 ct10 : Value} {od11 an11 : Option Addr} {sl11 : Array (Option Value)} {oc11 kV11 dc11 pm11 cd11 ct11 : Value} {od12 an12 : Option Addr} {sl12 : Array (Option Value)} {oc12 kV12 dc12 pm12 cd12 ct12 : Value} {od13 an13 : Option Addr} {sl13 : Array (Option Value)} {oc13 kV13 dc13 pm13 cd13 ct13 : Value} {od14 an14 : Option Addr} {sl14 : Array (Option Value)} {oc14 kV14 dc14 pm14 cd14 ct14 : Value} {od15 an15 : Option Addr} {sl15 : Array (Option Value)} {oc15 kV15 dc15 pm15 cd15 ct15 : Value} {od16 an16 : Option Addr} {sl16 : Array (Option Value)} {oc16 kV16 dc16 pm16 cd16 ct16 : Value} {od17 an17 : Option Addr} {sl17 : Array (Option Value)} {oc17 kV17 dc17 pm17 cd17 ct17 : Value} {od18 an18 : Option Addr} {sl18 : Array (Option Value)} {oc18 kV18 dc18 pm18 cd18 ct18 : Value} {od19 an19 : Option Addr} {sl19 : Array (Option Value)} {oc19 kV19 dc19 pm19 cd19 ct19 : Value} {od20 an20 : Option Addr} {sl20 : Array (Option Value)} {oc20 kV20 dc20 pm20 cd20 ct20 : Value} {od21 an21 : Option Addr} {sl21 : Array (Option Value)} {oc21 kV21 dc21 pm21 cd21 ct21 : Value} {od22 an22 : Option Addr} {sl22 : Array (Option Value)} {oc22 kV22 dc22 pm22 cd22 ct22 : Value} {od23 an23 : Option Addr} {sl23 : Array (Option Value)} {oc23 kV23 dc23 pm23 cd23 ct23 : Value} {od24 an24 : Option Addr} {sl24 : Array (Option Value)} {oc24 kV24 dc24 pm24 cd24 ct24 : Value} {od25 an25 : Option Addr} {sl25 : Array (Option Value)} {oc25 kV25 dc25 pm25 cd25 ct25 : Value} {od26 an26 : Option Addr} {sl26 : Array (Option Value)} {oc26 kV26 dc26 pm26 cd26 ct26 : Value} {od27 an27 : Option Addr} {sl27 : Array (Option Value)} {oc27 kV27 dc27 pm27 cd27 ct27 : Value} {od28 an28 : Option Addr} {sl28 : Array (Option Value)} {oc28 kV28 dc28 pm28 cd28 ct28 : Value} {od29 an29 : Option Addr} {sl29 : Array (Option Value)} {oc29 kV29 dc29 pm29 cd29 ct29 : Value} {od30 an30 : Option Addr} {sl30 : Array (Option Value)} {oc30 kV30 dc30 pm30 cd30 ct30 : Value} {od31 an31 : Option Addr} {sl31 : Array (Option Value)} {oc31 kV31 dc31 pm31 cd31 ct31 : Value} {od32 an32 : Option Addr} {sl32 : Array (Option Value)} {oc32 kV32 dc32 pm32 cd32 ct32 : Value} {od33 an33 : Option Addr} {sl33 : Array (Option Value)} {oc33 kV33 dc33 pm33 cd33 ct33 : Value} {od34 an34 : Option Addr} {sl34 : Array (Option Value)} {oc34 kV34 dc34 pm34 cd34 ct34 : Value} {t_SHORT : Tok} {A_NOUGHT : Addr} {td_NOUGHT : Option Addr} {ts_NOUGHT : Array (Option Value)} {tn_NOUGHT : Nat} {tt0_NOUGHT tt1_NOUGHT : Tok}
    (X : K.In h) (G : h.Ns mainGlobals mg) (hfa : mg "law" = some (.ref fa))
    (a0 : PySem.W.nsIn K mainGlobals "with_lead" = some (some (.ref f0)))
    (l0 : K.lookup f0 = some ⟨oc0, od0, .func (PySem.W.fnOf "with_lead" "with_lead" (m8 F1) (j3 F1) (d3 F1) .none kV0 dc0 pm0 an0 cd0 ct0), sl0⟩)
    (c0 : PySem.W.codeIn K cd0 "with_lead" = true) (k0 : PySem.W.keepIn K (.ref f0) = true)
    (a1 : PySem.W.nsIn K mainGlobals "cleaned" = some (some (.ref f1)))
    (l1 : K.lookup f1 = some ⟨oc1, od1, .func (PySem.W.fnOf "cleaned" "cleaned" (m8 N8) (j3 N8) (d3 N8) .none kV1 dc1 pm1 an1 cd1 ct1), sl1⟩)
    (c1 : PySem.W.codeIn K cd1 "cleaned" = true) (k1 : PySem.W.keepIn K (.ref f1) = true)
    (a2 : PySem.W.nsIn K mainGlobals "eliminated" = some (some (.ref f2)))
    (l2 : K.lookup f2 = some ⟨oc2, od2, .func (PySem.W.fnOf "eliminated" "eliminated" (m8 C5) (j3 C5) (d3 C5) .none kV2 dc2 pm2 an2 cd2 ct2), sl2⟩)
    (c2 : PySem.W.codeIn K cd2 "eliminated" = true) (k2 : PySem.W.keepIn K (.ref f2) = true)
    (a3 : PySem.W.nsIn K mainGlobals "common_divisor" = some (some (.ref f3)))
    (l3 : K.lookup f3 = some ⟨oc3, od3, .func (PySem.W.fnOf "common_divisor" "common_divisor" (m8 A0) (j3 A0) (d3 A0) .none kV3 dc3 pm3 an3 cd3 ct3), sl3⟩)
    (c3 : PySem.W.codeIn K cd3 "common_divisor" = true) (k3 : PySem.W.keepIn K (.ref f3) = true)
    (a4 : PySem.W.nsIn K mainGlobals "fraction" = some (some (.ref f4)))
    (l4 : K.lookup f4 = some ⟨oc4, od4, .func (PySem.W.fnOf "fraction" "fraction" (m8 M8) (j3 M8) (d3 M8) .none kV4 dc4 pm4 an4 cd4 ct4), sl4⟩)
    (c4 : PySem.W.codeIn K cd4 "fraction" = true) (k4 : PySem.W.keepIn K (.ref f4) = true)
    (a5 : PySem.W.nsIn K mainGlobals "cleared" = some (some (.ref f5)))
    (l5 : K.lookup f5 = some ⟨oc5, od5, .func (PySem.W.fnOf "cleared" "cleared" (m8 N7) (j3 N7) (d3 N7) .none kV5 dc5 pm5 an5 cd5 ct5), sl5⟩)
    (c5 : PySem.W.codeIn K cd5 "cleared" = true) (k5 : PySem.W.keepIn K (.ref f5) = true)
    (a6 : PySem.W.nsIn K mainGlobals "determinant" = some (some (.ref f6)))
    (l6 : K.lookup f6 = some ⟨oc6, od6, .func (PySem.W.fnOf "determinant" "determinant" (m8 C9) (j3 C9) (d3 C9) .none kV6 dc6 pm6 an6 cd6 ct6), sl6⟩)
    (c6 : PySem.W.codeIn K cd6 "determinant" = true) (k6 : PySem.W.keepIn K (.ref f6) = true)
    (a7 : PySem.W.nsIn K mainGlobals "number_at" = some (some (.ref f7)))
    (l7 : K.lookup f7 = some ⟨oc7, od7, .func (PySem.W.fnOf "number_at" "number_at" (m8 K8) (j3 K8) (d3 K8) .none kV7 dc7 pm7 an7 cd7 ct7), sl7⟩)
    (c7 : PySem.W.codeIn K cd7 "number_at" = true) (k7 : PySem.W.keepIn K (.ref f7) = true)
    (a8 : PySem.W.nsIn K mainGlobals "steep" = some (some (.ref f8)))
    (l8 : K.lookup f8 = some ⟨oc8, od8, .func (PySem.W.fnOf "steep" "steep" (m8 U6) (j3 U6) (d3 U6) .none kV8 dc8 pm8 an8 cd8 ct8), sl8⟩)
    (c8 : PySem.W.codeIn K cd8 "steep" = true) (k8 : PySem.W.keepIn K (.ref f8) = true)
    (a9 : PySem.W.nsIn K mainGlobals "leads" = some (some (.ref f9)))
    (l9 : K.lookup f9 = some ⟨oc9, od9, .func (PySem.W.fnOf "leads" "leads" (m8 U8) (j3 U8) (d3 U8) .none kV9 dc9 pm9 an9 cd9 ct9), sl9⟩)
    (c9 : PySem.W.codeIn K cd9 "leads" = true) (k9 : PySem.W.keepIn K (.ref f9) = true)
    (a10 : PySem.W.nsIn K mainGlobals "is_whole" = some (some (.ref f10)))
    (l10 : K.lookup f10 = some ⟨oc10, od10, .func (PySem.W.fnOf "is_whole" "is_whole" (m8 M7) (j3 M7) (d3 M7) .none kV10 dc10 pm10 an10 cd10 ct10), sl10⟩)
    (c10 : PySem.W.codeIn K cd10 "is_whole" = true) (k10 : PySem.W.keepIn K (.ref f10) = true)
    (a11 : PySem.W.nsIn K mainGlobals "are_places" = some (some (.ref f11)))
    (l11 : K.lookup f11 = some ⟨oc11, od11, .func (PySem.W.fnOf "are_places" "are_places" (m8 B5) (j3 B5) (d3 B5) .none kV11 dc11 pm11 an11 cd11 ct11), sl11⟩)
    (c11 : PySem.W.codeIn K cd11 "are_places" = true) (k11 : PySem.W.keepIn K (.ref f11) = true)
    (a12 : PySem.W.nsIn K mainGlobals "minor" = some (some (.ref f12)))
    (l12 : K.lookup f12 = some ⟨oc12, od12, .func (PySem.W.fnOf "minor" "minor" (m8 U7) (j3 U7) (d3 U7) .none kV12 dc12 pm12 an12 cd12 ct12), sl12⟩)
    (c12 : PySem.W.codeIn K cd12 "minor" = true) (k12 : PySem.W.keepIn K (.ref f12) = true)
    (a13 : PySem.W.nsIn K mainGlobals "_law_low" = some (some (.ref f13)))
    (l13 : K.lookup f13 = some ⟨oc13, od13, .func (PySem.W.fnOf "_law_low" "_law_low" (m8 N0) (j3 N0) (d3 N0) .none kV13 dc13 pm13 an13 cd13 ct13), sl13⟩)
    (c13 : PySem.W.codeIn K cd13 "_law_low" = true) (k13 : PySem.W.keepIn K (.ref f13) = true)
    (a14 : PySem.W.nsIn K mainGlobals "_law_urn" = some (some (.ref f14)))
    (l14 : K.lookup f14 = some ⟨oc14, od14, .func (PySem.W.fnOf "_law_urn" "_law_urn" (m8 M9) (j3 M9) (d3 M9) .none kV14 dc14 pm14 an14 cd14 ct14), sl14⟩)
    (c14 : PySem.W.codeIn K cd14 "_law_urn" = true) (k14 : PySem.W.keepIn K (.ref f14) = true)
    (a15 : PySem.W.nsIn K mainGlobals "_law_draw" = some (some (.ref f15)))
    (l15 : K.lookup f15 = some ⟨oc15, od15, .func (PySem.W.fnOf "_law_draw" "_law_draw" (m8 L6) (j3 L6) (d3 L6) .none kV15 dc15 pm15 an15 cd15 ct15), sl15⟩)
    (c15 : PySem.W.codeIn K cd15 "_law_draw" = true) (k15 : PySem.W.keepIn K (.ref f15) = true)
    (a16 : PySem.W.nsIn K mainGlobals "_law_kind" = some (some (.ref f16)))
    (l16 : K.lookup f16 = some ⟨oc16, od16, .func (PySem.W.fnOf "_law_kind" "_law_kind" (m8 L5) (j3 L5) (d3 L5) .none kV16 dc16 pm16 an16 cd16 ct16), sl16⟩)
    (c16 : PySem.W.codeIn K cd16 "_law_kind" = true) (k16 : PySem.W.keepIn K (.ref f16) = true)
    (a17 : PySem.W.nsIn K mainGlobals "_law_number" = some (some (.ref f17)))
    (l17 : K.lookup f17 = some ⟨oc17, od17, .func (PySem.W.fnOf "_law_number" "_law_number" (m8 D9) (j3 D9) (d3 D9) .none kV17 dc17 pm17 an17 cd17 ct17), sl17⟩)
    (c17 : PySem.W.codeIn K cd17 "_law_number" = true) (k17 : PySem.W.keepIn K (.ref f17) = true)
    (a18 : PySem.W.nsIn K mainGlobals "_law_whole" = some (some (.ref f18)))
    (l18 : K.lookup f18 = some ⟨oc18, od18, .func (PySem.W.fnOf "_law_whole" "_law_whole" (m8 F5) (j3 F5) (d3 F5) .none kV18 dc18 pm18 an18 cd18 ct18), sl18⟩)
    (c18 : PySem.W.codeIn K cd18 "_law_whole" = true) (k18 : PySem.W.keepIn K (.ref f18) = true)
    (a19 : PySem.W.nsIn K mainGlobals "_law_is_number" = some (some (.ref f19)))
    (l19 : K.lookup f19 = some ⟨oc19, od19, .func (PySem.W.fnOf "_law_is_number" "_law_is_number" (m8 A1) (j3 A1) (d3 A1) .none kV19 dc19 pm19 an19 cd19 ct19), sl19⟩)
    (c19 : PySem.W.codeIn K cd19 "_law_is_number" = true) (k19 : PySem.W.keepIn K (.ref f19) = true)
    (a20 : PySem.W.nsIn K mainGlobals "_law_other" = some (some (.ref f20)))
    (l20 : K.lookup f20 = some ⟨oc20, od20, .func (PySem.W.fnOf "_law_other" "_law_other" (m8 F8) (j3 F8) (d3 F8) .none kV20 dc20 pm20 an20 cd20 ct20), sl20⟩)
    (c20 : PySem.W.codeIn K cd20 "_law_other" = true) (k20 : PySem.W.keepIn K (.ref f20) = true)
    (a21 : PySem.W.nsIn K mainGlobals "_law_times" = some (some (.ref f21)))
    (l21 : K.lookup f21 = some ⟨oc21, od21, .func (PySem.W.fnOf "_law_times" "_law_times" (m8 F7) (j3 F7) (d3 F7) .none kV21 dc21 pm21 an21 cd21 ct21), sl21⟩)
    (c21 : PySem.W.codeIn K cd21 "_law_times" = true) (k21 : PySem.W.keepIn K (.ref f21) = true)
    (a22 : PySem.W.nsIn K mainGlobals "_law_less" = some (some (.ref f22)))
    (l22 : K.lookup f22 = some ⟨oc22, od22, .func (PySem.W.fnOf "_law_less" "_law_less" (m8 L4) (j3 L4) (d3 L4) .none kV22 dc22 pm22 an22 cd22 ct22), sl22⟩)
    (c22 : PySem.W.codeIn K cd22 "_law_less" = true) (k22 : PySem.W.keepIn K (.ref f22) = true)
    (a23 : PySem.W.nsIn K mainGlobals "_law_over" = some (some (.ref f23)))
    (l23 : K.lookup f23 = some ⟨oc23, od23, .func (PySem.W.fnOf "_law_over" "_law_over" (m8 K9) (j3 K9) (d3 K9) .none kV23 dc23 pm23 an23 cd23 ct23), sl23⟩)
    (c23 : PySem.W.codeIn K cd23 "_law_over" = true) (k23 : PySem.W.keepIn K (.ref f23) = true)
    (a24 : PySem.W.nsIn K mainGlobals "_law_det" = some (some (.ref f24)))
    (l24 : K.lookup f24 = some ⟨oc24, od24, .func (PySem.W.fnOf "_law_det" "_law_det" (m8 E1) (j3 E1) (d3 E1) .none kV24 dc24 pm24 an24 cd24 ct24), sl24⟩)
    (c24 : PySem.W.codeIn K cd24 "_law_det" = true) (k24 : PySem.W.keepIn K (.ref f24) = true)
    (a25 : PySem.W.nsIn K mainGlobals "_law_which" = some (some (.ref f25)))
    (l25 : K.lookup f25 = some ⟨oc25, od25, .func (PySem.W.fnOf "_law_which" "_law_which" (m8 F6) (j3 F6) (d3 F6) .none kV25 dc25 pm25 an25 cd25 ct25), sl25⟩)
    (c25 : PySem.W.codeIn K cd25 "_law_which" = true) (k25 : PySem.W.keepIn K (.ref f25) = true)
    (a26 : PySem.W.nsIn K mainGlobals "_law_places" = some (some (.ref f26)))
    (l26 : K.lookup f26 = some ⟨oc26, od26, .func (PySem.W.fnOf "_law_places" "_law_places" (m8 D1) (j3 D1) (d3 D1) .none kV26 dc26 pm26 an26 cd26 ct26), sl26⟩)
    (c26 : PySem.W.codeIn K cd26 "_law_places" = true) (k26 : PySem.W.keepIn K (.ref f26) = true)
    (a27 : PySem.W.nsIn K mainGlobals "_law_is_table" = some (some (.ref f27)))
    (l27 : K.lookup f27 = some ⟨oc27, od27, .func (PySem.W.fnOf "_law_is_table" "_law_is_table" (m8 y9) (j3 y9) (d3 y9) .none kV27 dc27 pm27 an27 cd27 ct27), sl27⟩)
    (c27 : PySem.W.codeIn K cd27 "_law_is_table" = true) (k27 : PySem.W.keepIn K (.ref f27) = true)
    (a28 : PySem.W.nsIn K mainGlobals "_law_steep_said" = some (some (.ref f28)))
    (l28 : K.lookup f28 = some ⟨oc28, od28, .func (PySem.W.fnOf "_law_steep_said" "_law_steep_said" (m8 w9) (j3 w9) (d3 w9) .none kV28 dc28 pm28 an28 cd28 ct28), sl28⟩)
    (c28 : PySem.W.codeIn K cd28 "_law_steep_said" = true) (k28 : PySem.W.keepIn K (.ref f28) = true)
    (a29 : PySem.W.nsIn K mainGlobals "_law_minor_said" = some (some (.ref f29)))
    (l29 : K.lookup f29 = some ⟨oc29, od29, .func (PySem.W.fnOf "_law_minor_said" "_law_minor_said" (m8 x8) (j3 x8) (d3 x8) .none kV29 dc29 pm29 an29 cd29 ct29), sl29⟩)
    (c29 : PySem.W.codeIn K cd29 "_law_minor_said" = true) (k29 : PySem.W.keepIn K (.ref f29) = true)
    (a30 : PySem.W.nsIn K mainGlobals "_law_drawn_table" = some (some (.ref f30)))
    (l30 : K.lookup f30 = some ⟨oc30, od30, .func (PySem.W.fnOf "_law_drawn_table" "_law_drawn_table" (m8 v1) (j3 v1) (d3 v1) .none kV30 dc30 pm30 an30 cd30 ct30), sl30⟩)
    (c30 : PySem.W.codeIn K cd30 "_law_drawn_table" = true) (k30 : PySem.W.keepIn K (.ref f30) = true)
    (a31 : PySem.W.nsIn K mainGlobals "_law_steep_right" = some (some (.ref f31)))
    (l31 : K.lookup f31 = some ⟨oc31, od31, .func (PySem.W.fnOf "_law_steep_right" "_law_steep_right" (m8 t4) (j3 t4) (d3 t4) .none kV31 dc31 pm31 an31 cd31 ct31), sl31⟩)
    (c31 : PySem.W.codeIn K cd31 "_law_steep_right" = true) (k31 : PySem.W.keepIn K (.ref f31) = true)
    (a32 : PySem.W.nsIn K mainGlobals "_law_bad_places" = some (some (.ref f32)))
    (l32 : K.lookup f32 = some ⟨oc32, od32, .func (PySem.W.fnOf "_law_bad_places" "_law_bad_places" (m8 x9) (j3 x9) (d3 x9) .none kV32 dc32 pm32 an32 cd32 ct32), sl32⟩)
    (c32 : PySem.W.codeIn K cd32 "_law_bad_places" = true) (k32 : PySem.W.keepIn K (.ref f32) = true)
    (a33 : PySem.W.nsIn K mainGlobals "_law_minors_right" = some (some (.ref f33)))
    (l33 : K.lookup f33 = some ⟨oc33, od33, .func (PySem.W.fnOf "_law_minors_right" "_law_minors_right" (m8 p6) (j3 p6) (d3 p6) .none kV33 dc33 pm33 an33 cd33 ct33), sl33⟩)
    (c33 : PySem.W.codeIn K cd33 "_law_minors_right" = true) (k33 : PySem.W.keepIn K (.ref f33) = true)
    (a34 : PySem.W.nsIn K mainGlobals "law" = some (some (.ref f34)))
    (l34 : K.lookup f34 = some ⟨oc34, od34, .func (PySem.W.fnOf "law" "law" (m8 af3) (j3 af3) (d3 af3) .none kV34 dc34 pm34 an34 cd34 ct34), sl34⟩)
    (c34 : PySem.W.codeIn K cd34 "law" = true) (k34 : PySem.W.keepIn K (.ref f34) = true)
    (z_ValueError : PySem.W.nsIn K mainGlobals "ValueError" = some none)
    (z_abs : PySem.W.nsIn K mainGlobals "abs" = some none)
    (z_all : PySem.W.nsIn K mainGlobals "all" = some none)
    (z_bool : PySem.W.nsIn K mainGlobals "bool" = some none)
    (z_enumerate : PySem.W.nsIn K mainGlobals "enumerate" = some none)
    (z_int : PySem.W.nsIn K mainGlobals "int" = some none)
    (z_isinstance : PySem.W.nsIn K mainGlobals "isinstance" = some none)
    (z_len : PySem.W.nsIn K mainGlobals "len" = some none)
    (z_list : PySem.W.nsIn K mainGlobals "list" = some none)
    (z_max : PySem.W.nsIn K mainGlobals "max" = some none)
    (z_min : PySem.W.nsIn K mainGlobals "min" = some none)
    (z_range : PySem.W.nsIn K mainGlobals "range" = some none)
    (z_tuple : PySem.W.nsIn K mainGlobals "tuple" = some none)
    (z_zip : PySem.W.nsIn K mainGlobals "zip" = some none)
    (y_SHORT : PySem.W.nsIn K mainGlobals "SHORT" = some (some (.int 6000 t_SHORT)))
    (y_NOUGHT : PySem.W.nsIn K mainGlobals "NOUGHT" = some (some (.ref A_NOUGHT)))
    (u_NOUGHT : K.lookup A_NOUGHT = some ⟨.type "tuple", td_NOUGHT, .seq #[.int 0 tt0_NOUGHT, .int 1 tt1_NOUGHT] tn_NOUGHT, ts_NOUGHT⟩)
    (m_NoFraction : PySem.W.nsIn K mainGlobals "NoFraction" = some (some (.ref C_NoFraction)))
    (x_NoFraction : PySem.W.excIn K C_NoFraction [.type "ValueError", .type "Exception", .type "BaseException", .type "object"] "ValueError.__new__" = true)
    (e_NoFraction : E5 K C_NoFraction)
    (m_NoPolynomial : PySem.W.nsIn K mainGlobals "NoPolynomial" = some (some (.ref C_NoPolynomial)))
    (x_NoPolynomial : PySem.W.excIn K C_NoPolynomial [.type "ValueError", .type "Exception", .type "BaseException", .type "object"] "ValueError.__new__" = true)
    (e_NoPolynomial : E5 K C_NoPolynomial)
    (m_NoStretch : PySem.W.nsIn K mainGlobals "NoStretch" = some (some (.ref C_NoStretch)))
    (x_NoStretch : PySem.W.excIn K C_NoStretch [.type "ValueError", .type "Exception", .type "BaseException", .type "object"] "ValueError.__new__" = true)
    (e_NoStretch : E5 K C_NoStretch)
    (m_NoRow : PySem.W.nsIn K mainGlobals "NoRow" = some (some (.ref C_NoRow)))
    (x_NoRow : PySem.W.excIn K C_NoRow [.type "ValueError", .type "Exception", .type "BaseException", .type "object"] "ValueError.__new__" = true)
    (e_NoRow : E5 K C_NoRow)
    (m_NoPair : PySem.W.nsIn K mainGlobals "NoPair" = some (some (.ref C_NoPair)))
    (x_NoPair : PySem.W.excIn K C_NoPair [.type "ValueError", .type "Exception", .type "BaseException", .type "object"] "ValueError.__new__" = true)
    (e_NoPair : E5 K C_NoPair)
    (m_NoBack : PySem.W.nsIn K mainGlobals "NoBack" = some (some (.ref C_NoBack)))
    (x_NoBack : PySem.W.excIn K C_NoBack [.type "ValueError", .type "Exception", .type "BaseException", .type "object"] "ValueError.__new__" = true)
    (e_NoBack : E5 K C_NoBack)
    (m_NoForm : PySem.W.nsIn K mainGlobals "NoForm" = some (some (.ref C_NoForm)))
    (x_NoForm : PySem.W.excIn K C_NoForm [.type "ValueError", .type "Exception", .type "BaseException", .type "object"] "ValueError.__new__" = true)
    (e_NoForm : E5 K C_NoForm)
    (m_NoParts : PySem.W.nsIn K mainGlobals "NoParts" = some (some (.ref C_NoParts)))
    (x_NoParts : PySem.W.excIn K C_NoParts [.type "ValueError", .type "Exception", .type "BaseException", .type "object"] "ValueError.__new__" = true)
    (e_NoParts : E5 K C_NoParts)
    (m_NoDegree : PySem.W.nsIn K mainGlobals "NoDegree" = some (some (.ref C_NoDegree)))
    (x_NoDegree : PySem.W.excIn K C_NoDegree [.type "ValueError", .type "Exception", .type "BaseException", .type "object"] "ValueError.__new__" = true)
    (e_NoDegree : E5 K C_NoDegree)
    (m_NoSteps : PySem.W.nsIn K mainGlobals "NoSteps" = some (some (.ref C_NoSteps)))
    (x_NoSteps : PySem.W.excIn K C_NoSteps [.type "ValueError", .type "Exception", .type "BaseException", .type "object"] "ValueError.__new__" = true)
    (e_NoSteps : E5 K C_NoSteps)
    (m_NoBox : PySem.W.nsIn K mainGlobals "NoBox" = some (some (.ref C_NoBox)))
    (x_NoBox : PySem.W.excIn K C_NoBox [.type "ValueError", .type "Exception", .type "BaseException", .type "object"] "ValueError.__new__" = true)
    (e_NoBox : E5 K C_NoBox)
    (m_NoGain : PySem.W.nsIn K mainGlobals "NoGain" = some (some (.ref C_NoGain)))
    (x_NoGain : PySem.W.excIn K C_NoGain [.type "ValueError", .type "Exception", .type "BaseException", .type "object"] "ValueError.__new__" = true)
    (e_NoGain : E5 K C_NoGain)
    (m_NoText : PySem.W.nsIn K mainGlobals "NoText" = some (some (.ref C_NoText)))
    (x_NoText : PySem.W.excIn K C_NoText [.type "ValueError", .type "Exception", .type "BaseException", .type "object"] "ValueError.__new__" = true)
    (e_NoText : E5 K C_NoText)
    (m_NoLine : PySem.W.nsIn K mainGlobals "NoLine" = some (some (.ref C_NoLine)))
    (x_NoLine : PySem.W.excIn K C_NoLine [.type "ValueError", .type "Exception", .type "BaseException", .type "object"] "ValueError.__new__" = true)
    (e_NoLine : E5 K C_NoLine)
    (m_NoName : PySem.W.nsIn K mainGlobals "NoName" = some (some (.ref C_NoName)))
    (x_NoName : PySem.W.excIn K C_NoName [.type "ValueError", .type "Exception", .type "BaseException", .type "object"] "ValueError.__new__" = true)
    (e_NoName : E5 K C_NoName)
    (m_NoDeed : PySem.W.nsIn K mainGlobals "NoDeed" = some (some (.ref C_NoDeed)))
    (x_NoDeed : PySem.W.excIn K C_NoDeed [.type "ValueError", .type "Exception", .type "BaseException", .type "object"] "ValueError.__new__" = true)
    (e_NoDeed : E5 K C_NoDeed)
    (m_RestError : PySem.W.nsIn K mainGlobals "RestError" = some (some (.ref C_RestError)))
    (x_RestError : PySem.W.excIn K C_RestError [.type "ValueError", .type "Exception", .type "BaseException", .type "object"] "ValueError.__new__" = true)
    (e_RestError : E5 K C_RestError)
    (kt_NoPolynomial : aV8 K (⟨C_NoFraction, C_NoPolynomial, C_NoStretch, C_NoRow, C_NoPair, C_NoBack, C_NoForm, C_NoParts, C_NoDegree, C_NoSteps, C_NoBox, C_NoGain, C_NoText, C_NoLine, C_NoName, C_NoDeed, C_RestError⟩ : CAd) C_NoPolynomial 1)
    (kt_NoPair : aV8 K (⟨C_NoFraction, C_NoPolynomial, C_NoStretch, C_NoRow, C_NoPair, C_NoBack, C_NoForm, C_NoParts, C_NoDegree, C_NoSteps, C_NoBox, C_NoGain, C_NoText, C_NoLine, C_NoName, C_NoDeed, C_RestError⟩ : CAd) C_NoPair 4) :
    ∃ fd : FuncData, (∀ (s : Shared) (v : Value), BindsTo s fd ⟨[v], []⟩ [("_law_script", v)]) ∧ ∀ base : Heap, K.In base → base.Ns mainGlobals mg → ai6 l.prog w K mg base CX0 (6 + 1) fa fd ["_law_script"] (aJ4 K) := by
  have e := hfa.symm.trans (PySem.W.mg_of X G a34)
  cases e
  have F_with_lead := v2 (st := F1) l0 c0 k0
  have b_with_lead := F_with_lead.binds (ps := ["rows", "at"]) fun _ _ _ _ _ _ us hl => match us, hl with | [_, _], _ => rfl
  have d_with_lead : Df K mg "with_lead" F1 ["rows", "at"] f0 := ⟨⟨_, F_with_lead, b_with_lead⟩, PySem.W.mg_of X G a0⟩
  have F_cleaned := v2 (st := N8) l1 c1 k1
  have b_cleaned := F_cleaned.binds (ps := ["row", "chosen", "at", "before"]) fun _ _ _ _ _ _ us hl => match us, hl with | [_, _, _, _], _ => rfl
  have d_cleaned : Df K mg "cleaned" N8 ["row", "chosen", "at", "before"] f1 := ⟨⟨_, F_cleaned, b_cleaned⟩, PySem.W.mg_of X G a1⟩
  have F_eliminated := v2 (st := C5) l2 c2 k2
  have b_eliminated := F_eliminated.binds (ps := ["rows"]) fun _ _ _ _ _ _ us hl => match us, hl with | [_], _ => rfl
  have d_eliminated : Df K mg "eliminated" C5 ["rows"] f2 := ⟨⟨_, F_eliminated, b_eliminated⟩, PySem.W.mg_of X G a2⟩
  have F_common_divisor := v2 (st := A0) l3 c3 k3
  have b_common_divisor := F_common_divisor.binds (ps := ["one", "other"]) fun _ _ _ _ _ _ us hl => match us, hl with | [_, _], _ => rfl
  have d_common_divisor : Df K mg "common_divisor" A0 ["one", "other"] f3 := ⟨⟨_, F_common_divisor, b_common_divisor⟩, PySem.W.mg_of X G a3⟩
  have F_fraction := v2 (st := M8) l4 c4 k4
  have b_fraction := F_fraction.binds (ps := ["top", "bottom"]) fun _ _ _ _ _ _ us hl => match us, hl with | [_, _], _ => rfl
  have d_fraction : Df K mg "fraction" M8 ["top", "bottom"] f4 := ⟨⟨_, F_fraction, b_fraction⟩, PySem.W.mg_of X G a4⟩
  have F_cleared := v2 (st := N7) l5 c5 k5
  have b_cleared := F_cleared.binds (ps := ["numbers"]) fun _ _ _ _ _ _ us hl => match us, hl with | [_], _ => rfl
  have d_cleared : Df K mg "cleared" N7 ["numbers"] f5 := ⟨⟨_, F_cleared, b_cleared⟩, PySem.W.mg_of X G a5⟩
  have F_determinant := v2 (st := C9) l6 c6 k6
  have b_determinant := F_determinant.binds (ps := ["table"]) fun _ _ _ _ _ _ us hl => match us, hl with | [_], _ => rfl
  have d_determinant : Df K mg "determinant" C9 ["table"] f6 := ⟨⟨_, F_determinant, b_determinant⟩, PySem.W.mg_of X G a6⟩
  have F_number_at := v2 (st := K8) l7 c7 k7
  have b_number_at := F_number_at.binds (ps := ["p", "power"]) fun _ _ _ _ _ _ us hl => match us, hl with | [_, _], _ => rfl
  have d_number_at : Df K mg "number_at" K8 ["p", "power"] f7 := ⟨⟨_, F_number_at, b_number_at⟩, PySem.W.mg_of X G a7⟩
  have F_steep := v2 (st := U6) l8 c8 k8
  have b_steep := F_steep.binds (ps := ["p"]) fun _ _ _ _ _ _ us hl => match us, hl with | [_], _ => rfl
  have d_steep : Df K mg "steep" U6 ["p"] f8 := ⟨⟨_, F_steep, b_steep⟩, PySem.W.mg_of X G a8⟩
  have F_leads := v2 (st := U8) l9 c9 k9
  have b_leads := F_leads.binds (ps := ["table"]) fun _ _ _ _ _ _ us hl => match us, hl with | [_], _ => rfl
  have d_leads : Df K mg "leads" U8 ["table"] f9 := ⟨⟨_, F_leads, b_leads⟩, PySem.W.mg_of X G a9⟩
  have F_is_whole := v2 (st := M7) l10 c10 k10
  have b_is_whole := F_is_whole.binds (ps := ["thing"]) fun _ _ _ _ _ _ us hl => match us, hl with | [_], _ => rfl
  have d_is_whole : Df K mg "is_whole" M7 ["thing"] f10 := ⟨⟨_, F_is_whole, b_is_whole⟩, PySem.W.mg_of X G a10⟩
  have F_are_places := v2 (st := B5) l11 c11 k11
  have b_are_places := F_are_places.binds (ps := ["thing", "many"]) fun _ _ _ _ _ _ us hl => match us, hl with | [_, _], _ => rfl
  have d_are_places : Df K mg "are_places" B5 ["thing", "many"] f11 := ⟨⟨_, F_are_places, b_are_places⟩, PySem.W.mg_of X G a11⟩
  have F_minor := v2 (st := U7) l12 c12 k12
  have b_minor := F_minor.binds (ps := ["table", "rows", "columns"]) fun _ _ _ _ _ _ us hl => match us, hl with | [_, _, _], _ => rfl
  have d_minor : Df K mg "minor" U7 ["table", "rows", "columns"] f12 := ⟨⟨_, F_minor, b_minor⟩, PySem.W.mg_of X G a12⟩
  have F__law_low := v2 (st := N0) l13 c13 k13
  have b__law_low := F__law_low.binds (ps := ["_law_top", "_law_bottom"]) fun _ _ _ _ _ _ us hl => match us, hl with | [_, _], _ => rfl
  have d__law_low : Df K mg "_law_low" N0 ["_law_top", "_law_bottom"] f13 := ⟨⟨_, F__law_low, b__law_low⟩, PySem.W.mg_of X G a13⟩
  have F__law_urn := v2 (st := M9) l14 c14 k14
  have b__law_urn := F__law_urn.binds (ps := ["_law_script", "_law_at"]) fun _ _ _ _ _ _ us hl => match us, hl with | [_, _], _ => rfl
  have d__law_urn : Df K mg "_law_urn" M9 ["_law_script", "_law_at"] f14 := ⟨⟨_, F__law_urn, b__law_urn⟩, PySem.W.mg_of X G a14⟩
  have F__law_draw := v2 (st := L6) l15 c15 k15
  have b__law_draw := F__law_draw.binds (ps := ["_law_urn_here", "_law_many"]) fun _ _ _ _ _ _ us hl => match us, hl with | [_, _], _ => rfl
  have d__law_draw : Df K mg "_law_draw" L6 ["_law_urn_here", "_law_many"] f15 := ⟨⟨_, F__law_draw, b__law_draw⟩, PySem.W.mg_of X G a15⟩
  have F__law_kind := v2 (st := L5) l16 c16 k16
  have b__law_kind := F__law_kind.binds (ps := ["_law_urn_here"]) fun _ _ _ _ _ _ us hl => match us, hl with | [_], _ => rfl
  have d__law_kind : Df K mg "_law_kind" L5 ["_law_urn_here"] f16 := ⟨⟨_, F__law_kind, b__law_kind⟩, PySem.W.mg_of X G a16⟩
  have F__law_number := v2 (st := D9) l17 c17 k17
  have b__law_number := F__law_number.binds (ps := ["_law_urn_here", "_law_kind_here"]) fun _ _ _ _ _ _ us hl => match us, hl with | [_, _], _ => rfl
  have d__law_number : Df K mg "_law_number" D9 ["_law_urn_here", "_law_kind_here"] f17 := ⟨⟨_, F__law_number, b__law_number⟩, PySem.W.mg_of X G a17⟩
  have F__law_whole := v2 (st := F5) l18 c18 k18
  have b__law_whole := F__law_whole.binds (ps := ["_law_thing"]) fun _ _ _ _ _ _ us hl => match us, hl with | [_], _ => rfl
  have d__law_whole : Df K mg "_law_whole" F5 ["_law_thing"] f18 := ⟨⟨_, F__law_whole, b__law_whole⟩, PySem.W.mg_of X G a18⟩
  have F__law_is_number := v2 (st := A1) l19 c19 k19
  have b__law_is_number := F__law_is_number.binds (ps := ["_law_thing"]) fun _ _ _ _ _ _ us hl => match us, hl with | [_], _ => rfl
  have d__law_is_number : Df K mg "_law_is_number" A1 ["_law_thing"] f19 := ⟨⟨_, F__law_is_number, b__law_is_number⟩, PySem.W.mg_of X G a19⟩
  have F__law_other := v2 (st := F8) l20 c20 k20
  have b__law_other := F__law_other.binds (ps := ["_law_urn_here", "_law_kind_here"]) fun _ _ _ _ _ _ us hl => match us, hl with | [_, _], _ => rfl
  have d__law_other : Df K mg "_law_other" F8 ["_law_urn_here", "_law_kind_here"] f20 := ⟨⟨_, F__law_other, b__law_other⟩, PySem.W.mg_of X G a20⟩
  have F__law_times := v2 (st := F7) l21 c21 k21
  have b__law_times := F__law_times.binds (ps := ["_law_one", "_law_other_here"]) fun _ _ _ _ _ _ us hl => match us, hl with | [_, _], _ => rfl
  have d__law_times : Df K mg "_law_times" F7 ["_law_one", "_law_other_here"] f21 := ⟨⟨_, F__law_times, b__law_times⟩, PySem.W.mg_of X G a21⟩
  have F__law_less := v2 (st := L4) l22 c22 k22
  have b__law_less := F__law_less.binds (ps := ["_law_one", "_law_other_here"]) fun _ _ _ _ _ _ us hl => match us, hl with | [_, _], _ => rfl
  have d__law_less : Df K mg "_law_less" L4 ["_law_one", "_law_other_here"] f22 := ⟨⟨_, F__law_less, b__law_less⟩, PySem.W.mg_of X G a22⟩
  have F__law_over := v2 (st := K9) l23 c23 k23
  have b__law_over := F__law_over.binds (ps := ["_law_one", "_law_other_here"]) fun _ _ _ _ _ _ us hl => match us, hl with | [_, _], _ => rfl
  have d__law_over : Df K mg "_law_over" K9 ["_law_one", "_law_other_here"] f23 := ⟨⟨_, F__law_over, b__law_over⟩, PySem.W.mg_of X G a23⟩
  have F__law_det := v2 (st := E1) l24 c24 k24
  have b__law_det := F__law_det.binds (ps := ["_law_table"]) fun _ _ _ _ _ _ us hl => match us, hl with | [_], _ => rfl
  have d__law_det : Df K mg "_law_det" E1 ["_law_table"] f24 := ⟨⟨_, F__law_det, b__law_det⟩, PySem.W.mg_of X G a24⟩
  have F__law_which := v2 (st := F6) l25 c25 k25
  have b__law_which := F__law_which.binds (ps := ["_law_e"]) fun _ _ _ _ _ _ us hl => match us, hl with | [_], _ => rfl
  have d__law_which : Df K mg "_law_which" F6 ["_law_e"] f25 := ⟨⟨_, F__law_which, b__law_which⟩, PySem.W.mg_of X G a25⟩
  have F__law_places := v2 (st := D1) l26 c26 k26
  have b__law_places := F__law_places.binds (ps := ["_law_urn_here", "_law_n", "_law_many"]) fun _ _ _ _ _ _ us hl => match us, hl with | [_, _, _], _ => rfl
  have d__law_places : Df K mg "_law_places" D1 ["_law_urn_here", "_law_n", "_law_many"] f26 := ⟨⟨_, F__law_places, b__law_places⟩, PySem.W.mg_of X G a26⟩
  have F__law_is_table := v2 (st := y9) l27 c27 k27
  have b__law_is_table := F__law_is_table.binds (ps := ["_law_thing", "_law_n"]) fun _ _ _ _ _ _ us hl => match us, hl with | [_, _], _ => rfl
  have d__law_is_table : Df K mg "_law_is_table" y9 ["_law_thing", "_law_n"] f27 := ⟨⟨_, F__law_is_table, b__law_is_table⟩, PySem.W.mg_of X G a27⟩
  have F__law_steep_said := v2 (st := w9) l28 c28 k28
  have b__law_steep_said := F__law_steep_said.binds (ps := ["_law_p"]) fun _ _ _ _ _ _ us hl => match us, hl with | [_], _ => rfl
  have d__law_steep_said : Df K mg "_law_steep_said" w9 ["_law_p"] f28 := ⟨⟨_, F__law_steep_said, b__law_steep_said⟩, PySem.W.mg_of X G a28⟩
  have F__law_minor_said := v2 (st := x8) l29 c29 k29
  have b__law_minor_said := F__law_minor_said.binds (ps := ["_law_table", "_law_rows", "_law_columns"]) fun _ _ _ _ _ _ us hl => match us, hl with | [_, _, _], _ => rfl
  have d__law_minor_said : Df K mg "_law_minor_said" x8 ["_law_table", "_law_rows", "_law_columns"] f29 := ⟨⟨_, F__law_minor_said, b__law_minor_said⟩, PySem.W.mg_of X G a29⟩
  have F__law_drawn_table := v2 (st := v1) l30 c30 k30
  have b__law_drawn_table := F__law_drawn_table.binds (ps := ["_law_urn_here", "_law_kind_here", "_law_n"]) fun _ _ _ _ _ _ us hl => match us, hl with | [_, _, _], _ => rfl
  have d__law_drawn_table : Df K mg "_law_drawn_table" v1 ["_law_urn_here", "_law_kind_here", "_law_n"] f30 := ⟨⟨_, F__law_drawn_table, b__law_drawn_table⟩, PySem.W.mg_of X G a30⟩
  have F__law_steep_right := v2 (st := t4) l31 c31 k31
  have b__law_steep_right := F__law_steep_right.binds (ps := ["_law_urn_here"]) fun _ _ _ _ _ _ us hl => match us, hl with | [_], _ => rfl
  have d__law_steep_right : Df K mg "_law_steep_right" t4 ["_law_urn_here"] f31 := ⟨⟨_, F__law_steep_right, b__law_steep_right⟩, PySem.W.mg_of X G a31⟩
  have F__law_bad_places := v2 (st := x9) l32 c32 k32
  have b__law_bad_places := F__law_bad_places.binds (ps := ["_law_urn_here", "_law_some", "_law_n"]) fun _ _ _ _ _ _ us hl => match us, hl with | [_, _, _], _ => rfl
  have d__law_bad_places : Df K mg "_law_bad_places" x9 ["_law_urn_here", "_law_some", "_law_n"] f32 := ⟨⟨_, F__law_bad_places, b__law_bad_places⟩, PySem.W.mg_of X G a32⟩
  have F__law_minors_right := v2 (st := p6) l33 c33 k33
  have b__law_minors_right := F__law_minors_right.binds (ps := ["_law_urn_here"]) fun _ _ _ _ _ _ us hl => match us, hl with | [_], _ => rfl
  have d__law_minors_right : Df K mg "_law_minors_right" p6 ["_law_urn_here"] f33 := ⟨⟨_, F__law_minors_right, b__law_minors_right⟩, PySem.W.mg_of X G a33⟩
  have F_law := v2 (st := af3) l34 c34 k34
  have b_law := F_law.binds (ps := ["_law_script"]) fun _ _ _ _ _ _ us hl => match us, hl with | [_], _ => rfl
  have d_law : Df K mg "law" af3 ["_law_script"] fa := ⟨⟨_, F_law, b_law⟩, PySem.W.mg_of X G a34⟩
  have n_ValueError := PySem.W.mg_none_of X G z_ValueError
  have n_abs := PySem.W.mg_none_of X G z_abs
  have n_all := PySem.W.mg_none_of X G z_all
  have n_bool := PySem.W.mg_none_of X G z_bool
  have n_enumerate := PySem.W.mg_none_of X G z_enumerate
  have n_int := PySem.W.mg_none_of X G z_int
  have n_isinstance := PySem.W.mg_none_of X G z_isinstance
  have n_len := PySem.W.mg_none_of X G z_len
  have n_list := PySem.W.mg_none_of X G z_list
  have n_max := PySem.W.mg_none_of X G z_max
  have n_min := PySem.W.mg_none_of X G z_min
  have n_range := PySem.W.mg_none_of X G z_range
  have n_tuple := PySem.W.mg_none_of X G z_tuple
  have n_zip := PySem.W.mg_none_of X G z_zip
  have c_SHORT := PySem.W.mg_of X G y_SHORT
  have c_NOUGHT := PySem.W.mg_of X G y_NOUGHT
  have t_NOUGHT : ∀ H : Hp, SqT K H A_NOUGHT [.int 0, .int 1] := fun H => .inr ⟨_, _, _, u_NOUGHT, rfl, rfl, (show 2 ≤ sizeLine by decide), (.cons ⟨_, rfl⟩ (.cons ⟨_, rfl⟩ .nil))⟩
  have X_NoFraction : ExT K mg "NoFraction" C_NoFraction := ⟨PySem.W.mg_of X G m_NoFraction, ⟨x_NoFraction⟩, e_NoFraction⟩
  have X_NoPolynomial : ExT K mg "NoPolynomial" C_NoPolynomial := ⟨PySem.W.mg_of X G m_NoPolynomial, ⟨x_NoPolynomial⟩, e_NoPolynomial⟩
  have X_NoStretch : ExT K mg "NoStretch" C_NoStretch := ⟨PySem.W.mg_of X G m_NoStretch, ⟨x_NoStretch⟩, e_NoStretch⟩
  have X_NoRow : ExT K mg "NoRow" C_NoRow := ⟨PySem.W.mg_of X G m_NoRow, ⟨x_NoRow⟩, e_NoRow⟩
  have X_NoPair : ExT K mg "NoPair" C_NoPair := ⟨PySem.W.mg_of X G m_NoPair, ⟨x_NoPair⟩, e_NoPair⟩
  have X_NoBack : ExT K mg "NoBack" C_NoBack := ⟨PySem.W.mg_of X G m_NoBack, ⟨x_NoBack⟩, e_NoBack⟩
  have X_NoForm : ExT K mg "NoForm" C_NoForm := ⟨PySem.W.mg_of X G m_NoForm, ⟨x_NoForm⟩, e_NoForm⟩
  have X_NoParts : ExT K mg "NoParts" C_NoParts := ⟨PySem.W.mg_of X G m_NoParts, ⟨x_NoParts⟩, e_NoParts⟩
  have X_NoDegree : ExT K mg "NoDegree" C_NoDegree := ⟨PySem.W.mg_of X G m_NoDegree, ⟨x_NoDegree⟩, e_NoDegree⟩
  have X_NoSteps : ExT K mg "NoSteps" C_NoSteps := ⟨PySem.W.mg_of X G m_NoSteps, ⟨x_NoSteps⟩, e_NoSteps⟩
  have X_NoBox : ExT K mg "NoBox" C_NoBox := ⟨PySem.W.mg_of X G m_NoBox, ⟨x_NoBox⟩, e_NoBox⟩
  have X_NoGain : ExT K mg "NoGain" C_NoGain := ⟨PySem.W.mg_of X G m_NoGain, ⟨x_NoGain⟩, e_NoGain⟩
  have X_NoText : ExT K mg "NoText" C_NoText := ⟨PySem.W.mg_of X G m_NoText, ⟨x_NoText⟩, e_NoText⟩
  have X_NoLine : ExT K mg "NoLine" C_NoLine := ⟨PySem.W.mg_of X G m_NoLine, ⟨x_NoLine⟩, e_NoLine⟩
  have X_NoName : ExT K mg "NoName" C_NoName := ⟨PySem.W.mg_of X G m_NoName, ⟨x_NoName⟩, e_NoName⟩
  have X_NoDeed : ExT K mg "NoDeed" C_NoDeed := ⟨PySem.W.mg_of X G m_NoDeed, ⟨x_NoDeed⟩, e_NoDeed⟩
  have X_RestError : ExT K mg "RestError" C_RestError := ⟨PySem.W.mg_of X G m_RestError, ⟨x_RestError⟩, e_RestError⟩
  have XX : XTx K mg (⟨C_NoFraction, C_NoPolynomial, C_NoStretch, C_NoRow, C_NoPair, C_NoBack, C_NoForm, C_NoParts, C_NoDegree, C_NoSteps, C_NoBox, C_NoGain, C_NoText, C_NoLine, C_NoName, C_NoDeed, C_RestError⟩ : CAd) := ⟨X_NoFraction, X_NoPolynomial, X_NoStretch, X_NoRow, X_NoPair, X_NoBack, X_NoForm, X_NoParts, X_NoDegree, X_NoSteps, X_NoBox, X_NoGain, X_NoText, X_NoLine, X_NoName, X_NoDeed⟩
  refine ⟨PySem.W.fnOf "law" "law" (m8 af3) (j3 af3) (d3 af3) .none kV34 dc34 pm34 an34 cd34 ct34, fun s v => .of_eq rfl, fun base _ _ => ?_⟩
  have G_with_lead := az1 (P := l.prog) (w := w) (base := base) d_with_lead n_len n_range
  have G_cleaned := aH3 (P := l.prog) (w := w) (base := base) d_cleaned n_zip
  have G_eliminated := as9 (P := l.prog) (w := w) (base := base) d_eliminated G_with_lead G_cleaned n_len n_range n_enumerate
  have G_common_divisor := ah5 (P := l.prog) (w := w) (base := base) d_common_divisor ⟨_, c_SHORT⟩ n_abs
  have G_fraction := aD0 (P := l.prog) (w := w) (base := base) d_fraction G_common_divisor
  have G_cleared := aH2 (P := l.prog) (w := w) (base := base) d_cleared G_common_divisor
  have G_determinant := ap9 (P := l.prog) (w := w) (base := base) d_determinant G_cleared G_eliminated G_fraction c_NOUGHT t_NOUGHT n_len
  have G_number_at := az2 (P := l.prog) (w := w) (base := base) d_number_at c_NOUGHT t_NOUGHT n_len
  have G_steep := aR9 (P := l.prog) (w := w) (base := base) d_steep G_number_at X_NoPolynomial n_len n_range
  have G_leads := aS1 (P := l.prog) (w := w) (base := base) d_leads G_determinant n_len n_range
  have G_is_whole := aC9 (P := l.prog) (w := w) (base := base) d_is_whole n_isinstance n_int n_bool
  have G_are_places := at3 (P := l.prog) (w := w) (base := base) d_are_places G_is_whole n_isinstance n_tuple n_all n_zip
  have G_minor := aS0 (P := l.prog) (w := w) (base := base) d_minor G_are_places G_determinant X_NoPair n_len
  have G__law_low := aD2 (P := l.prog) (w := w) (base := base) d__law_low n_abs
  have G__law_urn := aD1 (P := l.prog) (w := w) (base := base) d__law_urn n_len n_abs
  have G__law_draw := az6 (P := l.prog) (w := w) (base := base) d__law_draw
  have G__law_kind := az5 (P := l.prog) (w := w) (base := base) d__law_kind G__law_draw
  have G__law_whole := at4 (P := l.prog) (w := w) (base := base) d__law_whole n_isinstance n_int n_bool
  have G__law_is_number := ah6 (P := l.prog) (w := w) (base := base) d__law_is_number G__law_whole G__law_low n_isinstance n_tuple n_len
  have G__law_times := at6 (P := l.prog) (w := w) (base := base) d__law_times G__law_low
  have G__law_less := az4 (P := l.prog) (w := w) (base := base) d__law_less G__law_low
  have G__law_over := az3 (P := l.prog) (w := w) (base := base) d__law_over G__law_low
  have G__law_det := aD3 (P := l.prog) (w := w) (base := base) d__law_det G__law_times G__law_less G__law_over n_len n_range n_list n_zip
  have G__law_which := at5 (P := l.prog) (w := w) (base := base) d__law_which XX n_isinstance n_ValueError
  have G__law_places := aq0 (P := l.prog) (w := w) (base := base) d__law_places G__law_draw n_len n_range n_list n_tuple
  have G__law_is_table := aj6 (P := l.prog) (w := w) (base := base) d__law_is_table G__law_is_number n_isinstance n_list n_len n_all
  have G__law_steep_said := af9 (P := l.prog) (w := w) (base := base) d__law_steep_said G_steep G__law_which X_RestError kt_NoPolynomial
  have G__law_minor_said := ag0 (P := l.prog) (w := w) (base := base) d__law_minor_said G_minor G__law_which X_RestError kt_NoPair
  have GD__law_number := al9 (P := l.prog) (w := w) (base := base) d__law_number G__law_draw G__law_low n_int
  have GD__law_other := aq2 (P := l.prog) (w := w) (base := base) d__law_other G__law_draw GD__law_number
  have G__law_drawn_table := ae9 (P := l.prog) (w := w) (base := base) d__law_drawn_table G__law_draw GD__law_number n_range n_int
  have G__law_steep_right := ae8 (P := l.prog) (w := w) (base := base) d__law_steep_right G__law_draw G__law_kind GD__law_number GD__law_other G__law_steep_said G__law_is_table n_len n_range n_list n_int
  have G__law_bad_places := ag1 (P := l.prog) (w := w) (base := base) d__law_bad_places G__law_draw n_len n_list
  have G__law_minors_right := ac5 (P := l.prog) (w := w) (base := base) d__law_minors_right G__law_draw G__law_drawn_table G__law_places G__law_det G__law_minor_said G__law_is_number G_leads G__law_bad_places n_len n_range n_list n_tuple
  exact bd2 (P := l.prog) (w := w) (base := base) F_law G__law_urn G__law_steep_right G__law_minors_right G__law_steep_said n_range n_max n_min n_len
end
theorem bh5 {l : PySem.W.OpenLaw} {q : Program} {loose : List Str} {XP : (Str → Option Value) → Heap → Prop} {YP : World → Heap → Prop} {d : DefRec} {K : Params → PySem.W.Frag} (hn : l.most = some 63) (hdf : d.params.defaults = [])
    (hY : ∀ (w : World) (h : Heap), YP w h → (K w.params).In h)
    (F : ∀ (w : World) (mg : Str → Option Value) (fa : Addr) (h : Heap), (K w.params).In h → h.Ns mainGlobals mg → mg d.name = some (.ref fa) →
      ∃ fd : FuncData, (∀ (s : Shared) (u : Value), BindsTo s fd ⟨[u], []⟩ [("_law_script", u)]) ∧ ∀ base : Heap, (K w.params).In base → base.Ns mainGlobals mg → ai6 l.prog w (K w.params) mg base CX0 (6 + 1) fa fd ["_law_script"] (aJ4 (K w.params))) :
    PySem.W.WalkO q loose XP YP l.row.toRowW d [] (fun f vs => PySem.call f vs) :=
  L2.aI9 (n := 63) (k := (6 + 1)) (x := "_law_script") (CX := fun _ => CX0) (sp := fun w => aJ4 (K w.params)) hn (by decide) hdf ⟨rfl, by decide, by decide⟩ hY F (fun _ _ a ns hl _ hS => ⟨a, ns, rfl, hS, hl, fun _ => rfl⟩) fun _ _ _ _ _ z => z
end R
open PySem PySem.W PyProof.Rows
set_option maxRecDepth 100000 in
set_option maxHeartbeats 0 in
theorem PySem.Challenge.cw_restward_k28_steep_tables_holds : PySem.Challenge.rw_restward_k28_steep_tables.Holds := by
  w_on; o_law; k_head; (case hw => w_witness2)
  k_fill
  refine R.bh5 (l := PySem.Challenge.rw_restward_k28_steep_tables) rfl rfl (fun w h Y => PySem.W.kIn_of Y) ?F
  case F =>
    intro w mg fa h KX G hmg
    refine' R.bf0 KX G hmg ?a0 ?l0 ?c0 ?k0 ?a1 ?l1 ?c1 ?k1 ?a2 ?l2 ?c2 ?k2 ?a3 ?l3 ?c3 ?k3 ?a4 ?l4 ?c4 ?k4 ?a5 ?l5 ?c5 ?k5 ?a6 ?l6 ?c6 ?k6 ?a7 ?l7 ?c7 ?k7 ?a8 ?l8 ?c8 ?k8 ?a9 ?l9 ?c9 ?k9 ?a10 ?l10 ?c10 ?k10 ?a11 ?l11 ?c11 ?k11 ?a12 ?l12 ?c12 ?k12 ?a13 ?l13 ?c13 ?k13 ?a14 ?l14 ?c14 ?k14 ?a15 ?l15 ?c15 ?k15 ?a16 ?l16 ?c16 ?k16 ?a17 ?l17 ?c17 ?k17 ?a18 ?l18 ?c18 ?k18 ?a19 ?l19 ?c19 ?k19 ?a20 ?l20 ?c20 ?k20 ?a21 ?l21 ?c21 ?k21 ?a22 ?l22 ?c22 ?k22 ?a23 ?l23 ?c23 ?k23 ?a24 ?l24 ?c24 ?k24 ?a25 ?l25 ?c25 ?k25 ?a26 ?l26 ?c26 ?k26 ?a27 ?l27 ?c27 ?k27 ?a28 ?l28 ?c28 ?k28 ?a29 ?l29 ?c29 ?k29 ?a30 ?l30 ?c30 ?k30 ?a31 ?l31 ?c31 ?k31 ?a32 ?l32 ?c32 ?k32 ?a33 ?l33 ?c33 ?k33 ?a34 ?l34 ?c34 ?k34 ?z_ValueError ?z_abs ?z_all ?z_bool ?z_enumerate ?z_int ?z_isinstance ?z_len ?z_list ?z_max ?z_min ?z_range ?z_tuple ?z_zip ?y_SHORT ?y_NOUGHT ?u_NOUGHT ?m_NoFraction ?x_NoFraction ?e_NoFraction ?m_NoPolynomial ?x_NoPolynomial ?e_NoPolynomial ?m_NoStretch ?x_NoStretch ?e_NoStretch ?m_NoRow ?x_NoRow ?e_NoRow ?m_NoPair ?x_NoPair ?e_NoPair ?m_NoBack ?x_NoBack ?e_NoBack ?m_NoForm ?x_NoForm ?e_NoForm ?m_NoParts ?x_NoParts ?e_NoParts ?m_NoDegree ?x_NoDegree ?e_NoDegree ?m_NoSteps ?x_NoSteps ?e_NoSteps ?m_NoBox ?x_NoBox ?e_NoBox ?m_NoGain ?x_NoGain ?e_NoGain ?m_NoText ?x_NoText ?e_NoText ?m_NoLine ?x_NoLine ?e_NoLine ?m_NoName ?x_NoName ?e_NoName ?m_NoDeed ?x_NoDeed ?e_NoDeed ?m_RestError ?x_RestError ?e_RestError ?kt_NoPolynomial ?kt_NoPair
    (case a0 => k_is); (case l0 => k_is); (case c0 => k_is); (case k0 => k_is)
    (case a1 => k_is); (case l1 => k_is); (case c1 => k_is); (case k1 => k_is)
    (case a2 => k_is); (case l2 => k_is); (case c2 => k_is); (case k2 => k_is)
    (case a3 => k_is); (case l3 => k_is); (case c3 => k_is); (case k3 => k_is)
    (case a4 => k_is); (case l4 => k_is); (case c4 => k_is); (case k4 => k_is)
    (case a5 => k_is); (case l5 => k_is); (case c5 => k_is); (case k5 => k_is)
    (case a6 => k_is); (case l6 => k_is); (case c6 => k_is); (case k6 => k_is)
    (case a7 => k_is); (case l7 => k_is); (case c7 => k_is); (case k7 => k_is)
    (case a8 => k_is); (case l8 => k_is); (case c8 => k_is); (case k8 => k_is)
    (case a9 => k_is); (case l9 => k_is); (case c9 => k_is); (case k9 => k_is)
    (case a10 => k_is); (case l10 => k_is); (case c10 => k_is); (case k10 => k_is)
    (case a11 => k_is); (case l11 => k_is); (case c11 => k_is); (case k11 => k_is)
    (case a12 => k_is); (case l12 => k_is); (case c12 => k_is); (case k12 => k_is)
    (case a13 => k_is); (case l13 => k_is); (case c13 => k_is); (case k13 => k_is)
    (case a14 => k_is); (case l14 => k_is); (case c14 => k_is); (case k14 => k_is)
    (case a15 => k_is); (case l15 => k_is); (case c15 => k_is); (case k15 => k_is)
    (case a16 => k_is); (case l16 => k_is); (case c16 => k_is); (case k16 => k_is)
    (case a17 => k_is); (case l17 => k_is); (case c17 => k_is); (case k17 => k_is)
    (case a18 => k_is); (case l18 => k_is); (case c18 => k_is); (case k18 => k_is)
    (case a19 => k_is); (case l19 => k_is); (case c19 => k_is); (case k19 => k_is)
    (case a20 => k_is); (case l20 => k_is); (case c20 => k_is); (case k20 => k_is)
    (case a21 => k_is); (case l21 => k_is); (case c21 => k_is); (case k21 => k_is)
    (case a22 => k_is); (case l22 => k_is); (case c22 => k_is); (case k22 => k_is)
    (case a23 => k_is); (case l23 => k_is); (case c23 => k_is); (case k23 => k_is)
    (case a24 => k_is); (case l24 => k_is); (case c24 => k_is); (case k24 => k_is)
    (case a25 => k_is); (case l25 => k_is); (case c25 => k_is); (case k25 => k_is)
    (case a26 => k_is); (case l26 => k_is); (case c26 => k_is); (case k26 => k_is)
    (case a27 => k_is); (case l27 => k_is); (case c27 => k_is); (case k27 => k_is)
    (case a28 => k_is); (case l28 => k_is); (case c28 => k_is); (case k28 => k_is)
    (case a29 => k_is); (case l29 => k_is); (case c29 => k_is); (case k29 => k_is)
    (case a30 => k_is); (case l30 => k_is); (case c30 => k_is); (case k30 => k_is)
    (case a31 => k_is); (case l31 => k_is); (case c31 => k_is); (case k31 => k_is)
    (case a32 => k_is); (case l32 => k_is); (case c32 => k_is); (case k32 => k_is)
    (case a33 => k_is); (case l33 => k_is); (case c33 => k_is); (case k33 => k_is)
    (case a34 => k_is); (case l34 => k_is); (case c34 => k_is); (case k34 => k_is)
    (case z_ValueError => k_is)
    (case z_abs => k_is)
    (case z_all => k_is)
    (case z_bool => k_is)
    (case z_enumerate => k_is)
    (case z_int => k_is)
    (case z_isinstance => k_is)
    (case z_len => k_is)
    (case z_list => k_is)
    (case z_max => k_is)
    (case z_min => k_is)
    (case z_range => k_is)
    (case z_tuple => k_is)
    (case z_zip => k_is)
    (case y_SHORT => k_is)
    (case y_NOUGHT => k_is); (case u_NOUGHT => k_is)
    (case m_NoFraction => k_is); (case x_NoFraction => k_exc); (case e_NoFraction => (refine ⟨?_, ?_, ?_, ?_, ?_, ?_⟩ <;> first | k_is | kernel_rfl))
    (case m_NoPolynomial => k_is); (case x_NoPolynomial => k_exc); (case e_NoPolynomial => (refine ⟨?_, ?_, ?_, ?_, ?_, ?_⟩ <;> first | k_is | kernel_rfl))
    (case m_NoStretch => k_is); (case x_NoStretch => k_exc); (case e_NoStretch => (refine ⟨?_, ?_, ?_, ?_, ?_, ?_⟩ <;> first | k_is | kernel_rfl))
    (case m_NoRow => k_is); (case x_NoRow => k_exc); (case e_NoRow => (refine ⟨?_, ?_, ?_, ?_, ?_, ?_⟩ <;> first | k_is | kernel_rfl))
    (case m_NoPair => k_is); (case x_NoPair => k_exc); (case e_NoPair => (refine ⟨?_, ?_, ?_, ?_, ?_, ?_⟩ <;> first | k_is | kernel_rfl))
    (case m_NoBack => k_is); (case x_NoBack => k_exc); (case e_NoBack => (refine ⟨?_, ?_, ?_, ?_, ?_, ?_⟩ <;> first | k_is | kernel_rfl))
    (case m_NoForm => k_is); (case x_NoForm => k_exc); (case e_NoForm => (refine ⟨?_, ?_, ?_, ?_, ?_, ?_⟩ <;> first | k_is | kernel_rfl))
    (case m_NoParts => k_is); (case x_NoParts => k_exc); (case e_NoParts => (refine ⟨?_, ?_, ?_, ?_, ?_, ?_⟩ <;> first | k_is | kernel_rfl))
    (case m_NoDegree => k_is); (case x_NoDegree => k_exc); (case e_NoDegree => (refine ⟨?_, ?_, ?_, ?_, ?_, ?_⟩ <;> first | k_is | kernel_rfl))
    (case m_NoSteps => k_is); (case x_NoSteps => k_exc); (case e_NoSteps => (refine ⟨?_, ?_, ?_, ?_, ?_, ?_⟩ <;> first | k_is | kernel_rfl))
    (case m_NoBox => k_is); (case x_NoBox => k_exc); (case e_NoBox => (refine ⟨?_, ?_, ?_, ?_, ?_, ?_⟩ <;> first | k_is | kernel_rfl))
    (case m_NoGain => k_is); (case x_NoGain => k_exc); (case e_NoGain => (refine ⟨?_, ?_, ?_, ?_, ?_, ?_⟩ <;> first | k_is | kernel_rfl))
    (case m_NoText => k_is); (case x_NoText => k_exc); (case e_NoText => (refine ⟨?_, ?_, ?_, ?_, ?_, ?_⟩ <;> first | k_is | kernel_rfl))
    (case m_NoLine => k_is); (case x_NoLine => k_exc); (case e_NoLine => (refine ⟨?_, ?_, ?_, ?_, ?_, ?_⟩ <;> first | k_is | kernel_rfl))
    (case m_NoName => k_is); (case x_NoName => k_exc); (case e_NoName => (refine ⟨?_, ?_, ?_, ?_, ?_, ?_⟩ <;> first | k_is | kernel_rfl))
    (case m_NoDeed => k_is); (case x_NoDeed => k_exc); (case e_NoDeed => (refine ⟨?_, ?_, ?_, ?_, ?_, ?_⟩ <;> first | k_is | kernel_rfl))
    (case m_RestError => k_is); (case x_RestError => k_exc); (case e_RestError => (refine ⟨?_, ?_, ?_, ?_, ?_, ?_⟩ <;> first | k_is | kernel_rfl))
    (case kt_NoPolynomial => (refine ⟨?_, ?_, ?_, ?_, ?_, ?_, ?_, ?_, ?_, ?_, ?_, ?_, ?_, ?_, ?_, ?_, ?_, ?_, ?_⟩ <;> first | kernel_rfl | (refine ⟨?_, ?_, ?_, ?_, ?_, ?_⟩ <;> first | k_is | kernel_rfl)))
    (case kt_NoPair => (refine ⟨?_, ?_, ?_, ?_, ?_, ?_, ?_, ?_, ?_, ?_, ?_, ?_, ?_, ?_, ?_, ?_, ?_, ?_, ?_⟩ <;> first | kernel_rfl | (refine ⟨?_, ?_, ?_, ?_, ?_, ?_⟩ <;> first | k_is | kernel_rfl)))
