import PyProof.Rows.All
import Wide.All
import OpenK.AllK
import Wide.FinOn
import PyProof.EqAt
import PyProof.EqKinds
import PyProof.TupleCall
import KE.KTryMore
import KE.KIsNot
import PyProof.MeetsStr
import PyProof.Rows.RuleM_int
import PyProof.CompFree
import PyProof.WalksEnum
import PyProof.EnumMake
import PyProof.NeKinds
import PyProof.ConsumeWalk
import PyProof.CompMap
import PyProof.Rows.EqBoolInt
import KE.IntBitsLaws
import PyProof.ZipIter
import PyProof.Rows.ZipGen
import PyProof.MinMaxWalk
import PyProof.WalkInts
import PyProof.Rows.CallKwBuiltin
import PyProof.CompUse
import KE.KRevIter
import PyProof.Rows.Range3
import PyProof.NsDelKeeps
import PyProof.SumAny
import PyProof.TupleIter
import PyProof.WalksMore
import PySem.Challenge.RW_restward_k14_divisions_undone
set_option Elab.async false
set_option linter.all false
-- CHANGE: your row's module here, as the last of these rows
set_option maxRecDepth 100000
namespace L2
open PySem PySem.Spec PyProof.Rows
abbrev Key := Sum Int Str
def bk6 : Key → Value → Bool
  | .inl k, v => Value.isInt k v
  | .inr x, v => Value.isStrOf x v
def bs7 (w : World) : Key → Int
  | .inl k => hashInt k
  | .inr x => hashStr w x
theorem C7 : ∀ {k : Key} {v : Value}, bk6 k v = true → (∃ i t, k = Sum.inl i ∧ v = Value.int i t) ∨ (∃ x t, k = Sum.inr x ∧ v = Value.str x t)
  | .inl i, v, h => by
    obtain ⟨t, e⟩ := Value.isInt_shape (k := i) (v := v) h
    exact .inl ⟨i, t, rfl, e⟩
  | .inr x, v, h => by
    obtain ⟨t, e⟩ := Value.isStrOf_shape (x := x) (v := v) h
    exact .inr ⟨x, t, rfl, e⟩
theorem bn6 (a b : Int) : decide ((Sum.inl a : Key) = Sum.inl b) = (a == b) := by
  by_cases e : a = b
  · subst e; simp
  · have h : ¬ (Sum.inl a : Key) = Sum.inl b := fun q => e (Sum.inl.inj q)
    rw [decide_eq_false h]
    exact (beq_eq_false_iff_ne.mpr e).symm
theorem bn3 (a b : Str) : decide ((Sum.inr a : Key) = Sum.inr b) = decide (a = b) := by
  by_cases e : a = b
  · subst e; simp
  · have h : ¬ (Sum.inr a : Key) = Sum.inr b := fun q => e (Sum.inr.inj q)
    rw [decide_eq_false h, decide_eq_false e]
theorem bn5 (a : Int) (b : Str) : decide ((Sum.inl a : Key) = Sum.inr b) = false := decide_eq_false (fun q => nomatch q)
theorem bn4 (a : Str) (b : Int) : decide ((Sum.inr a : Key) = Sum.inl b) = false := decide_eq_false (fun q => nomatch q)
def aC7 (prog : Program) (w : World) : PySem.KeyKind prog w Key where
  is := bk6
  hash := bs7 w
  inj := fun v a b ha hb => by
    rcases C7 ha with ⟨i, t, rfl, rfl⟩ | ⟨x, t, rfl, rfl⟩
    · rcases C7 hb with ⟨j, u, rfl, e⟩ | ⟨y, u, rfl, e⟩
      · injection e with e1 _; rw [e1]
      · exact nomatch e
    · rcases C7 hb with ⟨j, u, rfl, e⟩ | ⟨y, u, rfl, e⟩
      · exact nomatch e
      · injection e with e1 _; rw [e1]
  byValue := fun k v h => by
    rcases C7 h with ⟨i, t, rfl, rfl⟩ | ⟨x, t, rfl, rfl⟩ <;> rfl
  pyHash := fun hv h => by
    rcases C7 hv with ⟨i, t, rfl, rfl⟩ | ⟨x, t, rfl, rfl⟩
    · exact wpAny_pyHash_int h
    · exact wpAny_pyHash_str h
  eqBool := fun hu hv h => by
    rcases C7 hu with ⟨i, t, rfl, rfl⟩ | ⟨x, t, rfl, rfl⟩
    · rcases C7 hv with ⟨j, u, rfl, rfl⟩ | ⟨y, u, rfl, rfl⟩
      · rw [bn6] at h; exact wpAny_eqBool_int h
      · rw [bn5] at h; exact SeqAt.EqAt.int_str i t y u _ _ _ _ h
    · rcases C7 hv with ⟨j, u, rfl, rfl⟩ | ⟨y, u, rfl, rfl⟩
      · rw [bn4] at h; exact SeqAt.EqAt.str_int x t j u _ _ _ _ h
      · rw [bn3] at h; exact wpAny_eqBool_str h
  «strs» := fun k x t v h => by
    rcases C7 h with ⟨i, u, rfl, e⟩ | ⟨y, u, rfl, e⟩
    · exact nomatch e
    · injection e with e1 _
      subst e1
      cases v <;> rfl
inductive V where
  | non | bl (b : Bool) | int (i : Int) | str (x : Str) | byt (b : Array UInt8) | flt (b : UInt64) | ref (a : Addr) | ty (n : String)
  deriving DecidableEq
def z7 : V → Value → Prop
  | .non, u => u = Value.none
  | .bl b, u => u = Value.bool b
  | .int i, u => ∃ t, u = Value.int i t
  | .str x, u => ∃ t, u = Value.str x t
  | .byt b, u => ∃ t, u = Value.bytes b t
  | .flt b, u => ∃ t, u = Value.float b t
  | .ref a, u => u = Value.ref a
  | .ty n, u => u = Value.type n
abbrev m8 : List V → List Value → Prop := Paired z7
theorem m8.length {xs : List V} {us : List Value} (r : m8 xs us) : xs.length = us.length := Paired.length r
theorem m8.get : ∀ {xs : List V} {us : List Value} {i : Nat} {x : V}, m8 xs us → xs[i]? = some x → ∃ u, us[i]? = some u ∧ z7 x u
  | _, _, _, _, .nil, e => by simp at e
  | _, _, 0, _, .cons r _, e => by simp at e; subst e; exact ⟨_, rfl, r⟩
  | _, _, i + 1, x, .cons _ t, e => by
    obtain ⟨u, h1, h2⟩ := m8.get (i := i) (x := x) t (by simpa using e)
    exact ⟨u, by simpa using h1, h2⟩
theorem m8.set {x : V} {u : Value} (r : z7 x u) : ∀ {xs : List V} {us : List Value} (i : Nat), m8 xs us → m8 (xs.set i x) (us.set i u)
  | _, _, _, .nil => .nil
  | _, _, 0, .cons _ t => .cons r t
  | _, _, i + 1, .cons q t => .cons q (m8.set r i t)
theorem m8.append : ∀ {xs ys : List V} {us ws : List Value}, m8 xs us → m8 ys ws → m8 (xs ++ ys) (us ++ ws)
  | _, _, _, _, .nil, s => s
  | _, _, _, _, .cons r t, s => .cons r (m8.append t s)
theorem m8.take : ∀ {xs : List V} {us : List Value} (n : Nat), m8 xs us → m8 (xs.take n) (us.take n)
  | _, _, 0, _ => .nil
  | _, _, _ + 1, .nil => .nil
  | _, _, n + 1, .cons r t => .cons r (m8.take n t)
theorem m8.drop : ∀ {xs : List V} {us : List Value} (n : Nat), m8 xs us → m8 (xs.drop n) (us.drop n)
  | _, _, 0, r => r
  | _, _, _ + 1, .nil => .nil
  | _, _, n + 1, .cons _ t => m8.drop n t
theorem m8.none_of : ∀ {xs : List V} {us : List Value} {i : Nat}, m8 xs us → xs[i]? = none → us[i]? = none := fun {xs us i} r e => by
  have h1 := r.length
  have h2 : xs.length ≤ i := List.getElem?_eq_none_iff.mp e
  exact List.getElem?_eq_none_iff.mpr (by omega)
def bo6 : Option V → Option Value → Prop
  | some v, some u => z7 v u
  | none, none => True
  | _, _ => False
def KV {κ : Type} : List (κ × V) → List (κ × Value) → Prop := Paired fun (p : κ × V) (q : κ × Value) => p.1 = q.1 ∧ z7 p.2 q.2
def kV : Key → V
  | .inl i => .int i
  | .inr x => .str x
inductive HO where
  /-- a list -/
  | lst (xs : List V)
  /-- a tuple (never changes) -/
  | tup (xs : List V)
  /-- a dict whose keys are ints and texts; one whose keys are tuples of ints and texts (the empty one is both) -/
  | dK (kvs : List (Key × V)) | dT (kvs : List (List Key × V))
  /-- a set of ints: its members, its size -/
  | set (S : Int → Bool) (n : Nat)
  /-- an instance of the class at C, its dict at dx, its attributes -/
  | ins (C dx : Addr) (fs : List (Str × V))
  /-- the dict of the instance at x -/
  | own (x : Addr)
  /-- the dict of an exception -/
  | xd (fs : List (Str × V))
  /-- a bound method, f of x -/
  | met (f x : Addr)
  /-- a range object lo, lo + 1, .. ah6 hi -/
  | rng (lo hi : Int)
  /-- a thing that is known to the object (the script; a dict while a loop walks it): read, never written while it is so -/
  | frz (o : Obj) (u : HO)
  /-- a code object's table -/
  | tbl (ps : Array Value)
  /-- any other thing, by what is true of its one object (a def of one's own: SetO a S n := HO.ext fun h => ..) -/
  | ext (φ : Heap → Prop)
abbrev Hp := Addr → Option HO
def upd (H : Hp) (a : Addr) (o : HO) : Hp := fun b => if b = a then some o else H b
theorem b8 {H : Hp} {a : Addr} {o : HO} : upd H a o a = some o := by unfold upd; rw [if_pos rfl]
theorem i5 {H : Hp} {a b : Addr} {o : HO} (h : b ≠ a) : upd H a o b = H b := by unfold upd; rw [if_neg h]
theorem bk5 {H : Hp} {a b : Addr} {o u : HO} (h : H a = some o) (h' : H b = some u) (d : o ≠ u) : a ≠ b := by
  intro e; subst e; rw [h] at h'; exact d (Option.some.inj h')
theorem g6 {H : Hp} {a b : Addr} {o : HO} (h : H a = some o) (h' : H b = none) : a ≠ b := by
  intro e; subst e; rw [h] at h'; cases h'
section
variable (P : Program) (w : World)
def F9 (H : Hp) (h : Heap) (a : Addr) : HO → Prop
  | .lst xs => xs.length ≤ sizeLine ∧ ∃ (its : List Value) (n : Nat), m8 xs its ∧ h.get? a = some { cls := .type "list", data := .seq its.toArray n }
  | .tup xs => xs.length ≤ sizeLine ∧ ∃ its : List Value, m8 xs its ∧ IsTup h a its.toArray
  | .dK kvs => kvs.length ≤ sizeLine ∧ (a == sysModules) = false ∧ ∃ vs, KV kvs vs ∧ h.DictOf (aC7 P w) a vs
  | .dT kvs => kvs.length ≤ sizeLine ∧ (a == sysModules) = false ∧ ∃ xs : List (List Key × Addr × Value),
      Paired (fun (p : List Key × V) (q : List Key × Addr × Value) => p.1 = q.1 ∧ H q.2.1 = some (.tup (p.1.map kV)) ∧ z7 p.2 q.2.2) kvs xs ∧
      ∃ o es ep, h.get? a = some o ∧ o.ExactDict ∧ o.data = .dict es ep ∧ es.toList = xs.map (entryOfKey (tupleKind (aC7 P w))) ∧ (xs.map (·.1)).Nodup
  | .set S n => h.SetOf (intKind P w) a S n
  | .ins C dx fs => H dx = some (.own a) ∧ fs.length ≤ 1000 ∧ dx ≠ a ∧ h.get? a = some (PySem.W.instObj C dx) ∧
      ∃ mA, h.Ns1 dx mA ∧ (∀ f, bo6 (fs.lookup f) (mA f)) ∧ PySem.Within mA (fs.map (·.1))
  | .own _ => ∃ o, h.get? a = some o
  | .xd fs => ∃ mA, h.Ns1 a mA ∧ ∀ f, bo6 (fs.lookup f) (mA f)
  | .rng lo hi => ∃ t u v, h.get? a = some { cls := .type "range", data := .fields #[.int lo t, .int hi u, .int 1 v] }
  | .frz o u => h.get? a = some o ∧ F9 H h a u
  | .tbl ps => h.get? a = some { cls := .none, data := .fields ps }
  | .met f x => h.get? a = some (PySem.W.methodObj (.ref f) (.ref x))
  | .ext φ => φ h ∧ (∃ o, h.get? a = some o) ∧ ∀ h1 h2 : Heap, φ h1 → (∀ o, h1.get? a = some o → h2.get? a = some o) → φ h2
def HOk (H : Hp) (h : Heap) : Prop := ∀ a o, H a = some o → F9 P w H h a o
end
section
variable {P : Program} {w : World} {H H' : Hp} {h h' : Heap} {a : Addr} {o : HO}
theorem F9.lt (x : F9 P w H h a o) : a < h.objs.size := by
  cases o with
  | lst xs => obtain ⟨_, _, _, _, e⟩ := x; exact Heap.lt_size e
  | tup xs => obtain ⟨_, _, _, p⟩ := x; exact p.lt
  | dK kvs => obtain ⟨_, _, _, _, o, _, _, e, _⟩ := x; exact Heap.lt_size e
  | dT kvs => obtain ⟨_, _, _, _, o, _, _, e, _⟩ := x; exact Heap.lt_size e
  | set S n => obtain ⟨o, _, _, _, e, _⟩ := x; exact Heap.lt_size e
  | ins C dx fs => obtain ⟨_, _, _, e, _⟩ := x; exact Heap.lt_size e
  | own y => obtain ⟨_, e⟩ := x; exact Heap.lt_size e
  | xd fs => obtain ⟨_, ⟨_, _, _, e, _⟩, _⟩ := x; exact Heap.lt_size e
  | rng lo hi => obtain ⟨_, _, _, e⟩ := x; exact Heap.lt_size e
  | frz ob u => obtain ⟨e, _⟩ := x; exact Heap.lt_size e
  | tbl ps => exact Heap.lt_size (show h.get? a = some _ from x)
  | met f y => exact Heap.lt_size (show h.get? a = some _ from x)
  | ext φ => obtain ⟨_, ⟨_, e⟩, _⟩ := x; exact Heap.lt_size e
theorem Paired.mapP {α β : Type} {F G : α → β → Prop} : ∀ {l₁ : List α} {l₂ : List β}, Paired F l₁ l₂ → (∀ a b, F a b → G a b) → Paired G l₁ l₂
  | _, _, .nil, _ => .nil
  | _, _, .cons r t, f => .cons (f _ _ r) (Paired.mapP t f)
theorem F9.stay (x : F9 P w H h a o) (k : ∀ b u, (b = a ∨ H b = some (.own a)) → h.get? b = some u → h'.get? b = some u)
    (ho : ∀ b, H b = some (.own a) → H' b = some (.own a)) (ht : ∀ b xs, H b = some (.tup xs) → H' b = some (.tup xs)) : F9 P w H' h' a o := by
  induction o with
  | lst xs => obtain ⟨z, its, n, r, e⟩ := x; exact ⟨z, its, n, r, k _ _ (.inl rfl) e⟩
  | tup xs => obtain ⟨z, its, r, ob, e, c⟩ := x; exact ⟨z, its, r, ob, k _ _ (.inl rfl) e, c⟩
  | dK kvs => obtain ⟨z, y, vs, r, ob, es, ep, e, c⟩ := x; exact ⟨z, y, vs, r, ob, es, ep, k _ _ (.inl rfl) e, c⟩
  | dT kvs =>
    obtain ⟨z, y, xs, r, ob, es, ep, e, c⟩ := x
    exact ⟨z, y, xs, Paired.mapP r fun p q z => ⟨z.1, ht _ _ z.2.1, z.2.2⟩, ob, es, ep, k _ _ (.inl rfl) e, c⟩
  | set S n => obtain ⟨ob, es, ep, t, e, c⟩ := x; exact ⟨ob, es, ep, t, k _ _ (.inl rfl) e, c⟩
  | ins C dx fs =>
    obtain ⟨d, z, ne, e, mA, ⟨od, es, ep, e2, c⟩, r⟩ := x
    exact ⟨ho _ d, z, ne, k _ _ (.inl rfl) e, mA, ⟨od, es, ep, k _ _ (.inr d) e2, c⟩, r⟩
  | own y => obtain ⟨ob, e⟩ := x; exact ⟨ob, k _ _ (.inl rfl) e⟩
  | xd fs => obtain ⟨mA, ⟨od, es, ep, e, c⟩, r⟩ := x; exact ⟨mA, ⟨od, es, ep, k _ _ (.inl rfl) e, c⟩, r⟩
  | rng lo hi => obtain ⟨t, u, v, e⟩ := x; exact ⟨t, u, v, k _ _ (.inl rfl) e⟩
  | frz ob u ih => obtain ⟨e, q⟩ := x; exact ⟨k _ _ (.inl rfl) e, ih q⟩
  | tbl ps =>
    have e : h.get? a = some { cls := .none, data := .fields ps } := x
    show h'.get? a = some { cls := .none, data := .fields ps }
    exact k a _ (.inl rfl) e
  | met f y =>
    have e : h.get? a = some (PySem.W.methodObj (.ref f) (.ref y)) := x
    show h'.get? a = some (PySem.W.methodObj (.ref f) (.ref y))
    exact k a _ (.inl rfl) e
  | ext φ => obtain ⟨p, ⟨o, e⟩, st⟩ := x; exact ⟨st _ _ p fun o q => k _ _ (.inl rfl) q, ⟨o, k _ _ (.inl rfl) e⟩, st⟩
theorem HOk.lt (x : HOk P w H h) (e : H a = some o) : a < h.objs.size := (x a o e).lt
theorem HOk.fresh (x : HOk P w H h) (e : h.objs.size ≤ a) : H a = none := by
  cases q : H a with
  | none => rfl
  | some u => exact absurd (Nat.lt_of_lt_of_le (x.lt q) e) (Nat.lt_irrefl _)
theorem HOk.kept (x : HOk P w H h) (k : ∀ b u, h.get? b = some u → h'.get? b = some u) : HOk P w H h' := fun a o e =>
  (x a o e).stay (fun b u _ q => k b u q) (fun _ q => q) fun _ _ q => q
theorem HOk.laid (x : HOk P w H h) (k : ∀ b u, h.get? b = some u → h'.get? b = some u) (hp : h.objs.size ≤ a) (new : F9 P w (upd H a o) h' a o) : HOk P w (upd H a o) h' := fun b u e => by
  have hn := x.fresh hp
  by_cases hb : b = a
  · subst hb; rw [b8] at e; cases e; exact new
  · rw [i5 hb] at e
    exact (x b u e).stay (fun c v _ q => k c v q) (fun c q => by rw [i5 (g6 q hn)]; exact q) fun c xs q => by rw [i5 (g6 q hn)]; exact q
end
def Rd (H : Hp) (a : Addr) (u : HO) : Prop := H a = some u ∨ ∃ o, H a = some (.frz o u)
theorem Rd.ok {P : Program} {w : World} {H : Hp} {h : Heap} {a : Addr} {u : HO} (r : Rd H a u) (x : HOk P w H h) : F9 P w H h a u := by
  rcases r with r | ⟨o, r⟩
  · exact x a u r
  · obtain ⟨_, q⟩ := x a _ r
    exact q
def Mut : Option HO → Prop
  | some (.lst _) => True
  | some (.dK _) => True
  | some (.dT _) => True
  | some (.set _ _) => True
  | some (.ins _ _ _) => True
  | some (.ext _) => True
  | _ => False
section
variable {P : Program} {w : World} {H : Hp} {h h' : Heap} {x e : Addr} {o' : HO}
theorem HOk.write (ok : HOk P w H h) (mu : Mut (H x)) (he : e = x ∨ H e = some (.own x)) (k : ∀ b u, b ≠ e → h.get? b = some u → h'.get? b = some u) (heo : ∃ u, h'.get? e = some u)
    (new : F9 P w (upd H x o') h' x o') : HOk P w (upd H x o') h' := fun b u q => by
  have nown : ∀ c y, H c = some (.own y) → c ≠ x := fun c y r z => by subst z; rw [r] at mu; exact mu
  have ntup : ∀ c xs, H c = some (.tup xs) → c ≠ x := fun c xs r z => by subst z; rw [r] at mu; exact mu
  by_cases hb : b = x
  · subst hb; rw [b8] at q; cases q; exact new
  · rw [i5 hb] at q
    by_cases hbe : b = e
    · have q' : H b = some (.own x) := by
        rcases he with z | z
        · exact absurd (hbe.trans z) hb
        · rw [hbe]; exact z
      rw [q] at q'; cases q'
      obtain ⟨v, hv⟩ := heo
      exact ⟨v, by rw [hbe]; exact hv⟩
    · refine (ok b u q).stay (fun c v hc r => k c v ?_ r) (fun c r => by rw [i5 (nown c b r)]; exact r) fun c xs r => by rw [i5 (ntup c xs r)]; exact r
      rcases hc with rfl | hc
      · exact hbe
      · rintro rfl
        rcases he with z | z
        · exact nown c b hc z
        · rw [hc] at z; cases z; exact hb rfl
end
structure Un (fs ex : List Addr) (H H' : Hp) (h h' : Heap) : Prop where
  keep : ∀ b o, h.get? b = some o → H b = none → b ∉ fs → b ∉ ex → h'.get? b = some o
  slot : ∀ b o, h.get? b = some o → H b = none → b ∈ fs → b ∉ ex → ∃ sl, h'.get? b = some { o with slots := sl }
  free : ∀ b o, h.get? b = some o → H b = none → b ∉ ex → H' b = none
  there : ∀ b o, h.get? b = some o → b ∉ ex → ∃ o', h'.get? b = some o'
  tups : ∀ b xs, H b = some (.tup xs) → H' b = some (.tup xs)
  frzs : ∀ b o u, H b = some (.frz o u) → H' b = some (.frz o u)
  tbls : ∀ b ps, H b = some (.tbl ps) → ∃ more, H' b = some (.tbl (ps ++ more))
section
variable {fs fs' ex ex' : List Addr} {H H1 H2 : Hp} {h h1 h2 h' : Heap} {a x e : Addr} {o : HO}
theorem Un.any (u : Un fs ex H H1 h h1) {b : Addr} {ob : Obj} (q : h.get? b = some ob) (n : H b = none) (hx : b ∉ ex) : ∃ sl, h1.get? b = some { ob with slots := sl } := by
  by_cases hb : b ∈ fs
  · exact u.slot b ob q n hb hx
  · exact ⟨ob.slots, u.keep b ob q n hb hx⟩
theorem Un.kept (k : ∀ b u, h.get? b = some u → h'.get? b = some u) : Un fs ex H H h h' :=
  ⟨fun b ob q _ _ _ => k b ob q, fun b ob q _ _ _ => ⟨ob.slots, k b ob q⟩, fun _ _ _ n _ => n, fun b ob q _ => ⟨ob, k b ob q⟩, fun _ _ q => q, fun _ _ _ q => q, fun _ ps q => ⟨#[], by rw [q]; simp⟩⟩
theorem Un.refl : Un fs ex H H h h := Un.kept fun _ _ q => q
theorem Un.laid (k : ∀ b u, h.get? b = some u → h'.get? b = some u) (hp : h.objs.size ≤ a) (hn : H a = none) : Un fs ex H (upd H a o) h h' where
  keep := fun b u q _ _ _ => k b u q
  slot := fun b u q _ _ _ => ⟨u.slots, k b u q⟩
  free := fun b u q n _ => by rw [i5 (Nat.ne_of_lt (Nat.lt_of_lt_of_le (Heap.lt_size q) hp))]; exact n
  there := fun b u q _ => ⟨u, k b u q⟩
  tups := fun b xs q => by rw [i5 (g6 q hn)]; exact q
  frzs := fun b u xs q => by rw [i5 (g6 q hn)]; exact q
  tbls := fun b ps q => ⟨#[], by rw [i5 (g6 q hn), q]; simp⟩
theorem Un.write (mu : Mut (H x)) (he : e = x ∨ H e = some (.own x)) (k : ∀ b u, b ≠ e → h.get? b = some u → h'.get? b = some u) (heo : ∃ u, h'.get? e = some u) : Un fs ex H (upd H x o) h h' := by
  have hx : ∀ b, H b = none → b ≠ x := fun b n z => by subst z; rw [n] at mu; exact mu
  have hb : ∀ b, H b = none → b ≠ e := fun b n z => by
    subst z
    rcases he with r | r
    · exact hx b n r
    · rw [n] at r; cases r
  have hm : ∀ b u, H b = some u → ¬ Mut (some u) → b ≠ x := fun b u q nm z => by subst z; rw [q] at mu; exact nm mu
  refine ⟨fun b u q n _ _ => k b u (hb b n) q, fun b u q n _ _ => ⟨u.slots, k b u (hb b n) q⟩, fun b u q n _ => by rw [i5 (hx b n)]; exact n, fun b u q _ => ?_,
    fun b xs q => by rw [i5 (hm b _ q fun z => z)]; exact q, fun b u xs q => by rw [i5 (hm b _ q fun z => z)]; exact q, fun b ps q => ⟨#[], by rw [i5 (hm b _ q fun z => z), q]; simp⟩⟩
  by_cases hbe : b = e
  · subst hbe; exact heo
  · exact ⟨u, k b u hbe q⟩
end
def trk (h : Heap) (H : Hp) : List Addr := (List.range h.objs.size).filter fun a => (H a).isSome
def aD1 (h : Heap) (H : Hp) : Heap := PySem.W.hideAll h (trk h H)
theorem aT1 (h : Heap) (H : Hp) : (aD1 h H).objs.size = h.objs.size := PySem.W.hideAll_size _ _
theorem bc5 {h : Heap} {H : Hp} {b : Addr} {o : Obj} (e : h.get? b = some o) (n : H b = none) : (aD1 h H).get? b = some o :=
  PySem.W.hideAll_get _ e fun hm => by
    have q : (H b).isSome = true := (List.mem_filter.mp hm).2
    rw [n] at q; simp at q
theorem bg1 {h : Heap} {H : Hp} {b : Addr} {o : Obj} (e : (aD1 h H).get? b = some o) : h.get? b = some o ∧ H b = none := by
  have e' : h.get? b = some o := PySem.W.of_hideAll (trk h H) e
  refine ⟨e', ?_⟩
  cases q : H b with
  | none => rfl
  | some x =>
    have hm : b ∈ trk h H := List.mem_filter.mpr ⟨List.mem_range.mpr (Heap.lt_size e'), by simp [q]⟩
    have z : (aD1 h H).get? b = none := PySem.W.hideAll_none (trk h H) hm
    rw [z] at e; cases e
def bi4 (g h : Heap) (L : Addr) : List (Addr × Obj) := (List.range h.objs.size).filterMap fun a => if a = L ∨ (g.get? a).isSome = true then none else (h.get? a).map fun o => (a, o)
def af1 (g h : Heap) (L d : Addr) : List (Addr × Obj) := (bi4 g h L).filter fun p => decide (p.1 ≠ d)
structure Mod (K : PySem.W.Frag) (mg : Str → Option Value) (base : Heap) : Prop where
  kin : K.In base
  glob : base.Ns mainGlobals mg
  blt : ∃ mb, base.Ns builtinsNs mb ∧ ∀ x : Str, x ≠ "__name__" → mb x = bootBuiltins x
  nolimit : base.NoLimit
/-- the context: a def's body (or a comprehension's block) running. base: fixed through the whole law; s₀, H₀: the entry; outer: the frames whose slots others may change (a def's callers); stack: all frames that run;
   ex: iterators that were made ahead of the entry and are walked here (a comprehension's); fn: the names whose cells were made at the entry (a def: all; a comprehension's block: its own); calm: not within an except suite; pn: pins that every state bears; xe: what is wanted of an exception that leaves the code -/
structure Cx where
  prog : Program
  w : World
  K : PySem.W.Frag
  mg : Str → Option Value
  base : Heap
  A : Around
  N : List Str
  s₀ : Shared
  H₀ : Hp
  env : Env
  outer : List Env
  stack : List Env
  ex : List Addr
  fn : Str → Bool
  calm : Bool
  pn : List (Addr × Obj)
  xe : Value → Shared → Prop
def frs (l : List Env) : List Addr := l.filterMap (·.frame)
abbrev Cx.fs (X : Cx) : List Addr := frs X.outer
def Vis (sc : Scope) (x : Str) : Prop := sc.names.lookup x = some .local ∨ sc.names.lookup x = some .cell ∨ sc.names.lookup x = some .free
def Loc (sc : Scope) (x : Str) : Prop := sc.names.lookup x = some .local ∨ sc.names.lookup x = some .cell
def bt3 (env : Env) (h : Heap) (m : Str → Option Value) (x : Str) (u : Value) : Prop :=
  (env.kindOf x = some .local ∧ m x = some u) ∨ ((env.kindOf x = some .cell ∨ env.kindOf x = some .free) ∧ ∃ c, env.cells.lookup x = some c ∧ h.IsCell c (some u))
structure Cx.Ok (X : Cx) : Prop where
  mod : Mod X.K X.mg X.base
  kind : X.env.scope.kind = .function
  glob : X.env.globals = mainGlobals
  blt : X.env.builtins = builtinsNs
  above : X.s₀.heap.objs.size ≤ X.env.locals
  inj : ∀ x y c, X.env.cells.lookup x = some c → X.env.cells.lookup y = some c → x = y
  has : ∀ x, (X.env.kindOf x = some .cell ∨ X.env.kindOf x = some .free) → ∃ c, X.env.cells.lookup x = some c
  cab : ∀ x c, X.fn x = true → X.env.cells.lookup x = some c → X.s₀.heap.objs.size ≤ c
  hd : X.calm = true → X.A.handled = none
  frames : X.A.frames = some X.stack
  stk : X.stack = X.outer ∨ (X.stack = X.env :: X.outer ∧ X.env.frame = some X.env.locals)
  exf : ∀ b ∈ X.ex, b ≠ X.env.locals ∧ ∀ x c, X.env.cells.lookup x = some c → c ≠ b
  bs : ∀ b o, X.base.get? b = some o → X.s₀.heap.get? b = some o ∧ X.H₀ b = none
  bsz : X.base.objs.size ≤ X.s₀.heap.objs.size
  noex : ∀ b o, X.base.get? b = some o → b ∉ X.ex
  exfs : ∀ b ∈ X.ex, b ∉ X.fs
  funs : X.s₀.heap.FunFrames X.base X.outer
  frf : ∀ b ∈ X.fs, X.H₀ b = none
structure Inv (X : Cx) (pins : List (Addr × Obj)) (σ : List (Option V)) (H : Hp) (s : Shared) : Prop where
  ok : X.Ok
  os : s.os = X.s₀.os
  bare : AllBare s.gens
  base : Un X.fs X.ex X.H₀ H X.s₀.heap s.heap
  loc : ∃ m, s.heap.Ns X.env.locals m ∧ ∀ (i : Nat) (x : Str) (v : V), X.N[i]? = some x → σ[i]? = some (some v) → Vis X.env.scope x → ∃ u, z7 v u ∧ bt3 X.env s.heap m x u
  cell : ∀ x c, X.env.cells.lookup x = some c → ∃ v, s.heap.IsCell c v
  free : H X.env.locals = none
  freeC : ∀ x c, X.env.cells.lookup x = some c → H c = none
  pin : ∀ p ∈ X.pn ++ pins, s.heap.get? p.1 = some p.2 ∧ H p.1 = none ∧ p.1 ≠ X.env.locals ∧ p.1 ∉ X.fs ∧ ∀ v, p.2.data ≠ .cell v
  hok : HOk X.prog X.w H s.heap
  len : σ.length = X.N.length
section
variable {X : Cx} {pins : List (Addr × Obj)} {σ : List (Option V)} {H H' : Hp} {s : Shared} {h' : Heap}
theorem Cx.Ok.nofr (ok : X.Ok) {b : Addr} {o : Obj} (e : X.base.get? b = some o) : b ∉ X.fs := fun hb => by
  have := (ok.funs.mem hb).1
  rw [e] at this; cases this
theorem Inv.bs (I : Inv X pins σ H s) : ∀ b o, X.base.get? b = some o → s.heap.get? b = some o ∧ H b = none := fun b o e =>
  ⟨I.base.keep b o (I.ok.bs b o e).1 (I.ok.bs b o e).2 (I.ok.nofr e) (I.ok.noex b o e), I.base.free b o (I.ok.bs b o e).1 (I.ok.bs b o e).2 (I.ok.noex b o e)⟩
theorem Inv.bk (I : Inv X pins σ H s) : ∀ b o, X.base.get? b = some o → s.heap.get? b = some o := fun b o e => (I.bs b o e).1
theorem Inv.mod (I : Inv X pins σ H s) : Mod X.K X.mg X.base := I.ok.mod
theorem Inv.kIn (I : Inv X pins σ H s) : X.K.In s.heap := I.ok.mod.kin.keeps I.bk
theorem Inv.fr (I : Inv X pins σ H s) : ∃ m, Fr X.base X.env.locals s.heap m :=
  let ⟨m, hn, _⟩ := I.loc
  ⟨m, hn, I.bk, Nat.le_trans I.ok.bsz I.ok.above⟩
theorem Inv.lt (I : Inv X pins σ H s) : X.env.locals < s.heap.objs.size := let ⟨_, hn, _⟩ := I.loc; hn.lt
theorem Inv.sz (I : Inv X pins σ H s) : X.s₀.heap.objs.size ≤ s.heap.objs.size := Nat.le_trans I.ok.above (Nat.le_of_lt I.lt)
theorem Inv.nofs (I : Inv X pins σ H s) {a : Addr} (h : s.heap.objs.size ≤ a) : a ∉ X.fs := fun hb => by
  obtain ⟨_, o, ho, _⟩ := I.ok.funs.mem hb
  exact absurd (Nat.lt_of_lt_of_le (Heap.lt_size ho) (Nat.le_trans I.sz h)) (Nat.lt_irrefl _)
theorem Inv.cne (I : Inv X pins σ H s) : ∀ x c, X.env.cells.lookup x = some c → c ≠ X.env.locals := fun x c e z => by
  obtain ⟨v, o, ho, hd⟩ := I.cell x c e
  obtain ⟨m, ⟨o', es, ep, ho', hd', _⟩, _⟩ := I.loc
  rw [z, ho'] at ho; cases ho; rw [hd'] at hd; cases hd
theorem Inv.funs (I : Inv X pins σ H s) : s.heap.FunFrames X.base X.outer := by
  have all : ∀ (l : List Env), (∀ b ∈ frs l, b ∈ X.fs) → X.s₀.heap.FunFrames X.base l → s.heap.FunFrames X.base l := by
    intro l
    induction l with
    | nil => intro _ _; trivial
    | cons env r ih =>
      intro hs hl
      obtain ⟨hk, ⟨L, o, hf, hn, ho, hd⟩, hr⟩ := hl
      have hL : L ∈ X.fs := hs L (by unfold frs; rw [List.filterMap_cons, hf]; exact List.mem_cons_self)
      obtain ⟨sl, e⟩ := I.base.slot L o ho (I.ok.frf L hL) hL fun z => I.ok.exfs L z hL
      exact ⟨hk, ⟨L, _, hf, hn, e, hd⟩, ih (fun b hb => hs b (by unfold frs; rw [List.filterMap_cons, hf]; exact List.mem_cons_of_mem _ hb)) hr⟩
  exact all X.outer (fun _ hb => hb) I.ok.funs
theorem Inv.stack (I : Inv X pins σ H s) : s.heap.FunFrames X.base X.stack := by
  rcases I.ok.stk with e | ⟨e, hf⟩
  · rw [e]; exact I.funs
  · rw [e]
    obtain ⟨m, hn, _⟩ := I.loc
    refine .cons (by rw [I.ok.kind]; decide) hf hn ?_ I.funs
    exact Heap.get?_none_of_le (Nat.le_trans I.ok.bsz I.ok.above)
theorem Inv.stkSub (I : Inv X pins σ H s) : ∀ b ∈ frs X.stack, b ∈ X.env.locals :: X.fs := fun b hb => by
  rcases I.ok.stk with e | ⟨e, hf⟩
  · rw [e] at hb; exact List.mem_cons_of_mem _ hb
  · rw [e] at hb
    unfold frs at hb
    rw [List.filterMap_cons, hf] at hb
    exact hb
theorem Inv.stkFree (I : Inv X pins σ H s) : ∀ b ∈ frs X.stack, H b = none := fun b hb => by
  rcases List.mem_cons.mp (I.stkSub b hb) with e | hb
  · rw [e]; exact I.free
  · obtain ⟨_, o, ho, _⟩ := I.ok.funs.mem hb
    exact I.base.free b o ho (I.ok.frf b hb) fun z => I.ok.exfs b z hb
theorem Inv.step {g' : Array GenState} {t' : Nat} {d' : Drawn} {ch : List Addr} (I : Inv X pins σ H s)
    (hch : ∀ b ∈ ch, (b ∈ X.ex ∨ X.s₀.heap.objs.size ≤ b) ∧ b ≠ X.env.locals ∧ (∀ x c, X.env.cells.lookup x = some c → c ≠ b) ∧ ∀ p ∈ X.pn ++ pins, p.1 ≠ b)
    (keep : ∀ b o, b ≠ X.env.locals → b ∉ X.fs → b ∉ ch → s.heap.get? b = some o → H b = none → h'.get? b = some o)
    (slot : ∀ b o, b ≠ X.env.locals → b ∈ X.fs → b ∉ ch → s.heap.get? b = some o → H b = none → ∃ sl, h'.get? b = some { o with slots := sl }) (free : ∀ b o, b ∉ ch → s.heap.get? b = some o → H b = none → H' b = none)
    (there : ∀ b o, b ∉ ch → s.heap.get? b = some o → ∃ o', h'.get? b = some o')
    (tups : ∀ b xs, H b = some (.tup xs) → H' b = some (.tup xs)) (frzs : ∀ b o u, H b = some (.frz o u) → H' b = some (.frz o u)) (tbls : ∀ b ps, H b = some (.tbl ps) → ∃ more, H' b = some (.tbl (ps ++ more)))
    (ns : ∀ m, s.heap.Ns X.env.locals m → h'.Ns X.env.locals m) (hok : HOk X.prog X.w H' h') (hg : AllBare g') :
    Inv X pins σ H' { s with heap := h', gens := g', drawn := d', toks := t' } := by
  have neL : ∀ b o, X.s₀.heap.get? b = some o → b ≠ X.env.locals := fun b o e => Nat.ne_of_lt (Nat.lt_of_lt_of_le (Heap.lt_size e) I.ok.above)
  have neC : ∀ b o, X.s₀.heap.get? b = some o → b ∉ X.ex → b ∉ ch := fun b o e hx hb => by
    rcases (hch b hb).1 with z | z
    · exact hx z
    · exact absurd (Nat.lt_of_lt_of_le (Heap.lt_size e) z) (Nat.lt_irrefl _)
  have cellK : ∀ x c, X.env.cells.lookup x = some c → ∀ v, s.heap.IsCell c v → h'.IsCell c v := fun x c e v ⟨o, ho, hd⟩ => by
    have nch : c ∉ ch := fun z => (hch c z).2.2.1 x c e rfl
    by_cases hc : c ∈ X.fs
    · obtain ⟨sl, q⟩ := slot c o (I.cne x c e) hc nch ho (I.freeC x c e)
      exact ⟨_, q, hd⟩
    · exact ⟨o, keep c o (I.cne x c e) hc nch ho (I.freeC x c e), hd⟩
  refine ⟨I.ok, I.os, hg, ⟨fun b o e n hb hx => ?_, fun b o e n hb hx => ?_, fun b o e n hx => ?_, fun b o e hx => ?_, fun b xs e => tups b xs (I.base.tups b xs e), fun b o xs e => frzs b o xs (I.base.frzs b o xs e), fun b ps e => ?_⟩, ?_, fun x c e => ?_, ?_, fun x c e => ?_, fun p hp => ?_, hok, I.len⟩
  · exact keep b o (neL b o e) hb (neC b o e hx) (I.base.keep b o e n hb hx) (I.base.free b o e n hx)
  · obtain ⟨sl, e1⟩ := I.base.slot b o e n hb hx
    obtain ⟨sl', e2⟩ := slot b _ (neL b o e) hb (neC b o e hx) e1 (I.base.free b o e n hx)
    exact ⟨sl', e2⟩
  · obtain ⟨o', e1⟩ := I.base.there b o e hx
    exact free b o' (neC b o e hx) e1 (I.base.free b o e n hx)
  · obtain ⟨o', e1⟩ := I.base.there b o e hx
    exact there b o' (neC b o e hx) e1
  · obtain ⟨m1, e1⟩ := I.base.tbls b ps e
    obtain ⟨m2, e2⟩ := tbls b _ e1
    exact ⟨m1 ++ m2, by rw [e2, Array.append_assoc]⟩
  · obtain ⟨m, hn, hl⟩ := I.loc
    refine ⟨m, ns m hn, fun i x v e1 e2 e3 => ?_⟩
    obtain ⟨u, r, l⟩ := hl i x v e1 e2 e3
    refine ⟨u, r, ?_⟩
    rcases l with l | ⟨k, c, e, z⟩
    · exact .inl l
    · exact .inr ⟨k, c, e, cellK x c e _ z⟩
  · obtain ⟨v, z⟩ := I.cell x c e
    exact ⟨v, cellK x c e v z⟩
  · obtain ⟨m, ⟨o, _, _, ho, _⟩, _⟩ := I.loc
    exact free _ o (fun z => (hch _ z).2.1 rfl) ho I.free
  · obtain ⟨v, o, ho, hd⟩ := I.cell x c e
    exact free c o (fun z => (hch c z).2.2.1 x c e rfl) ho (I.freeC x c e)
  · obtain ⟨e, n, ne, nf, d⟩ := I.pin p hp
    have nch : p.1 ∉ ch := fun z => (hch p.1 z).2.2.2 p hp rfl
    exact ⟨keep p.1 p.2 ne nf nch e n, free p.1 p.2 nch e n, ne, nf, d⟩
theorem Inv.un {t' : Nat} (I : Inv X pins σ H s) (u : Un X.fs [] H H' s.heap h') (hok : HOk X.prog X.w H' h') : Inv X pins σ H' { s with heap := h', toks := t' } := by
  obtain ⟨m, ⟨o, es, ep, ho, r⟩, _⟩ := id I.loc
  obtain ⟨sl, hL⟩ := u.any ho I.free (by simp)
  exact I.step (g' := s.gens) (d' := s.drawn) (ch := []) (fun _ z => nomatch z) (fun b o _ hb _ e n => u.keep b o e n hb (by simp)) (fun b o _ hb _ e n => u.slot b o e n hb (by simp)) (fun b o _ e n => u.free b o e n (by simp)) (fun b o _ e => u.there b o e (by simp)) u.tups u.frzs u.tbls (fun m' hm => by
    obtain ⟨o', es', ep', ho', r'⟩ := hm
    rw [ho] at ho'; cases ho'
    exact ⟨_, es', ep', hL, r'⟩) hok I.bare
theorem Inv.call {g' : Array GenState} {t' : Nat} {d' : Drawn} {ch : List Addr} (I : Inv X pins σ H s) (u : Un (frs X.stack) ch H H' s.heap h') (hok : HOk X.prog X.w H' h') (hg : AllBare g')
    (hch : ∀ b ∈ ch, (b ∈ X.ex ∨ X.s₀.heap.objs.size ≤ b) ∧ b ≠ X.env.locals ∧ (∀ x c, X.env.cells.lookup x = some c → c ≠ b) ∧ ∀ p ∈ X.pn ++ pins, p.1 ≠ b) :
    Inv X pins σ H' { s with heap := h', gens := g', drawn := d', toks := t' } := by
  obtain ⟨m, ⟨o, es, ep, ho, r⟩, _⟩ := id I.loc
  obtain ⟨sl, hL⟩ := u.any ho I.free fun z => (hch _ z).2.1 rfl
  exact I.step (ch := ch) hch (fun b o hL hb hc e n => u.keep b o e n (fun z => (List.mem_cons.mp (I.stkSub b z)).elim hL hb) hc) (fun b o _ _ hc e n => u.any e n hc) (fun b o hc e n => u.free b o e n hc) (fun b o hc e => u.there b o e hc) u.tups u.frzs u.tbls (fun m' hm => by
    obtain ⟨o', es', ep', ho', r'⟩ := hm
    rw [ho] at ho'; cases ho'
    exact ⟨_, es', ep', hL, r'⟩) hok hg
theorem Inv.turned {t' : Nat} {it : Addr} (I : Inv X pins σ H s) (k : ∀ b o, b ≠ it → s.heap.get? b = some o → h'.get? b = some o) (hn : H it = none) (hL : it ≠ X.env.locals)
    (h1 : it ∈ X.ex ∨ X.s₀.heap.objs.size ≤ it) (h2 : ∀ x c, X.env.cells.lookup x = some c → c ≠ it) (h3 : ∀ p ∈ X.pn ++ pins, p.1 ≠ it) : Inv X pins σ H { s with heap := h', toks := t' } := by
  have nit : ∀ b u, H b = some u → b ≠ it := fun b u e z => by rw [z, hn] at e; cases e
  refine I.step (g' := s.gens) (d' := s.drawn) (ch := [it]) (fun b hb => ?_) (fun b o _ _ hc e _ => k b o (fun z => hc (by simp [z])) e) (fun b o _ _ hc e _ => ⟨o.slots, k b o (fun z => hc (by simp [z])) e⟩) (fun _ _ _ _ n => n)
    (fun b o hc e => ⟨o, k b o (fun z => hc (by simp [z])) e⟩) (fun _ _ e => e) (fun _ _ _ e => e) (fun b ps e => ⟨#[], by rw [e]; simp⟩) (fun m hm => ?_) (fun b u e => ?_) I.bare
  · have e : b = it := by simpa using hb
    subst e
    exact ⟨h1, hL, h2, h3⟩
  · obtain ⟨o, es, ep, ho, r⟩ := hm
    exact ⟨o, es, ep, k _ o (Ne.symm hL) ho, r⟩
  · refine (I.hok b u e).stay (fun c v hc q => k c v ?_ q) (fun _ q => q) fun _ _ q => q
    rcases hc with z | z
    · rw [z]; exact nit b u e
    · exact nit c _ z
theorem Inv.tok (I : Inv X pins σ H s) (t : Nat) : Inv X pins σ H { s with toks := t } := I.un (h' := s.heap) (t' := t) Un.refl I.hok
theorem Inv.kept {t' : Nat} (I : Inv X pins σ H s) (k : ∀ b u, s.heap.get? b = some u → h'.get? b = some u) : Inv X pins σ H { s with heap := h', toks := t' } := I.un (Un.kept k) (I.hok.kept k)
theorem Inv.laid {a : Addr} {o : HO} {t' : Nat} (I : Inv X pins σ H s) (k : ∀ b u, s.heap.get? b = some u → h'.get? b = some u) (hp : s.heap.objs.size ≤ a) (new : F9 X.prog X.w (upd H a o) h' a o) :
    Inv X pins σ (upd H a o) { s with heap := h', toks := t' } := I.un (Un.laid k hp (I.hok.fresh hp)) (I.hok.laid k hp new)
theorem Inv.write {x e : Addr} {o : HO} {t' : Nat} (I : Inv X pins σ H s) (mu : Mut (H x)) (he : e = x ∨ H e = some (.own x)) (k : ∀ b u, b ≠ e → s.heap.get? b = some u → h'.get? b = some u) (heo : ∃ u, h'.get? e = some u)
    (new : F9 X.prog X.w (upd H x o) h' x o) : Inv X pins σ (upd H x o) { s with heap := h', toks := t' } := I.un (Un.write mu he k heo) (I.hok.write mu he k heo new)
theorem Inv.weak {σ' : List (Option V)} (I : Inv X pins σ H s) (hl : σ'.length = σ.length) (w : ∀ (i : Nat) v, σ'[i]? = some (some v) → σ[i]? = some (some v)) : Inv X pins σ' H s :=
  ⟨I.ok, I.os, I.bare, I.base, let ⟨m, hn, hl'⟩ := I.loc; ⟨m, hn, fun i x v e1 e2 e3 => hl' i x v e1 (w i v e2) e3⟩, I.cell, I.free, I.freeC, I.pin, I.hok, hl.trans I.len⟩
theorem Inv.pins_of {pins' : List (Addr × Obj)} (I : Inv X pins σ H s) (h : ∀ p ∈ pins', s.heap.get? p.1 = some p.2 ∧ H p.1 = none ∧ p.1 ≠ X.env.locals ∧ p.1 ∉ X.fs ∧ ∀ v, p.2.data ≠ .cell v) : Inv X pins' σ H s :=
  ⟨I.ok, I.os, I.bare, I.base, I.loc, I.cell, I.free, I.freeC, fun p hp => (List.mem_append.mp hp).elim (fun z => I.pin p (List.mem_append_left _ z)) (h p), I.hok, I.len⟩
theorem aH8 {N : List Str} (hN : N.Nodup) {i j : Nat} {x : Str} (a : N[i]? = some x) (b : N[j]? = some x) : i = j := by
  obtain ⟨h1, e1⟩ := List.getElem?_eq_some_iff.mp a
  obtain ⟨h2, e2⟩ := List.getElem?_eq_some_iff.mp b
  exact (List.getElem_inj hN).mp (e1.trans e2.symm)
theorem aR1 {M : Model} {A : Around} {E : Value → Shared → Prop} {i : Nat} {x : Str} {v : V} {u : Value} {Q : Unit → Shared → Prop} (I : Inv X pins σ H s) (hN : X.N.Nodup) (hi : X.N[i]? = some x) (hx : Loc X.env.scope x) (r : z7 v u)
    (h : ∀ s', Inv X pins (σ.set i (some v)) H s' → (∃ a, Heap.SameBut a s.heap s'.heap ∧ (a = X.env.locals ∨ X.env.cells.lookup x = some a)) → Q () s') (hf : X.fn x = true ∨ X.env.scope.names.lookup x = some .local := by first | exact .inl rfl | exact .inr rfl | assumption) : wpAny M A (storeName X.env x u) Q E s := by
  obtain ⟨m, hn, hl⟩ := id I.loc
  have hcls : (X.env.scope.kind == .class || (X.env.scope.kind == .module && X.env.locals != X.env.globals)) = false := by rw [I.ok.kind]; rfl
  have hiσ : i < σ.length := by rw [I.len]; exact (List.getElem?_eq_some_iff.mp hi).1
  have cne := I.cne
  have tracked : ∀ {a : Addr} {h' : Heap}, (∃ o, s.heap.get? a = some o ∧ H a = none) → Heap.SameBut a s.heap h' → HOk X.prog X.w H h' := fun {a h'} ha hs b ob e => by
    obtain ⟨_, _, hfree⟩ := ha
    refine (I.hok b ob e).stay (fun c w' hc q => (hs.2 c ?_).trans q) (fun _ q => q) fun _ _ q => q
    rintro rfl
    rcases hc with rfl | hc
    · rw [hfree] at e; cases e
    · rw [hfree] at hc; cases hc
  rcases hx with hk | hk
  · refine wpAny_storeName_local hk hn (fun h' hn' hs => ?_) hcls
    obtain ⟨oL, _, _, hoL, _⟩ := id hn
    refine h _ ⟨I.ok, I.os, I.bare, ⟨fun b o e n hb hx => ?_, fun b o e n hb hx => ?_, I.base.free, fun b o e hx => ?_, I.base.tups, I.base.frzs, I.base.tbls⟩, ⟨_, hn', fun j y v' e1 e2 e3 => ?_⟩, fun y c e => ?_, I.free, I.freeC, fun p hp => ?_, tracked ⟨oL, hoL, I.free⟩ hs, by simpa using I.len⟩ ⟨_, hs, .inl rfl⟩
    · exact (hs.2 b (Nat.ne_of_lt (Nat.lt_of_lt_of_le (Heap.lt_size e) I.ok.above))).trans (I.base.keep b o e n hb hx)
    · obtain ⟨sl, e1⟩ := I.base.slot b o e n hb hx
      exact ⟨sl, (hs.2 b (Nat.ne_of_lt (Nat.lt_of_lt_of_le (Heap.lt_size e) I.ok.above))).trans e1⟩
    · obtain ⟨o', e1⟩ := I.base.there b o e hx
      exact ⟨o', (hs.2 b (Nat.ne_of_lt (Nat.lt_of_lt_of_le (Heap.lt_size e) I.ok.above))).trans e1⟩
    · by_cases hj : j = i
      · subst hj
        rw [hi] at e1; cases e1
        rw [List.getElem?_set_self hiσ] at e2
        cases e2
        exact ⟨u, r, .inl ⟨hk, by simp⟩⟩
      · rw [List.getElem?_set_ne (Ne.symm hj)] at e2
        obtain ⟨u', r', q⟩ := hl j y v' e1 e2 e3
        refine ⟨u', r', ?_⟩
        rcases q with ⟨k, e⟩ | ⟨k, c, e, z⟩
        · refine .inl ⟨k, ?_⟩
          have : y ≠ x := fun e => hj (aH8 hN e1 (e ▸ hi))
          simp [this, e]
        · exact .inr ⟨k, c, e, z.sameBut hs (cne y c e)⟩
    · obtain ⟨w', z⟩ := I.cell y c e
      exact ⟨w', z.sameBut hs (cne y c e)⟩
    · obtain ⟨e, n, ne, nf, d⟩ := I.pin p hp
      exact ⟨(hs.2 p.1 ne).trans e, n, ne, nf, d⟩
  · have hfn : X.fn x = true := by
      rcases hf with z | z
      · exact z
      · rw [z] at hk; cases hk
    obtain ⟨c, hc⟩ := I.ok.has x (.inl hk)
    obtain ⟨w', z⟩ := I.cell x c hc
    refine wpAny_storeName_cell I.ok.kind hk hc z (fun h' hc' hs => ?_)
    obtain ⟨oc, hoc, hocd⟩ := id z
    refine h { s with heap := h' } ⟨I.ok, I.os, I.bare, ⟨fun b o e n hb hx => ?_, fun b o e n hb hx => ?_, I.base.free, fun b o e hx => ?_, I.base.tups, I.base.frzs, I.base.tbls⟩, ⟨m, hn.sameBut hs (Ne.symm (cne x c hc)), fun j y v' e1 e2 e3 => ?_⟩, fun y c' e => ?_, I.free, I.freeC, fun p hp => ?_, tracked ⟨oc, hoc, I.freeC x c hc⟩ hs, by simpa using I.len⟩ ⟨c, hs, .inr hc⟩
    · exact (hs.2 b (Nat.ne_of_lt (Nat.lt_of_lt_of_le (Heap.lt_size e) (I.ok.cab x c hfn hc)))).trans (I.base.keep b o e n hb hx)
    · obtain ⟨sl, e1⟩ := I.base.slot b o e n hb hx
      exact ⟨sl, (hs.2 b (Nat.ne_of_lt (Nat.lt_of_lt_of_le (Heap.lt_size e) (I.ok.cab x c hfn hc)))).trans e1⟩
    · obtain ⟨o', e1⟩ := I.base.there b o e hx
      exact ⟨o', (hs.2 b (Nat.ne_of_lt (Nat.lt_of_lt_of_le (Heap.lt_size e) (I.ok.cab x c hfn hc)))).trans e1⟩
    · by_cases hj : j = i
      · subst hj
        rw [hi] at e1; cases e1
        rw [List.getElem?_set_self hiσ] at e2
        cases e2
        exact ⟨u, r, .inr ⟨.inl hk, c, hc, hc'⟩⟩
      · rw [List.getElem?_set_ne (Ne.symm hj)] at e2
        obtain ⟨u', r', q⟩ := hl j y v' e1 e2 e3
        refine ⟨u', r', ?_⟩
        rcases q with q | ⟨k, c', e, z'⟩
        · exact .inl q
        · refine .inr ⟨k, c', e, z'.sameBut hs ?_⟩
          rintro rfl
          exact hj (aH8 hN e1 (I.ok.inj _ _ _ e hc ▸ hi))
    · by_cases hcc : c' = c
      · subst hcc; exact ⟨_, hc'⟩
      · obtain ⟨w2, z2⟩ := I.cell y c' e
        exact ⟨w2, z2.sameBut hs hcc⟩
    · obtain ⟨e, n, ne, nf, d⟩ := I.pin p hp
      refine ⟨(hs.2 p.1 ?_).trans e, n, ne, nf, d⟩
      intro q
      rw [q, hoc] at e
      have q' : oc = p.2 := Option.some.inj e
      exact d w' (by rw [← q']; exact hocd)
theorem W3 {M : Model} {A : Around} {E : Value → Shared → Prop} {i : Nat} {x : Str} {v : V} {u : Value} {Q : Unit → Shared → Prop} (I : Inv X pins σ H s) (hN : X.N.Nodup) (hi : X.N[i]? = some x) (hx : Loc X.env.scope x) (r : z7 v u)
    (h : ∀ s', Inv X pins (σ.set i (some v)) H s' → Q () s') (hf : X.fn x = true ∨ X.env.scope.names.lookup x = some .local := by first | exact .inl rfl | exact .inr rfl | assumption) : wpAny M A (storeName X.env x u) Q E s :=
  aR1 I hN hi hx r (fun s' I' _ => h s' I') hf
theorem Inv.call' {s' : Shared} {ch : List Addr} (I : Inv X pins σ H s) (ho : s'.os = s.os) (u : Un (frs X.stack) ch H H' s.heap s'.heap) (hok : HOk X.prog X.w H' s'.heap) (hg : AllBare s'.gens)
    (hch : ∀ b ∈ ch, (b ∈ X.ex ∨ X.s₀.heap.objs.size ≤ b) ∧ b ≠ X.env.locals ∧ (∀ x c, X.env.cells.lookup x = some c → c ≠ b) ∧ ∀ p ∈ X.pn ++ pins, p.1 ≠ b) : Inv X pins σ H' s' := by
  obtain ⟨h', g', d', t', o'⟩ := s'
  have e : o' = s.os := ho
  subst e
  exact I.call (g' := g') (t' := t') (d' := d') u hok hg hch
end
abbrev XK := Value → Option Addr → Hp → Prop
abbrev St := List (Option V)
abbrev VK := V → Hp → Prop
abbrev TE := St → Hp → VK → Prop
abbrev TT := St → Hp → (Bool → Hp → Prop) → Prop
abbrev TA := St → Hp → (List V → Hp → Prop) → Prop
structure ab6 where
  nx : St → Hp → Prop
  rt : VK
  bk : St → Hp → Prop := fun _ _ => False
  ct : St → Hp → Prop := fun _ _ => False
abbrev TS := ab6 → St → Hp → Prop
def EP (X : Cx) (pins : List (Addr × Obj)) (σ : St) (Q : VK) (u : Value) (s' : Shared) : Prop := ∃ v H', Inv X pins σ H' s' ∧ z7 v u ∧ Q v H'
def TP (X : Cx) (pins : List (Addr × Obj)) (σ : St) (Q : Bool → Hp → Prop) (b : Bool) (s' : Shared) : Prop := ∃ H', Inv X pins σ H' s' ∧ Q b H'
def AP (X : Cx) (pins : List (Addr × Obj)) (σ : St) (Q : List V → Hp → Prop) (us : List Value) (s' : Shared) : Prop := ∃ vs H', Inv X pins σ H' s' ∧ m8 vs us ∧ Q vs H'
def SP (X : Cx) (pins : List (Addr × Obj)) (D : ab6) (f : Flow) (s' : Shared) : Prop :=
  match f with
  | .next => ∃ σ' H', Inv X pins σ' H' s' ∧ D.nx σ' H'
  | .brk => ∃ σ' H', Inv X pins σ' H' s' ∧ D.bk σ' H'
  | .cont => ∃ σ' H', Inv X pins σ' H' s' ∧ D.ct σ' H'
  | .ret u => ∃ v σ' H', Inv X pins σ' H' s' ∧ z7 v u ∧ D.rt v H'
def PE (X : Cx) (e : Expr) (t : TE) : Prop :=
  ∀ (pins : List (Addr × Obj)) (s : Shared) (σ : St) (H : Hp) (Q : VK), Inv X pins σ H s → t σ H Q → wpAny (model X.prog X.w) X.A (eval e X.env) (EP X pins σ Q) X.xe s
def PT (X : Cx) (e : Expr) (t : TT) : Prop :=
  ∀ (pins : List (Addr × Obj)) (s : Shared) (σ : St) (H : Hp) (Q : Bool → Hp → Prop), Inv X pins σ H s → t σ H Q → wpAny (model X.prog X.w) X.A (isTrue e X.env (eval e X.env)) (TP X pins σ Q) X.xe s
def PW (X : Cx) (e : Expr) (t : TT) : Prop :=
  ∀ (whole : Sem Value) (pins : List (Addr × Obj)) (s : Shared) (σ : St) (H : Hp) (Q : Bool → Hp → Prop), Inv X pins σ H s → t σ H Q → wpAny (model X.prog X.w) X.A (isTrue e X.env whole) (TP X pins σ Q) X.xe s
theorem PW.pt {X : Cx} {e : Expr} {t : TT} (h : PW X e t) : PT X e t := h _
def PA (X : Cx) (es : List Expr) (t : TA) : Prop :=
  ∀ (pos : Pos) (pins : List (Addr × Obj)) (s : Shared) (σ : St) (H : Hp) (Q : List V → Hp → Prop), Inv X pins σ H s → t σ H Q → wpAny (model X.prog X.w) X.A (spliced (backTo pos (starEach es X.env))) (AP X pins σ Q) X.xe s
def PS (X : Cx) (st : Stmt) (t : TS) : Prop :=
  ∀ (pins : List (Addr × Obj)) (s : Shared) (σ : St) (H : Hp) (D : ab6), Inv X pins σ H s → t D σ H → wpAny (model X.prog X.w) X.A (exec st X.env) (SP X pins D) X.xe s
def PSs (X : Cx) (st : List Stmt) (t : TS) : Prop :=
  ∀ (pins : List (Addr × Obj)) (s : Shared) (σ : St) (H : Hp) (D : ab6), Inv X pins σ H s → t D σ H → wpAny (model X.prog X.w) X.A (execs st X.env) (SP X pins D) X.xe s
theorem thn {α : Type} {t : Sem α} {Q Q' : α → Shared → Prop} {M : Model} {A : Around} {E : Value → Shared → Prop} {s : Shared} (h : wpAny M A t Q E s) (hQ : ∀ a s, Q a s → Q' a s) : wpAny M A t Q' E s := wpAny_mono h hQ fun _ _ x => x
section
variable {X : Cx}
def S9 (i : Nat) : TE := fun σ H Q => ∃ v, σ[i]? = some (some v) ∧ Q v H
def tC (v : V) : TE := fun _ H Q => Q v H
theorem bm5 {i : Nat} {x : Str} {pos : Pos} (hN : X.N[i]? = some x) (hv : Vis X.env.scope x) (hd : (x == ("__debug__" : Str)) = false := by decide) (hcd : (x == ("__classdict__" : Str)) = false := by decide) : PE X (.Name x pos) (S9 i) := by
  intro pins s σ H Q I h
  obtain ⟨v, e, h⟩ := h
  obtain ⟨m, hn, hl⟩ := I.loc
  obtain ⟨u, r, l⟩ := hl i x v hN e hv
  have fin : EP X pins σ Q u s := ⟨v, H, I, r, h⟩
  rcases l with ⟨hk, hm⟩ | ⟨hk, c, hc, hcell⟩
  · exact wpAny_Name (wpAny_loadName_local I.ok.kind hk hn hm fin) hd
  · rcases hk with hk | hk
    · exact wpAny_Name (wpAny_loadName_cell I.ok.kind hk hc hcell fin) hd
    · exact wpAny_Name (wpAny_loadName_free I.ok.kind hk hc hcell fin hcd) hd
theorem d4 {i j pos} : PE X (.Constant (.int i) j pos) (tC (.int i)) := fun _ _ _ H _ I h => wpAny_Constant_int ⟨.int i, H, I.tok _, ⟨_, rfl⟩, h⟩
theorem U3 {b j pos} : PE X (.Constant (.bool b) j pos) (tC (.bl b)) := fun _ _ _ H _ I h => Constant_bool ⟨.bl b, H, I, rfl, h⟩
theorem aq5 {x j pos} : PE X (.Constant (.str x) j pos) (tC (.str x)) := fun _ _ _ H _ I h => Calls.Constant_str ⟨.str x, H, I.tok _, ⟨_, rfl⟩, h⟩
def Gl (X : Cx) (x : Str) : Prop := X.env.kindOf x = some .globalImplicit
theorem ag4 {E : Value → Shared → Prop} {pins : List (Addr × Obj)} {s : Shared} {σ : St} {H : Hp} {x : Str} {u : Value} {pos : Pos} {Q : Value → Shared → Prop} (I : Inv X pins σ H s) (hg : Gl X x) (hm : X.mg x = some u) (h : Q u s)
    (hd : (x == ("__debug__" : Str)) = false := by decide) : wpAny (model X.prog X.w) X.A (eval (.Name x pos) X.env) Q E s :=
  Calls.Name_function_global I.ok.kind hg (Calls.loadGlobal_global (by rw [I.ok.glob]; exact I.mod.glob.keeps I.bk) hm h) hd
theorem Z9 {E : Value → Shared → Prop} {pins : List (Addr × Obj)} {s : Shared} {σ : St} {H : Hp} {x : Str} {u : Value} {pos : Pos} {Q : Value → Shared → Prop} (I : Inv X pins σ H s) (hg : Gl X x) (hm : X.mg x = none) (hv : bootBuiltins x = some u) (h : Q u s)
    (hn : x ≠ "__name__" := by decide) (hd : (x == ("__debug__" : Str)) = false := by decide) : wpAny (model X.prog X.w) X.A (eval (.Name x pos) X.env) Q E s := by
  obtain ⟨mb, h1, h2⟩ := I.mod.blt
  exact Calls.Name_function_global I.ok.kind hg (Calls.loadGlobal_builtin (by rw [I.ok.glob]; exact I.mod.glob.keeps I.bk) hm (by rw [I.ok.blt]; exact h1.keeps I.bk) ((h2 x hn).trans hv) h) hd
theorem p8 {x : Str} {v : V} {u : Value} {pos : Pos} (hg : Gl X x) (hm : X.mg x = some u) (r : z7 v u) (hd : (x == ("__debug__" : Str)) = false := by decide) : PE X (.Name x pos) (tC v) :=
  fun _ _ _ H _ I h => ag4 I hg hm ⟨v, H, I, r, h⟩ hd
theorem P6 {x : Str} {v : V} {u : Value} {pos : Pos} (hg : Gl X x) (hm : X.mg x = none) (hv : bootBuiltins x = some u) (r : z7 v u) (hn : x ≠ "__name__" := by decide) (hd : (x == ("__debug__" : Str)) = false := by decide) : PE X (.Name x pos) (tC v) :=
  fun _ _ _ H _ I h => Z9 I hg hm hv ⟨v, H, I, r, h⟩ hn hd
variable {a b : Expr} {ta tb : TE} {pos : Pos}
def PC (X : Cx) (op : CmpOp) (a b : Expr) (t : TE) : Prop :=
  ∀ (pins : List (Addr × Obj)) (s : Shared) (σ : St) (H : Hp) (Q : VK), Inv X pins σ H s → t σ H Q →
    wpAny (model X.prog X.w) X.A (eval a X.env) (fun v s₁ => wpAny (model X.prog X.w) X.A (eval b X.env) (fun u s₂ => wpAny (model X.prog X.w) X.A (compareOp op v u) (EP X pins σ Q) X.xe s₂) X.xe s₁) X.xe s
def tB (t : TE) : TT := fun σ H Q => t σ H fun x H1 => ∃ c, x = .bl c ∧ Q c H1
theorem J3 {e : Expr} {t : TE} (h : PE X e t) (he : ∀ whole, isTrue e X.env whole = (do let v ← whole; standAt e.pos; holding [v] (truthy v)) := by intro _; rfl) : PT X e (tB t) := by
  intro pins s σ H Q I hw
  refine isTrue_plain (thn (h pins s σ H _ I hw) fun v s1 ⟨x, H1, I1, r1, q1⟩ => ?_) (he _)
  obtain ⟨d, rfl, q⟩ := q1
  cases r1
  exact wpAny_truthy_bool ⟨H1, I1, q⟩
variable {tA tB' : TT} {af1 : List Expr}
def aW4 (t u : TT) : TT := fun σ H Q => t σ H fun c H1 => if c = true then u σ H1 Q else Q false H1
def tOr (t u : TT) : TT := fun σ H Q => t σ H fun c H1 => if c = true then Q true H1 else u σ H1 Q
def aV9 (t : TT) : TT := fun σ H Q => t σ H fun c H1 => Q (!c) H1
theorem af5 (ha : PT X a tA) : PW X (.BoolOp .And [a] pos) tA := by
  intro wh pins s σ H Q I h
  refine isTrue_and (thn (ha pins s σ H Q I h) fun c s1 e => ?_)
  cases c with
  | true => exact isTrue_and_nil e
  | false => exact e
theorem V6 (ha : PT X a tA) : PW X (.BoolOp .Or [a] pos) tA := by
  intro wh pins s σ H Q I h
  refine isTrue_or (thn (ha pins s σ H Q I h) fun c s1 e => ?_)
  cases c with
  | false => exact isTrue_or_nil e
  | true => exact e
theorem aq2 (ha : PT X a tA) (hb : PW X (.BoolOp .And (b :: af1) pos) tB') : PW X (.BoolOp .And (a :: b :: af1) pos) (aW4 tA tB') := by
  intro wh pins s σ H Q I h
  refine isTrue_and (thn (ha pins s σ H _ I h) fun c s1 ⟨H1, I1, q1⟩ => ?_)
  cases c with
  | true => exact hb wh pins s1 σ H1 Q I1 q1
  | false => exact ⟨H1, I1, q1⟩
theorem T9 (ha : PT X a tA) (hb : PW X (.BoolOp .Or (b :: af1) pos) tB') : PW X (.BoolOp .Or (a :: b :: af1) pos) (tOr tA tB') := by
  intro wh pins s σ H Q I h
  refine isTrue_or (thn (ha pins s σ H _ I h) fun c s1 ⟨H1, I1, q1⟩ => ?_)
  cases c with
  | true => exact ⟨H1, I1, q1⟩
  | false => exact hb wh pins s1 σ H1 Q I1 q1
theorem B3 (ha : PT X a tA) : PT X (.UnaryOp .Not a pos) (aV9 tA) := by
  intro pins s σ H Q I h
  exact isTrue_not (ha pins s σ H (fun c H1 => Q (!c) H1) I h)
def aF3 (ta tb : TE) : TE := fun σ H Q => ta σ H fun x H1 => ∃ c, x = .bl c ∧ if c = true then tb σ H1 Q else Q (.bl false) H1
def aV8 (ta tb : TE) : TE := fun σ H Q => ta σ H fun x H1 => ∃ c, x = .bl c ∧ if c = true then Q (.bl true) H1 else tb σ H1 Q
def aE8 (ta : TE) : TE := fun σ H Q => ta σ H fun x H1 => ∃ c, x = .bl c ∧ Q (.bl (!c)) H1
theorem aq6 {op} {t : TE} (h : PE X a t) : PE X (.BoolOp op [a] pos) t := fun pins s σ H Q I hw => BoolOp_one (h pins s σ H Q I hw)
theorem aq7 (ha : PE X a ta) (hb : PE X (.BoolOp .And (b :: af1) pos) tb) : PE X (.BoolOp .And (a :: b :: af1) pos) (aF3 ta tb) := by
  intro pins s σ H Q I h
  refine BoolOp_and (thn (ha pins s σ H _ I h) fun v s1 ⟨x, H1, I1, r1, q1⟩ => ?_)
  obtain ⟨c, rfl, q1⟩ := q1
  cases r1
  refine wpAny_truthy_bool ?_
  cases c with
  | true => exact hb pins s1 σ H1 Q I1 q1
  | false => exact ⟨.bl false, H1, I1, rfl, q1⟩
theorem bq5 (ha : PE X a ta) (hb : PE X (.BoolOp .Or (b :: af1) pos) tb) : PE X (.BoolOp .Or (a :: b :: af1) pos) (aV8 ta tb) := by
  intro pins s σ H Q I h
  refine BoolOp_or (thn (ha pins s σ H _ I h) fun v s1 ⟨x, H1, I1, r1, q1⟩ => ?_)
  obtain ⟨c, rfl, q1⟩ := q1
  cases r1
  refine wpAny_truthy_bool ?_
  cases c with
  | false => exact hb pins s1 σ H1 Q I1 q1
  | true => exact ⟨.bl true, H1, I1, rfl, q1⟩
theorem aZ7 (ha : PE X a ta) : PE X (.UnaryOp .Not a pos) (aE8 ta) := by
  intro pins s σ H Q I h
  refine UnaryOp_ (thn (ha pins s σ H _ I h) fun v s1 ⟨x, H1, I1, r1, q1⟩ => ?_)
  obtain ⟨c, rfl, q1⟩ := q1
  cases r1
  exact not_of (wpAny_truthy_bool ⟨.bl (!c), H1, I1, rfl, q1⟩)
def tIf (t : TT) (ta tb : TE) : TE := fun σ H Q => t σ H fun c H1 => if c = true then ta σ H1 Q else tb σ H1 Q
theorem U2 {c : Expr} (hc : PT X c tA) (ha : PE X a ta) (hb : PE X b tb) : PE X (.IfExp c a b pos) (tIf tA ta tb) := by
  intro pins s σ H Q I h
  refine wpAny_IfExp (thn (hc pins s σ H _ I h) fun d s1 ⟨H1, I1, q1⟩ => ?_)
  cases d with
  | true => exact ha pins s1 σ H1 Q I1 q1
  | false => exact hb pins s1 σ H1 Q I1 q1
end
def SqL (K : PySem.W.Frag) (H : Hp) (a : Addr) (xs : List V) : Prop :=
  Rd H a (.lst xs) ∨
    ∃ (o : Obj) (its : Array Value) (n : Nat), K.lookup a = some o ∧ o.cls = .type "list" ∧ o.dict = none ∧ o.data = .seq its n ∧ its.size ≤ sizeLine ∧ m8 xs its.toList
def SqT (K : PySem.W.Frag) (H : Hp) (a : Addr) (xs : List V) : Prop :=
  Rd H a (.tup xs) ∨
    ∃ (o : Obj) (its : Array Value) (n : Nat), K.lookup a = some o ∧ o.cls = .type "tuple" ∧ o.data = .seq its n ∧ its.size ≤ sizeLine ∧ m8 xs its.toList
def bt1 : Value → Option V
  | .none => some .non
  | .bool b => some (.bl b)
  | .int i _ => some (.int i)
  | .str x _ => some (.str x)
  | .bytes b _ => some (.byt b)
  | .float b _ => some (.flt b)
  | .ref a => some (.ref a)
  | .type n => some (.ty n)
  | _ => none
theorem z7.abs {x : V} {u : Value} (r : z7 x u) : bt1 u = some x := by
  cases x with
  | non => cases r; rfl
  | bl _ => cases r; rfl
  | int _ => obtain ⟨t, rfl⟩ := r; rfl
  | str _ => obtain ⟨t, rfl⟩ := r; rfl
  | byt _ => obtain ⟨t, rfl⟩ := r; rfl
  | flt _ => obtain ⟨t, rfl⟩ := r; rfl
  | ref _ => cases r; rfl
  | ty _ => cases r; rfl
theorem z7.inj {x y : V} {u : Value} (r : z7 x u) (q : z7 y u) : x = y := Option.some.inj (r.abs.symm.trans q.abs)
theorem m8.inj : ∀ {xs ys : List V} {us : List Value}, m8 xs us → m8 ys us → xs = ys
  | _, _, _, .nil, .nil => rfl
  | _, _, _, .cons r t, .cons r' t' => by rw [r.inj r', m8.inj t t']
section
variable {X : Cx} {pins : List (Addr × Obj)} {σ : St} {H : Hp} {s : Shared} {a : Addr} {xs ys : List V}
theorem SqL.of {K : PySem.W.Frag} (h : H a = some (.lst xs)) : SqL K H a xs := .inl (.inl h)
theorem SqT.of {K : PySem.W.Frag} (h : H a = some (.tup xs)) : SqT K H a xs := .inl (.inl h)
theorem Inv.list (I : Inv X pins σ H s) (h : SqL X.K H a xs) : ∃ its : List Value, m8 xs its ∧ PlainL s.heap a its.toArray ∧ xs.length ≤ sizeLine := by
  rcases h with h | ⟨o, its, n, hk, hc, hd, hs, hz, r⟩
  · obtain ⟨z, its, n, r, e⟩ := h.ok I.hok
    exact ⟨its, r, ⟨_, n, e, rfl, rfl, rfl⟩, z⟩
  · refine ⟨its.toList, r, ⟨o, n, I.kIn a o hk, hc, hd, by simpa using hs⟩, ?_⟩
    have e := r.length
    simp only [Array.length_toList] at e
    omega
theorem Inv.tuple (I : Inv X pins σ H s) (h : SqT X.K H a xs) : ∃ its : List Value, m8 xs its ∧ IsTup s.heap a its.toArray ∧ xs.length ≤ sizeLine := by
  rcases h with h | ⟨o, its, n, hk, hc, hs, hz, r⟩
  · obtain ⟨z, its, r, p⟩ := h.ok I.hok
    exact ⟨its, r, p, z⟩
  · refine ⟨its.toList, r, ⟨o, I.kIn a o hk, hc, n, by simpa using hs⟩, ?_⟩
    have e := r.length
    simp only [Array.length_toList] at e
    omega
theorem Inv.list_inj (I : Inv X pins σ H s) (h : SqL X.K H a xs) (h' : SqL X.K H a ys) : xs = ys := by
  obtain ⟨its, r, ⟨o, n, e, _, _, d⟩, _⟩ := I.list h
  obtain ⟨its', r', ⟨o', n', e', _, _, d'⟩, _⟩ := I.list h'
  rw [e] at e'; cases e'
  rw [d] at d'
  injection d' with d1 _
  have : its = its' := by simpa using congrArg Array.toList d1
  subst this
  exact r.inj r'
theorem Inv.tuple_inj (I : Inv X pins σ H s) (h : SqT X.K H a xs) (h' : SqT X.K H a ys) : xs = ys := by
  obtain ⟨its, r, ⟨o, e, _, n, d⟩, _⟩ := I.tuple h
  obtain ⟨its', r', ⟨o', e', _, n', d'⟩, _⟩ := I.tuple h'
  rw [e] at e'; cases e'
  rw [d] at d'
  injection d' with d1 _
  have : its = its' := by simpa using congrArg Array.toList d1
  subst this
  exact r.inj r'
end
abbrev Cx.wish (X : Cx) (E : Value → Shared → Prop) : Cx := { X with xe := E }
abbrev Cx.nox (X : Cx) : Cx := X.wish fun _ _ => False
theorem Cx.Ok.wish {X : Cx} (ok : X.Ok) (E : Value → Shared → Prop) : (X.wish E).Ok :=
  ⟨ok.mod, ok.kind, ok.glob, ok.blt, ok.above, ok.inj, ok.has, ok.cab, ok.hd, ok.frames, ok.stk, ok.exf, ok.bs, ok.bsz, ok.noex, ok.exfs, ok.funs, ok.frf⟩
theorem Cx.Ok.unwish {X : Cx} {E : Value → Shared → Prop} (ok : (X.wish E).Ok) : X.Ok :=
  ⟨ok.mod, ok.kind, ok.glob, ok.blt, ok.above, ok.inj, ok.has, ok.cab, ok.hd, ok.frames, ok.stk, ok.exf, ok.bs, ok.bsz, ok.noex, ok.exfs, ok.funs, ok.frf⟩
section
variable {X : Cx} {pins : List (Addr × Obj)} {σ : St} {H : Hp} {s : Shared} {E : Value → Shared → Prop}
theorem Inv.wish (I : Inv X pins σ H s) (E : Value → Shared → Prop) : Inv (X.wish E) pins σ H s := ⟨I.ok.wish E, I.os, I.bare, I.base, I.loc, I.cell, I.free, I.freeC, I.pin, I.hok, I.len⟩
theorem Inv.unwish (I : Inv (X.wish E) pins σ H s) : Inv X pins σ H s := ⟨I.ok.unwish, I.os, I.bare, I.base, I.loc, I.cell, I.free, I.freeC, I.pin, I.hok, I.len⟩
theorem SP.unwish {D : ab6} {f : Flow} {s' : Shared} (h : SP (X.wish E) pins D f s') : SP X pins D f s' := by
  cases f with
  | next => obtain ⟨σ', H', I, q⟩ := h; exact ⟨σ', H', I.unwish, q⟩
  | brk => obtain ⟨σ', H', I, q⟩ := h; exact ⟨σ', H', I.unwish, q⟩
  | cont => obtain ⟨σ', H', I, q⟩ := h; exact ⟨σ', H', I.unwish, q⟩
  | ret u => obtain ⟨v, σ', H', I, r, q⟩ := h; exact ⟨v, σ', H', I.unwish, r, q⟩
theorem PSs.nox {st : List Stmt} {t : TS} (h : PSs X.nox st t) : PSs X st t := fun pins s σ H D I hw =>
  wpAny_mono (h pins s σ H D (I.wish _) hw) (fun _ _ q => q.unwish) fun _ _ z => False.elim z
end
section
variable {X : Cx} {st : Stmt} {af1 : List Stmt} {t u : TS} {e : Expr} {te : TE} {pos : Pos}
def aE9 : TS := fun D σ H => D.nx σ H
def aQ6 (t u : TS) : TS := fun D σ H => t { D with nx := u D } σ H
theorem m6 : PSs X [] aE9 := fun _ _ σ H _ I h => wpAny_execs_nil ⟨σ, H, I, h⟩
theorem d3 (h1 : PS X st t) (h2 : PSs X af1 u) : PSs X (st :: af1) (aQ6 t u) := by
  intro pins s σ H D I h
  refine wpAny_execs_cons (thn (h1 pins s σ H { D with nx := u D } I h) fun f s1 q => ?_)
  cases f with
  | next =>
    obtain ⟨σ', H', I', q⟩ := q
    exact h2 pins s1 σ' H' D I' q
  | ret v => exact q
  | brk => exact q
  | cont => exact q
theorem d6 (h1 : PS X st t) : PSs X [st] t := by
  intro pins s σ H D I h
  refine wpAny_execs_cons (thn (h1 pins s σ H D I h) fun f s1 q => ?_)
  cases f with
  | next => exact wpAny_execs_nil q
  | ret v => exact q
  | brk => exact q
  | cont => exact q
def bl8 : TS := fun D σ H => D.bk σ H
theorem Inv.quiet {pins : List (Addr × Obj)} {σ : St} {H : Hp} {s : Shared} (I : Inv X pins σ H s) : interactive X.env = false := by simp [interactive, I.ok.kind]
def aF1 (te : TE) : TS := fun D σ H => te σ H fun _ H1 => D.nx σ H1
theorem V3 (he : PE X e te) (hs : swapsWith e none pos.line X.env = pure false := by rfl) : PS X (.Expr e pos) (aF1 te) := by
  intro pins s σ H D I h
  exact wpAny_Expr_any (thn (he pins s σ H _ I h) fun v s1 ⟨x, H1, I1, r1, q1⟩ => ⟨σ, H1, I1, q1⟩) I.quiet hs
def aQ7 (te : TE) : TS := fun D σ H => te σ H D.rt
theorem g7 (he : PE X e te) : PS X (.Return (some e) pos) (aQ7 te) := by
  intro pins s σ H D I h
  exact wpAny_Return_some (thn (he pins s σ H _ I h) fun v s1 ⟨x, H1, I1, r1, q1⟩ => ⟨x, σ, H1, I1, r1, q1⟩)
def bp7 : TS := fun D _ H => D.rt .non H
def aW1 (c : TT) (t u : TS) : TS := fun D σ H => c σ H fun b H1 => if b = true then t D σ H1 else u D σ H1
theorem z9 {c : Expr} {a b : List Stmt} {tc : TT} (hc : PT X c tc) (ha : PSs X a t) (hb : PSs X b u) : PS X (.If c a b pos) (aW1 tc t u) := by
  intro pins s σ H D I h
  refine wpAny_If (thn (hc pins s σ H _ I h) fun d s1 ⟨H1, I1, q1⟩ => ?_)
  cases d with
  | true => exact ha pins s1 σ H1 D I1 q1
  | false => exact hb pins s1 σ H1 D I1 q1
def ap0 : TS := fun _ _ _ => False
theorem aq3 : PS X st ap0 := fun _ _ _ _ _ _ h => h.elim
end
abbrev TG := V → St → Hp → (St → Hp → Prop) → Prop
abbrev TGs := List V → St → Hp → (St → Hp → Prop) → Prop
def PG (X : Cx) (target : Expr) (t : TG) : Prop :=
  ∀ (pins : List (Addr × Obj)) (s : Shared) (σ : St) (H : Hp) (v : V) (u : Value) (Q : St → Hp → Prop), Inv X pins σ H s → z7 v u → t v σ H Q →
    wpAny (model X.prog X.w) X.A (assign target X.env u) (fun _ s' => ∃ σ' H', Inv X pins σ' H' s' ∧ Q σ' H') X.xe s
def PGs (X : Cx) (ts : List Expr) (t : TGs) : Prop :=
  ∀ (pins : List (Addr × Obj)) (s : Shared) (σ : St) (H : Hp) (vs : List V) (us : List Value) (Q : St → Hp → Prop), Inv X pins σ H s → m8 vs us → t vs σ H Q →
    wpAny (model X.prog X.w) X.A (assignInOrder ((assignEach ts X.env).map (·.2)) us) (fun _ s' => ∃ σ' H', Inv X pins σ' H' s' ∧ Q σ' H') X.xe s
abbrev be1 := V → V → V → Hp → (Hp → Prop) → Prop
def bo9 (X : Cx) (t : be1) : Prop :=
  ∀ (pins : List (Addr × Obj)) (s : Shared) (σ : St) (H : Hp) (o i v : V) (ov iv u : Value) (Q : Hp → Prop), Inv X pins σ H s → z7 o ov → z7 i iv → z7 v u → t o i v H Q →
    wpAny (model X.prog X.w) X.A (setItem ov iv u) (fun _ s' => ∃ H', Inv X pins σ H' s' ∧ Q H') X.xe s
abbrev TIp := V → V → Hp → VK → Prop
def PIp (X : Cx) (op : Operator) (t : TIp) : Prop :=
  ∀ (pins : List (Addr × Obj)) (s : Shared) (σ : St) (H : Hp) (x y : V) (v u : Value) (Q : VK), Inv X pins σ H s → z7 x v → z7 y u → t x y H Q →
    wpAny (model X.prog X.w) X.A (inplaceOp op v u) (EP X pins σ Q) X.xe s
section
variable {X : Cx} {pos : Pos}
def j9 (i : Nat) : TG := fun v σ H Q => Q (σ.set i (some v)) H
theorem e8 {i : Nat} {x : Str} (hN : X.N.Nodup) (hi : X.N[i]? = some x) (hx : Loc X.env.scope x) (hf : X.fn x = true ∨ X.env.scope.names.lookup x = some .local := by first | exact .inl rfl | exact .inr rfl | assumption) : PG X (.Name x pos) (j9 i) := by
  intro pins s σ H v u Q I r h
  exact wpAny_assign_Name (W3 I hN hi hx r (fun s' I' => ⟨_, H, I', h⟩) hf)
def N7 : TGs := fun vs σ H Q => vs = [] ∧ Q σ H
def n8 (t : TG) (u : TGs) : TGs := fun vs σ H Q => ∃ v r, vs = v :: r ∧ t v σ H fun σ' H' => u r σ' H' Q
theorem w4 : PGs X [] N7 := by
  intro pins s σ H vs us Q I r h
  obtain ⟨e, h⟩ := h
  subst e
  cases r
  exact assignInOrder_nil ⟨σ, H, I, h⟩
theorem g8 {e : Expr} {es : List Expr} {t : TG} {u : TGs} (h1 : PG X e t) (h2 : PGs X es u)
    (hs : (assignEach (e :: es) X.env).map (·.2) = assign e X.env :: (assignEach es X.env).map (·.2) := by rfl) : PGs X (e :: es) (n8 t u) := by
  intro pins s σ H vs us Q I r h
  obtain ⟨v, vr, e1, h⟩ := h
  subst e1
  cases r with
  | cons r rr =>
    rw [hs]
    refine assignInOrder_cons (thn (h1 pins s σ H _ _ _ I r h) fun _ s1 ⟨σ1, H1, I1, q1⟩ => ?_)
    exact h2 pins s1 σ1 H1 _ _ Q I1 rr q1
def N6 (K : PySem.W.Frag) (n : Nat) (t : TGs) : TG := fun v σ H Q => ∃ a xs, v = .ref a ∧ SqT K H a xs ∧ xs.length = n ∧ t xs σ H Q
theorem B9 {es : List Expr} {k : Nat} {t : TGs} {n : Nat} (hc : X.calm = true) (h : PGs X es t)
    (hn : (assignEach es X.env).length = n := by rfl) (hst : (assignEach es X.env).findIdx? (·.1) = none := by rfl) : PG X (.Tuple es k pos) (N6 X.K n t) := by
  intro pins s σ H v u Q I r hw
  obtain ⟨a, xs, e1, hq, hl, hw⟩ := hw
  subst e1
  cases r
  obtain ⟨its, rv, ht, hz⟩ := I.tuple hq
  refine assign_Tuple_tuple (I.ok.hd hc) ht (by simp [hn, ← hl, rv.length]) hst fun h' hx => ?_
  have I1 : Inv X pins σ H { s with heap := h' } := I.kept (t' := s.toks) fun b o e => hx b o (Nat.ne_of_lt (Heap.lt_size e)) e
  exact h pins _ σ H xs _ Q I1 (by simpa using rv) hw
def bc8 (to ti : TE) (t : be1) : TG := fun v σ H Q => to σ H fun o H1 => ti σ H1 fun i H2 => t o i v H2 fun H3 => Q σ H3
theorem ai5 {o i : Expr} {to ti : TE} {t : be1} (ho : PE X o to) (hi : PE X i ti) (hs : bo9 X t)
    (ha : ∀ v, assign (.Subscript o i pos) X.env v = (do
      let ov ← holding [v] (eval o X.env)
      let iv ← holding [v, ov] (eval i X.env)
      standAt pos
      holding [v, ov, iv] (setItem ov iv v)
      release [v, ov, iv] []) := by intro _; rfl) : PG X (.Subscript o i pos) (bc8 to ti t) := by
  intro pins s σ H v u Q I r h
  rw [ha]
  refine wpAny_bind (wpAny_holding (thn (ho pins s σ H _ I h) fun ov s1 ⟨x, H1, I1, r1, q1⟩ => ?_))
  refine wpAny_bind (wpAny_holding (thn (hi pins s1 σ H1 _ I1 q1) fun iv s2 ⟨y, H2, I2, r2, q2⟩ => ?_))
  refine wpAny_bind (wpAny_standAt (wpAny_bind (wpAny_holding (thn (hs pins s2 σ H2 x y v ov iv u _ I2 r1 r2 r q2) fun _ s3 ⟨H3, I3, q3⟩ => ?_))))
  exact wpAny_release ⟨σ, H3, I3, q3⟩
def aJ9 (te : TE) (g : TG) : TS := fun D σ H => te σ H fun x H1 => g x σ H1 D.nx
theorem F5 {tg e : Expr} {te : TE} {g : TG} (he : PE X e te) (hg : PG X tg g) (hs : swapsWithSole [tg] e pos.line X.env = pure false := by rfl) (hw : swappedStores [tg] e X.env = pure none := by rfl)
    (h1 : (assignEach [tg] X.env).map (·.2) = [assign tg X.env] := by rfl) : PS X (.Assign [tg] e pos) (aJ9 te g) := by
  intro pins s σ H D I h
  refine wpAny_Assign_stores (thn (he pins s σ H _ I h) fun v s1 ⟨x, H1, I1, r1, q1⟩ => ?_) hs hw
  rw [h1]
  exact thn (hg pins s1 σ H1 x v _ I1 r1 q1) fun _ s2 q => q
theorem i7 {i : Nat} {x : Str} {e : Expr} {te : TE} {pos' : Pos} (hN : X.N.Nodup) (hi : X.N[i]? = some x) (hx : Loc X.env.scope x) (he : PE X e te) (hs : swapsWith e (some (.Name x pos')) pos.line X.env = pure false := by rfl) (hf : X.fn x = true ∨ X.env.scope.names.lookup x = some .local := by first | exact .inl rfl | exact .inr rfl | assumption) :
    PS X (.Assign [.Name x pos'] e pos) (aJ9 te (j9 i)) := by
  intro pins s σ H D I h
  refine wpAny_Assign_Name (thn (he pins s σ H _ I h) fun v s1 ⟨y, H1, I1, r1, q1⟩ => ?_) hs
  exact W3 I1 hN hi hx r1 (fun s2 I2 => ⟨_, H1, I2, q1⟩) hf
def aQ8 (i j : Nat) (ta : TA) : TS := fun D σ H => ta σ H fun vs H1 => ∃ v w, vs = [v, w] ∧ D.nx ((σ.set i (some v)).set j (some w)) H1
theorem X9 {i j : Nat} {x y : Str} {a b : Expr} {ta : TA} {px py pt : Pos} {kt k2 pt2} (hc : X.calm = true) (hN : X.N.Nodup) (hi : X.N[i]? = some x) (hj : X.N[j]? = some y) (hij : i ≠ j)
    (hx : X.env.scope.names.lookup x = some .local) (hy : X.env.scope.names.lookup y = some .local) (ha : PA X [a, b] ta)
    (hw : swappedStores [.Tuple [.Name x px, .Name y py] kt pt] (.Tuple [a, b] k2 pt2) X.env = pure (some [x, y]))
    (hs : swapsWithSole [.Tuple [.Name x px, .Name y py] kt pt] (.Tuple [a, b] k2 pt2) pos.line X.env = pure false := by rfl) :
    PS X (.Assign [.Tuple [.Name x px, .Name y py] kt pt] (.Tuple [a, b] k2 pt2) pos) (aQ8 i j ta) := by
  intro pins s σ H D I h
  rw [exec_Assign_arm]
  refine wpAny_bind (wpAny_standAt ?_)
  rw [hs]
  refine wpAny_bind (wpAny_pure ?_)
  rw [if_neg (by decide)]
  refine wpAny_bind (Tuple_ (thn (ha _ pins s σ H _ I h) fun us s1 ⟨vs, H1, I1, r1, q1⟩ => ?_))
  obtain ⟨v, w, e1, q1⟩ := q1
  subst e1
  obtain ⟨u1, u2, rfl, rv, rw'⟩ : ∃ u1 u2, us = [u1, u2] ∧ z7 v u1 ∧ z7 w u2 := by
    cases r1 with
    | cons p q =>
      cases q with
      | cons p' q' =>
        cases q'
        exact ⟨_, _, rfl, p, p'⟩
  refine wpAny_newObj_type ?_ (by show 2 ≤ sizeLine; decide)
  have I2 : Inv X pins σ H1 { s1 with heap := s1.heap.push { cls := .type "tuple", data := .seq [u1, u2].toArray } } := I1.kept (t' := s1.toks) fun b o e => Heap.get?_push_of_some _ e
  rw [hw]
  refine wpAny_bind (wpAny_pure ?_)
  show wpAny (model X.prog X.w) X.A (do rule "assign.swapped-stores"; let items ← unpackItems (.ref s1.heap.objs.size) 2 none; assignInOrder [fun v => bindName X.env y v, fun v => bindName X.env x v] items.reverse; pure Flow.next) _ _ _
  refine wpAny_bind (wpAny_rule (wpAny_bind (unpackItems_tuple (items := #[u1, u2]) (I.ok.hd hc) (IsTup.new s1.heap _) fun h' hx' => ?_)))
  have I3 := I2.kept (h' := h') (t' := s1.toks) fun b o e => hx' b o (Nat.ne_of_lt (Heap.lt_size e)) e
  show wpAny _ _ (assignInOrder [fun v => bindName X.env y v, fun v => bindName X.env x v] [u2, u1] >>= fun _ => pure Flow.next) _ _ _
  refine wpAny_bind (assignInOrder_cons (wpAny_bindName (W3 I3 hN hj (.inl hy) rw' (fun s2 I4 => ?_) (.inr hy))))
  refine assignInOrder_cons (wpAny_bindName (W3 I4 hN hi (.inl hx) rv (fun s3 I5 => assignInOrder_nil (wpAny_pure ?_)) (.inr hx)))
  rw [List.set_comm _ _ (Ne.symm hij)] at I5
  exact ⟨_, H1, I5, q1⟩
def aW3 (i : Nat) (te : TE) (ti : TIp) : TS := fun D σ H => ∃ x, σ[i]? = some (some x) ∧ te σ H fun y H1 => ti x y H1 fun z H2 => D.nx (σ.set i (some z)) H2
theorem aK5 {i : Nat} {x : Str} {e : Expr} {te : TE} {op : Operator} {ti : TIp} {pos' : Pos} (hN : X.N.Nodup) (hi : X.N[i]? = some x) (hx : Loc X.env.scope x) (he : PE X e te) (ho : PIp X op ti) (hf : X.fn x = true ∨ X.env.scope.names.lookup x = some .local := by first | exact .inl rfl | exact .inr rfl | assumption) :
    PS X (.AugAssign (.Name x pos') op e pos) (aW3 i te ti) := by
  intro pins s σ H D I h
  obtain ⟨v, e1, h⟩ := h
  obtain ⟨m, hn, hl⟩ := I.loc
  have vis : Vis X.env.scope x := by rcases hx with k | k; exact .inl k; exact .inr (.inl k)
  obtain ⟨u, r, l⟩ := hl i x v hi e1 vis
  refine wpAny_AugAssign_Name ?_
  have go : wpAny (model X.prog X.w) X.A (eval e X.env) (fun w s₂ => wpAny (model X.prog X.w) X.A (inplaceOp op u w) (fun r s₃ => wpAny (model X.prog X.w) X.A (storeName X.env x r) (fun _ => SP X pins D .next) X.xe s₃) X.xe s₂) X.xe s := by
    refine thn (he pins s σ H _ I h) fun w s1 ⟨y, H1, I1, r1, q1⟩ => ?_
    refine thn (ho pins s1 σ H1 v y u w _ I1 r r1 q1) fun z s2 ⟨zv, H2, I2, r2, q2⟩ => ?_
    exact W3 I2 hN hi hx r2 (fun s3 I3 => ⟨_, H2, I3, q2⟩) hf
  rcases l with ⟨hk, hm⟩ | ⟨hk, c, hc, hcell⟩
  · exact wpAny_loadName_local I.ok.kind hk hn hm go
  · rcases hk with hk | hk
    · exact wpAny_loadName_cell I.ok.kind hk hc hcell go
    · rcases hx with k | k
      · have : X.env.scope.names.lookup x = some .free := hk
        rw [k] at this; cases this
      · have : X.env.scope.names.lookup x = some .free := hk
        rw [k] at this; cases this
def aF2 (to ti te : TE) (tget : V → V → Hp → VK → Prop) (tip : TIp) (tset : be1) : TS := fun D σ H => to σ H fun o H1 => ti σ H1 fun i H2 => tget o i H2 fun x H3 => te σ H3 fun y H4 => tip x y H4 fun z H5 => tset o i z H5 fun H6 => D.nx σ H6
def br7 (X : Cx) (t : V → V → Hp → VK → Prop) : Prop :=
  ∀ (pins : List (Addr × Obj)) (s : Shared) (σ : St) (H : Hp) (o i : V) (ov iv : Value) (Q : VK), Inv X pins σ H s → z7 o ov → z7 i iv → t o i H Q →
    wpAny (model X.prog X.w) X.A (getItem ov iv) (EP X pins σ Q) X.xe s
theorem aB3 {o i e : Expr} {to ti te : TE} {tget : V → V → Hp → VK → Prop} {tip : TIp} {tset : be1} {op : Operator} {tpos : Pos} (ho : PE X o to) (hi : PE X i ti) (hg : br7 X tget) (he : PE X e te) (hp : PIp X op tip) (hs : bo9 X tset)
    (ha : ∀ ov iv new, augStore i ov iv new = (do holding [new, ov, iv] (setItem ov iv new); release [new, ov, iv] []; pure .next) := by intros; rfl) : PS X (.AugAssign (.Subscript o i tpos) op e pos) (aF2 to ti te tget tip tset) := by
  intro pins s σ H D I h
  refine wpAny_AugAssign_SubscriptAny (thn (ho pins s σ H _ I h) fun ov s1 ⟨x1, H1, I1, r1, q1⟩ => ?_) ha
  refine thn (hi pins s1 σ H1 _ I1 q1) fun iv s2 ⟨x2, H2, I2, r2, q2⟩ => ?_
  refine thn (hg pins s2 σ H2 x1 x2 ov iv _ I2 r1 r2 q2) fun old s3 ⟨x3, H3, I3, r3, q3⟩ => ?_
  refine thn (he pins s3 σ H3 _ I3 q3) fun v s4 ⟨x4, H4, I4, r4, q4⟩ => ?_
  refine thn (hp pins s4 σ H4 x3 x4 old v _ I4 r3 r4 q4) fun new s5 ⟨x5, H5, I5, r5, q5⟩ => ?_
  exact thn (hs pins s5 σ H5 x1 x2 x5 ov iv new _ I5 r1 r2 r5 q5) fun _ s6 ⟨H6, I6, q6⟩ => ⟨σ, H6, I6, q6⟩
def ipI (f : Int → Int → Int) : TIp := fun x y H Q => ∃ i j, x = .int i ∧ y = .int j ∧ Q (.int (f i j)) H
theorem bc1 : PIp X .Add (ipI fun i j => i + j) := by
  intro pins s σ H x y v u Q I r1 r2 h
  obtain ⟨i, j, e1, e2, q⟩ := h
  subst e1; subst e2
  obtain ⟨t, rfl⟩ := r1
  obtain ⟨t', rfl⟩ := r2
  exact iadd_int ⟨.int _, H, I.tok _, ⟨_, rfl⟩, q⟩
theorem aM0 : PIp X .Sub (ipI fun i j => i - j) := by
  intro pins s σ H x y v u Q I r1 r2 h
  obtain ⟨i, j, e1, e2, q⟩ := h
  subst e1; subst e2
  obtain ⟨t, rfl⟩ := r1
  obtain ⟨t', rfl⟩ := r2
  exact isub_int ⟨.int _, H, I.tok _, ⟨_, rfl⟩, q⟩
end
section
variable {X : Cx} {pos : Pos}
def ao6 (c : TT) (tb : TS) : TS := fun D σ H => ∃ W : Nat → St → Hp → Prop, (∃ m, W m σ H) ∧ ∀ m σ H, W m σ H →
  c σ H fun b H1 => if b = true then ∃ N : St → Hp → Prop, (∀ σ' H', N σ' H' → ∃ m', m' < m ∧ W m' σ' H') ∧ tb { D with nx := N, ct := N, bk := D.nx } σ H1 else D.nx σ H1
theorem U0 {c : Expr} {body : List Stmt} {tc : TT} {tb : TS} (hp : PassesOwn (model X.prog X.w) X.A X.env X.xe) (hc : PT X c tc) (hb : PSs X body tb) : PS X (.While c body [] pos) (ao6 tc tb) := by
  intro pins s σ H D I h
  obtain ⟨W, ⟨m0, w0⟩, turn⟩ := h
  refine wpAny_While (codeAny_whileLoop (fun n s' => ∃ σ' H', Inv X pins σ' H' s' ∧ W n σ' H') ?_ m0 ⟨σ, H, I, w0⟩)
  rintro n s1 ⟨σ1, H1, I1, w1⟩
  refine wpAny_passesOwn hp (thn (hc pins s1 σ1 H1 _ I1 (turn n σ1 H1 w1)) fun b s2 ⟨H2, I2, q2⟩ => ?_)
  cases b with
  | true =>
    obtain ⟨N, hN, q2⟩ := q2
    rw [if_pos rfl]
    refine wpAny_passesOwn hp (thn (hb pins s2 σ1 H2 _ I2 q2) fun f s3 q3 => ?_)
    cases f with
    | next =>
      obtain ⟨σ3, H3, I3, n3⟩ := q3
      obtain ⟨m', hm, w3⟩ := hN σ3 H3 n3
      exact ⟨m', hm, σ3, H3, I3, w3⟩
    | cont =>
      obtain ⟨σ3, H3, I3, n3⟩ := q3
      obtain ⟨m', hm, w3⟩ := hN σ3 H3 n3
      exact ⟨m', hm, σ3, H3, I3, w3⟩
    | brk => exact q3
    | ret v => exact q3
  | false =>
    rw [if_neg Bool.false_ne_true]
    exact wpAny_execs_nil ⟨σ1, H2, I2, q2⟩
end
structure It where
  go : Nat → Hp → Prop
  yld : Nat → Hp → V → Hp → Prop
  stop : Nat → Hp → Prop
def am6 (X : Cx) (pins : List (Addr × Obj)) (H : Hp) (b : Addr) : Prop :=
  H b = none ∧ b ≠ X.env.locals ∧ b ∉ X.fs ∧ (b ∈ X.ex ∨ X.s₀.heap.objs.size ≤ b) ∧ (∀ x c, X.env.cells.lookup x = some c → c ≠ b) ∧ ∀ p ∈ X.pn ++ pins, p.1 ≠ b
theorem Inv.fpOk {X : Cx} {pins : List (Addr × Obj)} {σ : St} {H H' : Hp} {s : Shared} {b : Addr} (I : Inv X pins σ H s) (hb : s.heap.objs.size ≤ b) (hn : H' b = none) : am6 X pins H' b := by
  refine ⟨hn, Nat.ne_of_gt (Nat.lt_of_lt_of_le I.lt hb), I.nofs hb, .inr (Nat.le_trans I.sz hb), fun x c e z => ?_, fun p hp z => ?_⟩
  · obtain ⟨v, q⟩ := I.cell x c e
    exact absurd (Nat.lt_of_lt_of_le q.lt (by rw [z]; exact hb)) (Nat.lt_irrefl _)
  · exact absurd (Nat.lt_of_lt_of_le (Heap.lt_size (I.pin p hp).1) (by rw [z]; exact hb)) (Nat.lt_irrefl _)
structure aU5 (P : Program) (w : World) (K : PySem.W.Frag) (tg : Expr) (J : It) (fp : List Addr) (it : Addr) (tn : Nat → Heap → Prop) : Prop where
  mem : it ∈ fp
  obj : ∀ i h, tn i h → ∀ b ∈ fp, ∃ o, h.get? b = some o ∧ ∀ v, o.data ≠ .cell v
  keep : ∀ i h h', tn i h → (∀ b ∈ fp, ∀ o, h.get? b = some o → h'.get? b = some o) → tn i h'
  item : ∀ (X : Cx), X.prog = P → X.w = w → X.K = K → X.calm = true → ∀ (i : Nat) (pins : List (Addr × Obj)) (s : Shared) (σ : St) (H : Hp) (E : Value → Shared → Prop), Inv X pins σ H s → (∀ b ∈ fp, am6 X pins H b) → tn i s.heap → J.go i H →
    wpAny (model P w) X.A (pyNext (.ref it)) (fun r s1 => ∃ u, r = some u ∧
      wpAny (model P w) X.A (letOwnedTupleGo tg (.ref it) u) (fun _ s2 => ∃ x H', Inv X pins σ H' s2 ∧ z7 x u ∧ J.yld i H x H' ∧ tn (i + 1) s2.heap ∧ ∀ b ∈ fp, H' b = none) E s1) E s
  done : ∀ (X : Cx), X.prog = P → X.w = w → X.K = K → X.calm = true → ∀ (i : Nat) (pins : List (Addr × Obj)) (s : Shared) (σ : St) (H : Hp) (E : Value → Shared → Prop), Inv X pins σ H s → (∀ b ∈ fp, am6 X pins H b) → tn i s.heap → J.stop i H →
    wpAny (model P w) X.A (pyNext (.ref it)) (fun r s1 => r = none ∧ Inv X pins σ H s1) E s
  self : ∀ (A : Around) (i : Nat) (s : Shared) (Q : Value → Shared → Prop) (E : Value → Shared → Prop), tn i s.heap → Q (.ref it) s → wpAny (model P w) A (pyIter (.ref it)) Q E s
abbrev TI := St → Hp → (It → Hp → Prop) → Prop
def PIE (X : Cx) (pins : List (Addr × Obj)) (σ : St) (tg : Expr) (R : It → Hp → Prop) (itv : Value) (s2 : Shared) : Prop :=
  ∃ (it : Addr) (fp : List Addr) (tn : Nat → Heap → Prop) (J : It) (H' : Hp), itv = .ref it ∧ Inv X pins σ H' s2 ∧ aU5 X.prog X.w X.K tg J fp it tn ∧ tn 0 s2.heap ∧ (∀ b ∈ fp, am6 X pins H' b) ∧ R J H'
def PI (X : Cx) (tg iter : Expr) (wi : TI) : Prop :=
  ∀ (pins : List (Addr × Obj)) (s : Shared) (σ : St) (H : Hp) (R : It → Hp → Prop), Inv X pins σ H s → wi σ H R →
    wpAny (model X.prog X.w) X.A (eval iter X.env) (fun v s1 => wpAny (model X.prog X.w) X.A (pyIter v) (PIE X pins σ tg R) X.xe s1) X.xe s
theorem aP0 {M : Model} {A : Around} {E : Value → Shared → Prop} {s : Shared} {tg : Expr} {it : Addr} {u : Value} {o : Obj} {n : String} {vs : Array Value} {Q : Unit → Shared → Prop} (ho : s.heap.get? it = some o) (hc : o.cls = .type n) (hd : o.data = .fields vs)
    (hn : ["enumerate", "zip", "dict_itemiterator", "dict_reverseitemiterator", "odict_iterator", "itertools.zip_longest", "itertools.pairwise"].contains n = false) (hQ : Q () s) : wpAny M A (letOwnedTupleGo tg (.ref it) u) Q E s := by
  unfold letOwnedTupleGo
  cases tg <;> first
    | exact wpAny_pure hQ
    | (cases u <;> first
        | exact wpAny_pure hQ
        | (refine wpAny_bind (wpAny_load ho ?_)
           rw [hc, hd]
           show wpAny M A (if (["enumerate", "zip", "dict_itemiterator", "dict_reverseitemiterator", "odict_iterator", "itertools.zip_longest", "itertools.pairwise"].contains n && vs[0]? == some (rawInt _)) = true then _ else _) Q E s
           rw [if_neg (by intro h; rw [hn, Bool.false_and] at h; cases h)]
           exact wpAny_pure hQ))
def Itl (K : PySem.W.Frag) (a : Addr) : It :=
  ⟨fun i H => ∃ xs x, SqL K H a xs ∧ xs[i]? = some x, fun i H x H' => H' = H ∧ ∀ xs, SqL K H a xs → xs[i]? = some x, fun i H => ∃ xs, SqL K H a xs ∧ xs.length ≤ i⟩
def Itt (K : PySem.W.Frag) (a : Addr) : It :=
  ⟨fun i H => ∃ xs x, SqT K H a xs ∧ xs[i]? = some x, fun i H x H' => H' = H ∧ ∀ xs, SqT K H a xs → xs[i]? = some x, fun i H => ∃ xs, SqT K H a xs ∧ xs.length ≤ i⟩
def Itr (lo : Int) (n : Nat) : It := ⟨fun i _ => i < n, fun i H x H' => H' = H ∧ x = .int (lo + i), fun i _ => n ≤ i⟩
theorem aQ3 {P : Program} {w : World} {K : PySem.W.Frag} {tg : Expr} (a it : Addr) : aU5 P w K tg (Itl K a) [it] it (fun i h => h.IsListIter it a i) where
  mem := by simp
  obj := fun i h st b hb => by
    have e : b = it := by simpa using hb
    subst e
    obtain ⟨o, e, c, d⟩ := st
    exact ⟨o, e, fun v z => by rw [d] at z; cases z⟩
  keep := fun i h h' st k => st.at fun o e => k it (by simp) o e
  item := by
    intro X hP hw hK hc i pins s σ H E I hf st hg
    subst hP hw hK
    obtain ⟨xs, x, hq, hx⟩ := hg
    obtain ⟨its, rv, p, hz⟩ := I.list hq
    obtain ⟨u, hu, ru⟩ := rv.get hx
    obtain ⟨f0, f1, f2, f3, f4, f5⟩ := hf it (by simp)
    refine wpAny_pyNext_list_item st p.isList (x := u) (by simpa using hu) fun h' st' sb => ?_
    have I1 : Inv X pins σ H { s with heap := h' } := I.turned (t' := s.toks) (fun b o hb e => (sb.2 b hb).trans e) f0 f1 f3 f4 f5
    obtain ⟨o, e, c, d⟩ := id st'
    exact ⟨u, rfl, aP0 (s := { s with heap := h' }) e c d (by decide) ⟨x, H, I1, ru, ⟨rfl, fun ys hy => by rw [I.list_inj hy hq]; exact hx⟩, st', fun b hb => (hf b hb).1⟩⟩
  done := by
    intro X hP hw hK hc i pins s σ H E I hf st hg
    subst hP hw hK
    obtain ⟨xs, hq, hx⟩ := hg
    obtain ⟨its, rv, p, hz⟩ := I.list hq
    obtain ⟨f0, f1, f2, f3, f4, f5⟩ := hf it (by simp)
    have hl := rv.length
    exact wpAny_pyNext_list_end (I.ok.hd hc) st p.isList (by simp; omega) fun h' eb => ⟨rfl, I.turned (t' := s.toks) (fun b o hb e => eb b o hb e) f0 f1 f3 f4 f5⟩
  self := fun _ _ _ _ _ st h => wpAny_pyIter_listiter st h
theorem aJ7 {P : Program} {w : World} {K : PySem.W.Frag} {tg : Expr} (it : Addr) (lo : Int) (n : Nat) : aU5 P w K tg (Itr lo n) [it] it (fun i h => IsRangeIter h it (lo + (i : Nat) * 1) ((n : Int) - (i : Nat)) 1) where
  mem := by simp
  obj := fun i h st b hb => by
    have e : b = it := by simpa using hb
    subst e
    exact ⟨_, st, fun v z => by
      have z' : Data.fields _ = Data.cell v := z
      cases z'⟩
  keep := fun i h h' st k => k it (by simp) _ st
  item := by
    intro X hP hw hK hc i pins s σ H E I hf st hg
    subst hP hw hK
    obtain ⟨f0, f1, f2, f3, f4, f5⟩ := hf it (by simp)
    have W := Walks.range (prog := X.prog) (w := X.w) (I.ok.hd hc) it lo 1 n
    refine W.item i s _ _ hg st fun v h' tk hv st' kk => ?_
    obtain ⟨t, rfl⟩ := hv
    have I1 : Inv X pins σ H { s with heap := h', toks := tk } := I.turned (fun b o hb e => kk b o (by simpa using hb) e) f0 f1 f3 f4 f5
    refine ⟨_, rfl, aP0 (s := { s with heap := h', toks := tk }) (n := "range_iterator") st' rfl rfl (by decide) ⟨.int (lo + i), H, I1, ⟨t, ?_⟩, ⟨rfl, rfl⟩, st', fun b hb => (hf b hb).1⟩⟩
    rw [Int.mul_one]
  done := by
    intro X hP hw hK hc i pins s σ H E I hf st hg
    subst hP hw hK
    obtain ⟨f0, f1, f2, f3, f4, f5⟩ := hf it (by simp)
    exact wpAny_pyNext_range_end (I.ok.hd hc) st (by have : n ≤ i := hg; omega) fun h' eb => ⟨rfl, I.turned (t' := s.toks) (fun b o hb e => eb b o hb e) f0 f1 f3 f4 f5⟩
  self := fun _ _ _ _ _ st h => wpAny_pyIter_rangeiter st h
section
variable {X : Cx} {tg : Expr}
def aI6 (K : PySem.W.Frag) (tl : TE) : TI := fun σ H R => tl σ H fun x H1 => ∃ a, x = .ref a ∧ (∃ xs, SqL K H1 a xs) ∧ R (Itl K a) H1
def bt0 (K : PySem.W.Frag) (tl : TE) : TI := fun σ H R => tl σ H fun x H1 => ∃ a, x = .ref a ∧ (∃ xs, SqT K H1 a xs) ∧ R (Itt K a) H1
theorem B2 {l : Expr} {tl : TE} (hl : PE X l tl) : PI X tg l (aI6 X.K tl) := by
  intro pins s σ H R I h
  refine thn (hl pins s σ H _ I h) fun v s1 ⟨x, H1, I1, r1, q1⟩ => ?_
  obtain ⟨a, e, ⟨xs, hq⟩, q⟩ := q1
  subst e
  cases r1
  obtain ⟨its, rv, p, hz⟩ := I1.list hq
  refine wpAny_pyIter_list p.isList ?_
  refine ⟨s1.heap.objs.size, [s1.heap.objs.size], _, _, H1, rfl, I1.kept (t' := s1.toks) fun b o e => Heap.get?_push_of_some _ e, aQ3 a _, ⟨_, Heap.get?_push_size _ rfl, rfl, rfl⟩, fun b hb => ?_, q⟩
  have e : b = s1.heap.objs.size := by simpa using hb
  subst e
  exact I1.fpOk (Nat.le_refl _) (I1.hok.fresh (Nat.le_refl _))
theorem aX6 {pins : List (Addr × Obj)} {σ : St} {H : Hp} {s : Shared} {R : It → Hp → Prop} {E : Value → Shared → Prop} {lo hi : Int} {t u v : Tok} {tk : Nat} (I : Inv X pins σ H s) (h1 : -(2 ^ 62) ≤ lo) (h2 : lo < 2 ^ 62) (h3 : -(2 ^ 62) ≤ hi) (h4 : hi < 2 ^ 62)
    (q : R (Itr lo (hi - lo).toNat) H) : wpAny (model X.prog X.w) X.A (pyIter (.ref s.heap.objs.size)) (PIE X pins σ tg R) E { s with heap := s.heap.push { cls := .type "range", data := .fields #[.int lo t, .int hi u, .int 1 v] }, toks := tk } := by
  refine wpAny_pyIter_range (IsRange.new ..) (small_one h1 h2 h3 h4) ?_
  have I1 : Inv X pins σ H { s with heap := s.heap.push { cls := .type "range", data := .fields #[.int lo t, .int hi u, .int 1 v] }, toks := tk } := I.kept fun b o e => Heap.get?_push_of_some _ e
  refine ⟨(s.heap.push { cls := .type "range", data := .fields #[.int lo t, .int hi u, .int 1 v] }).objs.size, [(s.heap.push { cls := .type "range", data := .fields #[.int lo t, .int hi u, .int 1 v] }).objs.size], _, _, H, rfl,
    I1.kept (t' := tk) fun b o e => Heap.get?_push_of_some _ e, aJ7 _ lo (hi - lo).toNat, ?_, fun b hb => ?_, q⟩
  · have e1 : lo + ((0 : Nat) : Int) * 1 = lo := by simp
    have e2 : (((hi - lo).toNat : Nat) : Int) - ((0 : Nat) : Int) = Builtin.Range.rangeSize lo hi 1 := by rw [rangeSize_one]; split <;> omega
    show IsRangeIter _ _ (lo + ((0 : Nat) : Int) * 1) ((((hi - lo).toNat : Nat) : Int) - ((0 : Nat) : Int)) 1
    rw [e1, e2]
    exact Heap.get?_push_size _ rfl
  · have e : b = (s.heap.push { cls := .type "range", data := .fields #[.int lo t, .int hi u, .int 1 v] }).objs.size := by simpa using hb
    subst e
    exact I1.fpOk (Nat.le_refl _) (I1.hok.fresh (Nat.le_refl _))
def aI5 (ta : TA) : TI := fun σ H R => ta σ H fun vs H1 => ∃ j : Int, vs = [.int j] ∧ -(2 ^ 62) ≤ j ∧ j < 2 ^ 62 ∧ R (Itr 0 j.toNat) H1
def br1 (ta : TA) : TI := fun σ H R => ta σ H fun vs H1 => ∃ i j : Int, vs = [.int i, .int j] ∧ (-(2 ^ 62) ≤ i ∧ i < 2 ^ 62 ∧ -(2 ^ 62) ≤ j ∧ j < 2 ^ 62) ∧ R (Itr i (j - i).toNat) H1
theorem ai4 {a : Expr} {ta : TA} {p pos : Pos} (hg : Gl X "range") (hm : X.mg "range" = none) (ha : PA X [a] ta) (hs : starEach [a] X.env = [(false, eval a X.env)] := by rfl) : PI X tg (.Call (.Name "range" p) [a] [] pos) (aI5 ta) := by
  intro pins s σ H R I h
  refine Call_ (Z9 I hg hm boot_range (PyProof.Rows.callWith_type1 (thn (ha pos pins s σ H _ I h) fun us s1 ⟨vs, H1, I1, r1, q1⟩ => ?_) hs rfl))
  obtain ⟨j, e, q1, q2, q⟩ := q1
  subst e
  cases r1 with
  | cons r rr =>
    cases rr
    obtain ⟨t, rfl⟩ := r
    exact call_range_1 (aX6 I1 (by omega) (by omega) q1 q2 (by simpa using q))
def bs3 (wi : TI) (g : TG) (tb : TS) : TS := fun D σ H => wi σ H fun J H1 => ∃ W : Nat → Nat → St → Hp → Prop, (∃ m, W 0 m σ H1) ∧ ∀ i m σ H, W i m σ H →
  (J.stop i H ∧ D.nx σ H) ∨ (J.go i H ∧ ∃ N : St → Hp → Prop, (∀ σ' H', N σ' H' → ∃ m', m' < m ∧ W (i + 1) m' σ' H') ∧ ∀ x H', J.yld i H x H' → g x σ H' fun σ2 H2 => tb { D with nx := N, ct := N, bk := D.nx } σ2 H2)
def aB5 (fp : List Addr) (h : Heap) : List (Addr × Obj) := fp.filterMap fun b => (h.get? b).map fun o => (b, o)
theorem K0 {fp : List Addr} {h : Heap} {b : Addr} {o : Obj} (hb : b ∈ fp) (e : h.get? b = some o) : (b, o) ∈ aB5 fp h := List.mem_filterMap.mpr ⟨b, hb, by rw [e]; rfl⟩
theorem aS1 {fp : List Addr} {h : Heap} {p : Addr × Obj} (hp : p ∈ aB5 fp h) : p.1 ∈ fp ∧ h.get? p.1 = some p.2 := by
  obtain ⟨b, hb, e⟩ := List.mem_filterMap.mp hp
  cases q : h.get? b with
  | none => rw [q] at e; cases e
  | some o =>
    rw [q] at e
    have e' : (b, o) = p := Option.some.inj e
    subst e'
    exact ⟨hb, q⟩
theorem Inv.pinned {pins : List (Addr × Obj)} {σ : St} {H : Hp} {s : Shared} {fp : List Addr} (I : Inv X pins σ H s) (hf : ∀ b ∈ fp, am6 X pins H b) (ho : ∀ b ∈ fp, ∃ o, s.heap.get? b = some o ∧ ∀ v, o.data ≠ .cell v) : Inv X (pins ++ aB5 fp s.heap) σ H s :=
  I.pins_of fun p hp => (List.mem_append.mp hp).elim (fun z => I.pin p (List.mem_append_right _ z)) fun z => by
    obtain ⟨hb, e⟩ := aS1 z
    obtain ⟨f0, f1, f2, _⟩ := hf p.1 hb
    obtain ⟨o, e', d⟩ := ho p.1 hb
    rw [e] at e'; cases e'
    exact ⟨e, f0, f1, f2, d⟩
theorem Inv.unpinned {pins pl : List (Addr × Obj)} {σ : St} {H : Hp} {s : Shared} (I : Inv X (pins ++ pl) σ H s) : Inv X pins σ H s := I.pins_of fun p hp => I.pin p (List.mem_append_right _ (List.mem_append_left _ hp))
theorem J4 {iter : Expr} {body : List Stmt} {wi : TI} {g : TG} {tb : TS} {pos : Pos} (hp : PassesOwn (model X.prog X.w) X.A X.env X.xe) (hc : X.calm = true) (hi : PI X tg iter wi) (hg : PG X tg g) (hb : PSs X body tb)
    (hs : ∀ x, foldedSetIterable iter X.env x = pure x := by intro _; rfl) : PS X (.For tg iter body [] pos) (bs3 wi g tb) := by
  intro pins s σ H D I h
  refine wpAny_For (thn (hi pins s σ H _ I h) fun v s1 h1 => thn h1 fun itv s2 h2 => ?_) hs
  obtain ⟨it, fp, tn, J, H2, e, I2, T, st2, f2, W, ⟨m0, w0⟩, turn⟩ := h2
  subst e
  -- what stays true of the iterator's objects through the loop
  have stat : ∀ {H' : Hp}, (∀ b ∈ fp, H' b = none) → ∀ b ∈ fp, am6 X pins H' b := fun hn b hb => ⟨hn b hb, (f2 b hb).2⟩
  refine codeAny_forLoop_any (fun n s' => ∃ i σ' H', Inv X pins σ' H' s' ∧ tn i s'.heap ∧ (∀ b ∈ fp, H' b = none) ∧ W i n σ' H') ?_ m0 ⟨0, σ, H2, I2, st2, fun b hb => (f2 b hb).1, w0⟩
  rintro n s3 ⟨i, σ3, H3, I3, st3, fr3, w3⟩
  rcases turn i n σ3 H3 w3 with ⟨stop, qn⟩ | ⟨go, N, hN, step⟩
  · refine wpAny_passesOwn hp (thn (T.done X rfl rfl rfl hc i pins s3 σ3 H3 X.xe I3 (stat fr3) st3 stop) fun r s4 ⟨hr, I4⟩ => ?_)
    subst hr
    exact wpAny_execs_nil ⟨σ3, H3, I4, qn⟩
  · refine wpAny_passesOwn hp (thn (T.item X rfl rfl rfl hc i pins s3 σ3 H3 X.xe I3 (stat fr3) st3 go) fun r s4 ⟨u, hr, h4⟩ => ?_)
    subst hr
    refine wpAny_passesOwn hp (thn h4 fun _ s5 ⟨x, H5, I5, r5, y5, st5, fr5⟩ => ?_)
    have I5' := I5.pinned (stat fr5) (T.obj _ _ st5)
    refine wpAny_passesOwn hp (thn (hg _ s5 σ3 H5 x u _ I5' r5 (step x H5 y5)) fun _ s6 ⟨σ6, H6, I6, q6⟩ => ?_)
    refine wpAny_passesOwn hp (thn (hb _ s6 σ6 H6 _ I6 q6) fun f s7 q7 => ?_)
    have again : ∀ {σ7 : St} {H7 : Hp}, Inv X (pins ++ aB5 fp s5.heap) σ7 H7 s7 → N σ7 H7 → ∃ m, m < n ∧ ∃ i σ' H', Inv X pins σ' H' s7 ∧ tn i s7.heap ∧ (∀ b ∈ fp, H' b = none) ∧ W i m σ' H' := fun {σ7 H7} I7 n7 => by
      obtain ⟨m', hm, w7⟩ := hN σ7 H7 n7
      refine ⟨m', hm, i + 1, σ7, H7, I7.unpinned, T.keep _ _ _ st5 fun b hb o e => (I7.pin (b, o) (List.mem_append_right _ (List.mem_append_right _ (K0 hb e)))).1, fun b hb => ?_, w7⟩
      obtain ⟨o, e, d⟩ := T.obj _ _ st5 b hb
      exact (I7.pin (b, o) (List.mem_append_right _ (List.mem_append_right _ (K0 hb e)))).2.1
    cases f with
    | next => obtain ⟨σ7, H7, I7, n7⟩ := q7; exact again I7 n7
    | cont => obtain ⟨σ7, H7, I7, n7⟩ := q7; exact again I7 n7
    | brk => obtain ⟨σ7, H7, I7, q7⟩ := q7; exact ⟨σ7, H7, I7.unpinned, q7⟩
    | ret v => obtain ⟨x7, σ7, H7, I7, r7, q7⟩ := q7; exact ⟨x7, σ7, H7, I7.unpinned, r7, q7⟩
end
theorem aa0 {K : PySem.W.Frag} {a : Addr} {xs : List V} {g : TG} {tb : TS} {D : ab6} {σ : St} {H : Hp} (Pv : Nat → St → Hp → Prop) (h0 : Pv 0 σ H) (hl : ∀ i σ H, i ≤ xs.length → Pv i σ H → SqL K H a xs)
    (hs : ∀ i x σ H, xs[i]? = some x → Pv i σ H → g x σ H fun σ2 H2 => tb { D with nx := Pv (i + 1), ct := Pv (i + 1), bk := D.nx } σ2 H2) (hd : ∀ σ H, Pv xs.length σ H → D.nx σ H) :
    ∃ W : Nat → Nat → St → Hp → Prop, (∃ m, W 0 m σ H) ∧ ∀ i m σ H, W i m σ H →
      ((Itl K a).stop i H ∧ D.nx σ H) ∨ ((Itl K a).go i H ∧ ∃ N : St → Hp → Prop, (∀ σ' H', N σ' H' → ∃ m', m' < m ∧ W (i + 1) m' σ' H') ∧ ∀ x H', (Itl K a).yld i H x H' → g x σ H' fun σ2 H2 => tb { D with nx := N, ct := N, bk := D.nx } σ2 H2) := by
  refine ⟨fun i m σ H => m = xs.length - i ∧ i ≤ xs.length ∧ Pv i σ H, ⟨xs.length, by simp, Nat.zero_le _, h0⟩, ?_⟩
  rintro i m σ H ⟨rfl, hi, p⟩
  have q := hl i σ H hi p
  by_cases hlt : i < xs.length
  · refine .inr ⟨⟨xs, xs[i], q, by simp [hlt]⟩, Pv (i + 1), fun σ' H' p' => ⟨xs.length - (i + 1), by omega, rfl, hlt, p'⟩, fun x H' y => ?_⟩
    obtain ⟨e, y⟩ := y
    subst e
    exact hs i x σ _ (y xs q) p
  · have e : i = xs.length := by omega
    subst e
    exact .inl ⟨⟨xs, q, Nat.le_refl _⟩, hd σ H p⟩
theorem aj2 {lo : Int} {n : Nat} {g : TG} {tb : TS} {D : ab6} {σ : St} {H : Hp} (Pv : Nat → St → Hp → Prop) (h0 : Pv 0 σ H)
    (hs : ∀ i σ H, i < n → Pv i σ H → g (.int (lo + i)) σ H fun σ2 H2 => tb { D with nx := Pv (i + 1), ct := Pv (i + 1), bk := D.nx } σ2 H2) (hd : ∀ σ H, Pv n σ H → D.nx σ H) :
    ∃ W : Nat → Nat → St → Hp → Prop, (∃ m, W 0 m σ H) ∧ ∀ i m σ H, W i m σ H →
      ((Itr lo n).stop i H ∧ D.nx σ H) ∨ ((Itr lo n).go i H ∧ ∃ N : St → Hp → Prop, (∀ σ' H', N σ' H' → ∃ m', m' < m ∧ W (i + 1) m' σ' H') ∧ ∀ x H', (Itr lo n).yld i H x H' → g x σ H' fun σ2 H2 => tb { D with nx := N, ct := N, bk := D.nx } σ2 H2) := by
  refine ⟨fun i m σ H => m = n - i ∧ i ≤ n ∧ Pv i σ H, ⟨n, by simp, Nat.zero_le _, h0⟩, ?_⟩
  rintro i m σ H ⟨rfl, hi, p⟩
  by_cases hlt : i < n
  · refine .inr ⟨hlt, Pv (i + 1), fun σ' H' p' => ⟨n - (i + 1), by omega, rfl, hlt, p'⟩, fun x H' y => ?_⟩
    obtain ⟨e, y⟩ := y
    subst e y
    exact hs i σ _ hlt p
  · have e : i = n := by omega
    subst e
    exact .inl ⟨Nat.le_refl _, hd σ H p⟩
theorem aE5 {c : TT} {tb : TS} {D : ab6} {σ : St} {H : Hp} (Pv : St → Hp → Prop) (μ : St → Hp → Nat) (h0 : Pv σ H)
    (hs : ∀ σ H, Pv σ H → c σ H fun b H1 => if b = true then tb { D with nx := fun σ' H' => Pv σ' H' ∧ μ σ' H' < μ σ H, ct := fun σ' H' => Pv σ' H' ∧ μ σ' H' < μ σ H, bk := D.nx } σ H1 else D.nx σ H1)
    (mono : ∀ σ H Q Q', (∀ b H1, Q b H1 → Q' b H1) → c σ H Q → c σ H Q') : ao6 c tb D σ H := by
  refine ⟨fun m σ H => m = μ σ H ∧ Pv σ H, ⟨_, rfl, h0⟩, ?_⟩
  rintro m σ H ⟨rfl, p⟩
  refine mono σ H _ _ (fun b H1 q => ?_) (hs σ H p)
  cases b with
  | true => exact ⟨_, fun σ' H' ⟨p', l⟩ => ⟨_, l, rfl, p'⟩, q⟩
  | false => exact q
abbrev R2 := V → V → Hp → VK → Prop
def OpR (X : Cx) (f : Value → Value → Sem Value) (r : R2) : Prop :=
  ∀ (pins : List (Addr × Obj)) (s : Shared) (σ : St) (H : Hp) (x y : V) (v u : Value) (Q : VK), Inv X pins σ H s → z7 x v → z7 y u → r x y H Q →
    wpAny (model X.prog X.w) X.A (f v u) (EP X pins σ Q) X.xe s
def UnR (X : Cx) (f : Value → Sem Value) (r : V → Hp → VK → Prop) : Prop :=
  ∀ (pins : List (Addr × Obj)) (s : Shared) (σ : St) (H : Hp) (x : V) (v : Value) (Q : VK), Inv X pins σ H s → z7 x v → r x H Q →
    wpAny (model X.prog X.w) X.A (f v) (EP X pins σ Q) X.xe s
def V5 (X : Cx) (f : Value) (r : List V → Hp → VK → Prop) : Prop :=
  ∀ (pins : List (Addr × Obj)) (s : Shared) (σ : St) (H : Hp) (xs : List V) (us : List Value) (Q : VK), Inv X pins σ H s → m8 xs us → r xs H Q →
    wpAny (model X.prog X.w) X.A (call f us) (EP X pins σ Q) X.xe s
def bt2 (X : Cx) (r : V → Hp → (Bool → Hp → Prop) → Prop) : Prop :=
  ∀ (pins : List (Addr × Obj)) (s : Shared) (σ : St) (H : Hp) (x : V) (v : Value) (Q : Bool → Hp → Prop), Inv X pins σ H s → z7 x v → r x H Q →
    wpAny (model X.prog X.w) X.A (truthy v) (TP X pins σ Q) X.xe s
def tOp (r : R2) (ta tb : TE) : TE := fun σ H Q => ta σ H fun x H1 => tb σ H1 fun y H2 => r x y H2 Q
def tUn (r : V → Hp → VK → Prop) (ta : TE) : TE := fun σ H Q => ta σ H fun x H1 => r x H1 Q
def rI (C : Int → Int → Prop) (g : Int → Int → V) : R2 := fun x y H Q => ∃ i j, x = .int i ∧ y = .int j ∧ C i j ∧ Q (g i j) H
def rI0 (g : Int → Int → V) : R2 := fun x y H Q => ∃ i j, x = .int i ∧ y = .int j ∧ Q (g i j) H
def rU (g : Int → V) : V → Hp → VK → Prop := fun x H Q => ∃ i, x = .int i ∧ Q (g i) H
section
variable {X : Cx} {a b c : Expr} {ta tb tc : TE} {pos : Pos}
theorem bo4 (ha : PE X a ta) (hb : PE X b tb) {pins : List (Addr × Obj)} {s : Shared} {σ : St} {H : Hp} {R : V → V → Hp → Prop} (I : Inv X pins σ H s)
    (h : ta σ H fun x H1 => tb σ H1 fun y H2 => R x y H2) {Q : Value → Shared → Prop} {f : Value → Value → Sem Value}
    (hf : ∀ v u s2 x y H2, Inv X pins σ H2 s2 → z7 x v → z7 y u → R x y H2 → wpAny (model X.prog X.w) X.A (f v u) Q X.xe s2) :
    wpAny (model X.prog X.w) X.A (eval a X.env) (fun v s₁ => wpAny (model X.prog X.w) X.A (eval b X.env) (fun u s₂ => wpAny (model X.prog X.w) X.A (f v u) Q X.xe s₂) X.xe s₁) X.xe s := by
  refine thn (ha pins s σ H _ I h) fun v s1 ⟨x, H1, I1, r1, q1⟩ => ?_
  refine thn (hb pins s1 σ H1 _ I1 q1) fun u s2 ⟨y, H2, I2, r2, q2⟩ => ?_
  exact hf v u s2 x y H2 I2 r1 r2 q2
theorem e9 {op : Operator} {r : R2} (ho : OpR X (binaryOp op) r) (ha : PE X a ta) (hb : PE X b tb) : PE X (.BinOp a op b pos) (tOp r ta tb) := by
  intro pins s σ H Q I h
  exact wpAny_BinOp (bo4 ha hb I h fun v u s2 x y H2 I2 rx ry q => ho pins s2 σ H2 x y v u Q I2 rx ry q)
theorem ak3 {op : UnaryOp} {r : V → Hp → VK → Prop} (ho : UnR X (unaryOp op) r) (ha : PE X a ta) : PE X (.UnaryOp op a pos) (tUn r ta) := by
  intro pins s σ H Q I h
  exact UnaryOp_ (thn (ha pins s σ H _ I h) fun v s1 ⟨x, H1, I1, r1, q1⟩ => ho pins s1 σ H1 x v Q I1 r1 q1)
theorem opI {f : Value → Value → Sem Value} {C : Int → Int → Prop} {g : Int → Int → Int}
    (rule : ∀ (i j : Int) (t u : Tok) (s : Shared) (Q : Value → Shared → Prop) (E : Value → Shared → Prop), C i j → Q (.int (g i j) s.toks) { s with toks := s.toks + 1 } → wpAny (model X.prog X.w) X.A (f (.int i t) (.int j u)) Q E s) :
    OpR X f (rI C fun i j => .int (g i j)) := by
  intro pins s σ H x y v u Q I rx ry h
  obtain ⟨i, j, rfl, rfl, hc, q⟩ := h
  obtain ⟨t, rfl⟩ := rx
  obtain ⟨t', rfl⟩ := ry
  exact rule i j t t' s _ _ hc ⟨.int (g i j), H, I.tok _, ⟨_, rfl⟩, q⟩
theorem bm7 {f : Value → Value → Sem Value} {g : Int → Int → Int}
    (rule : ∀ (i j : Int) (t u : Tok) (s : Shared) (Q : Value → Shared → Prop) (E : Value → Shared → Prop), Q (.int (g i j) s.toks) { s with toks := s.toks + 1 } → wpAny (model X.prog X.w) X.A (f (.int i t) (.int j u)) Q E s) :
    OpR X f (rI0 fun i j => .int (g i j)) := by
  intro pins s σ H x y v u Q I rx ry h
  obtain ⟨i, j, rfl, rfl, q⟩ := h
  obtain ⟨t, rfl⟩ := rx
  obtain ⟨t', rfl⟩ := ry
  exact rule i j t t' s _ _ ⟨.int (g i j), H, I.tok _, ⟨_, rfl⟩, q⟩
theorem bf8 {f : Value → Value → Sem Value} {g : Int → Int → Bool}
    (rule : ∀ (i j : Int) (t u : Tok) (s : Shared) (Q : Value → Shared → Prop) (E : Value → Shared → Prop), Q (.bool (g i j)) s → wpAny (model X.prog X.w) X.A (f (.int i t) (.int j u)) Q E s) :
    OpR X f (rI0 fun i j => .bl (g i j)) := by
  intro pins s σ H x y v u Q I rx ry h
  obtain ⟨i, j, rfl, rfl, q⟩ := h
  obtain ⟨t, rfl⟩ := rx
  obtain ⟨t', rfl⟩ := ry
  exact rule i j t t' s _ _ ⟨.bl (g i j), H, I, rfl, q⟩
def bj2 (i j : Int) : Prop := 0 ≤ j ∧ j ≤ 1000000 ∧ i.natAbs < 2 ^ 64
theorem E1 : OpR X (binaryOp .Add) (rI0 fun i j => .int (i + j)) := bm7 fun _ _ _ _ _ _ _ q => add_int q
theorem M9 : OpR X (binaryOp .Sub) (rI0 fun i j => .int (i - j)) := bm7 fun _ _ _ _ _ _ _ q => sub_int q
theorem M1 : OpR X (binaryOp .Mod) (rI (fun _ j => j ≠ 0) fun i j => .int (i.fmod j)) := opI fun _ _ _ _ _ _ _ hc q => mod_int' hc q
theorem Z5 : OpR X (binaryOp .Pow) (rI bj2 fun i j => .int (i ^ j.toNat)) := opI fun _ _ _ _ _ _ _ hc q => pow_int_small hc.1 hc.2.1 hc.2.2 q
theorem ba2 : OpR X (binaryOp .BitAnd) (rI0 fun i j => .int (Builtin.bitAnd i j)) := bm7 fun _ _ _ _ _ _ _ q => and_int q
theorem unI {f : Value → Sem Value} {g : Int → Int}
    (rule : ∀ (i : Int) (t : Tok) (s : Shared) (Q : Value → Shared → Prop) (E : Value → Shared → Prop), Q (.int (g i) s.toks) { s with toks := s.toks + 1 } → wpAny (model X.prog X.w) X.A (f (.int i t)) Q E s) :
    UnR X f (rU fun i => .int (g i)) := by
  intro pins s σ H x v Q I rx h
  obtain ⟨i, rfl, q⟩ := h
  obtain ⟨t, rfl⟩ := rx
  exact rule i t s _ _ ⟨.int (g i), H, I.tok _, ⟨_, rfl⟩, q⟩
theorem Z1 : UnR X (unaryOp .USub) (rU fun i => .int (-i)) := unI fun _ _ _ _ _ q => neg_int q
end
def aG5 : V → V → Bool
  | .non, .non => true | .non, .int _ => true | .int _, .non => true | .non, .bl _ => true | .bl _, .non => true | .non, .str _ => true | .str _, .non => true
  | .int _, .int _ => true | .bl _, .bl _ => true | .str _, .str _ => true | .byt _, .byt _ => true
  | .int _, .str _ => true | .str _, .int _ => true | .bl _, .str _ => true | .str _, .bl _ => true
  | _, _ => false
def rEq : R2 := fun x y H Q => aG5 x y = true ∧ Q (.bl (decide (x = y))) H
def rNe : R2 := fun x y H Q => aG5 x y = true ∧ Q (.bl (!decide (x = y))) H
theorem aP8 {i j : Int} : decide (V.int i = V.int j) = (i == j) := by
  rw [Bool.eq_iff_iff]
  simp
theorem bd5 {i j : Bool} : decide (V.bl i = V.bl j) = (i == j) := by
  rw [Bool.eq_iff_iff]
  simp
theorem aP7 {i j : Str} : decide (V.str i = V.str j) = (i == j) := by
  rw [Bool.eq_iff_iff]
  simp
theorem aP9 {i j : Array UInt8} : decide (V.byt i = V.byt j) = (i.toList == j.toList) := by
  rw [Bool.eq_iff_iff]
  cases i
  cases j
  simp
section
variable {X : Cx} {a b c : Expr} {ta tb tc : TE} {pos : Pos}
theorem y6 {pins : List (Addr × Obj)} {σ : St} {H : Hp} {s : Shared} {Q : VK} {k k' : Bool} (I : Inv X pins σ H s) (q : Q (.bl k) H) (e : k = k') : EP X pins σ Q (.bool k') s := by
  subst e
  exact ⟨.bl k, H, I, rfl, q⟩
theorem ac2 : OpR X (compareOp .Eq) rEq := by
  intro pins s σ H x y v u Q I rx ry h
  obtain ⟨hs, q⟩ := h
  cases x with
  | non =>
    cases rx
    cases y with
    | non => cases ry; exact PySem.EqNone.eq_none_none (y6 I q (by simp))
    | bl j => cases ry; exact PySem.EqNone.eq_none_bool (y6 I q (by simp))
    | int j => obtain ⟨t', rfl⟩ := ry; exact PySem.EqNone.eq_none_int (y6 I q (by simp))
    | str j => obtain ⟨t', rfl⟩ := ry; exact PySem.EqNone.eq_none_str (y6 I q (by simp))
    | _ => exact absurd (show false = true from hs) Bool.false_ne_true
  | bl i =>
    cases rx
    cases y with
    | non => cases ry; exact PySem.EqNone.eq_bool_none (y6 I q (by simp))
    | bl j => cases ry; exact eq_bool (y6 I q bd5)
    | str j => obtain ⟨t', rfl⟩ := ry; exact PySem.EqMixed.eq_bool_str (y6 I q (by simp))
    | _ => exact absurd (show false = true from hs) Bool.false_ne_true
  | int i =>
    obtain ⟨t, rfl⟩ := rx
    cases y with
    | non => cases ry; exact PySem.EqNone.eq_int_none (y6 I q (by simp))
    | int j => obtain ⟨t', rfl⟩ := ry; exact eq_int (y6 I q aP8)
    | str j => obtain ⟨t', rfl⟩ := ry; exact PySem.EqMixed.eq_int_str (y6 I q (by simp))
    | _ => exact absurd (show false = true from hs) Bool.false_ne_true
  | str i =>
    obtain ⟨t, rfl⟩ := rx
    cases y with
    | non => cases ry; exact PySem.EqNone.eq_str_none (y6 I q (by simp))
    | bl j => cases ry; exact PySem.EqMixed.eq_str_bool (y6 I q (by simp))
    | int j => obtain ⟨t', rfl⟩ := ry; exact PySem.EqMixed.eq_str_int (y6 I q (by simp))
    | str j => obtain ⟨t', rfl⟩ := ry; exact eq_str (y6 I q aP7)
    | _ => exact absurd (show false = true from hs) Bool.false_ne_true
  | byt i =>
    obtain ⟨t, rfl⟩ := rx
    cases y with
    | byt j => obtain ⟨t', rfl⟩ := ry; exact PySem.W.eq_bytes (y6 I q aP9)
    | _ => exact absurd (show false = true from hs) Bool.false_ne_true
  | _ => cases y <;> exact absurd (show false = true from hs) Bool.false_ne_true
theorem ba1 : OpR X (compareOp .NotEq) rNe := by
  intro pins s σ H x y v u Q I rx ry h
  obtain ⟨hs, q⟩ := h
  cases x with
  | non =>
    cases rx
    cases y with
    | non => cases ry; exact PySem.EqNone.ne_none_none (y6 I q (by simp))
    | bl j => cases ry; exact PySem.EqNone.ne_none_bool (y6 I q (by simp))
    | int j => obtain ⟨t', rfl⟩ := ry; exact PySem.EqNone.ne_none_int (y6 I q (by simp))
    | str j => obtain ⟨t', rfl⟩ := ry; exact PySem.EqNone.ne_none_str (y6 I q (by simp))
    | _ => exact absurd (show false = true from hs) Bool.false_ne_true
  | bl i =>
    cases rx
    cases y with
    | non => cases ry; exact PySem.EqNone.ne_bool_none (y6 I q (by simp))
    | bl j => cases ry; exact ne_bool (y6 I q (congrArg not bd5))
    | str j => obtain ⟨t', rfl⟩ := ry; exact PySem.EqMixed.ne_bool_str (y6 I q (by simp))
    | _ => exact absurd (show false = true from hs) Bool.false_ne_true
  | int i =>
    obtain ⟨t, rfl⟩ := rx
    cases y with
    | non => cases ry; exact PySem.EqNone.ne_int_none (y6 I q (by simp))
    | int j => obtain ⟨t', rfl⟩ := ry; exact ne_int (y6 I q (congrArg not aP8))
    | str j => obtain ⟨t', rfl⟩ := ry; exact PySem.EqMixed.ne_int_str (y6 I q (by simp))
    | _ => exact absurd (show false = true from hs) Bool.false_ne_true
  | str i =>
    obtain ⟨t, rfl⟩ := rx
    cases y with
    | non => cases ry; exact PySem.EqNone.ne_str_none (y6 I q (by simp))
    | bl j => cases ry; exact PySem.EqMixed.ne_str_bool (y6 I q (by simp))
    | int j => obtain ⟨t', rfl⟩ := ry; exact PySem.EqMixed.ne_str_int (y6 I q (by simp))
    | str j => obtain ⟨t', rfl⟩ := ry; exact ne_str (y6 I q (congrArg not aP7))
    | _ => exact absurd (show false = true from hs) Bool.false_ne_true
  | byt i =>
    obtain ⟨t, rfl⟩ := rx
    cases y with
    | byt j => obtain ⟨t', rfl⟩ := ry; exact PySem.W.ne_bytes (y6 I q (congrArg not aP9))
    | _ => exact absurd (show false = true from hs) Bool.false_ne_true
  | _ => cases y <;> exact absurd (show false = true from hs) Bool.false_ne_true
theorem ak5 : OpR X (compareOp .Lt) (rI0 fun i j => .bl (decide (i < j))) := bf8 fun _ _ _ _ _ _ _ q => lt_int q
theorem bk3 : OpR X (compareOp .LtE) (rI0 fun i j => .bl (decide (i ≤ j))) := bf8 fun _ _ _ _ _ _ _ q => le_int q
theorem ar0 : OpR X (compareOp .Gt) (rI0 fun i j => .bl (decide (j < i))) := bf8 fun _ _ _ _ _ _ _ q => gt_int q
theorem bk4 : OpR X (compareOp .GtE) (rI0 fun i j => .bl (decide (j ≤ i))) := bf8 fun _ _ _ _ _ _ _ q => ge_int q
theorem j8 (b : Expr) {op : CmpOp} (h : op ≠ .In := by decide) (h2 : op ≠ .NotIn := by decide) : behindInMarks op b = false := by
  have e1 : (op == CmpOp.In) = false := by cases op <;> first | rfl | exact absurd rfl h
  have e2 : (op == CmpOp.NotIn) = false := by cases op <;> first | rfl | exact absurd rfl h2
  cases b <;> simp [behindInMarks, e1, e2]
theorem R7 {op : CmpOp} {r : R2} (ho : OpR X (compareOp op) r) (ha : PE X a ta) (hb : PE X b tb) (hm : behindInMarks op b = false) : PE X (.Compare a [op] [b] pos) (tOp r ta tb) := by
  intro pins s σ H Q I h
  exact wpAny_Compare1 (bo4 ha hb I h fun v u s2 x y H2 I2 rx ry q => ho pins s2 σ H2 x y v u Q I2 rx ry q) hm
def ao7 (t : TE) : TT := fun σ H Q => t σ H fun x H' => ∃ k, x = .bl k ∧ Q k H'
theorem j6 {op : CmpOp} {r : R2} (ho : OpR X (compareOp op) r) (ha : PE X a ta) (hb : PE X b tb) (hm : behindInMarks op b = false) : PT X (.Compare a [op] [b] pos) (ao7 (tOp r ta tb)) := by
  intro pins s σ H Q I h
  refine wpAny_isTrue_Compare1 (thn (ha pins s σ H _ I h) fun v s1 ⟨x, H1, I1, r1, q1⟩ => thn (hb pins s1 σ H1 _ I1 q1) fun u s2 ⟨y, H2, I2, r2, q2⟩ =>
    thn (ho pins s2 σ H2 x y v u _ I2 r1 r2 q2) fun c s3 ⟨z, H3, I3, r3, k, e, q3⟩ => ?_) hm
  subst e
  cases r3
  exact wpAny_truthy_bool ⟨H3, I3, q3⟩
def bl6 (r r' : R2) (ta tb tc : TE) : TE := fun σ H Q => ta σ H fun x H1 => tb σ H1 fun y H2 => r x y H2 fun z H3 => ∃ k, z = .bl k ∧
  (if k = true then tc σ H3 fun w' H4 => r' y w' H4 Q else Q (.bl false) H3)
def Y9 (K : PySem.W.Frag) (x : V) (H : Hp) (k : Bool) : Prop :=
  match x with
  | .non => k = false
  | .bl b => k = b
  | .int i => k = (i != 0)
  | .str y => y.length ≤ sizeLine ∧ k = ((y.length : Int) != 0)
  | .byt y => y.size ≤ sizeLine ∧ k = ((y.size : Int) != 0)
  | .ref p => (∃ xs, SqL K H p xs ∧ k = !xs.isEmpty) ∨ (∃ xs, SqT K H p xs ∧ k = !xs.isEmpty) ∨ ∃ kvs, H p = some (.dK kvs) ∧ k = !kvs.isEmpty
  | _ => False
theorem aL9 {κ : Type} {kvs : List (κ × V)} {vs : List (κ × Value)} (r : KV kvs vs) : (!vs.isEmpty) = !kvs.isEmpty := by
  cases r <;> rfl
theorem as2 {xs : List V} {its : List Value} (r : m8 xs its) : (!its.toArray.isEmpty) = !xs.isEmpty := by
  cases r <;> simp
theorem ad6 : (sizeLine : Nat) < 2 ^ 63 := by rw [sizeLine_eq]; decide
theorem aV2 : bt2 X (fun x H Q => ∃ k, Y9 X.K x H k ∧ Q k H) := by
  intro pins s σ H x v Q I rx h
  obtain ⟨k, e, q⟩ := h
  have hl := ad6
  have hs : sizeLine = 16777216 := sizeLine_eq
  cases x with
  | non =>
    cases rx
    have e' : k = false := e
    subst e'
    exact truthy_none ⟨H, I, q⟩
  | bl b =>
    cases rx
    have e' : k = b := e
    subst e'
    exact wpAny_truthy_bool ⟨H, I, q⟩
  | int i =>
    obtain ⟨t, rfl⟩ := rx
    have e' : k = (i != 0) := e
    subst e'
    exact PySem.P.truthy_int ⟨H, I, q⟩
  | str y =>
    obtain ⟨t, rfl⟩ := rx
    obtain ⟨hy, e'⟩ : y.length ≤ sizeLine ∧ k = ((y.length : Int) != 0) := e
    subst e'
    exact PySem.P.truthy_str (by omega) ⟨H, I.tok _, q⟩
  | byt y =>
    obtain ⟨t, rfl⟩ := rx
    obtain ⟨hy, e'⟩ : y.size ≤ sizeLine ∧ k = ((y.size : Int) != 0) := e
    subst e'
    exact PySem.W.truthy_bytes (by omega) ⟨H, I.tok _, q⟩
  | ref p =>
    cases rx
    have e' : (∃ xs, SqL X.K H p xs ∧ k = !xs.isEmpty) ∨ (∃ xs, SqT X.K H p xs ∧ k = !xs.isEmpty) ∨ ∃ kvs, H p = some (.dK kvs) ∧ k = !kvs.isEmpty := e
    rcases e' with ⟨xs, hx, e'⟩ | ⟨xs, hx, e'⟩ | ⟨kvs, hx, e'⟩
    · subst e'
      obtain ⟨its, r, pl, hz⟩ := I.list hx
      have hlen := r.length
      exact wpAny_truthy_list pl.isList (by simp only [List.size_toArray]; omega) ⟨H, I.tok _, by rw [as2 r]; exact q⟩
    · subst e'
      obtain ⟨its, r, pl, hz⟩ := I.tuple hx
      have hlen := r.length
      exact truthy_tuple pl (by simp only [List.size_toArray]; omega) ⟨H, I.tok _, by rw [as2 r]; exact q⟩
    · subst e'
      obtain ⟨hz, hS, vs, r, m⟩ : kvs.length ≤ sizeLine ∧ (p == sysModules) = false ∧ ∃ vs, KV kvs vs ∧ s.heap.DictOf (aC7 X.prog X.w) p vs := I.hok p _ hx
      have hlen : kvs.length = vs.length := Paired.length r
      exact wpAny_truthy_dict hS m (by omega) ⟨H, I.tok _, by rw [aL9 r]; exact q⟩
  | _ => exact (show False from e).elim
theorem B4 (ha : PE X a ta) (he : ∀ whole, isTrue a X.env whole = (do let v ← whole; standAt a.pos; holding [v] (truthy v))) :
    PT X a (fun σ H Q => ta σ H fun x H' => ∃ k, Y9 X.K x H' k ∧ Q k H') := by
  intro pins s σ H Q I h
  exact isTrue_plain (thn (ha pins s σ H _ I h) fun v s1 ⟨x, H1, I1, r1, q1⟩ => aV2 pins s1 σ H1 x v Q I1 r1 q1) (he _)
theorem ab7 {x : V} {us : List Value} (r : m8 [x] us) : ∃ u, us = [u] ∧ z7 x u := by
  cases r with
  | cons r1 r2 => cases r2; exact ⟨_, rfl, r1⟩
theorem bj4 {x y : V} {us : List Value} (r : m8 [x, y] us) : ∃ u w', us = [u, w'] ∧ z7 x u ∧ z7 y w' := by
  cases r with
  | cons r1 r2 =>
    cases r2 with
    | cons r3 r4 => cases r4; exact ⟨_, _, rfl, r1, r3⟩
theorem X0 : V5 X (.builtin "abs") (fun xs H Q => ∃ i, xs = [.int i] ∧ Q (.int (if i < 0 then -i else i)) H) := by
  intro pins s σ H xs us Q I r h
  obtain ⟨i, rfl, q⟩ := h
  obtain ⟨u, rfl, t, rfl⟩ := ab7 r
  exact call_abs_int fun u tk => ⟨.int (if i < 0 then -i else i), H, I.tok _, ⟨_, rfl⟩, q⟩
theorem aj5 (hc : X.calm = true) : V5 X (.builtin "max") (fun xs H Q => ∃ i j, xs = [.int i, .int j] ∧ Q (.int (if j > i then j else i)) H) := by
  intro pins s σ H xs us Q I r h
  obtain ⟨i, j, rfl, q⟩ := h
  obtain ⟨u, w', rfl, ⟨t, rfl⟩, ⟨t', rfl⟩⟩ := bj4 r
  refine max_two_ints (I.ok.hd hc) fun h' tk k => ⟨_, H, I.kept k, ?_, q⟩
  by_cases hj : j > i
  · rw [if_pos hj, if_pos hj]; exact ⟨_, rfl⟩
  · rw [if_neg hj, if_neg hj]; exact ⟨_, rfl⟩
theorem aT9 (hc : X.calm = true) : V5 X (.builtin "min") (fun xs H Q => ∃ i j, xs = [.int i, .int j] ∧ Q (.int (if j < i then j else i)) H) := by
  intro pins s σ H xs us Q I r h
  obtain ⟨i, j, rfl, q⟩ := h
  obtain ⟨u, w', rfl, ⟨t, rfl⟩, ⟨t', rfl⟩⟩ := bj4 r
  refine min_two_ints (I.ok.hd hc) fun h' tk k => ⟨_, H, I.kept k, ?_, q⟩
  by_cases hj : j < i
  · rw [if_pos hj, if_pos hj]; exact ⟨_, rfl⟩
  · rw [if_neg hj, if_neg hj]; exact ⟨_, rfl⟩
theorem aU1 : V5 X (.type "int") (fun xs H Q => (∃ i, xs = [.int i] ∧ Q (.int i) H) ∨ ∃ k, xs = [.bl k] ∧ Q (.int (if k then 1 else 0)) H) := by
  intro pins s σ H xs us Q I r h
  rcases h with ⟨i, rfl, q⟩ | ⟨k, rfl, q⟩
  · obtain ⟨u, rfl, t, rfl⟩ := ab7 r
    exact call_int_int ⟨.int i, H, I, ⟨_, rfl⟩, q⟩
  · obtain ⟨u, rfl, r1⟩ := ab7 r
    cases r1
    exact call_int_bool ⟨.int (if k then 1 else 0), H, I.tok _, ⟨_, rfl⟩, q⟩
end
structure bp1 (h : Heap) (x dx C : Addr) (mA : Str → Option Value) : Prop where
  obj : h.get? x = some (PySem.W.instObj C dx)
  ns : h.Ns1 dx mA
  ne : dx ≠ x
theorem aS7 {h : Heap} {dx : Addr} {mA : Str → Option Value} (n : h.Ns1 dx mA) : ∃ od, h.get? dx = some od ∧ ∀ name, PySem.W.lookIn name od = some (mA name) := by
  obtain ⟨o, es, ep, ho, hd, hk, _, hm⟩ := n
  refine ⟨o, ho, fun name => ?_⟩
  have e := hm name
  unfold nsFind findBy at e
  rw [← Array.find?_toList] at e
  unfold PySem.W.lookIn
  rw [hd]
  dsimp only
  split
  · rename_i y q
    rw [q] at e
    exact congrArg some e
  · rename_i q
    rw [q] at e
    have a : es.toList.any (·.refKey) = false := by
      rw [List.any_eq_false]
      intro y hy
      obtain ⟨z, t, hkey⟩ := hk y (Array.mem_toList_iff.mp hy)
      simp [DictEntry.refKey, hkey]
    have a' : ¬ es.toList.any (·.refKey) = true := by rw [a]; exact Bool.false_ne_true
    rw [if_neg a']
    exact congrArg some e
theorem bp1.look {h : Heap} {x dx C : Addr} {mA : Str → Option Value} (I : bp1 h x dx C mA) : ∃ od, PySem.W.InstAt h x (PySem.W.instObj C dx) C (some od) ∧ ∀ name, PySem.W.lookIn name od = some (mA name) :=
  let ⟨od, ho, hl⟩ := aS7 I.ns
  ⟨od, ⟨I.obj, rfl, rfl, ho⟩, hl⟩
section
variable {P : Program} {w : World} {H H' : Hp} {h h' : Heap} {a C dx : Addr} {fs fs' : List (Str × V)}
theorem bh3 (hok : HOk P w H h) (e : H a = some (.ins C dx fs)) : ∃ mA, bp1 h a dx C mA ∧ (∀ f, bo6 (fs.lookup f) (mA f)) ∧ PySem.Within mA (fs.map (·.1)) ∧ fs.length ≤ 1000 ∧ H dx = some (.own a) := by
  obtain ⟨d, z, ne, ob, mA, n, r, q⟩ := (show F9 P w H h a (.ins C dx fs) from hok a _ e)
  exact ⟨mA, ⟨ob, n, ne⟩, r, q, z, d⟩
end
structure Cls (K : PySem.W.Frag) (C : Addr) : Prop where
  pg : PySem.W.plainGet K C Str.empty = true
  hd : PySem.W.hasDictIn K C = true
  po : PySem.W.plainOver K C = true
  sa : PySem.W.findIn K (.ref C) "__setattr__" = some (some (.builtin "object.__setattr__"))
theorem Cls.get {K : PySem.W.Frag} {C : Addr} (c : Cls K C) (f : Str) : PySem.W.plainGet K C f = true := c.pg
structure Con (K : PySem.W.Frag) (C : Addr) (f : Str) (v : V) (u : Value) : Prop where
  at_ : PySem.W.findIn K (.ref C) f = some (some u)
  rel : z7 v u
  get : PySem.W.specialIn K u "__get__" = some none
  cp : PySem.W.copiedNames.contains f = false
structure Meth (K : PySem.W.Frag) (C : Addr) (m : Str) (f : Addr) : Prop where
  at_ : PySem.W.findIn K (.ref C) m = some (some (.ref f))
  fn : PySem.W.isFn K (.ref f) = true
  kp : PySem.W.keepIn K (.ref f) = true
section
variable {X : Cx} {pins : List (Addr × Obj)} {σ : St} {H : Hp} {s : Shared} {A : Around} {E : Value → Shared → Prop} {Q : Value → Shared → Prop} {c : Value} {b : Bool}
inductive aj8 (K : PySem.W.Frag) (H : Hp) : V → Value → Prop where
  | non : aj8 K H .non (.type "NoneType")
  | bl (x : Bool) : aj8 K H (.bl x) (.type "bool")
  | int (i : Int) : aj8 K H (.int i) (.type "int")
  | str (x : Str) : aj8 K H (.str x) (.type "str")
  | flt (x : UInt64) : aj8 K H (.flt x) (.type "float")
  | lst {a : Addr} {xs : List V} (e : H a = some (.lst xs)) : aj8 K H (.ref a) (.type "list")
  | frz {a : Addr} {o : Obj} {xs : List V} (e : H a = some (.frz o (.lst xs))) : aj8 K H (.ref a) (.type "list")
  | tup {a : Addr} {xs : List V} (e : H a = some (.tup xs)) : aj8 K H (.ref a) (.type "tuple")
  | dK {a : Addr} {kvs : List (Key × V)} (e : H a = some (.dK kvs)) : aj8 K H (.ref a) (.type "dict")
  | dT {a : Addr} {kvs : List (List Key × V)} (e : H a = some (.dT kvs)) : aj8 K H (.ref a) (.type "dict")
  | ins {a C dx : Addr} {fs : List (Str × V)} (e : H a = some (.ins C dx fs)) (cl : Cls K C) (ha : PySem.W.findIn K (.ref C) "__class__" = some (some (.builtin "object.__class__")))
      (hn : PySem.W.specialIn K (.builtin "object.__class__") "__get__" = some (some (.builtin "getset_descriptor.__get__"))) (htk : PySem.W.takesIn K (.builtin "object.__class__") = some true)
      (hm : PySem.W.mroIn K C (.type "object") = some true) : aj8 K H (.ref a) (.ref C)
theorem aT0 {x : V} {u t : Value} (I : Inv X pins σ H s) (rx : z7 x u) (ty : aj8 X.K H x t) (e : PySem.W.kitOne X.K t c = some b) (h : ∀ tk, Q (.bool b) { s with toks := tk }) :
    wpAny (model X.prog X.w) A (call (.builtin "isinstance") [u, c]) Q E s := by
  cases ty with
  | non => cases (show u = Value.none from rx); exact PySem.W.kia_one PySem.W.kitx_none I.kIn True.intro e (fun z => nomatch z) h
  | bl y => cases (show u = Value.bool y from rx); exact PySem.W.kia_one PySem.W.kitx_bool I.kIn True.intro e (fun z => nomatch z) h
  | int i => obtain ⟨t, q⟩ := (show ∃ t, u = Value.int i t from rx); cases q; exact PySem.W.kia_one PySem.W.kitx_int I.kIn True.intro e (fun z => nomatch z) h
  | str y => obtain ⟨t, q⟩ := (show ∃ t, u = Value.str y t from rx); cases q; exact PySem.W.kia_one PySem.W.kitx_str I.kIn True.intro e (fun z => nomatch z) h
  | flt y => obtain ⟨t, q⟩ := (show ∃ t, u = Value.float y t from rx); cases q; exact PySem.W.kia_one PySem.W.kitx_float I.kIn True.intro e (fun z => nomatch z) h
  | @lst a xs ea =>
    cases (show u = Value.ref a from rx)
    obtain ⟨_, _, n, _, h1⟩ := (show F9 X.prog X.w H s.heap a (.lst xs) from I.hok a _ ea)
    exact PySem.W.kia_one PySem.W.kitx_list I.kIn ⟨_, h1, rfl⟩ e (fun z => nomatch z) h
  | @frz a ob xs ea =>
    cases (show u = Value.ref a from rx)
    obtain ⟨_, _, _, n, _, h1⟩ := (show F9 X.prog X.w H s.heap a (.frz ob (.lst xs)) from I.hok a _ ea)
    exact PySem.W.kia_one PySem.W.kitx_list I.kIn ⟨_, h1, rfl⟩ e (fun z => nomatch z) h
  | @tup a xs ea =>
    cases (show u = Value.ref a from rx)
    obtain ⟨_, _, _, p⟩ := (show F9 X.prog X.w H s.heap a (.tup xs) from I.hok a _ ea)
    obtain ⟨o, h1, h2, _⟩ := p
    exact PySem.W.kia_one PySem.W.kitx_tuple I.kIn ⟨o, h1, h2⟩ e (fun z => nomatch z) h
  | @dK a kvs ea =>
    cases (show u = Value.ref a from rx)
    obtain ⟨_, _, vs, _, p⟩ := (show F9 X.prog X.w H s.heap a (.dK kvs) from I.hok a _ ea)
    obtain ⟨o, es, ep, h1, h2, _⟩ := p
    exact PySem.W.kia_one PySem.W.kitx_dict I.kIn ⟨o, h1, h2.1⟩ e (fun z => nomatch z) h
  | @dT a kvs ea =>
    cases (show u = Value.ref a from rx)
    obtain ⟨_, _, xs, _, o, es, ep, h1, h2, _⟩ := (show F9 X.prog X.w H s.heap a (.dT kvs) from I.hok a _ ea)
    exact PySem.W.kia_one PySem.W.kitx_dict I.kIn ⟨o, h1, h2.1⟩ e (fun z => nomatch z) h
  | @ins a C dx fs ea cl ha hn htk hm =>
    cases (show u = Value.ref a from rx)
    obtain ⟨mA, O, _⟩ := bh3 I.hok ea
    obtain ⟨od, J, _⟩ := O.look
    exact PySem.W.kia_one (PySem.W.kitx_own (cl.get _) cl.hd ha hn htk hm) I.kIn J e (fun z => nomatch z) h
end
structure U8 (k : Nat) (A : Around) : Prop where
  hd : A.handled = none
  dp : A.depth + 3 * k + 5 < recursionLimit
  un : A.units + 16 * k + 200 < cLine
theorem U8.mono {j k : Nat} {A : Around} (r : U8 k A) (h : j ≤ k) : U8 j A := ⟨r.hd, by have := r.dp; omega, by have := r.un; omega⟩
theorem U8.deeper {k : Nat} {A : Around} (r : U8 (k + 1) A) (env : Env) : U8 k (A.deeper env) :=
  ⟨r.hd, by have := r.dp; show A.depth + 1 + 3 * k + 5 < _; omega, by have := r.un; show A.units + 3 + 16 * k + 200 < _; omega⟩
theorem U8.depth {k : Nat} {A : Around} (r : U8 k A) : A.depth < recursionLimit := by have := r.dp; omega
theorem U8.units {k : Nat} {A : Around} (r : U8 k A) : A.units + 64 < cLine := by have := r.un; omega
def ao9 : TA := fun _ H Q => Q [] H
def W0 (ta : TE) (tr : TA) : TA := fun σ H Q => ta σ H fun x H1 => tr σ H1 fun xs H2 => Q (x :: xs) H2
section
variable {X : Cx} {e : Expr} {es : List Expr} {te : TE} {t : TA} {pos : Pos}
theorem b7 : PA X [] ao9 := fun _ _ _ _ H Q I h => Calls.spliced_nil ⟨[], H, I, .nil, h⟩
theorem b6 (ha : PE X e te) (hr : PA X es t) (hs : starEach (e :: es) X.env = (false, eval e X.env) :: starEach es X.env := by rfl) : PA X (e :: es) (W0 te t) := by
  intro pos pins s σ H Q I h
  rw [hs]
  show wpAny _ _ (spliced ((false, eval e X.env) :: backTo pos (starEach es X.env))) _ _ s
  refine Calls.spliced_cons (thn (ha pins s σ H _ I h) fun u s1 ⟨x, H1, I1, r1, q1⟩ => ?_)
  exact thn (hr pos pins s1 σ H1 _ I1 q1) fun us s2 ⟨xs, H2, I2, r2, q2⟩ => ⟨x :: xs, H2, I2, .cons r1 r2, q2⟩
def aQ5 (t : TA) : TE := fun σ H Q => t σ H fun xs H1 => xs.length ≤ sizeLine ∧ ∀ p, H1 p = none → Q (.ref p) (upd H1 p (.tup xs))
def aW0 (t : TA) : TE := fun σ H Q => t σ H fun xs H1 => xs.length ≤ sizeLine ∧ ∀ p, H1 p = none → Q (.ref p) (upd H1 p (.lst xs))
theorem u0 {x1} (h : PA X es t) : PE X (.Tuple es x1 pos) (aQ5 t) := by
  intro pins s σ H Q I hq
  refine wpAny_Tuple_spliced (thn (h pos pins s σ H _ I hq) fun us s1 ⟨xs, H1, I1, r, z, q⟩ => ⟨by rw [← r.length]; exact z, ?_⟩)
  have hf : H1 s1.heap.objs.size = none := I1.hok.fresh (Nat.le_refl _)
  refine ⟨.ref s1.heap.objs.size, upd H1 s1.heap.objs.size (.tup xs), I1.laid (t' := s1.toks) (fun b u e => Heap.get?_push_of_some _ e) (Nat.le_refl _) ?_, rfl, q _ hf⟩
  exact ⟨z, us, r, ⟨_, Heap.get?_push_size _ rfl, rfl, _, rfl⟩⟩
theorem w8 (h : PA X es t) : PE X (.List es pos) (aW0 t) := by
  intro pins s σ H Q I hq
  refine wpAny_List_spliced (thn (h pos pins s σ H _ I hq) fun us s1 ⟨xs, H1, I1, r, z, q⟩ => ⟨by rw [← r.length]; exact z, ?_⟩)
  have hf : H1 s1.heap.objs.size = none := I1.hok.fresh (Nat.le_refl _)
  refine ⟨.ref s1.heap.objs.size, upd H1 s1.heap.objs.size (.lst xs), I1.laid (t' := s1.toks) (fun b u e => Heap.get?_push_of_some _ e) (Nat.le_refl _) ?_, rfl, q _ hf⟩
  exact ⟨z, us, 0, r, Heap.get?_push_size _ rfl⟩
end
abbrev Sp := List V → Hp → VK → XK → Prop
abbrev CXT := List Env → Hp → Shared → XK → Value → Shared → Prop
structure aU6 (P : Program) (w : World) (K : PySem.W.Frag) (mg : Str → Option Value) (base : Heap) (A : Around) (outer : List Env) (s : Shared) (H : Hp) : Prop where
  frames : A.frames = some outer
  mod : Mod K mg base
  bs : ∀ b o, base.get? b = some o → s.heap.get? b = some o ∧ H b = none
  bsz : base.objs.size ≤ s.heap.objs.size
  funs : s.heap.FunFrames base outer
  frf : ∀ b ∈ frs outer, H b = none
  hok : HOk P w H s.heap
  bare : AllBare s.gens
def CE (outer : List Env) (P : Program) (w : World) (H : Hp) (s : Shared) (Q : VK) (u : Value) (s' : Shared) : Prop :=
  ∃ v H', s'.os = s.os ∧ AllBare s'.gens ∧ Un (frs outer) [] H H' s.heap s'.heap ∧ HOk P w H' s'.heap ∧ z7 v u ∧ Q v H'
def CR (CX : CXT) (outer : List Env) (P : Program) (w : World) (H : Hp) (s : Shared) (Q : VK) (E : XK) (r : Result) (s' : Shared) : Prop :=
  match r with
  | .ok (.ret u) => CE outer P w H s Q u s'
  | .ok _ => False
  | .error e => CX outer H s E e s'
structure aa6 (P : Program) (w : World) (K : PySem.W.Frag) (mg : Str → Option Value) (base : Heap) (CX : CXT) (k : Nat) (f : Addr) (fd : FuncData) (ps : List Str) (sp : Sp) : Prop where
  len : ∀ vs H Q E, sp vs H Q E → vs.length = ps.length
  run : ∀ (A : Around) (outer : List Env) (s : Shared) (H : Hp) (args : Args) (us : List Value) (vs : List V) (Q : VK) (E : XK), U8 k A → aU6 P w K mg base A outer s H → BindsTo s fd args (ps.zip us) → m8 vs us → sp vs H Q E →
    codeAny (model P w) A (.call (.ref f) args) (CR CX outer P w H s Q E) s
theorem aa6.mono {P : Program} {w : World} {K : PySem.W.Frag} {mg : Str → Option Value} {base : Heap} {CX : CXT} {j k : Nat} {f : Addr} {fd : FuncData} {ps : List Str} {sp : Sp} (F : aa6 P w K mg base CX j f fd ps sp) (h : j ≤ k) :
    aa6 P w K mg base CX k f fd ps sp := ⟨F.len, fun A outer s H args us vs Q E hr => F.run A outer s H args us vs Q E (hr.mono h)⟩
theorem aa6.imp {P : Program} {w : World} {K : PySem.W.Frag} {mg : Str → Option Value} {base : Heap} {CX : CXT} {k : Nat} {f : Addr} {fd : FuncData} {ps : List Str} {sp sp' : Sp} (F : aa6 P w K mg base CX k f fd ps sp)
    (h : ∀ vs H Q E, sp' vs H Q E → sp vs H Q E) : aa6 P w K mg base CX k f fd ps sp' :=
  ⟨fun vs H Q E q => F.len vs H Q E (h _ _ _ _ q), fun A outer s H args us vs Q E hr he hb hv hs => F.run A outer s H args us vs Q E hr he hb hv (h _ _ _ _ hs)⟩
section
variable {X : Cx} {pins : List (Addr × Obj)} {σ : St} {H : Hp} {s s' : Shared}
theorem Inv.env0 (I : Inv X pins σ H s) : aU6 X.prog X.w X.K X.mg X.base X.A X.stack s H :=
  ⟨I.ok.frames, I.ok.mod, I.bs, Nat.le_trans I.ok.bsz I.sz, I.stack, I.stkFree, I.hok, I.bare⟩
theorem Inv.after {Q : VK} {u : Value} (I : Inv X pins σ H s) (h : CE X.stack X.prog X.w H s Q u s') : EP X pins σ Q u s' := by
  obtain ⟨v, H', os, bare, un, hok, r, q⟩ := h
  obtain ⟨hh, g, d, t, os'⟩ := s'
  obtain rfl : os' = s.os := os
  exact ⟨v, H', I.call (h' := hh) (g' := g) (d' := d) (t' := t) (ch := []) un hok bare (fun b z => absurd z (by simp)), r, q⟩
end
def bj7 (sp : Sp) (dvs : List V) (E : XK) (t : TA) : TE := fun σ H Q => t σ H fun vs H1 => sp (vs ++ dvs) H1 Q E
def aa7 (K : PySem.W.Frag) (fd : FuncData) (ps : List Str) (ds : List Value) : Prop :=
  ∀ (s : Shared) (us : List Value), K.In s.heap → (us ++ ds).length = ps.length → BindsTo s fd ⟨us, []⟩ (ps.zip (us ++ ds))
theorem aa7.all {K : PySem.W.Frag} {fd : FuncData} {ps : List Str} (h : ∀ us : List Value, us.length = ps.length → bindArgs fd ⟨us, []⟩ = pure (ps.zip us)) : aa7 K fd ps [] := fun s us _ hl => by
  rw [List.append_nil] at hl ⊢
  exact .of_eq (h us hl)
def au2 (CX : CXT) (X : Cx) (E : XK) : Prop := ∀ (pins : List (Addr × Obj)) (σ : St) (H : Hp) (s : Shared) (e : Value) (s' : Shared), Inv X pins σ H s → CX X.stack H s E e s' → X.xe e s'
section
variable {X : Cx} {CX : CXT} {k : Nat} {f C : Addr} {fd : FuncData} {ps : List Str} {sp : Sp} {dvs : List V} {ds : List Value} {E : XK} {x m : Str} {p pos apos : Pos} {e o : Expr} {es : List Expr} {ta : TE} {t : TA}
theorem bl9 {pins : List (Addr × Obj)} {σ : St} {H : Hp} {s : Shared} {Q : VK} {us : List Value} {vs : List V} (F : aa6 X.prog X.w X.K X.mg X.base CX k f fd ps sp) (hr : U8 k X.A) (hb : aa7 X.K fd ps ds) (hd : m8 dvs ds) (hx : au2 CX X E)
    (I : Inv X pins σ H s) (r : m8 vs us) (h : sp (vs ++ dvs) H Q E) : wpAny (model X.prog X.w) X.A (call (.ref f) us) (EP X pins σ Q) X.xe s := by
  have r2 : m8 (vs ++ dvs) (us ++ ds) := r.append hd
  have hl : (us ++ ds).length = ps.length := by rw [← r2.length]; exact F.len _ _ _ _ h
  refine wpAny_call (codeAny_mono (F.run X.A X.stack s H ⟨us, []⟩ (us ++ ds) (vs ++ dvs) Q E hr I.env0 (hb s us I.kIn hl) r2 h) fun r s' hq => ?_)
  cases r with
  | error e => exact hx pins σ H s e s' I hq
  | ok fl =>
    cases fl with
    | ret u => exact I.after hq
    | next => exact False.elim hq
    | brk => exact False.elim hq
    | cont => exact False.elim hq
theorem bf7 (F : aa6 X.prog X.w X.K X.mg X.base CX k f fd ps sp) (hr : U8 k X.A) (hg : Gl X x) (hm : X.mg x = some (.ref f)) (hk : PySem.W.keepIn X.K (.ref f) = true) (hb : aa7 X.K fd ps ds) (hd : m8 dvs ds) (hx : au2 CX X E)
    (ha : PA X (e :: es) t) (hdb : (x == ("__debug__" : Str)) = false := by decide) (he : starEach (e :: es) X.env = (false, eval e X.env) :: starEach es X.env := by rfl) (hpl : (backTo pos (starEach es X.env)).any (·.1) = false := by rfl) :
    PE X (.Call (.Name x p) (e :: es) [] pos) (bj7 sp dvs E t) := by
  intro pins s σ H Q I h
  refine wpAny_Call_Name_kw (ag4 I hg hm ?_ hdb)
  refine PySem.W.callWith_K (h₀ := X.base) I.ok.mod.kin hk (thn (ha pos pins s σ H _ I h) fun us s1 ⟨vs, H1, I1, r, q⟩ => ⟨I1.kIn, ?_⟩) he hpl
  exact bl9 F hr hb hd hx I1 r q
structure Mk (K : PySem.W.Frag) (C f : Addr) : Prop where
  makes : PySem.W.makesIn K C = true
  init : PySem.W.findIn K (.ref C) "__init__" = some (some (.ref f))
  fn : PySem.W.isFn K (.ref f) = true
  kp : PySem.W.keepIn K (.ref C) = true
end
section
variable {X : Cx} {CX : CXT} {k : Nat} {f C : Addr} {fd : FuncData} {ps ks : List Str} {sp : Sp} {E : XK} {x m : Str} {p pos apos kpos : Pos} {e o : Expr} {es : List Expr} {kws : List Keyword} {te ta : TE} {t tk : TA} {nm : Option Str}
structure KBinds (K : PySem.W.Frag) (fd : FuncData) (ps ks : List Str) (g : List Value → List Value → List Value) (gV : List V → List V → List V) : Prop where
  to : ∀ (s : Shared) (us ws : List Value), K.In s.heap → (g us ws).length = ps.length → BindsTo s fd ⟨us, ks.zip ws⟩ (ps.zip (g us ws))
  rel : ∀ {vs : List V} {us : List Value} {zs : List V} {ws : List Value}, m8 vs us → m8 zs ws → m8 (gV vs zs) (g us ws)
variable {g : List Value → List Value → List Value} {gV : List V → List V → List V}
end
structure i3 (N P : List Str) (sc : Scope) : Prop where
  kind : sc.kind = .function
  co : sc.isCoroutine = false
  gen : sc.isGenerator = false
  nd : N.Nodup
  pre : N.take P.length = P
  par : ∀ x ∈ P, sc.names.lookup x = some .local ∨ sc.names.lookup x = some .cell
  nofree : ∀ y ∈ sc.names, y.2 ≠ .free
theorem az2 {kindOf : Str → Option NameKind} {x : Str} : ∀ {binds : List (Str × Value)} {m : Str → Option Value}, (∀ v, (x, v) ∉ binds) → bindL kindOf binds m x = m x
  | [], _, _ => rfl
  | (n, v) :: r, m, h => by
    unfold bindL
    rw [az2 fun w hw => h w (List.mem_cons_of_mem _ hw)]
    split
    · have : x ≠ n := by rintro rfl; exact h v List.mem_cons_self
      simp [this]
    · rfl
theorem az4 {kindOf : Str → Option NameKind} {x : Str} : ∀ {binds : List (Str × Value)} {m : Str → Option Value}, (∀ v, (x, v) ∉ binds) → bindC kindOf binds m x = m x
  | [], _, _ => rfl
  | (n, v) :: r, m, h => by
    unfold bindC
    rw [az4 fun w hw => h w (List.mem_cons_of_mem _ hw)]
    split
    · rfl
    · have : x ≠ n := by rintro rfl; exact h v List.mem_cons_self
      simp [this]
theorem az3 {kindOf : Str → Option NameKind} {x : Str} {v : Value} : ∀ {P : List Str} {vs : List Value} {i : Nat} {m : Str → Option Value}, P.Nodup → P[i]? = some x → vs[i]? = some v → kindOf x = some .local →
    bindL kindOf (P.zip vs) m x = some v
  | [], _, _, _, _, h, _, _ => by simp at h
  | _ :: _, [], _, _, _, _, h, _ => by simp at h
  | p :: P, w :: vs, 0, m, nd, h1, h2, hk => by
    simp at h1 h2; subst h1; subst h2
    show bindL kindOf ((p, w) :: P.zip vs) m p = _
    unfold bindL
    rw [az2 fun v hv => (List.nodup_cons.mp nd).1 (List.of_mem_zip hv).1, if_pos hk]
    simp
  | p :: P, w :: vs, i + 1, m, nd, h1, h2, hk => by
    show bindL kindOf ((p, w) :: P.zip vs) m x = _
    unfold bindL
    exact az3 (i := i) (List.nodup_cons.mp nd).2 (by simpa using h1) (by simpa using h2) hk
theorem az5 {kindOf : Str → Option NameKind} {x : Str} {v : Value} : ∀ {P : List Str} {vs : List Value} {i : Nat} {m : Str → Option Value}, P.Nodup → P[i]? = some x → vs[i]? = some v → kindOf x ≠ some .local →
    bindC kindOf (P.zip vs) m x = some v
  | [], _, _, _, _, h, _, _ => by simp at h
  | _ :: _, [], _, _, _, _, h, _ => by simp at h
  | p :: P, w :: vs, 0, m, nd, h1, h2, hk => by
    simp at h1 h2; subst h1; subst h2
    show bindC kindOf ((p, w) :: P.zip vs) m p = _
    unfold bindC
    rw [az4 fun v hv => (List.nodup_cons.mp nd).1 (List.of_mem_zip hv).1, if_neg hk]
    simp
  | p :: P, w :: vs, i + 1, m, nd, h1, h2, hk => by
    show bindC kindOf ((p, w) :: P.zip vs) m x = _
    unfold bindC
    exact az5 (i := i) (List.nodup_cons.mp nd).2 (by simpa using h1) (by simpa using h2) hk
def start (N : List Str) (vs : List V) : St := vs.map some ++ List.replicate (N.length - vs.length) none
def ah1 (CX : CXT) (P : Program) (w : World) (K : PySem.W.Frag) (mg : Str → Option Value) (base : Heap) (N : List Str) (qual : Str) (scope : Scope) (f : Addr) (cd : Value) (A : Around) (outer : List Env) (s : Shared) (H : Hp) (E : XK) : Cx where
  prog := P
  w := w
  K := K
  mg := mg
  base := base
  A := A.deeper (envOfC qual scope s.heap.objs.size f cd)
  N := N
  s₀ := s
  H₀ := H
  env := envOfC qual scope s.heap.objs.size f cd
  outer := outer
  stack := envOfC qual scope s.heap.objs.size f cd :: outer
  ex := []
  calm := true
  fn := fun _ => true
  pn := []
  xe := fun e s' => wpAny (model P w) (A.deeper (envOfC qual scope s.heap.objs.size f cd)) (leaving (envOfC qual scope s.heap.objs.size f cd) e) (fun _ s'' => CX outer H s E e s'') (fun e' s'' => CX outer H s E e' s'') s'
theorem aJ4 {sc : Scope} {n : Nat} {x : Str} (h : sc.names.lookup x = some .cell) : ∃ c, (cellsFrom n sc.names []).lookup x = some c := by
  have q := PySem.W.cellsFrom_some sc.names n [] (.inl h)
  exact Option.isSome_iff_exists.mp q
theorem ay2 {CX : CXT} {P : Program} {w : World} {K : PySem.W.Frag} {mg : Str → Option Value} {base : Heap} {N ps : List Str} {qual : Str} {scope : Scope} {f : Addr} {cd : Value} {A : Around} {outer : List Env} {s s1 : Shared} {H : Hp} {E : XK} {us : List Value} {vs : List V}
    (S : i3 N ps scope) (hd : A.handled = none) (e0 : aU6 P w K mg base A outer s H) (hl : vs.length = ps.length) (r : m8 vs us)
    (x : InCallC s s.heap.objs.size (bindL (envOfC qual scope s.heap.objs.size f cd).kindOf (ps.zip us) fun _ => none) (cellsFrom (s.heap.objs.size + 1) scope.names []) (bindC (envOfC qual scope s.heap.objs.size f cd).kindOf (ps.zip us) fun _ => none) s1) :
    Inv (ah1 CX P w K mg base N qual scope f cd A outer s H E) [] (start N vs) H s1 := by
  have hpl : ps.length ≤ N.length := by have := congrArg List.length S.pre; rw [List.length_take] at this; omega
  obtain ⟨h1, tk, rfl, hk⟩ := x.done
  have noA : ∀ b : Addr, b ∉ (ah1 CX P w K mg base N qual scope f cd A outer s H E).ex := fun b z => absurd (show b ∈ ([] : List Addr) from z) (by simp)
  refine ⟨⟨e0.mod, S.kind, rfl, rfl, Nat.le_refl _, fun y z c h1 h2 => ?_, fun y hy => ?_, fun y c _ h => ?_, fun _ => hd, Around.frames_deeper e0.frames, .inr ⟨rfl, rfl⟩, fun b z => absurd z (noA b), e0.bs, e0.bsz, fun b _ _ => noA b, fun b z => absurd z (noA b), e0.funs, e0.frf⟩,
    rfl, e0.bare, Un.kept hk, ⟨_, x.toInCall.ns, fun i y v h1 h2 h3 => ?_⟩, fun y c h => ⟨_, x.cell y c h⟩, e0.hok.fresh (Nat.le_refl _), fun y c h => ?_, fun p hp => absurd (show p ∈ ([] : List (Addr × Obj)) from hp) (by simp), e0.hok.kept hk, ?_⟩
  · exact name_of_addr x.apart (PySem.mem_of_lookup h1) (PySem.mem_of_lookup h2)
  · have hy : scope.names.lookup y = some .cell ∨ scope.names.lookup y = some .free := hy
    rcases hy with hy | hy
    · exact aJ4 hy
    · exact absurd rfl (S.nofree _ (PySem.mem_of_lookup hy))
  · exact Nat.le_of_lt (x.above y c (PySem.mem_of_lookup h))
  · have hi : i < vs.length := by
      unfold start at h2
      by_cases hi : i < vs.length
      · exact hi
      · rw [List.getElem?_append_right (by simpa using hi)] at h2
        rw [List.getElem?_replicate] at h2
        split at h2 <;> cases h2
    have ha : vs[i]? = some v := by
      unfold start at h2
      rw [List.getElem?_append_left (by simpa using hi), List.getElem?_map] at h2
      cases e : vs[i]? with
      | none => rw [e] at h2; cases h2
      | some a => rw [e] at h2; cases h2; rfl
    obtain ⟨u, hu, rv⟩ := r.get ha
    have hp : ps[i]? = some y := by
      rw [← S.pre, List.getElem?_take_of_lt (by omega)]; exact h1
    have ndP : ps.Nodup := by rw [← S.pre]; exact S.nd.sublist (List.take_sublist _ _)
    refine ⟨u, rv, ?_⟩
    rcases S.par y (List.mem_of_getElem? hp) with k | k
    · exact .inl ⟨k, az3 ndP hp hu k⟩
    · obtain ⟨c, e⟩ := aJ4 (n := s.heap.objs.size + 1) k
      refine .inr ⟨.inl k, c, e, ?_⟩
      have q := x.cell y c e
      rw [az5 ndP hp hu (by show scope.names.lookup y ≠ _; rw [k]; decide)] at q
      exact q
  · exact e0.hok.fresh (Nat.le_of_lt (x.above y c (PySem.mem_of_lookup h)))
  · unfold start
    show _ = N.length
    rw [List.length_append, List.length_map, List.length_replicate]
    omega
theorem bk8 {CX : CXT} {P : Program} {w : World} {K : PySem.W.Frag} {mg : Str → Option Value} {base : Heap} {k : Nat} {f : Addr} {name qual : Str} {params : Arguments} {body : List Stmt} {scope : Scope} {dV kV doc pm cdv ct oc : Value} {an od : Option Addr}
    {osl : Array (Option Value)} {N ps : List Str} {sp : Sp} (lk : K.lookup f = some ⟨oc, od, .func (PySem.W.fnOf name qual params body scope dV kV doc pm an cdv ct), osl⟩) (hcd : PySem.W.codeIn K cdv qual = true) (S : i3 N ps scope)
    (len : ∀ vs H Q E, sp vs H Q E → vs.length = ps.length)
    (hbody : ∀ (A : Around) (outer : List Env) (s : Shared) (H : Hp) (vs : List V) (Q : VK) (E : XK), U8 k (A.deeper (envOfC qual scope s.heap.objs.size f cdv)) → sp vs H Q E →
      ∃ t, PSs (ah1 CX P w K mg base N qual scope f cdv A outer s H E) body t ∧ t { nx := fun _ H' => Q .non H', rt := Q } (start N vs) H) :
    aa6 P w K mg base CX (k + 1) f (PySem.W.fnOf name qual params body scope dV kV doc pm an cdv ct) ps sp := by
  refine ⟨len, fun A outer s H args us vs Q E hr e0 hb r hsp => ?_⟩
  have hl := len _ _ _ _ hsp
  have KX : K.In s.heap := e0.mod.kin.keeps fun b o e => (e0.bs b o e).1
  have lim : s.heap.NoLimit := e0.mod.nolimit.keeps fun b o e => (e0.bs b o e).1
  have hkind : ∀ y ∈ ps.zip us, scope.names.lookup y.1 = some .local ∨ (scope.names.lookup y.1 = some .cell ∧ ((cellsFrom (s.heap.objs.size + 1) scope.names []).lookup y.1).isSome = true) := fun ⟨n, v⟩ hy => by
    rcases S.par n (List.of_mem_zip hy).1 with q | q
    · exact .inl q
    · exact .inr ⟨q, PySem.W.cellsFrom_some _ _ _ (.inl q)⟩
  refine codeAny_call_function hr.depth (KX _ _ lk) rfl S.co S.gen rfl (PySem.W.codeRec_of KX hcd) (hb _ _ _ _ ?_)
  refine wpAny_newFunctionEnv_cells S.kind hkind fun env he s1 x => ?_
  subst he
  refine ⟨lim.keeps x.toInCall.keep, codeAny_func ?_⟩
  obtain ⟨t, ht, hq⟩ := hbody A outer s H vs Q E (hr.deeper _) hsp
  have I : Inv (ah1 CX P w K mg base N qual scope f cdv A outer s H E) [] (start N vs) H s1 := ay2 S hr.hd e0 hl r x
  refine wpAny_mono (ht [] s1 (start N vs) H _ I hq) (fun fl s' hs => ?_) fun e s' hs => hs
  have fin : ∀ {σ' : St} {H' : Hp} {v : V} {u : Value}, Inv (ah1 CX P w K mg base N qual scope f cdv A outer s H E) [] σ' H' s' → z7 v u → Q v H' → CE outer P w H s Q u s' :=
    fun {σ' H' v u} J rv q => ⟨v, H', J.os, J.bare, J.base, J.hok, rv, q⟩
  cases fl with
  | ret u =>
    obtain ⟨v, σ', H', J, rv, q⟩ := hs
    exact fin J rv q
  | next =>
    obtain ⟨σ', H', J, q⟩ := hs
    exact fin (v := V.non) (u := Value.none) J rfl q
  | brk =>
    obtain ⟨_, _, _, q⟩ := hs
    exact False.elim q
  | cont =>
    obtain ⟨_, _, _, q⟩ := hs
    exact False.elim q
section
variable {X : Cx} {x : Str} {p pos : Pos} {e : Expr} {es : List Expr} {t : TA} {id T : String} {r : List V → Hp → VK → Prop}
def tCB (r : List V → Hp → VK → Prop) (t : TA) : TE := fun σ H Q => t σ H fun vs H1 => r vs H1 Q
theorem d8 (hc : V5 X (.builtin id) r) (hg : Gl X x) (hm : X.mg x = none) (hv : bootBuiltins x = some (.builtin id)) (ha : PA X (e :: es) t) (hn : x ≠ "__name__" := by decide) (hdb : (x == ("__debug__" : Str)) = false := by decide)
    (he : starEach (e :: es) X.env = (false, eval e X.env) :: starEach es X.env := by rfl) (hpl : (backTo pos (starEach es X.env)).any (·.1) = false := by rfl) : PE X (.Call (.Name x p) (e :: es) [] pos) (tCB r t) := by
  intro pins s σ H Q I h
  refine wpAny_Call_Name_kw (Z9 I hg hm hv ?_ hn hdb)
  exact PyProof.Rows.callWith_builtin1 (thn (ha pos pins s σ H _ I h) fun us s1 ⟨vs, H1, I1, r1, q1⟩ => hc pins s1 σ H1 vs us Q I1 r1 q1) he hpl
theorem K2 (hc : V5 X (.type T) r) (hg : Gl X x) (hm : X.mg x = none) (hv : bootBuiltins x = some (.type T)) (ha : PA X (e :: es) t) (hn : x ≠ "__name__" := by decide) (hdb : (x == ("__debug__" : Str)) = false := by decide)
    (he : starEach (e :: es) X.env = (false, eval e X.env) :: starEach es X.env := by rfl) (hpl : (backTo pos (starEach es X.env)).any (·.1) = false := by rfl) : PE X (.Call (.Name x p) (e :: es) [] pos) (tCB r t) := by
  intro pins s σ H Q I h
  refine wpAny_Call_Name_kw (Z9 I hg hm hv ?_ hn hdb)
  exact PyProof.Rows.callWith_type1 (thn (ha pos pins s σ H _ I h) fun us s1 ⟨vs, H1, I1, r1, q1⟩ => hc pins s1 σ H1 vs us Q I1 r1 q1) he hpl
end
end L2
namespace HT
open PySem PyProof.Rows
section
open PySem.SeqAt
open PySem.AutoSeq1 (wpAny_loadPart')
open PySem.MeetsSeq PySem.MeetsSeq2 PySem.MeetsSeq3
end
section
variable {prog : Program} {w : World} {A : Around} {E : Value → Shared → Prop} {s : Shared}
def sIx (n d : Nat) : Option Int → Nat
  | none => d
  | some v => if v < 0 then (v + (n : Int)).toNat else min v.toNat n
end
end HT
namespace L2
open PySem PySem.Spec PyProof.Rows
abbrev TO := St → Hp → (Option Int → Hp → Prop) → Prop
def PO (X : Cx) (e : Option Expr) (t : TO) : Prop :=
  ∀ (pins : List (Addr × Obj)) (s : Shared) (σ : St) (H : Hp) (Q : Option Int → Hp → Prop), Inv X pins σ H s → t σ H Q →
    wpAny (model X.prog X.w) X.A (evalPart e X.env) (fun u s' => ∃ o H', Inv X pins σ H' s' ∧ IsPart u o ∧ Q o H') X.xe s
def ae2 : TO := fun _ H Q => Q none H
def aE7 (t : TE) : TO := fun σ H Q => t σ H fun x H1 => ∃ i, x = .int i ∧ Q (some i) H1
section
variable {X : Cx} {e : Expr} {te : TE} {lo hi : Option Expr} {tl th : TO} {pos p2 : Pos}
theorem aB4 : PO X none ae2 := by
  intro pins s σ H Q I h
  rw [evalPart_none]
  exact wpAny_pure ⟨none, H, I, .none, h⟩
theorem am9 (h : PE X e te) : PO X (some e) (aE7 te) := by
  intro pins s σ H Q I hw
  rw [evalPart_some]
  refine thn (h pins s σ H _ I hw) fun u s1 ⟨x, H1, I1, r1, q1⟩ => ?_
  obtain ⟨i, rfl, q⟩ := q1
  obtain ⟨t, rfl⟩ := r1
  exact ⟨some i, H1, I1, .int i t, q⟩
def SlR (X : Cx) (r : V → Option Int → Option Int → Hp → VK → Prop) : Prop :=
  ∀ (pins : List (Addr × Obj)) (s : Shared) (σ : St) (H : Hp) (x : V) (v vl vu : Value) (lo hi : Option Int) (sl : Addr) (Q : VK), Inv X pins σ H s → z7 x v → s.heap.IsSliceOf sl vl vu .none → IsPart vl lo → IsPart vu hi → r x lo hi H Q →
    ∃ T id, typeLookup (.type T) "__getitem__" = pure (some (.builtin id)) ∧ s.TypeIs v T ∧ wpAny (model X.prog X.w) X.A (getItem v (.ref sl)) (EP X pins σ Q) X.xe s
def tSl (r : V → Option Int → Option Int → Hp → VK → Prop) (te : TE) (tl th : TO) : TE := fun σ H Q => te σ H fun x H1 => tl σ H1 fun l H2 => th σ H2 fun u H3 => r x l u H3 Q
theorem aH1 {r : V → Option Int → Option Int → Hp → VK → Prop} (hr : SlR X r) (he : PE X e te) (hl : PO X lo tl) (hu : PO X hi th) : PE X (.Subscript e (.Slice lo hi none p2) pos) (tSl r te tl th) := by
  intro pins s σ H Q I h
  refine Subscript_ (thn (he pins s σ H _ I h) fun v s1 ⟨x, H1, I1, r1, q1⟩ => ?_)
  refine wpAny_Slice (thn (hl pins s1 σ H1 _ I1 q1) fun vl s2 ⟨l, H2, I2, pl, q2⟩ => thn (hu pins s2 σ H2 _ I2 q2) fun vu s3 ⟨u, H3, I3, pu, q3⟩ => ?_)
  rw [evalPart_none]
  refine wpAny_pure ?_
  have I4 : Inv X pins σ H3 { s3 with heap := s3.heap.push { cls := .type "slice", data := .fields #[vl, vu, .none] } } := I3.kept (t' := s3.toks) fun b ob q => Heap.get?_push_of_some _ q
  obtain ⟨T, id, hT, ht, hg⟩ := hr pins { s3 with heap := s3.heap.push { cls := .type "slice", data := .fields #[vl, vu, .none] } } σ H3 x v vl vu l u s3.heap.objs.size Q I4 r1 (Heap.IsSliceOf.new ..) pl pu q3
  show wpAny (model X.prog X.w) X.A (subscriptTail e (.Slice lo hi none p2) v (.ref s3.heap.objs.size)) (EP X pins σ Q) X.xe { s3 with heap := s3.heap.push { cls := .type "slice", data := .fields #[vl, vu, .none] } }
  exact tail_any (ops := [.ref s3.heap.objs.size, v]) ht hT hg (by with_unfolding_all rfl)
def aM8 (xs : List V) (lo hi : Option Int) : List V := (xs.drop (HT.sIx xs.length 0 lo)).take (HT.sIx xs.length xs.length hi - HT.sIx xs.length 0 lo)
theorem aJ3 (xs : List V) (lo hi : Option Int) : (aM8 xs lo hi).length ≤ xs.length := by
  unfold aM8
  rw [List.length_take, List.length_drop]
  omega
end
def ixN (n : Nat) (i : Int) : Option Nat := if 0 ≤ i then (if i < n then some i.toNat else none) else if -(n : Int) ≤ i then some (i + n).toNat else none
def atI {α : Type} (xs : List α) (i : Int) : Option α := (ixN xs.length i).bind fun j => xs[j]?
theorem aO8 {n : Nat} {i : Int} {j : Nat} (h : ixN n i = some j) : seqIndex? i n = some j ∧ j < n ∧ -(n : Int) ≤ i ∧ i < n := by
  unfold ixN at h
  by_cases h0 : 0 ≤ i
  · rw [if_pos h0] at h
    by_cases h1 : i < n
    · rw [if_pos h1] at h
      have e : i.toNat = j := Option.some.inj h
      exact ⟨by rw [seqIndex_of h0 h1, e], by omega, by omega, h1⟩
    · rw [if_neg h1] at h; cases h
  · rw [if_neg h0] at h
    by_cases h1 : -(n : Int) ≤ i
    · rw [if_pos h1] at h
      have e : (i + n).toNat = j := Option.some.inj h
      exact ⟨by rw [seqIndex_neg (by omega) h1, e], by omega, h1, by omega⟩
    · rw [if_neg h1] at h; cases h
theorem aE1 {α : Type} {xs : List α} {i : Int} {v : α} (h : atI xs i = some v) : ∃ j, seqIndex? i xs.length = some j ∧ xs[j]? = some v ∧ j < xs.length ∧ -(xs.length : Int) ≤ i ∧ i < xs.length := by
  unfold atI at h
  cases e : ixN xs.length i with
  | none => rw [e] at h; cases h
  | some j =>
    rw [e] at h
    obtain ⟨h1, h2, h3, h4⟩ := aO8 e
    exact ⟨j, h1, h, h2, h3, h4⟩
theorem P9 {α : Type} {xs : List α} {j : Nat} {v : α} (h : xs[j]? = some v) : atI xs (j : Int) = some v := by
  have hj : j < xs.length := (List.getElem?_eq_some_iff.mp h).1
  have e : ixN xs.length (j : Int) = some j := by
    unfold ixN
    rw [if_pos (by omega), if_pos (by omega)]; simp
  unfold atI; rw [e]; exact h
def bi9 (b : Expr) : Prop := ∀ o i, subscripted b false o i = operate [o, i] (getItem o i)
def IxR (X : Cx) (r : R2) : Prop :=
  ∀ (value slice : Expr) (pins : List (Addr × Obj)) (s : Shared) (σ : St) (H : Hp) (x y : V) (v u : Value) (Q : VK), Inv X pins σ H s → z7 x v → z7 y u → r x y H Q →
    subscripted slice false v u = operate [v, u] (getItem v u) → wpAny (model X.prog X.w) X.A (subscriptTail value slice v u) (EP X pins σ Q) X.xe s
def MtR (X : Cx) (id : String) (r : V → List V → Hp → VK → Prop) : Prop :=
  ∀ (pins : List (Addr × Obj)) (s : Shared) (σ : St) (H : Hp) (x : V) (xs : List V) (v : Value) (us : List Value) (Q : VK), Inv X pins σ H s → z7 x v → m8 xs us → r x xs H Q →
    wpAny (model X.prog X.w) X.A (call (.builtin id) (v :: us)) (EP X pins σ Q) X.xe s
section
variable {X : Cx} {a b : Expr} {ta tb : TE} {pos : Pos}
theorem n5 {r : R2} (hr : IxR X r) (ha : PE X a ta) (hb : PE X b tb) (hs : bi9 b) : PE X (.Subscript a b pos) (tOp r ta tb) := by
  intro pins s σ H Q I h
  exact Subscript_ (bo4 ha hb I h fun v u s2 x y H2 I2 rx ry q => hr a b pins s2 σ H2 x y v u Q I2 rx ry q (hs _ _))
def aK3 (K : PySem.W.Frag) : R2 := fun x y H Q => ∃ p xs i v, x = .ref p ∧ y = .int i ∧ SqL K H p xs ∧ atI xs i = some v ∧ Q v H
def aY2 (K : PySem.W.Frag) : R2 := fun x y H Q => ∃ p xs i v, x = .ref p ∧ y = .int i ∧ SqT K H p xs ∧ atI xs i = some v ∧ Q v H
theorem y9 : IxR X (aK3 X.K) := by
  intro value slice pins s σ H x y v u Q I rx ry h hs
  obtain ⟨p, xs, i, z, rfl, rfl, hq, he, q⟩ := h
  cases rx
  obtain ⟨t, rfl⟩ := ry
  obtain ⟨its, r, pl, hz⟩ := I.list hq
  obtain ⟨j, h1, h2, h3, h4, h5⟩ := aE1 he
  obtain ⟨w, ew, rw'⟩ := r.get h2
  have hl := r.length
  have hn := ad6
  have fin : EP X pins σ Q w s := ⟨z, H, I, rw', q⟩
  by_cases h0 : 0 ≤ i
  · have hj : i.toNat = j := by
      rw [seqIndex_of h0 h5] at h1
      exact Option.some.inj h1
    exact item_listR pl.isList h0 (by omega) (by rw [hj]; simpa using ew) fin hs
  · have hj : (i + (its.toArray.size : Int)).toNat = j := by
      rw [seqIndex_neg (by omega) h4] at h1
      rw [List.size_toArray, ← hl]
      exact Option.some.inj h1
    exact subscriptTail_builtinR (x := w) pl.isList.typeIs slot_list_getitem.lookup
      (wpAny_getItem_list_neg (Q := fun r s' => r = w ∧ EP X pins σ Q r s') pl.isList (by omega) (by rw [List.size_toArray] <;> omega) (by omega) (by rw [hj]; simpa using ew) ⟨rfl, fin⟩) hs
theorem o0 : IxR X (aY2 X.K) := by
  intro value slice pins s σ H x y v u Q I rx ry h hs
  obtain ⟨p, xs, i, z, rfl, rfl, hq, he, q⟩ := h
  cases rx
  obtain ⟨t, rfl⟩ := ry
  obtain ⟨its, r, pl, hz⟩ := I.tuple hq
  obtain ⟨j, h1, h2, h3, h4, h5⟩ := aE1 he
  obtain ⟨w, ew, rw'⟩ := r.get h2
  have hl := r.length
  have hn := ad6
  have fin : EP X pins σ Q w s := ⟨z, H, I, rw', q⟩
  exact subscriptTail_builtinR (x := w) pl.typeIs slot_tuple_getitem.lookup
    (getItem_tuple (j := j) (Q := fun r s' => r = w ∧ EP X pins σ Q r s') pl (by omega) (by omega) (by rw [List.size_toArray, ← hl]; exact h1) (by simpa using ew) ⟨rfl, fin⟩) hs
theorem aL6 (its : List Value) (n j : Nat) (u : Value) : Obj.mapSeq (·.setIfInBounds j u) { cls := .type "list", data := .seq its.toArray n } = { cls := .type "list", data := .seq (its.set j u).toArray n } := by
  simp [Obj.mapSeq]
theorem Inv.lst {pins : List (Addr × Obj)} {σ : St} {H : Hp} {s : Shared} {p : Addr} {xs : List V} (I : Inv X pins σ H s) (h : H p = some (.lst xs)) :
    ∃ (its : List Value) (n : Nat), m8 xs its ∧ s.heap.get? p = some { cls := .type "list", data := .seq its.toArray n } ∧ xs.length ≤ sizeLine := by
  obtain ⟨z, its, n, r, e⟩ := I.hok p _ h
  exact ⟨its, n, r, e, z⟩
theorem Inv.lstUpd {pins : List (Addr × Obj)} {σ : St} {H : Hp} {s : Shared} {p : Addr} {xs ys : List V} {its its' : List Value} {n n' : Nat} {f : Obj → Obj} (I : Inv X pins σ H s) (h : H p = some (.lst xs))
    (ho : s.heap.get? p = some { cls := .type "list", data := .seq its.toArray n }) (hf : f { cls := .type "list", data := .seq its.toArray n } = { cls := .type "list", data := .seq its'.toArray n' }) (r : m8 ys its') (hz : ys.length ≤ sizeLine) (t : Nat) :
    Inv X pins σ (upd H p (.lst ys)) { s with heap := s.heap.update p f, toks := t } := by
  have e : (s.heap.update p f).get? p = some { cls := .type "list", data := .seq its'.toArray n' } := by
    rw [Heap.get?_update_self f ho (by rw [hf] <;> rfl), hf]
  refine I.write (x := p) (e := p) (by rw [h]; trivial) (.inl rfl) (fun b u hb q => (Heap.get?_update_other _ _ (Ne.symm hb)).trans q) ⟨_, e⟩ ?_
  exact ⟨hz, its', n', r, e⟩
def aG8 : V → V → V → Hp → (Hp → Prop) → Prop := fun o i v H Q => ∃ p xs k j, o = .ref p ∧ i = .int k ∧ H p = some (.lst xs) ∧ ixN xs.length k = some j ∧ Q (upd H p (.lst (xs.set j v)))
theorem O1 : bo9 X aG8 := by
  intro pins s σ H o i v ov iv u Q I ro ri rv h
  obtain ⟨p, xs, k, j, rfl, rfl, hp, hj, q⟩ := h
  cases ro
  obtain ⟨t, rfl⟩ := ri
  obtain ⟨its, n, r, ho, hz⟩ := I.lst hp
  obtain ⟨h1, h2, h3, h4⟩ := aO8 hj
  have hl := r.length
  have hn := ad6
  have I' : Inv X pins σ (upd H p (.lst (xs.set j v))) { s with heap := s.heap.update p (Obj.mapSeq (·.setIfInBounds j u)) } :=
    I.lstUpd hp ho (aL6 its n j u) (r.set rv j) (by rw [List.length_set]; exact hz) s.toks
  by_cases h0 : 0 ≤ k
  · have hk : k.toNat = j := by
      rw [seqIndex_of h0 h4] at h1
      exact Option.some.inj h1
    exact PySem.W.ki_setAt ho h0 (by omega) (by rw [List.size_toArray, ← hl]; exact h4) (by rw [hk]; exact ⟨_, I', q⟩)
  · have hk : (k + (its.toArray.size : Int)).toNat = j := by
      rw [seqIndex_neg (by omega) h3] at h1
      rw [List.size_toArray, ← hl]
      exact Option.some.inj h1
    exact PySem.W.ki_setBack ho (by omega) (by rw [List.size_toArray, ← hl]; exact h3) (by omega) (by rw [hk]; exact ⟨_, I', q⟩)
theorem aA6 (lo hi : Option Int) (n : Nat) : (sliceBounds lo hi none n).1 = ((HT.sIx n 0 lo : Nat) : Int) ∧ (sliceBounds lo hi none n).2.1 = ((HT.sIx n n hi : Nat) : Int) ∧ (sliceBounds lo hi none n).2.2 = 1 := by
  refine ⟨?_, ?_, rfl⟩
  · cases lo with
    | none => simp [sliceBounds, HT.sIx]
    | some i =>
      simp only [sliceBounds, HT.sIx, Option.getD_none, show (1 : Int) > 0 by decide, if_true]
      by_cases h : i < 0
      · simp only [h, if_true] <;> omega
      · simp only [h, if_false] <;> omega
  · cases hi with
    | none => simp [sliceBounds, HT.sIx]
    | some i =>
      simp only [sliceBounds, HT.sIx, Option.getD_none, show (1 : Int) > 0 by decide, if_true]
      by_cases h : i < 0
      · simp only [h, if_true] <;> omega
      · simp only [h, if_false] <;> omega
theorem au5 (its : List Value) (lo hi : Option Int) : slicePick its.toArray lo hi none = ((its.drop (HT.sIx its.length 0 lo)).take (HT.sIx its.length its.length hi - HT.sIx its.length 0 lo)).toArray := by
  obtain ⟨h1, h2, h3⟩ := aA6 lo hi its.toArray.size
  unfold slicePick
  rw [h1, h2, h3]
  simp only [sliceRange_one, pick_run, List.size_toArray] <;> rfl
def aX8 (K : PySem.W.Frag) : V → Option Int → Option Int → Hp → VK → Prop := fun x lo hi H Q => ∃ a xs, x = .ref a ∧ SqL K H a xs ∧ ∀ p, H p = none → Q (.ref p) (upd H p (.lst (aM8 xs lo hi)))
theorem aO1 : SlR X (aX8 X.K) := by
  intro pins s σ H x v vl vu lo hi sl Q I rx hs pl pu h
  obtain ⟨a, xs, rfl, hx, q⟩ := h
  cases rx
  obtain ⟨its, r, ht, hz⟩ := I.list hx
  have hlen := r.length
  refine ⟨"list", _, slot_list_getitem.lookup, ht.isList.typeIs, ?_⟩
  refine wpAny_getItem_list_slice ht.isList hs pl pu .none (by simp) ?_ (by rw [List.size_toArray] <;> omega)
  rw [au5, ← hlen]
  refine ⟨.ref s.heap.objs.size, _, I.laid (t' := s.toks) (o := .lst (aM8 xs lo hi)) (fun b ob q => Heap.get?_push_of_some _ q) (Nat.le_refl _) ?_, rfl, q _ (I.hok.fresh (Nat.le_refl _))⟩
  exact ⟨Nat.le_trans (aJ3 xs lo hi) hz, _, 0, (r.drop (HT.sIx xs.length 0 lo)).take (HT.sIx xs.length xs.length hi - HT.sIx xs.length 0 lo), Heap.get?_push_size _ rfl⟩
def U6 : V → Bool
  | .non => true
  | .bl _ => true
  | .int _ => true
  | .str _ => true
  | _ => false
def eqV : V → V → Bool
  | .non, .non => true
  | .bl a, .bl b => a == b
  | .bl a, .int b => (if a then 1 else 0) == b
  | .int a, .bl b => a == (if b then 1 else 0)
  | .int a, .int b => a == b
  | .str a, .str b => a == b
  | _, _ => false
theorem bd3 {A : Around} {s : Shared} {y x : V} {u v : Value} (ry : z7 y u) (rx : z7 x v) (fy : U6 y = true) (fx : U6 x = true) : SeqAt.EqAt A s u v (eqV y x) := by
  cases y with
  | non =>
    cases ry
    cases x with
    | non => cases rx; exact SeqAt.EqAt.same _
    | bl b => cases rx; exact SeqAt.EqAt.none_bool b
    | int b => obtain ⟨t, rfl⟩ := rx; exact SeqAt.EqAt.none_int b t
    | str b => obtain ⟨t, rfl⟩ := rx; exact SeqAt.EqAt.none_str b t
    | _ => exact absurd (show false = true from fx) Bool.false_ne_true
  | bl a =>
    cases ry
    cases x with
    | non => cases rx; exact SeqAt.EqAt.bool_none a
    | bl b => cases rx; exact SeqAt.EqAt.bool_bool a b
    | int b => obtain ⟨t, rfl⟩ := rx; exact SeqAt.EqAt.bool_int a b t
    | str b => obtain ⟨t, rfl⟩ := rx; exact SeqAt.EqAt.bool_str a b t
    | _ => exact absurd (show false = true from fx) Bool.false_ne_true
  | int a =>
    obtain ⟨t', rfl⟩ := ry
    cases x with
    | non => cases rx; exact SeqAt.EqAt.int_none a t'
    | bl b => cases rx; exact SeqAt.EqAt.int_bool a t' b
    | int b => obtain ⟨t, rfl⟩ := rx; exact SeqAt.EqAt.int_int a t' b t
    | str b => obtain ⟨t, rfl⟩ := rx; exact SeqAt.EqAt.int_str a t' b t
    | _ => exact absurd (show false = true from fx) Bool.false_ne_true
  | str a =>
    obtain ⟨t', rfl⟩ := ry
    cases x with
    | non => cases rx; exact SeqAt.EqAt.str_none a t'
    | bl b => cases rx; exact SeqAt.EqAt.str_bool a t' b
    | int b => obtain ⟨t, rfl⟩ := rx; exact SeqAt.EqAt.str_int a t' b t
    | str b => obtain ⟨t, rfl⟩ := rx; exact SeqAt.EqAt.str_str a t' b t
    | _ => exact absurd (show false = true from fx) Bool.false_ne_true
  | _ => exact absurd (show false = true from fy) Bool.false_ne_true
def eqU (x : V) (u : Value) : Bool := match u with
  | .none => eqV .non x
  | .bool b => eqV (.bl b) x
  | .int i _ => eqV (.int i) x
  | .str z _ => eqV (.str z) x
  | _ => false
theorem aM4 {x y : V} {u : Value} (r : z7 y u) (f : U6 y = true) : eqU x u = eqV y x := by
  cases y with
  | non => cases r; rfl
  | bl b => cases r; rfl
  | int i => obtain ⟨t, rfl⟩ := r; rfl
  | str z => obtain ⟨t, rfl⟩ := r; rfl
  | _ => exact absurd (show false = true from f) Bool.false_ne_true
theorem ar7 {A : Around} {s : Shared} {x : V} {v : Value} (rx : z7 x v) (fx : U6 x = true) : ∀ {xs : List V} {us : List Value}, m8 xs us → xs.all U6 = true → ∀ u ∈ us, SeqAt.EqAt A s u v (eqU x u)
  | _, _, .nil, _ => fun u hu => by cases hu
  | y :: xs, u :: us, .cons r t, f => fun u' hu => by
    rw [List.all_cons, Bool.and_eq_true] at f
    rcases List.mem_cons.mp hu with rfl | hu
    · rw [aM4 r f.1]; exact bd3 r rx f.1 fx
    · exact ar7 rx fx t f.2 u' hu
theorem i6 : V5 X (.builtin "len") (fun xs H Q => ∃ p ys, xs = [.ref p] ∧ (SqL X.K H p ys ∨ SqT X.K H p ys) ∧ Q (.int ys.length) H) := by
  intro pins s σ H xs us Q I r h
  obtain ⟨p, ys, rfl, hq, q⟩ := h
  obtain ⟨u, rfl, rx⟩ := ab7 r
  cases rx
  have hn := ad6
  rcases hq with hq | hq
  · obtain ⟨its, r', pl, hz⟩ := I.list hq
    have hlen := r'.length
    exact Calls.call_len_list pl.isList (by simp only [List.size_toArray] <;> omega) ⟨.int ys.length, H, I.tok _, ⟨s.toks + 1, by rw [List.size_toArray, hlen]⟩, q⟩
  · obtain ⟨its, r', pl, hz⟩ := I.tuple hq
    have hlen := r'.length
    exact len_tuple pl (by simp only [List.size_toArray] <;> omega) ⟨.int ys.length, H, I.tok _, ⟨s.toks + 1, by rw [List.size_toArray, hlen]⟩, q⟩
theorem C8 : V5 X (.type "list") (fun xs H Q => ∃ p ys, xs = [.ref p] ∧ (SqL X.K H p ys ∨ SqT X.K H p ys) ∧ ∀ l, H l = none → Q (.ref l) (upd H l (.lst ys))) := by
  intro pins s σ H xs us Q I r h
  obtain ⟨p, ys, rfl, hq, q⟩ := h
  obtain ⟨u, rfl, rx⟩ := ab7 r
  cases rx
  have fin : ∀ (its : List Value), m8 ys its → ys.length ≤ sizeLine → ∀ (h' : Heap) (c' : Nat), (∀ b o', s.heap.get? b = some o' → h'.get? b = some o') →
      h'.get? s.heap.objs.size = some { cls := .type "list", dict := none, data := .seq its.toArray c', slots := #[] } → EP X pins σ Q (.ref s.heap.objs.size) { s with heap := h' } := fun its r' hz h' c' kp e =>
    ⟨.ref s.heap.objs.size, _, I.laid (t' := s.toks) kp (Nat.le_refl _) (show F9 X.prog X.w _ h' _ (.lst ys) from ⟨hz, its, c', r', e⟩), rfl, q _ (I.hok.fresh (Nat.le_refl _))⟩
  rcases hq with hq | hq
  · obtain ⟨its, r', pl, hz⟩ := I.list hq
    have hlen := r'.length
    obtain ⟨o, ho, hc, n, hd⟩ := pl.isList
    exact call_list_seq p (.inl rfl) ho hc hd (fun h' c' kp e => fin its r' hz h' c' kp e) (by simp only [List.size_toArray] <;> omega)
  · obtain ⟨its, r', pl, hz⟩ := I.tuple hq
    have hlen := r'.length
    obtain ⟨o, ho, hc, n, hd⟩ := pl
    exact call_list_seq p (.inr rfl) ho hc hd (fun h' c' kp e => fin its r' hz h' c' kp e) (by simp only [List.size_toArray] <;> omega)
def tyV (K : PySem.W.Frag) (T : String) (x : V) (H : Hp) : Prop := match x with
  | .str _ => T = "str"
  | .int _ => T = "int"
  | .ref p => (T = "list" ∧ ∃ xs, SqL K H p xs) ∨ (T = "tuple" ∧ ∃ o, K.lookup p = some o ∧ o.cls = .type "tuple" ∧ o.dict = none) ∨
      (T = "dict" ∧ ((∃ kvs, H p = some (.dK kvs)) ∨ ∃ kvs, H p = some (.dT kvs))) ∨ (T = "set" ∧ ∃ S n, H p = some (.set S n))
  | _ => False
theorem aU9 {pins : List (Addr × Obj)} {σ : St} {H : Hp} {s : Shared} {T : String} {x : V} {v : Value} (I : Inv X pins σ H s) (r : z7 x v) (ty : tyV X.K T x H) :
    s.TypeIs v T ∧ ∀ a, v = .ref a → ∃ ob, s.heap.get? a = some ob ∧ ob.dict = none := by
  cases x with
  | str z =>
    obtain ⟨t, rfl⟩ := r
    cases (show T = "str" from ty)
    exact ⟨typeIs_str s z t, fun _ e => nomatch e⟩
  | int i =>
    obtain ⟨t, rfl⟩ := r
    cases (show T = "int" from ty)
    exact ⟨typeIs_int s i t, fun _ e => nomatch e⟩
  | ref p =>
    cases r
    rcases ty with ⟨rfl, xs, hq⟩ | ⟨rfl, o, hk, hc, hd⟩ | ⟨rfl, hk⟩ | ⟨rfl, S, n, hk⟩
    · obtain ⟨its, _, pl, _⟩ := I.list hq
      refine ⟨pl.isList.typeIs, fun a e => ?_⟩
      cases e
      obtain ⟨o, n, e, c, hd, _⟩ := pl
      exact ⟨o, e, hd⟩
    · refine ⟨⟨o, I.kIn p o hk, hc⟩, fun a e => ?_⟩
      cases e
      exact ⟨o, I.kIn _ o hk, hd⟩
    · have z : ∃ o, s.heap.get? p = some o ∧ o.ExactDict := by
        rcases hk with ⟨kvs, hk⟩ | ⟨kvs, hk⟩
        · obtain ⟨_, _, _, _, o, _, _, e, ex, _⟩ := I.hok p _ hk
          exact ⟨o, e, ex⟩
        · obtain ⟨_, _, _, _, o, _, _, e, ex, _⟩ := I.hok p _ hk
          exact ⟨o, e, ex⟩
      obtain ⟨o, e, ex⟩ := z
      refine ⟨⟨o, e, ex.1⟩, fun a e2 => ?_⟩
      cases e2
      exact ⟨o, e, ex.2.1⟩
    · obtain ⟨o, _, _, _, e, ex, _⟩ := I.hok p _ hk
      refine ⟨⟨o, e, ex.1⟩, fun a e2 => ?_⟩
      cases e2
      exact ⟨o, e, ex.2.1⟩
  | _ => exact False.elim ty
def aR0 (K : PySem.W.Frag) (T : String) (r : V → List V → Hp → VK → Prop) (to : TE) : TE := fun σ H Q => to σ H fun x H1 => tyV K T x H1 ∧ r x [] H1 Q
def tBM (K : PySem.W.Frag) (T : String) (r : V → List V → Hp → VK → Prop) (to : TE) (t : TA) : TE := fun σ H Q => to σ H fun x H1 => tyV K T x H1 ∧ t σ H1 fun xs H2 => r x xs H2 Q
variable {o e : Expr} {es : List Expr} {to : TE} {t : TA} {name : Str} {apos cpos : Pos} {T id : String} {r : V → List V → Hp → VK → Prop}
theorem ad1 (pa : PlainAttrs T) (slot : Slot T name id) (hty : typeOf (.builtin id) = pure (.type "method_descriptor")) (hm : MtR X id r) (ho : PE X o to)
    (hbase : attributeBase o name X.env (eval o X.env) = eval o X.env := by rfl) (hline : (apos.endLine == cpos.line) = true := by rfl) : PE X (.Call (.Attribute o name apos) [] [] cpos) (aR0 X.K T r to) := by
  intro pins s σ H Q I h
  refine wpAny_Call_method0_late hbase hline (thn (ho pins s σ H _ I h) fun v s1 ⟨x, H1, I1, r1, ty, q1⟩ => ?_)
  obtain ⟨h1, h2⟩ := aU9 I1 r1 ty
  exact ⟨T, id, pa, slot, hty, h1, h2, Calls.callWith_builtin rfl (PySem.evalArgs_none (hm pins s1 σ H1 x [] v [] Q I1 r1 .nil q1))⟩
theorem af6 (pa : PlainAttrs T) (slot : Slot T name id) (hty : typeOf (.builtin id) = pure (.type "method_descriptor")) (hm : MtR X id r) (ho : PE X o to) (ha : PA X (e :: es) t)
    (hbase : attributeBase o name X.env (eval o X.env) = eval o X.env := by rfl)
    (hfew : ((backTo cpos (starEach (e :: es) X.env)).all (fun x => !x.1) && (backToKw cpos (keywordEach [] X.env)).all (fun x => x.1.isSome)
      && decide ((e :: es).length + ([] : List Keyword).length + (if ([] : List Keyword).isEmpty then 0 else 1) < 30)) = true := by rfl)
    (hline : (apos.endLine == cpos.line) = true := by rfl) (hs : starEach (e :: es) X.env = (false, eval e X.env) :: starEach es X.env := by rfl) (hplain : (backTo cpos (starEach es X.env)).any (·.1) = false := by rfl) :
    PE X (.Call (.Attribute o name apos) (e :: es) [] cpos) (tBM X.K T r to t) := by
  intro pins s σ H Q I h
  refine wpAny_Call_method_late hbase hfew hline rfl (thn (ho pins s σ H _ I h) fun v s1 ⟨x, H1, I1, r1, ty, q1⟩ => ?_)
  obtain ⟨h1, h2⟩ := aU9 I1 r1 ty
  refine ⟨T, id, pa, slot, hty, h1, h2, ?_⟩
  have hA := ha cpos pins s1 σ H1 _ I1 q1
  rw [hs] at hA ⊢
  refine Calls.callWith_builtin (by show (false || (backTo cpos (starEach es X.env)).any (·.1)) = false; rw [hplain] <;> rfl) (Calls.evalArgs_plain ?_)
  exact thn hA fun us s2 ⟨vs, H2, I2, r2, q2⟩ => hm pins s2 σ H2 x vs v us Q I2 r1 r2 q2
/- xs.append(e), list.index on a module's tuple .. are MtR facts of 06m -/
end
def MtM (X : Cx) (id : String) (r : V → List V → Hp → VK → Prop) : Prop :=
  ∀ (pins : List (Addr × Obj)) (s : Shared) (σ : St) (H : Hp) (x : V) (xs : List V) (v : Value) (us : List Value) (Q : VK), Inv X pins σ H s → z7 x v → m8 xs us → r x xs H Q →
    wpAny (model X.prog X.w) X.A (call (.builtin id) (v :: us)) (EP X pins σ Q) X.xe s
theorem m8.one : ∀ {x : V} {us : List Value}, m8 [x] us → ∃ u, us = [u] ∧ z7 x u
  | _, _, .cons r .nil => ⟨_, rfl, r⟩
theorem m8.two : ∀ {x y : V} {us : List Value}, m8 [x, y] us → ∃ u v, us = [u, v] ∧ z7 x u ∧ z7 y v
  | _, _, _, .cons r (.cons q .nil) => ⟨_, _, rfl, r, q⟩
theorem m8.zero : ∀ {us : List Value}, m8 [] us → us = []
  | _, .nil => rfl
theorem m8.dropLast {xs : List V} {us : List Value} (h : m8 xs us) : m8 xs.dropLast us.dropLast := by
  induction h with
  | nil => exact .nil
  | cons r t ih =>
    cases t with
    | nil => exact .nil
    | cons q t' => exact .cons r ih
theorem m8.rep {xs : List V} {us : List Value} (h : m8 xs us) : ∀ k : Nat, m8 (List.replicate k xs).flatten (List.replicate k us).flatten
  | 0 => .nil
  | k + 1 => by
    rw [List.replicate_succ, List.replicate_succ, List.flatten_cons, List.flatten_cons]
    exact m8.append h (m8.rep h k)
theorem aM3 {α : Type} (l : List α) : l.eraseIdx (l.length - 1) = l.dropLast := by
  induction l with
  | nil => rfl
  | cons a r ih =>
    cases r with
    | nil => rfl
    | cons b r =>
      have e : (a :: b :: r).length - 1 = ((b :: r).length - 1) + 1 := by
        have h1 : (a :: b :: r).length = r.length + 2 := rfl
        have h2 : (b :: r).length = r.length + 1 := rfl
        omega
      rw [e, List.eraseIdx_cons_succ, ih]
      all_goals rfl
theorem ay5 (its : List Value) : ∀ (k : Nat) (acc : List Value),
    List.foldl (fun x1 x2 => x1 ++ x2) acc.toArray (List.replicate k its.toArray) = (acc ++ (List.replicate k its).flatten).toArray
  | 0, acc => by simp
  | k + 1, acc => by
    have e : acc.toArray ++ its.toArray = (acc ++ its).toArray := by simp
    have e2 : (acc ++ its) ++ (List.replicate k its).flatten = acc ++ (List.replicate (k + 1) its).flatten := by
      rw [List.replicate_succ, List.flatten_cons, List.append_assoc]
    rw [← e2, ← ay5 its k (acc ++ its), ← e, List.replicate_succ, List.foldl_cons]
section
variable {X : Cx} {pins : List (Addr × Obj)} {σ : St} {H : Hp} {s : Shared} {l b : Addr} {xs ys zs : List V}
theorem Inv.lset {its its' : List Value} {n : Nat} {f : Array Value → Array Value} {t' : Nat} (I : Inv X pins σ H s) (hH : H l = some (.lst xs))
    (e : s.heap.get? l = some { cls := .type "list", data := .seq its.toArray n }) (hf : f its.toArray = its'.toArray) (hv : m8 ys its') (hz : ys.length ≤ sizeLine) :
    Inv X pins σ (upd H l (.lst ys)) { s with heap := s.heap.update l (Obj.mapSeq f), toks := t' } := by
  have q := PySem.IsL.update e f
  rw [hf] at q
  refine I.write (x := l) (e := l) (by rw [hH]; exact trivial) (.inl rfl) (fun b' u hb hu => (Heap.get?_update_other s.heap (Obj.mapSeq f) (Ne.symm hb)).trans hu) ⟨_, q⟩ ?_
  exact ⟨hz, its', _, hv, q⟩
theorem Inv.lnew {its : List Value} {t' : Nat} (I : Inv X pins σ H s) (hv : m8 ys its) (hz : ys.length ≤ sizeLine) :
    Inv X pins σ (upd H s.heap.objs.size (.lst ys)) { s with heap := s.heap.push { cls := .type "list", data := .seq its.toArray }, toks := t' } :=
  I.laid (fun _ _ q => Heap.get?_push_of_some _ q) (Nat.le_refl _) ⟨hz, its, 0, hv, Heap.get?_push_size _ rfl⟩
theorem Inv.fresh (I : Inv X pins σ H s) : H s.heap.objs.size = none := I.hok.fresh (Nat.le_refl _)
theorem Inv.lstM (I : Inv X pins σ H s) (hH : H l = some (.lst xs)) : xs.length ≤ sizeLine ∧ ∃ (its : List Value) (n : Nat), m8 xs its ∧ xs.length = its.length ∧ s.heap.get? l = some { cls := .type "list", data := .seq its.toArray n } := by
  obtain ⟨z, its, n, r, e⟩ := I.hok l _ hH
  exact ⟨z, its, n, r, r.length, e⟩
theorem ba8 {n : Nat} (h : n ≤ sizeLine) : Builtin.List.listTooLong n = false := by
  unfold Builtin.List.listTooLong
  exact decide_eq_false (by omega)
end
section
variable {X : Cx}
def af4 : V → List V → Hp → VK → Prop := fun x vs H Q => ∃ l xs y, x = .ref l ∧ vs = [y] ∧ H l = some (.lst xs) ∧ xs.length < sizeLine ∧ Q .non (upd H l (.lst (xs ++ [y])))
theorem N3 : MtM X "list.append" af4 := by
  intro pins s σ H x vs v us Q I rx rv h
  obtain ⟨l, xs, y, rfl, rfl, hH, hz, q⟩ := h
  cases rx
  obtain ⟨u, rfl, ru⟩ := rv.one
  obtain ⟨z, its, n, r, hl, e⟩ := I.lstM hH
  refine call_meets F.slot_list_append ⟨_, e, rfl⟩ F.entry_list_append (F.args_list_append_2 _ _) (PySem.list_append l its.toArray n u (by rw [List.size_toArray]; omega)) ⟨e, ?_⟩
  refine ⟨.non, _, I.lset (its' := its ++ [u]) hH e (by simp) (r.append (.cons ru .nil)) ?_, rfl, q⟩
  rw [List.length_append, List.length_singleton]
  omega
def rExtend : V → List V → Hp → VK → Prop := fun x vs H Q => ∃ l b xs zs, x = .ref l ∧ vs = [.ref b] ∧ H l = some (.lst xs) ∧ H b = some (.lst zs) ∧ xs.length + zs.length ≤ sizeLine ∧ Q .non (upd H l (.lst (xs ++ zs)))
def aY0 : V → List V → Hp → VK → Prop := fun x vs H Q => ∃ l xs y, x = .ref l ∧ vs = [] ∧ H l = some (.lst xs) ∧ xs[xs.length - 1]? = some y ∧ Q y (upd H l (.lst xs.dropLast))
theorem bn2 : MtM X "list.pop" aY0 := by
  intro pins s σ H x vs v us Q I rx rv h
  obtain ⟨l, xs, y, rfl, rfl, hH, hy, q⟩ := h
  cases rx
  have hus := rv.zero
  subst hus
  obtain ⟨z, its, n, r, hl, e⟩ := I.lstM hH
  obtain ⟨u, hu, ru⟩ := r.get hy
  have hy' : its.toArray[its.toArray.size - 1]? = some u := by
    show its.toArray[its.length - 1]? = some u
    rw [← Array.getElem?_toList, ← hl]
    exact hu
  refine call_meets F.slot_list_pop ⟨_, e, rfl⟩ F.entry_list_pop (F.args_list_pop_1 _) (MeetsSeq.list_pop_last l its.toArray n u hy' (by rw [List.size_toArray]; omega)) ⟨e, ?_⟩
  refine ⟨y, _, I.lset (its' := its.dropLast) hH e ?_ r.dropLast ?_, ru, q⟩
  · show its.toArray.eraseIdxIfInBounds (its.toArray.size - 1) = its.dropLast.toArray
    rw [List.size_toArray, List.eraseIdxIfInBounds_toArray, aM3]
  · rw [List.length_dropLast]
    omega
def aY4 : V → List V → Hp → VK → Prop := fun x vs H Q => ∃ l xs, x = .ref l ∧ vs = [] ∧ H l = some (.lst xs) ∧ Q .non (upd H l (.lst []))
theorem bb4 : MtM X "list.clear" aY4 := by
  intro pins s σ H x vs v us Q I rx rv h
  obtain ⟨l, xs, rfl, rfl, hH, q⟩ := h
  cases rx
  have hus := rv.zero
  subst hus
  obtain ⟨z, its, n, r, hl, e⟩ := I.lstM hH
  refine call_meets F.slot_list_clear ⟨_, e, rfl⟩ F.entry_list_clear (F.args_list_clear_1 _) (AutoSeq1.list_clear_list_0 l its.toArray n (by rw [List.size_toArray]; omega)) ⟨e, ?_⟩
  exact ⟨.non, _, I.lset (its' := []) (ys := []) hH e rfl .nil (Nat.zero_le _), rfl, q⟩
def aY5 : R2 := fun x y H Q => ∃ l b xs zs, x = .ref l ∧ y = .ref b ∧ H l = some (.lst xs) ∧ H b = some (.lst zs) ∧ xs.length + zs.length ≤ sizeLine ∧ ∀ p, H p = none → Q (.ref p) (upd H p (.lst (xs ++ zs)))
theorem ar1 : OpR X (binaryOp .Add) aY5 := by
  intro pins s σ H x y v u Q I rx ry h
  obtain ⟨l, b, xs, zs, rfl, rfl, hH, hB, hz, q⟩ := h
  cases rx
  cases ry
  obtain ⟨z, its, n, r, hl, e⟩ := I.lstM hH
  obtain ⟨z2, its2, n2, r2, hl2, e2⟩ := I.lstM hB
  refine PySem.P.add_list e e2 ?_ (by rw [List.size_toArray, List.size_toArray]; omega)
  have ea : its.toArray ++ its2.toArray = (its ++ its2).toArray := by simp
  rw [ea]
  exact ⟨.ref _, _, I.lnew (t' := s.toks) (r.append r2) (by rw [List.length_append]; omega), rfl, q _ I.fresh⟩
def aX9 : R2 := fun x y H Q => ∃ l k xs, x = .ref l ∧ y = .int k ∧ H l = some (.lst xs) ∧ -(2 ^ 63) ≤ k ∧ k < 2 ^ 63 ∧ xs.length * k.toNat ≤ sizeLine ∧
  ∀ p, H p = none → Q (.ref p) (upd H p (.lst (List.replicate k.toNat xs).flatten))
theorem bh0 {α : Type} (xs : List α) (k : Nat) : (List.replicate k xs).flatten.length = k * xs.length := by
  induction k with
  | zero => simp
  | succ k ih => rw [List.replicate_succ, List.flatten_cons, List.length_append, ih, Nat.succ_mul, Nat.add_comm]
theorem aB6 : OpR X (binaryOp .Mult) aX9 := by
  intro pins s σ H x y v u Q I rx ry h
  obtain ⟨l, k, xs, rfl, rfl, hH, h1, h2, hz, q⟩ := h
  cases rx
  obtain ⟨t, rfl⟩ := ry
  obtain ⟨z, its, n, r, hl, e⟩ := I.lstM hH
  have hlen : its.toArray.size * k.toNat ≤ sizeLine := by rw [List.size_toArray, ← hl]; exact hz
  have hcap : ¬ its.toArray.size * k.toNat > (2 ^ 63 - 1) / 8 := by
    have : (sizeLine : Nat) ≤ (2 ^ 63 - 1) / 8 := by decide
    omega
  have hfit : ¬ (!Builtin.List.listFitsIndex k) = true := by
    rw [fitsIndex_both h1 h2]
    exact Bool.false_ne_true
  have hlong : ¬ Builtin.List.listTooLong (its.toArray.size * k.toNat) = true := by
    rw [ba8 hlen]
    exact Bool.false_ne_true
  have hnew : List.foldl (fun x1 x2 => x1 ++ x2) #[] (List.replicate (if its.toArray.isEmpty = true then 0 else k.toNat) its.toArray) = (List.replicate k.toNat its).flatten.toArray := by
    have f0 : ∀ m : Nat, List.foldl (fun x1 x2 => x1 ++ x2) #[] (List.replicate m its.toArray) = (List.replicate m its).flatten.toArray := fun m => by
      have := ay5 its m []
      rw [List.nil_append] at this
      exact this
    rw [f0]
    cases its with
    | nil => simp
    | cons a r' => rw [if_neg (by simp)]
  refine wpAny_binaryOp_repeat_ref (T := "list") (U := "int") (by decide) ⟨_, e, rfl⟩ (fun s' => typeIs_int s' k t) noFill_list_mul F.fills_int_mul F.slot_int_rmul repeat_list F.slot_int_index.lookup
    (call_meets F.slot_int_rmul (typeIs_int s k t) F.entry_int_rmul (F.args_int_rmul_2 _ _) (int___rmul___int_list k t l its.toArray n)
      ⟨e, rfl, ⟨_, e, rfl⟩, call_meets F.slot_list_mul ⟨_, e, rfl⟩ F.entry_list_mul (F.args_list_mul_2 _ _) (AutoListH.list___mul___list_int_3 l its.toArray n k t hfit hcap hlong) ⟨e, ?_⟩⟩)
  rw [hnew]
  exact ⟨.ref _, _, I.lnew (t' := s.toks) (r.rep k.toNat) (by rw [bh0, Nat.mul_comm]; exact hz), rfl, q _ I.fresh⟩
end
end L2
namespace Att
open PySem PySem.W PySem.Calls PyProof.Rows
theorem am4 {P : Params} {h : Heap} : ∀ (ns : List Int) (vs : List Value), WellAll P h vs (ns.map WData.int) → IntsAre vs ns := by
  intro ns
  induction ns with
  | nil =>
    intro vs w
    rw [List.map_nil] at w
    cases w
    exact .nil
  | cons n ns ih =>
    intro vs w
    rw [List.map_cons] at w
    cases w with
    | cons a b =>
      cases a
      exact .cons _ _ (ih _ b)
theorem aR3 {l : OpenLaw} {n : Nat} (hn : l.most = some n) {P : Params} {h : Heap} {args : List WData} {vals : List Value}
    (hpre : l.row.toRowW.claim.pre args = true) (hwl : WellAll P h vals args) :
    ∃ a vs ns, vals = [Value.ref a] ∧ args = [WData.list (ns.map WData.int)] ∧ h.get? a = some { cls := .type "list", data := .seq vs.toArray } ∧ IntsAre vs ns ∧ ns.length ≤ n := by
  have hsh : WShape.hasAll [] args [.list .int] = true := (pre_splitW hpre).1
  have hc : l.pre.holds [] { args := args } = true := (pre_splitW hpre).2
  obtain ⟨d, r, rfl, h1, h2⟩ := hasAllW_cons hsh
  obtain rfl := hasAllW_nil h2
  obtain ⟨xs, rfl, h3⟩ := hasW_list h1
  obtain ⟨ns, rfl⟩ := items_int h3
  have hlen : ns.length ≤ n := by
    unfold OpenLaw.pre at hc
    have h4 : (WTm.not (.lt (.lit (.int (n : Int))) (.len (.arg 0)))).holds [] { args := [.list (ns.map .int)] } = true := by
      have h4 := (holds_andW hc).1
      rw [hn] at h4
      exact h4
    have h5 := condW_of h4 (w_not (w_lt w_lit (w_len_list (w_arg rfl))))
    rw [List.length_map] at h5
    refine Nat.le_of_not_lt fun q => ?_
    have q' : (n : Int) < ((ns.length : Nat) : Int) := by omega
    first
      | (rw [decide_eq_true q'] at h5; exact absurd h5 (by decide))
      | (simp at h5; omega)
  cases hwl with
  | cons w1 w2 =>
    cases w2
    cases w1 with
    | list ho hall => exact ⟨_, _, ns, rfl, rfl, ho, am4 ns _ hall, hlen⟩
theorem aR7 (l : OpenLaw) (args : List WData) : l.row.toRowW.claim.post args (.bool true) args = true :=
  postW_of (r := l.row.toRowW) (X := (true == true))
    (show WShape.has [] (.bool true) .bool = true by first | rfl | decide | simp [WShape.has, WShape.arms, WShape.armsAll])
    (show (WTm.eq .res (.lit (.bool true))).value [] { args := args, res := some (.bool true), after := args } = some (.bool (true == true)) from w_eq_bool (w_res rfl) w_lit) rfl
theorem attach_call {l : OpenLaw} {n : Nat} {q : Program} {loose : List Str} {XP : (Str → Option Value) → Heap → Prop} {YP : World → Heap → Prop} {d : DefRec}
    (hn : l.most = some n) (hdf : d.params.defaults = [])
    (call : ∀ (w : World) (s₀ s₁ : Shared) (mg mb : Str → Option Value) (fa : Addr) (o : Obj) (pm cd doc : Value) (a : Addr) (vs : List Value) (ns : List Int),
      Ground q loose [] XP w s₀ mg mb s₁.heap → YP w s₁.heap →
      s₁.heap.get? fa = some o → o.data = .func (docDef d.name d.params d.body d.scope pm cd doc) → s₁.heap.CodeRec cd d.name → mg d.name = some (.ref fa) →
      s₁.heap.get? a = some { cls := .type "list", data := .seq vs.toArray } → IntsAre vs ns → ns.length ≤ n → s₁.gens = #[] →
      codeAny (model l.prog w) callerA (.call (.ref fa) ⟨[.ref a], []⟩) (fun r s' => r = .ok (.ret (.bool true)) ∧ OldK s₁.heap s'.heap ∧ s'.os = s₁.os ∧ AllBare s'.gens) s₁) :
    WalkO q loose XP YP l.row.toRowW d [] (fun f vs => PySem.call f vs) := by
  intro w s₀ s₁ mg mb G Y fa o pm cd doc dV kV ho hd hcd hD hmg hg args vals as hpre hlay hrd hwl hlo
  obtain rfl : dV = .none := Dflts.none hD hdf
  obtain rfl : kV = .none := Dflts.noKw hD
  obtain ⟨a, vs, ns, rfl, rfl, hobj, hints, hlen⟩ := aR3 hn hpre hwl
  refine enter_call (codeAny_mono (call w s₀ s₁ mg mb fa o pm cd doc a vs ns G Y ho (fd_plain hd) hcd hmg hobj hints hlen hg) fun r s' hq => ?_)
  obtain ⟨rfl, h2, h3, h4⟩ := hq
  exact ⟨.inl ⟨.bool true, .bool true, [], rfl, fun _ => rfl, .bool true, aR7 l _, fun _ => ⟨List.Pairwise.nil, fun _ hm => (nomatch hm)⟩⟩, h2, h3, h4⟩
end Att
namespace L2
open PySem PySem.Spec PyProof.Rows
theorem aw3 : ∀ {vs : List Value} {ns : List Int}, IntsAre vs ns → m8 (ns.map V.int) vs
  | _, _, .nil => .nil
  | _, _, .cons n t h => .cons ⟨t, rfl⟩ (aw3 h)
def bp0 (H : Hp) : Prop := ∀ b, H b = none ∨ ∃ o xs, H b = some (.frz o (.lst xs))
theorem bb7 {P : Program} {w : World} {K : PySem.W.Frag} {mg mb : Str → Option Value} {CX : CXT} {k : Nat} {fa a : Addr} {fd : FuncData} {x : Str} {sp : Sp} {s₁ : Shared} {vs : List Value} {ns : List Int}
    (KX : K.In s₁.heap) (hns : s₁.heap.Ns mainGlobals mg) (hb : s₁.heap.Ns builtinsNs mb) (hbb : ∀ x : Str, x ≠ "__name__" → mb x = bootBuiltins x) (hlim : s₁.heap.NoLimit) (hg : s₁.gens = #[])
    (ha : s₁.heap.get? a = some { cls := .type "list", data := .seq vs.toArray }) (hi : IntsAre vs ns) (hl : ns.length ≤ sizeLine) (hr : U8 k callerA)
    (F : ∀ base : Heap, K.In base → base.Ns mainGlobals mg → aa6 P w K mg base CX k fa fd [x] sp) (hbind : ∀ (s : Shared) (u : Value), BindsTo s fd ⟨[u], []⟩ [(x, u)])
    (hsp : ∀ H : Hp, bp0 H → SqL K H a (ns.map V.int) → sp [.ref a] H (fun v _ => v = .bl true) fun _ _ _ => False)
    (hCX : ∀ H e s', CX [] H s₁ (fun _ _ _ => False) e s' → False) :
    codeAny (model P w) callerA (.call (.ref fa) ⟨[.ref a], []⟩) (fun r s' => r = .ok (.ret (.bool true)) ∧ OldK s₁.heap s'.heap ∧ s'.os = s₁.os ∧ AllBare s'.gens) s₁ := by
  have rv := aw3 hi
  have lenV := hi.length
  -- from an abstract heap in which nothing but the script may be tracked
  have core : ∀ H : Hp, bp0 H → SqL K H a (ns.map V.int) → HOk P w H s₁.heap → (∀ b, H b ≠ none → b = a) → (H a ≠ none → K.lookup a = none) →
      codeAny (model P w) callerA (.call (.ref fa) ⟨[.ref a], []⟩) (fun r s' => r = .ok (.ret (.bool true)) ∧ OldK s₁.heap s'.heap ∧ s'.os = s₁.os ∧ AllBare s'.gens) s₁ := by
    intro H hO hS hok hA hK
    have base_of : ∀ {b : Addr} {o : Obj}, s₁.heap.get? b = some o → H b = none → (aD1 s₁.heap H).get? b = some o := fun e n => bc5 e n
    have noA : ∀ {b : Addr} {o : Obj} {es : Array DictEntry} {ep : Nat}, s₁.heap.get? b = some o → o.data = .dict es ep → H b = none := fun {b o es ep} e d => by
      cases q : H b with
      | none => rfl
      | some u =>
        have e' : b = a := hA b (by rw [q]; simp)
        subst e'
        rw [ha] at e; cases e
        have d' : Data.seq vs.toArray _ = Data.dict es ep := d
        cases d'
    have nsK : ∀ {b : Addr} {m : Str → Option Value}, s₁.heap.Ns b m → (aD1 s₁.heap H).Ns b m := fun {b m} ⟨o, es, ep, e, d, r⟩ => ⟨o, es, ep, base_of e (noA e d), d, r⟩
    have hKb : K.In (aD1 s₁.heap H) := fun b o e => base_of (KX b o e) (by
      cases q : H b with
      | none => rfl
      | some u =>
        have e' : b = a := hA b (by rw [q]; simp)
        subst e'
        rw [hK (by rw [q]; simp)] at e; cases e)
    have hM : Mod K mg (aD1 s₁.heap H) := ⟨hKb, nsK hns, ⟨mb, nsK hb, hbb⟩, let ⟨mc, h1, h2⟩ := hlim; ⟨mc, nsK h1, h2⟩⟩
    have e0 : aU6 P w K mg (aD1 s₁.heap H) callerA [] s₁ H := ⟨rfl, hM, fun b o e => bg1 e, Nat.le_of_eq (aT1 _ _), trivial, fun b hb => absurd (show b ∈ ([] : List Addr) from hb) (by simp), hok, .of_eq hg⟩
    refine codeAny_mono ((F _ hKb (nsK hns)).run callerA [] s₁ H ⟨[.ref a], []⟩ [.ref a] [.ref a] _ _ hr e0 (hbind s₁ (.ref a)) (.cons rfl .nil) (hsp H hO hS)) fun r s' h => ?_
    cases r with
    | error e => exact (hCX H e s' h).elim
    | ok fl =>
      cases fl with
      | next => exact False.elim h
      | brk => exact False.elim h
      | cont => exact False.elim h
      | ret u =>
        obtain ⟨v, H', os, bare, un, hok', r', q⟩ := h
        have q' : v = .bl true := q
        subst q'
        obtain rfl : u = Value.bool true := r'
        refine ⟨rfl, OldK.of_keep fun b o e => ?_, os, bare⟩
        cases q : H b with
        | none => exact un.keep b o e q (by intro z; exact absurd (show b ∈ ([] : List Addr) from z) (by simp)) (by simp)
        | some u =>
          rcases hO b with z | ⟨ob, xs, z⟩
          · rw [q] at z; cases z
          · have z2 := un.frzs b ob _ z
            obtain ⟨e1, _⟩ := hok b _ z
            obtain ⟨e2, _⟩ := hok' b _ z2
            rw [e] at e1; cases e1
            exact e2
  cases hk : K.lookup a with
  | some o =>
    -- the script is one of the module's own objects
    have e := KX a o hk
    rw [ha] at e
    cases e
    refine core (fun _ => none) (fun _ => .inl rfl) (.inr ⟨_, vs.toArray, _, hk, rfl, rfl, rfl, by rw [List.size_toArray, lenV]; exact hl, by simpa using rv⟩) (fun b u z => by have z' : (none : Option HO) = some u := z; cases z') (fun b z => absurd rfl z) fun z => absurd rfl z
  | none =>
    refine core (fun b => if b = a then some (.frz { cls := .type "list", data := .seq vs.toArray } (.lst (ns.map V.int))) else none) (fun b => ?_) (.inl (.inr ⟨{ cls := .type "list", data := .seq vs.toArray }, if_pos rfl⟩)) (fun b u z => ?_) (fun b z => ?_) fun _ => hk
    · by_cases hb : b = a
      · exact .inr ⟨_, _, if_pos hb⟩
      · exact .inl (if_neg hb)
    · by_cases hb : b = a
      · have z' := (if_pos hb).symm.trans z
        cases z'
        subst hb
        exact ⟨ha, by rw [List.length_map]; exact hl, vs, _, rv, ha⟩
      · have z' := (if_neg hb).symm.trans z
        cases z'
    · by_cases hb : b = a
      · exact hb
      · exact absurd (if_neg hb) z
abbrev KOf {K : PySem.W.Frag} {h : Heap} (_ : K.In h) : PySem.W.Frag := K
theorem aN1 {l : PySem.W.OpenLaw} {n k : Nat} {q : Program} {loose : List Str} {XP : (Str → Option Value) → Heap → Prop} {YP : World → Heap → Prop} {d : DefRec} {K : Params → PySem.W.Frag} {CX : World → CXT} {sp : World → Sp} {x : Str}
    (hn : l.most = some n) (hn2 : n ≤ sizeLine) (hdf : d.params.defaults = []) (hr : U8 k callerA)
    (hY : ∀ (w : World) (h : Heap), YP w h → (K w.params).In h)
    (F : ∀ (w : World) (mg : Str → Option Value) (fa : Addr) (h : Heap), (K w.params).In h → h.Ns mainGlobals mg → mg d.name = some (.ref fa) →
      ∃ fd : FuncData, (∀ (s : Shared) (u : Value), BindsTo s fd ⟨[u], []⟩ [(x, u)]) ∧
        ∀ base : Heap, (K w.params).In base → base.Ns mainGlobals mg → aa6 l.prog w (K w.params) mg base (CX w) k fa fd [x] (sp w))
    (hsp : ∀ (w : World) (H : Hp) (a : Addr) (ns : List Int), ns.length ≤ n → bp0 H → SqL (K w.params) H a (ns.map V.int) → sp w [.ref a] H (fun v _ => v = .bl true) fun _ _ _ => False)
    (hCX : ∀ (w : World) (H : Hp) (s : Shared) (e : Value) (s' : Shared), CX w [] H s (fun _ _ _ => False) e s' → False) :
    PySem.W.WalkO q loose XP YP l.row.toRowW d [] (fun f vs => PySem.call f vs) := by
  refine Att.attach_call hn hdf fun w s₀ s₁ mg mb fa o pm cd doc a vs ns G Y ho hd hcd hmg hobj hints hlen hg => ?_
  have KX := hY w _ Y
  obtain ⟨fd, hb, hF⟩ := F w mg fa _ KX G.T.g hmg
  exact bb7 KX G.T.g G.T.b G.T.builtins G.T.nolimit hg hobj hints (Nat.le_trans hlen hn2) hr hF hb (fun H hO hS => hsp w H a ns hlen hO hS) fun H e s' => hCX w H s₁ e s'
end L2
/- THE LAST THEOREM (shape; LID, My.* are yours):
   My.Adr: a structure of the addresses that your layer names (classes, functions); My.Txt K t: a structure (Prop) of the equations over K;
   My.txt_mk : {K} {implicit addresses ..} (e1 : nsIn K mainGlobals "law" = some (some (.ref f))) (e2 : K.lookup f = some ⟨oc, od, .func (fnOf "law" "law" params body scope dV kV doc pm an cdv ct), sl⟩) (e3 : codeIn K cdv "law" = true) .. : ∃ t, My.Txt K t
set_option maxRecDepth 100000 in
set_option maxHeartbeats 0 in
theorem PySem.Challenge.cw_LID_holds : PySem.Challenge.rw_LID.Holds := by
  w_on; o_law; k_head; (case hw => w_witness2)
  k_fill
  refine L2.aN1 (l := PySem.Challenge.rw_LID) (n := 63) (k := 40) (x := "script") (CX := fun w => ..) (sp := fun _ => My.sp_law) rfl (by decide) rfl ⟨rfl, by decide, by decide⟩ (fun w h Y => PySem.W.kIn_of Y) ?F ?S ?C
  case F =>
    intro w mg fa h KX G hmg
    have T : ∃ t, My.Txt (L2.KOf KX) t := by
      dsimp only [L2.KOf]                          -- K must stand as «<heap const> w.params» for k_is
      refine' My.txt_mk ?e1 ?e2 ?e3 ..
      (case e1 => PySem.W.k_is)                    -- in the order: a name -> its address -> its object -> its parts
      (case e2 => PySem.W.k_is)
      ..
    obtain ⟨t, T⟩ := T
    have e0 := hmg.symm.trans (PySem.W.mg_of KX G T.law)
    cases e0                                       -- fa is the law's own address
    exact ⟨_, fun s u => .of_eq rfl, fun base kb nb => My.law_fn T kb nb⟩     -- if «.of_eq rfl» comes too early: refine' ⟨_, ?b, fun base kb nb => My.law_fn T kb nb⟩; exact fun s u => .of_eq rfl
  case S => exact fun w H a ns hl hO hS => ..
  case C => exact ..
(the tactic k_is has no namespace: write k_is) -/
namespace L2
open PySem PySem.Spec PyProof.Rows
def i4 (s : Stmt) : Arguments := match s with
  | .FunctionDef _ a _ _ _ _ _ _ _ _ => a
  | _ => { posonlyargs := [], args := [], vararg := none, kwonlyargs := [], kw_defaults := [], kwarg := none, defaults := [] }
def g9 (s : Stmt) : List Stmt := match s with
  | .FunctionDef _ _ b _ _ _ _ _ _ _ => b
  | _ => []
def b9 (s : Stmt) : Scope := match s with
  | .FunctionDef _ _ _ _ _ _ sc _ _ _ => sc
  | _ => { kind := .function, names := [], isGenerator := false, isCoroutine := false }
abbrev CX0 : CXT := fun _ _ _ _ _ _ => False
abbrev E0 : XK := fun _ _ _ => False
theorem i0 {X : Cx} : au2 CX0 X E0 := fun _ _ _ _ _ _ _ h => h.elim
structure Fun (K : PySem.W.Frag) (x qual : Str) (st : Stmt) (f : Addr) (fd : FuncData) : Prop where
  ex : ∃ (oc : Value) (od : Option Addr) (kV doc pm : Value) (an : Option Addr) (cdv ct : Value) (osl : Array (Option Value)),
    fd = PySem.W.fnOf x qual (i4 st) (g9 st) (b9 st) .none kV doc pm an cdv ct ∧ K.lookup f = some ⟨oc, od, .func fd, osl⟩ ∧ PySem.W.codeIn K cdv qual = true
  kp : PySem.W.keepIn K (.ref f) = true
section
variable {P : Program} {w : World} {K : PySem.W.Frag} {mg : Str → Option Value} {base : Heap}
theorem Fun.ok {x qual : Str} {st : Stmt} {f : Addr} {fd : FuncData} {N ps : List Str} {k : Nat} {sp : Sp} (F : Fun K x qual st f fd) (S : i3 N ps (b9 st)) (len : ∀ vs H Q E, sp vs H Q E → vs.length = ps.length)
    (hbody : ∀ (cdv : Value) (A : Around) (outer : List Env) (s : Shared) (H : Hp) (vs : List V) (Q : VK) (E : XK), U8 k (A.deeper (envOfC qual (b9 st) s.heap.objs.size f cdv)) → sp vs H Q E →
      ∃ t, PSs (ah1 CX0 P w K mg base N qual (b9 st) f cdv A outer s H E).nox (g9 st) t ∧ t { nx := fun _ H' => Q .non H', rt := Q } (start N vs) H) : aa6 P w K mg base CX0 (k + 1) f fd ps sp := by
  obtain ⟨oc, od, kV, doc, pm, an, cdv, ct, osl, rfl, lk, hcd⟩ := F.ex
  refine bk8 lk hcd S len fun A outer s H vs Q E hr hsp => ?_
  obtain ⟨t, h, q⟩ := hbody cdv A outer s H vs Q E hr hsp
  exact ⟨t, h.nox, q⟩
theorem Fun.binds {x qual : Str} {st : Stmt} {f : Addr} {fd : FuncData} {ps : List Str} (F : Fun K x qual st f fd)
    (h : ∀ (kV doc pm : Value) (an : Option Addr) (cdv ct : Value) (us : List Value), us.length = ps.length → bindArgs (PySem.W.fnOf x qual (i4 st) (g9 st) (b9 st) .none kV doc pm an cdv ct) ⟨us, []⟩ = pure (ps.zip us)) : aa7 K fd ps [] := by
  obtain ⟨oc, od, kV, doc, pm, an, cdv, ct, osl, rfl, lk, hcd⟩ := F.ex
  exact .all (h kV doc pm an cdv ct)
theorem j4 {x qual : Str} {st : Stmt} {f : Addr} {oc : Value} {od an : Option Addr} {osl : Array (Option Value)} {kV doc pm cdv ct : Value} (l : K.lookup f = some ⟨oc, od, .func (PySem.W.fnOf x qual (i4 st) (g9 st) (b9 st) .none kV doc pm an cdv ct), osl⟩)
    (c : PySem.W.codeIn K cdv qual = true) (k : PySem.W.keepIn K (.ref f) = true) : Fun K x qual st f (PySem.W.fnOf x qual (i4 st) (g9 st) (b9 st) .none kV doc pm an cdv ct) := ⟨⟨oc, od, kV, doc, pm, an, cdv, ct, osl, rfl, l, c⟩, k⟩
end
section
variable {X : Cx}
theorem pv (i : Nat) {x : Str} {pos : Pos} (hN : X.N[i]? = some x := by rfl) (hv : Vis X.env.scope x := by first | exact Or.inl rfl | exact Or.inr (Or.inl rfl) | exact Or.inr (Or.inr rfl)) (hd : (x == ("__debug__" : Str)) = false := by decide)
    (hcd : (x == ("__classdict__" : Str)) = false := by decide) : PE X (.Name x pos) (S9 i) := bm5 hN hv hd hcd
end
theorem bs8 {A B : Prop} (h : A) : if true = true then A else B := by
  rw [if_pos rfl]
  exact h
theorem v7 {c A B : Prop} [Decidable c] (h1 : c → A) (h2 : ¬ c → B) : if c then A else B := by
  by_cases h : c
  · rw [if_pos h]
    exact h1 h
  · rw [if_neg h]
    exact h2 h
def d5 (H H' : Hp) : Prop := ∀ b o, H b = some o → H' b = some o
theorem d5.refl (H : Hp) : d5 H H := fun _ _ h => h
theorem d5.trans {H H1 H2 : Hp} (a : d5 H H1) (b : d5 H1 H2) : d5 H H2 := fun c o h => b c o (a c o h)
theorem d5.free {H H' : Hp} (e : d5 H H') {l : Addr} (h : H' l = Option.none) : H l = Option.none := by
  cases q : H l with
  | none => rfl
  | some o =>
    rw [e l o q] at h
    cases h
theorem d5.seq {K : PySem.W.Frag} {H H' : Hp} {a : Addr} {xs : List V} (e : d5 H H') (h : SqL K H a xs) : SqL K H' a xs := by
  rcases h with (h | ⟨o, h⟩) | h
  · exact .inl (.inl (e _ _ h))
  · exact .inl (.inr ⟨o, e _ _ h⟩)
  · exact .inr h
section
variable {P : Program} {w : World} {H : Hp} {h : Heap} {a : Addr} {o : HO}
theorem F9.there (x : F9 P w H h a o) : ∃ ob, h.get? a = some ob := by
  cases o with
  | lst xs => obtain ⟨_, _, _, _, e⟩ := x; exact ⟨_, e⟩
  | tup xs => obtain ⟨_, _, _, ob, e, _⟩ := x; exact ⟨_, e⟩
  | dK kvs => obtain ⟨_, _, _, _, o, _, _, e, _⟩ := x; exact ⟨_, e⟩
  | dT kvs => obtain ⟨_, _, _, _, o, _, _, e, _⟩ := x; exact ⟨_, e⟩
  | set S n => obtain ⟨o, _, _, _, e, _⟩ := x; exact ⟨_, e⟩
  | ins C dx fs => obtain ⟨_, _, _, e, _⟩ := x; exact ⟨_, e⟩
  | own y => obtain ⟨_, e⟩ := x; exact ⟨_, e⟩
  | xd fs => obtain ⟨_, ⟨_, _, _, e, _⟩, _⟩ := x; exact ⟨_, e⟩
  | rng lo hi => obtain ⟨_, _, _, e⟩ := x; exact ⟨_, e⟩
  | frz ob u => obtain ⟨e, _⟩ := x; exact ⟨_, e⟩
  | tbl ps => exact ⟨_, (show h.get? a = some _ from x)⟩
  | met f y => exact ⟨_, (show h.get? a = some _ from x)⟩
  | ext φ => obtain ⟨_, e, _⟩ := x; exact e
end
def CXR (P : Program) (w : World) : CXT := fun outer H s E e s' => ∃ (a : Addr) (cls a0 : Value) (H' : Hp) (B : Heap), e = .ref a ∧ s'.os = s.os ∧ AllBare s'.gens ∧
  Heap.FlyingW B outer a cls a0 s'.heap ∧ (∀ b o, s.heap.get? b = some o → H b = none → b ∉ frs outer → B.get? b = some o) ∧ (∀ b o, s.heap.get? b = some o → b ∉ frs outer → ∃ o', B.get? b = some o') ∧
  HOk P w H' B ∧ Un (frs outer) [] H H' s.heap s'.heap ∧ H' a = none ∧ E cls none H'
def be3 (X : Cx) (R : Value → Hp → Prop) : Prop := ∀ (pins : List (Addr × Obj)) (σ : St) (H : Hp) (s : Shared) (h' : Heap) (e : Addr) (cls : Value) (vs : List Value), Inv X pins σ H s → Heap.MadeExcOf s.heap h' e cls vs → R cls H →
  X.xe (.ref e) { s with heap := h' }
section
variable {CX : CXT} {P : Program} {w : World} {K : PySem.W.Frag} {mg : Str → Option Value} {base : Heap} {N : List Str} {qual : Str} {scope : Scope} {f : Addr} {cd : Value} {A : Around} {outer : List Env} {s₀ : Shared} {H₀ : Hp} {E : XK}
abbrev cxR (P : Program) (w : World) (K : PySem.W.Frag) (mg : Str → Option Value) (base : Heap) (N : List Str) (qual : Str) (scope : Scope) (f : Addr) (cd : Value) (A : Around) (outer : List Env) (s₀ : Shared) (H₀ : Hp) (E : XK) : Cx := ah1 (CXR P w) P w K mg base N qual scope f cd A outer s₀ H₀ E
theorem bo0 {X : Cx} {pins : List (Addr × Obj)} {σ : St} {H : Hp} {s : Shared} (I : Inv X pins σ H s) : HOk X.prog X.w H (PySem.W.hideAll s.heap (frs X.stack)) := fun b u e => by
  refine (I.hok b u e).stay (fun c v hc q => PySem.W.hideAll_get _ q fun hm => ?_) (fun _ q => q) fun _ _ q => q
  have z := I.stkFree c hm
  rcases hc with rfl | hc
  · rw [z] at e; cases e
  · rw [z] at hc; cases hc
theorem aR5 : be3 (cxR P w K mg base N qual scope f cd A outer s₀ H₀ E) (fun cls H' => E cls none H') := by
  intro pins σ H s h' e cls vs I hx hE
  have frS := I.stack
  have hin : ∀ env ∈ (cxR P w K mg base N qual scope f cd A outer s₀ H₀ E).stack, ∀ b, env.frame = some b → b ∈ frs (cxR P w K mg base N qual scope f cd A outer s₀ H₀ E).stack := fun env he b hb => List.mem_filterMap.mpr ⟨env, he, hb⟩
  have lo : ∀ b o, s₀.heap.get? b = some o → b ∉ frs outer → b ∉ frs (cxR P w K mg base N qual scope f cd A outer s₀ H₀ E).stack := fun b o q hb hm => by
    rcases List.mem_cons.mp (I.stkSub b hm) with z | z
    · exact absurd z (Nat.ne_of_lt (Nat.lt_of_lt_of_le (Heap.lt_size q) I.ok.above))
    · exact hb z
  refine wpAny_leaves_madeW (base := PySem.W.hideAll s.heap (frs (cxR P w K mg base N qual scope f cd A outer s₀ H₀ E).stack)) I.ok.frames rfl (fun b o q => PySem.W.of_hideAll _ q) (PySem.W.funFrames_hide frS hin) hx fun h2 t x1 x2 x3 x4 => ?_
  have hk : ∀ b o, s.heap.get? b = some o → b ∉ frs (cxR P w K mg base N qual scope f cd A outer s₀ H₀ E).stack → h2.get? b = some o := fun b o q hb => x1.1 b o (PySem.W.hideAll_get _ q hb)
  have hfr : ∀ b o, s.heap.get? b = some o → b ∈ frs (cxR P w K mg base N qual scope f cd A outer s₀ H₀ E).stack → ∃ sl, h2.get? b = some { o with slots := sl } := fun b o q hb => by
    obtain ⟨_, ob, hob, hnf⟩ := frS.mem hb
    rw [q] at hob; cases hob
    exact x4 b o (hx.keeps b o q) hnf
  have hany : ∀ b o, s.heap.get? b = some o → ∃ o', h2.get? b = some o' := fun b o q => by
    by_cases hb : b ∈ frs (cxR P w K mg base N qual scope f cd A outer s₀ H₀ E).stack
    · obtain ⟨sl, z⟩ := hfr b o q hb; exact ⟨_, z⟩
    · exact ⟨_, hk b o q hb⟩
  have nx : ∀ b : Addr, b ∉ (cxR P w K mg base N qual scope f cd A outer s₀ H₀ E).ex := fun b z => absurd (show b ∈ ([] : List Addr) from z) (by simp)
  refine ⟨e, cls, .ref t, H, _, rfl, I.os, I.bare, x1, fun b o q n hb => PySem.W.hideAll_get _ (I.base.keep b o q n hb (nx b)) (lo b o q hb), fun b o q hb => ?_, bo0 I, ⟨fun b o q n hb _ => ?_, fun b o q n hb _ => ?_, fun b o q n _ => I.base.free b o q n (nx b), fun b o q _ => ?_, I.base.tups, I.base.frzs, I.base.tbls⟩, ?_, hE⟩
  · obtain ⟨o', z⟩ := I.base.there b o q (nx b)
    exact ⟨o', PySem.W.hideAll_get _ z (lo b o q hb)⟩
  · exact hk b o (I.base.keep b o q n hb (nx b)) (lo b o q hb)
  · obtain ⟨sl, z⟩ := I.base.slot b o q n hb (nx b)
    have hm : b ∈ frs (cxR P w K mg base N qual scope f cd A outer s₀ H₀ E).stack := by
      show b ∈ frs (_ :: outer)
      unfold frs at hb ⊢
      rw [List.filterMap_cons]
      exact List.mem_cons_of_mem _ hb
    obtain ⟨sl', z'⟩ := hfr b _ z hm
    exact ⟨sl', z'⟩
  · obtain ⟨o', z⟩ := I.base.there b o q (nx b)
    exact hany b o' z
  · cases q : H e with
    | none => rfl
    | some u =>
      obtain ⟨ob, z⟩ := (I.hok e u q).there
      rw [hx.new] at z; cases z
end
structure bj0 (K : PySem.W.Frag) (C : Addr) (bm : List Value) (newId : String) : Prop where
  ok : PySem.W.excIn K C bm newId = true
theorem bj0.obj {K : PySem.W.Frag} {C : Addr} {bm : List Value} {newId : String} (O : bj0 K C bm newId) {h : Heap} (X : K.In h) :
    ∃ tl N nm q bs hdct sn sub ab col dd k0 k1 k2 k3 k5 mN, h.get? C = some (excClassObj nm q C N bs tl hdct sn sub ab col dd k0 k1 k2 k3 k5 newId) ∧ h.Ns N mN ∧ mN "__init__" = none ∧ OwnTail h bm tl := by
  have q := O.ok
  unfold PySem.W.excIn at q
  split at q
  · rename_i dd cd sl ho
    split at q
    · rename_i C' bm' k0 k1 k2 k3 n k5 hm hs
      simp only [Bool.and_eq_true, beq_iff_eq, Bool.not_eq_true'] at q
      obtain ⟨⟨⟨⟨⟨rfl, rfl⟩, hdel⟩, ht⟩, hok⟩, hni⟩ := q
      obtain ⟨nm, bs, mro, ns, qn, hd, sn, sub, ab, col, del⟩ := cd
      dsimp only at hm hdel hok hni
      subst hm hdel
      have hsl : sl = #[k0, k1, k2, k3, some (.builtin n), k5] := by
        obtain ⟨l⟩ := sl
        simp only at hs
        rw [hs]
      subst hsl
      exact ⟨bm', ns, nm, qn, bs, hd, sn, sub, ab, col, dd, k0, k1, k2, k3, k5, _, X _ _ ho, .of_isNs (PySem.W.isNs_of_in X hok), PySem.W.nsMap_none_of_in X hok hni, PySem.W.tail_of_in X ht⟩
    · cases q
  · cases q
section
variable {X : Cx} {x : Str} {C : Addr} {bm : List Value} {newId B initId : String} {e : Expr} {es : List Expr} {te : TA} {np cpos pos : Pos} {R : Value → Hp → Prop}
def ao8 (C : Addr) (te : TA) (R : Value → Hp → Prop) : TS := fun _ σ H => te σ H fun vs H1 => vs.length ≤ sizeLine ∧ R (.ref C) H1
theorem aY8 (O : bj0 X.K C bm newId) (FB : ExcBaseFacts B newId initId bm) (hc : X.calm = true) (hg : Gl X x) (hm : X.mg x = some (.ref C)) (hr : be3 X R) (he : PA X (e :: es) te)
    (hst : starEach (e :: es) X.env = (false, eval e X.env) :: starEach es X.env := by rfl) (hplain : (backTo cpos (starEach es X.env)).any (·.1) = false := by rfl) (hd : (x == ("__debug__" : Str)) = false := by decide) :
    PS X (.Raise (some (.Call (.Name x np) (e :: es) [] cpos)) none pos) (ao8 C te R) := by
  intro pins s σ H D I h
  obtain ⟨tl, N, nm, q, bs, hdct, sn, sub, ab, col, dd, k0, k1, k2, k3, k5, mN, hC, hN, hni, T⟩ := O.obj I.ok.mod.kin
  refine wpAny_Raise_call_subT (C := C) (nm := nm) (q := q) (N := N) (bs := bs) (bm := tl) (hdct := hdct) (sn := sn) (sub := sub) (ab := ab) (col := col) (dd := dd) (k0 := k0) (k1 := k1) (k2 := k2) (k3 := k3) (k5 := k5)
    FB (mN := mN) (T.hasType FB.hasBase) (I.ok.hd hc) (by rw [hst]; show (false || (backTo cpos (starEach es X.env)).any (·.1)) = false; rw [hplain]; rfl) hni (ag4 I hg hm ⟨rfl, ?_⟩ hd)
  have hA := he cpos pins s σ H _ I h
  rw [hst] at hA ⊢
  refine Calls.evalArgs_plain (thn hA fun us s2 ⟨vs, H1, I1, r1, hl, q1⟩ => ⟨rfl, ?_, I1.bk _ _ hC, hN.keeps I1.bk, T.keeps I1.bk, fun h' a hx => hr pins σ H1 s2 h' a _ us I1 hx q1⟩)
  show us.length ≤ sizeLine
  rw [← r1.length]; exact hl
end
section
variable {X : Cx} {pins : List (Addr × Obj)} {σ : St} {H H' : Hp} {s s' : Shared}
theorem Inv.reA {A2 : Around} {c2 : Bool} {E2 : Value → Shared → Prop} (I : Inv X pins σ H s) (hf : A2.frames = X.A.frames) (hc : c2 = true → A2.handled = none) : Inv { X with A := A2, calm := c2, xe := E2 } pins σ H s :=
  ⟨⟨I.ok.mod, I.ok.kind, I.ok.glob, I.ok.blt, I.ok.above, I.ok.inj, I.ok.has, I.ok.cab, hc, hf.trans I.ok.frames, I.ok.stk, I.ok.exf, I.ok.bs, I.ok.bsz, I.ok.noex, I.ok.exfs, I.ok.funs, I.ok.frf⟩,
    I.os, I.bare, I.base, I.loc, I.cell, I.free, I.freeC, I.pin, I.hok, I.len⟩
theorem Inv.unA {A2 : Around} {c2 : Bool} {E2 : Value → Shared → Prop} (I : Inv { X with A := A2, calm := c2, xe := E2 } pins σ H s) (ok : X.Ok) : Inv X pins σ H s :=
  ⟨ok, I.os, I.bare, I.base, I.loc, I.cell, I.free, I.freeC, I.pin, I.hok, I.len⟩
theorem Inv.bear {E2 : Value → Shared → Prop} (I : Inv X pins σ H s) : Inv { X with xe := E2, pn := X.pn ++ pins } [] σ H s :=
  ⟨⟨I.ok.mod, I.ok.kind, I.ok.glob, I.ok.blt, I.ok.above, I.ok.inj, I.ok.has, I.ok.cab, I.ok.hd, I.ok.frames, I.ok.stk, I.ok.exf, I.ok.bs, I.ok.bsz, I.ok.noex, I.ok.exfs, I.ok.funs, I.ok.frf⟩,
    I.os, I.bare, I.base, I.loc, I.cell, I.free, I.freeC, fun p hp => I.pin p (by simpa using hp), I.hok, I.len⟩
theorem Inv.unbear {E2 : Value → Shared → Prop} {pins' : List (Addr × Obj)} (I : Inv { X with xe := E2, pn := X.pn ++ pins } pins' σ H s) : Inv X pins σ H s :=
  ⟨⟨I.ok.mod, I.ok.kind, I.ok.glob, I.ok.blt, I.ok.above, I.ok.inj, I.ok.has, I.ok.cab, I.ok.hd, I.ok.frames, I.ok.stk, I.ok.exf, I.ok.bs, I.ok.bsz, I.ok.noex, I.ok.exfs, I.ok.funs, I.ok.frf⟩,
    I.os, I.bare, I.base, I.loc, I.cell, I.free, I.freeC, fun p hp => I.pin p (List.mem_append_left _ hp), I.hok, I.len⟩
def ak8 (X : Cx) : St := List.replicate X.N.length none
theorem Inv.forget (I : Inv X pins σ H s) : Inv X pins (ak8 X) H s :=
  I.weak (by unfold ak8; rw [List.length_replicate]; exact I.len.symm) fun i v e => by
    unfold ak8 at e
    rw [List.getElem?_replicate] at e
    split at e <;> cases e
theorem Inv.relocal {h' : Heap} {m' : Str → Option Value} {t' : Nat} (I : Inv X pins σ H s) (hn' : h'.Ns X.env.locals m') (hs : Heap.SameBut X.env.locals s.heap h') : Inv X pins (ak8 X) H { s with heap := h', toks := t' } := by
  have cne := I.cne
  refine ⟨I.ok, I.os, I.bare, ⟨fun b o e n hb hx => ?_, fun b o e n hb hx => ?_, I.base.free, fun b o e hx => ?_, I.base.tups, I.base.frzs, I.base.tbls⟩, ⟨_, hn', fun j y v' e1 e2 e3 => ?_⟩, fun y c e => ?_, I.free, I.freeC, fun p hp => ?_, fun b ob e => ?_, ?_⟩
  · exact (hs.2 b (Nat.ne_of_lt (Nat.lt_of_lt_of_le (Heap.lt_size e) I.ok.above))).trans (I.base.keep b o e n hb hx)
  · obtain ⟨sl, e1⟩ := I.base.slot b o e n hb hx
    exact ⟨sl, (hs.2 b (Nat.ne_of_lt (Nat.lt_of_lt_of_le (Heap.lt_size e) I.ok.above))).trans e1⟩
  · obtain ⟨o', e1⟩ := I.base.there b o e hx
    exact ⟨o', (hs.2 b (Nat.ne_of_lt (Nat.lt_of_lt_of_le (Heap.lt_size e) I.ok.above))).trans e1⟩
  · unfold ak8 at e2
    rw [List.getElem?_replicate] at e2
    split at e2 <;> cases e2
  · obtain ⟨w', z⟩ := I.cell y c e
    exact ⟨w', z.sameBut hs (cne y c e)⟩
  · obtain ⟨e, n, ne, nf, d⟩ := I.pin p hp
    exact ⟨(hs.2 p.1 ne).trans e, n, ne, nf, d⟩
  · refine (I.hok b ob e).stay (fun c w' hc q => (hs.2 c ?_).trans q) (fun _ q => q) fun _ _ q => q
    rintro rfl
    rcases hc with rfl | hc
    · rw [I.free] at e; cases e
    · rw [I.free] at hc; cases hc
  · show (List.replicate X.N.length none).length = _
    exact List.length_replicate
def Exc (cls : Value) (a : Addr) : HO := .ext fun h => ∃ o vs, h.get? a = some o ∧ o.cls = cls ∧ o.data = .fields vs
end
theorem Exc.ok {P : Program} {w : World} {H : Hp} {h : Heap} {cls : Value} {a : Addr} {o : Obj} {vs : Array Value} (h1 : h.get? a = some o) (h2 : o.cls = cls) (h3 : o.data = .fields vs) : F9 P w H h a (Exc cls a) :=
  ⟨⟨o, vs, h1, h2, h3⟩, ⟨o, h1⟩, fun _ _ ⟨o, vs, q1, q2, q3⟩ k => ⟨o, vs, k o q1, q2, q3⟩⟩
theorem Inv.track {X : Cx} {pins : List (Addr × Obj)} {σ : St} {H : Hp} {s : Shared} {o : HO} {a : Addr} (I : Inv X pins σ H s) (hn : H a = none) (new : F9 X.prog X.w (upd H a o) s.heap a o)
    (h1 : ∀ b ob, X.s₀.heap.get? b = some ob → X.H₀ b = none → b ∉ X.ex → b ≠ a) (h2 : X.env.locals ≠ a) (h3 : ∀ x c, X.env.cells.lookup x = some c → c ≠ a) (h4 : ∀ p ∈ X.pn ++ pins, p.1 ≠ a) : Inv X pins σ (upd H a o) s :=
  ⟨I.ok, I.os, I.bare, ⟨I.base.keep, I.base.slot, fun b ob q n hx => by rw [i5 (h1 b ob q n hx)]; exact I.base.free b ob q n hx, I.base.there, fun b xs q => by rw [i5 (g6 (I.base.tups b xs q) hn)]; exact I.base.tups b xs q,
      fun b ob u q => by rw [i5 (g6 (I.base.frzs b ob u q) hn)]; exact I.base.frzs b ob u q, fun b ps q => by obtain ⟨m, z⟩ := I.base.tbls b ps q; exact ⟨m, by rw [i5 (g6 z hn)]; exact z⟩⟩,
    I.loc, I.cell, by rw [i5 h2]; exact I.free, fun x c q => by rw [i5 (h3 x c q)]; exact I.freeC x c q, fun p hp => let ⟨e1, e2, e3⟩ := I.pin p hp; ⟨e1, by rw [i5 (h4 p hp)]; exact e2, e3⟩,
    fun b u e => by
      by_cases hb : b = a
      · subst hb; rw [b8] at e; cases e; exact new
      · rw [i5 hb] at e
        exact (I.hok b u e).stay (fun _ _ _ q => q) (fun c q => by rw [i5 (g6 q hn)]; exact q) fun c xs q => by rw [i5 (g6 q hn)]; exact q,
    I.len⟩
theorem Inv.caught {X : Cx} {pins : List (Addr × Obj)} {σ : St} {H : Hp} {s s' : Shared} {a : Addr} {cls a0 : Value} {H' : Hp} {B h6 : Heap} (I : Inv X pins σ H s) (os : s'.os = s.os) (bare : AllBare s'.gens) (fl : Heap.FlyingW B X.stack a cls a0 s'.heap)
    (hB : ∀ b o, s.heap.get? b = some o → H b = none → b ∉ frs X.stack → B.get? b = some o) (hth : ∀ b o, s.heap.get? b = some o → b ∉ frs X.stack → ∃ o', B.get? b = some o') (hok : HOk X.prog X.w H' B)
    (un : Un (frs X.stack) [] H H' s.heap s'.heap) (st : B.StaysIn h6) (up : s'.heap.UpToSlots h6) : Inv X pins σ H' { s' with heap := h6 } := by
  have hfr : ∀ b o, s'.heap.get? b = some o → b ∈ frs X.stack → ∃ sl, h6.get? b = some { o with slots := sl } := fun b o q hb => by
    obtain ⟨_, ob, hob, hnf⟩ := fl.2.2.1.mem hb
    rw [q] at hob; cases hob
    exact up b o q hnf
  refine I.call' (s' := { s' with heap := h6 }) (ch := []) os ⟨fun b o q n hb _ => st b o (hB b o q n hb), fun b o q n hb _ => ?_, un.free, fun b o q _ => ?_, un.tups, un.frzs, un.tbls⟩ (hok.kept fun b u q => st b u q) bare (fun b z => absurd z (by simp))
  · obtain ⟨sl, z⟩ := un.slot b o q n hb (by simp)
    obtain ⟨sl2, z2⟩ := hfr b _ z hb
    exact ⟨sl2, z2⟩
  · by_cases hb : b ∈ frs X.stack
    · obtain ⟨o2, z2⟩ := un.there b o q (by simp)
      obtain ⟨sl, z3⟩ := hfr b o2 z2 hb
      exact ⟨_, z3⟩
    · obtain ⟨o2, z2⟩ := hth b o q hb
      exact ⟨o2, st b o2 z2⟩
abbrev Cx.body (X : Cx) (xe : Value → Shared → Prop) (pn : List (Addr × Obj)) : Cx := { X with xe := xe, pn := pn }
abbrev Cx.suite (X : Cx) (a : Addr) : Cx := { X with A := X.A.mark (some (.ref a)), calm := false, xe := fun _ _ => False }
def bp6 (K : PySem.W.Frag) (n C i : Nat) (tb : XK → TS) (th : Addr → TS) : TS := fun D σ H =>
  tb (fun cls _ H' => PySem.W.exmOne K cls (.ref C) = some true ∧ ∀ a, H' a = none → th a { nx := fun _ _ => False, rt := D.rt } ((List.replicate n none).set i (some (.ref a))) (upd H' a (Exc cls a))) D σ H
section
variable {X : Cx}
theorem bm2 {body : List Stmt} {x n : Str} {C : Addr} {i : Nat} {b₀ : Stmt} {suite : List Stmt} {tb : XK → TS} {th : Addr → TS} {np hpos pos : Pos} {l : List Env} (hst : X.stack = X.env :: l) (hfr : X.env.frame = some X.env.locals)
    (hex0 : X.ex = []) (hN : X.N.Nodup) (hi : X.N[i]? = some n) (hl : X.env.kindOf n = some .local) (hg : Gl X x) (hm : X.mg x = some (.ref C)) 
    (hb : ∀ (E : XK) (xe : Value → Shared → Prop) (pn : List (Addr × Obj)), au2 (CXR X.prog X.w) (X.body xe pn) E → PSs (X.body xe pn) body (tb E))
    (hs : ∀ a, PSs (X.suite a) (b₀ :: suite) (th a)) (hd : (x == ("__debug__" : Str)) = false := by decide) :
    PS X (.Try body [.ExceptHandler (some (.Name x np)) (some n) (b₀ :: suite) hpos] [] [] pos) (bp6 X.K X.N.length C i tb th) := by
  intro pins s σ H D I h
  refine wpAny_Try_except ?_
  refine wpAny_mono (hb _ (fun e s₁ => wpAny (model X.prog X.w) X.A (noteFrame e X.env) (fun _ s₂ => wpAny (model X.prog X.w) X.A (setFlight e none) (fun _ s₃ => wpAny (model X.prog X.w) X.A (handleBy e X.env [.ExceptHandler (some (.Name x np)) (some n) (b₀ :: suite) hpos]) (SP X pins D) X.xe s₃) X.xe s₂) X.xe s₁) (X.pn ++ pins) ?_ [] s σ H D I.bear h) ?_ fun _ _ z => z
  case refine_2 =>
    intro f s1 hf
    cases f with
    | next =>
      obtain ⟨σ', H', J, q⟩ := hf
      exact wpAny_execs_nil ⟨σ', H', J.unbear, q⟩
    | brk =>
      obtain ⟨σ', H', J, q⟩ := hf
      exact ⟨σ', H', J.unbear, q⟩
    | cont =>
      obtain ⟨σ', H', J, q⟩ := hf
      exact ⟨σ', H', J.unbear, q⟩
    | ret u =>
      obtain ⟨v, σ', H', J, r, q⟩ := hf
      exact ⟨v, σ', H', J.unbear, r, q⟩
  case refine_1 =>
    intro pins' σ' H1 s1 e s2 J0 hcx
    have J : Inv X pins σ' H1 s1 := J0.unbear
    obtain ⟨a, cls, a0, H2, B, rfl, os, bare, fl, hB, hth, hok, un, hn, hE⟩ := hcx
    obtain ⟨hex, hsu⟩ := hE
    have fl' : Heap.FlyingW B (X.env :: l) a cls a0 s2.heap := by rw [← hst]; exact fl
    refine wpAny_looks_onW (by rw [J.ok.frames, hst]) hfr fl' fun h4 held4 up4 => ?_
    refine wpAny_landsW held4 fun h5 fl5 up5 => ?_
    have J5 : Inv X pins σ' H2 { s2 with heap := h5 } := J.caught os bare fl hB hth hok un fl5.1 (up4.trans up5)
    obtain ⟨ob, hob, hobc⟩ := fl5.there
    have LT : PySem.W.Looks (model X.prog X.w) h5 (typeOf (.ref a)) cls := hobc ▸ (PySem.W.Looks.ld hob).andThen .now
    have J5h : Inv (X.suite a) pins σ' H2 { s2 with heap := h5 } := J5.reA rfl (fun z => nomatch z)
    refine wpAny_handleBy_cons (codeAny_handlers_test (ag4 (X := X.suite a) J5h hg hm ?_ hd)) (by intro q; cases q)
    refine (PySem.W.exm_one (M := model X.prog X.w) J5.kIn LT hex).at ?_
    refine codeAny_handlers_suite_as ?_
    refine lands_againW fl5 fun h6 fl6 up6 => ?_
    have J6 : Inv X pins σ' H2 { s2 with heap := h6 } := J.caught os bare fl hB hth hok un fl6.1 ((up4.trans up5).trans up6)
    have J6h : Inv (X.suite a) pins (ak8 X) H2 { s2 with heap := h6 } := (show Inv (X.suite a) pins σ' H2 { s2 with heap := h6 } from J6.reA rfl (fun z => nomatch z)).forget
    -- the exception is tracked
    obtain ⟨oe, ws, hoe, hoec, hoed, _⟩ := fl6.first
    have nfr : ∀ b ∈ frs X.stack, b ≠ a := fun b hb z => by
      obtain ⟨_, o', ho', hnf⟩ := fl6.2.2.1.mem (show b ∈ frs (X.env :: l) from hst ▸ hb)
      subst z
      have ho6 : h6.get? b = some o' := ho'
      rw [hoe] at ho6; cases ho6
      exact hnf ws hoed
    have nB : ∀ b o, B.get? b = some o → b ≠ a := fun b o q z => by rw [z, fl.2.1] at q; cases q
    have nL : X.env.locals ≠ a := nfr _ (by rw [hst]; unfold frs; rw [List.filterMap_cons, hfr]; exact List.mem_cons_self)
    have J7 : Inv (X.suite a) pins (ak8 X) (upd H2 a (Exc cls a)) { s2 with heap := h6 } := by
      refine J6h.track hn (Exc.ok hoe hoec hoed) (fun b ob q n hx => ?_) nL (fun y c q => ?_) (fun p hp => ?_)
      · have hx' : b ∉ X.ex := hx
        by_cases hbf : b ∈ frs X.stack
        · exact nfr b hbf
        · have z1 : b ∉ X.fs := fun z => hbf (by
            rcases J.ok.stk with e | ⟨e, _⟩
            · rw [e]; exact z
            · rw [e]; unfold frs; rw [List.filterMap_cons, hfr]; exact List.mem_cons_of_mem _ z)
          exact nB b ob (hB b ob (J.base.keep b ob q n z1 hx') (J.base.free b ob q n hx') hbf)
      · obtain ⟨v, o', ho', hd'⟩ := J6h.cell y c q
        intro z
        subst z
        have z1 : h6.get? c = some o' := ho'
        rw [hoe] at z1; cases z1
        rw [hoed] at hd'; cases hd'
      · have hp' : p ∈ X.pn ++ pins := hp
        obtain ⟨e1, e2, e3, e4, _⟩ := J.pin p hp'
        refine nB p.1 p.2 (hB p.1 p.2 e1 e2 fun z => ?_)
        rcases List.mem_cons.mp (J.stkSub p.1 z) with y | y
        · exact e3 y
        · exact e4 y
    refine W3 (X := X.suite a) J7 hN hi (.inl hl) (v := .ref a) (u := .ref a) rfl (fun s8 J8 => ?_) (.inr hl)
    refine wpAny_mono (hs a pins s8 _ _ { nx := fun _ _ => False, rt := D.rt } J8 (hsu a hn)) (fun f s9 hf => ?_) fun _ _ z => False.elim z
    cases f with
    | next => obtain ⟨_, _, _, q⟩ := hf; exact False.elim q
    | brk => obtain ⟨_, _, _, q⟩ := hf; exact False.elim q
    | cont => obtain ⟨_, _, _, q⟩ := hf; exact False.elim q
    | ret u =>
      obtain ⟨v, σ9, H9, J9, r9, q9⟩ := hf
      obtain ⟨m9, hn9, _⟩ := id J9.loc
      have J9' : Inv X pins σ9 H9 s9 := J9.unA J.ok
      refine wpAny_nameGoes hl hn9 (by rw [J.ok.kind]; rfl) fun h' m' hn' hs' => ?_
      exact ⟨v, ak8 X, H9, J9'.relocal hn' hs', r9, q9⟩
end
structure O8 (k : Nat) (A : Around) : Prop where
  dp : A.depth + 3 * k + 5 < recursionLimit
  un : A.units + 16 * k + 200 < cLine
theorem U8.toX {k : Nat} {A : Around} (r : U8 k A) : O8 k A := ⟨r.dp, r.un⟩
theorem O8.mono {j k : Nat} {A : Around} (r : O8 k A) (h : j ≤ k) : O8 j A := ⟨by have := r.dp; omega, by have := r.un; omega⟩
theorem O8.deeper {k : Nat} {A : Around} (r : O8 (k + 1) A) (env : Env) : O8 k (A.deeper env) :=
  ⟨by have := r.dp; show A.depth + 1 + 3 * k + 5 < _; omega, by have := r.un; show A.units + 3 + 16 * k + 200 < _; omega⟩
theorem O8.mark {k : Nat} {A : Around} (r : O8 k A) (v : Option Value) : O8 k (A.mark v) := ⟨r.dp, r.un⟩
theorem O8.depth {k : Nat} {A : Around} (r : O8 k A) : A.depth < recursionLimit := by have := r.dp; omega
structure aQ2 (P : Program) (w : World) (K : PySem.W.Frag) (mg : Str → Option Value) (base : Heap) (k : Nat) (f : Addr) (fd : FuncData) (ps : List Str) (sp : Sp) : Prop where
  len : ∀ vs H Q E, sp vs H Q E → vs.length = ps.length
  run : ∀ (A : Around) (outer : List Env) (s : Shared) (H : Hp) (args : Args) (us : List Value) (vs : List V) (Q : VK) (E : XK), O8 k A → aU6 P w K mg base A outer s H → BindsTo s fd args (ps.zip us) → m8 vs us → sp vs H Q E →
    codeAny (model P w) A (.call (.ref f) args) (CR CX0 outer P w H s Q E) s
abbrev cxX (P : Program) (w : World) (K : PySem.W.Frag) (mg : Str → Option Value) (base : Heap) (N : List Str) (qual : Str) (scope : Scope) (f : Addr) (cd : Value) (A : Around) (outer : List Env) (s₀ : Shared) (H₀ : Hp) (E : XK) : Cx :=
  { ah1 CX0 P w K mg base N qual scope f cd A outer s₀ H₀ E with calm := false, xe := fun _ _ => False }
theorem Fun.okX {P : Program} {w : World} {K : PySem.W.Frag} {mg : Str → Option Value} {base : Heap} {x qual : Str} {st : Stmt} {f : Addr} {fd : FuncData} {N ps : List Str} {k : Nat} {sp : Sp} (F : Fun K x qual st f fd) (S : i3 N ps (b9 st)) (len : ∀ vs H Q E, sp vs H Q E → vs.length = ps.length)
    (hbody : ∀ (cdv : Value) (A : Around) (outer : List Env) (s : Shared) (H : Hp) (vs : List V) (Q : VK) (E : XK), O8 k (A.deeper (envOfC qual (b9 st) s.heap.objs.size f cdv)) → sp vs H Q E →
      ∃ t, PSs (cxX P w K mg base N qual (b9 st) f cdv A outer s H E) (g9 st) t ∧ t { nx := fun _ H' => Q .non H', rt := Q } (start N vs) H) : aQ2 P w K mg base (k + 1) f fd ps sp := by
  obtain ⟨oc, od, kV, doc, pm, an, cdv, ct, osl, rfl, lk, hcd⟩ := F.ex
  refine ⟨len, fun A outer s H args us vs Q E hr e0 hb r hsp => ?_⟩
  have hl := len _ _ _ _ hsp
  have KX : K.In s.heap := e0.mod.kin.keeps fun b o e => (e0.bs b o e).1
  have lim : s.heap.NoLimit := e0.mod.nolimit.keeps fun b o e => (e0.bs b o e).1
  have hkind : ∀ y ∈ ps.zip us, (b9 st).names.lookup y.1 = some .local ∨ ((b9 st).names.lookup y.1 = some .cell ∧ ((cellsFrom (s.heap.objs.size + 1) (b9 st).names []).lookup y.1).isSome = true) := fun ⟨n, v⟩ hy => by
    rcases S.par n (List.of_mem_zip hy).1 with q | q
    · exact .inl q
    · exact .inr ⟨q, PySem.W.cellsFrom_some _ _ _ (.inl q)⟩
  refine codeAny_call_function hr.depth (KX _ _ lk) rfl S.co S.gen rfl (PySem.W.codeRec_of KX hcd) (hb _ _ _ _ ?_)
  refine wpAny_newFunctionEnv_cells S.kind hkind fun env he s1 x => ?_
  subst he
  refine ⟨lim.keeps x.toInCall.keep, codeAny_func ?_⟩
  obtain ⟨t, ht, hq⟩ := hbody cdv A outer s H vs Q E (hr.deeper _) hsp
  have e0' : aU6 P w K mg base { A with handled := none } outer s H := ⟨e0.frames, e0.mod, e0.bs, e0.bsz, e0.funs, e0.frf, e0.hok, e0.bare⟩
  have I0 : Inv (ah1 CX0 P w K mg base N qual (b9 st) f cdv { A with handled := none } outer s H E) [] (start N vs) H s1 := ay2 S rfl e0' hl r x
  have I : Inv (cxX P w K mg base N qual (b9 st) f cdv A outer s H E) [] (start N vs) H s1 := I0.reA (A2 := A.deeper (envOfC qual (b9 st) s.heap.objs.size f cdv)) (by rfl) (fun z => nomatch z)
  refine wpAny_mono (ht [] s1 (start N vs) H _ I hq) (fun fl s' hs => ?_) fun e s' hs => False.elim hs
  have fin : ∀ {σ' : St} {H' : Hp} {v : V} {u : Value}, Inv (cxX P w K mg base N qual (b9 st) f cdv A outer s H E) [] σ' H' s' → z7 v u → Q v H' → CE outer P w H s Q u s' :=
    fun {σ' H' v u} J rv q => ⟨v, H', J.os, J.bare, J.base, J.hok, rv, q⟩
  cases fl with
  | ret u =>
    obtain ⟨v, σ', H', J, rv, q⟩ := hs
    exact fin J rv q
  | next =>
    obtain ⟨σ', H', J, q⟩ := hs
    exact fin (v := V.non) (u := Value.none) J rfl q
  | brk =>
    obtain ⟨_, _, _, q⟩ := hs
    exact False.elim q
  | cont =>
    obtain ⟨_, _, _, q⟩ := hs
    exact False.elim q
section
variable {X : Cx} {CX : CXT} {k : Nat} {f : Addr} {fd : FuncData} {ps : List Str} {sp : Sp} {E : XK} {x : Str} {p pos : Pos} {e : Expr} {es : List Expr} {t : TA}
theorem bf2 {pins : List (Addr × Obj)} {σ : St} {H : Hp} {s : Shared} {Q : VK} {us : List Value} {vs : List V} (F : aQ2 X.prog X.w X.K X.mg X.base k f fd ps sp) (hr : O8 k X.A) (hb : aa7 X.K fd ps [])
    (I : Inv X pins σ H s) (r : m8 vs us) (h : sp vs H Q E) : wpAny (model X.prog X.w) X.A (call (.ref f) us) (EP X pins σ Q) X.xe s := by
  have hl : (us ++ []).length = ps.length := by rw [List.append_nil, ← r.length]; exact F.len _ _ _ _ h
  have hb' := hb s us I.kIn hl
  rw [List.append_nil] at hb'
  refine wpAny_call (codeAny_mono (F.run X.A X.stack s H ⟨us, []⟩ us vs Q E hr I.env0 hb' r h) fun r s' hq => ?_)
  cases r with
  | error e => exact False.elim hq
  | ok fl =>
    cases fl with
    | ret u => exact I.after hq
    | next => exact False.elim hq
    | brk => exact False.elim hq
    | cont => exact False.elim hq
def ah7 (sp : Sp) (t : TA) : TE := fun σ H Q => t σ H fun vs H1 => sp vs H1 Q E0
theorem aZ8 (F : aQ2 X.prog X.w X.K X.mg X.base k f fd ps sp) (hr : O8 k X.A) (hg : Gl X x) (hm : X.mg x = some (.ref f)) (hk : PySem.W.keepIn X.K (.ref f) = true) (hb : aa7 X.K fd ps [])
    (ha : PA X (e :: es) t) (hdb : (x == ("__debug__" : Str)) = false := by decide) (he : starEach (e :: es) X.env = (false, eval e X.env) :: starEach es X.env := by rfl) (hpl : (backTo pos (starEach es X.env)).any (·.1) = false := by rfl) :
    PE X (.Call (.Name x p) (e :: es) [] pos) (ah7 sp t) := by
  intro pins s σ H Q I h
  refine wpAny_Call_Name_kw (ag4 I hg hm ?_ hdb)
  refine PySem.W.callWith_K (h₀ := X.base) I.ok.mod.kin hk (thn (ha pos pins s σ H _ I h) fun us s1 ⟨vs, H1, I1, r, q⟩ => ⟨I1.kIn, ?_⟩) he hpl
  exact bf2 F hr hb I1 r q
structure FnV (P : Program) (w : World) (K : PySem.W.Frag) (mg : Str → Option Value) (base : Heap) (k : Nat) (f : Addr) (sp : Sp) : Prop where
  ex : ∃ fd ps, aa6 P w K mg base (CXR P w) k f fd ps sp ∧ aa7 K fd ps []
  kp : PySem.W.keepIn K (.ref f) = true
def bl7 (P : Program) (w : World) (K : PySem.W.Frag) (mg : Str → Option Value) (base : Heap) (k i : Nat) (E : XK) (t : TA) : TE := fun σ H Q => ∃ f sp, σ[i]? = some (some (.ref f)) ∧ FnV P w K mg base k f sp ∧ t σ H fun vs H1 => sp vs H1 Q E
end
end L2
-- the class of an exception, isinstance, great numbers
set_option maxRecDepth 100000
namespace L2
open PySem PySem.W PySem.Spec PyProof.Rows Builtin Builtin.ObjectAttr Builtin.Getset_descriptor
section
variable {prog : Program} {w : World} {A : Around} {E : Value → Shared → Prop} {s : Shared} {K : Frag} {a C : Addr} {o : Obj}
theorem av8 {R : Result → Shared → Prop} {tp : Value} (X : K.In s.heap) (hx : s.heap.get? a = some o) (hc : o.cls = .ref C) (hm : mroIn K C (.type "object") = some true)
    (h : R (.ok (.ret (.ref C))) s) : codeAny (model prog w) A (.call (.builtin "getset_descriptor.__get__") ⟨[.builtin "object.__class__", .ref a, tp], []⟩) R s := by
  obtain ⟨hh, g, dr, t, os⟩ := s
  have L0 : Looks (model prog w) hh (typeOf (.ref a)) (.ref C) := hc ▸ (Looks.ld hx).andThen .now
  have L1 := looks_mroIn (M := model prog w) X hm
  refine codeAny_call_builtin KF.slot_gs.plain KF.entry_gs (KF.slot_gs.check _ _ _ _ _ _ _ _ KF.type_class (KF.args_gs _ _ _) ?_)
  unfold Builtin.«getset_descriptor.__get__» descrGet
  rw [dga_obj]
  refine wpAny_bind (wpAny_pure ?_)
  unfold descrGetter descrCheckInstance descrNameAndClass isInstance
  simp only [KF.owner_class]
  repeat lk
  refine ⟨Code.quiet_builtin _ (by decide +kernel), codeAny_builtin KF.entry_class ?_⟩
  unfold Builtin.«object.__class__» shownTypeOf
  repeat lk
  exact h
theorem aT4 {tk : Tok} {Q : Fin → Shared → Prop} (X : K.In s.heap) (hx : s.heap.get? a = some o) (hc : o.cls = .ref C) (g3 : findIn K (.ref C) "__class__" = some (some (.builtin "object.__class__"))) (hm : mroIn K C (.type "object") = some true)
    (hq : Q (.done (.ret (.ref C))) s) : wpAny (model prog w) A (Builtin.«object.__getattribute__» ⟨[.ref a, .str "__class__" tk], []⟩) Q E s := by
  obtain ⟨hh, g, dr, t, os⟩ := s
  have L0 : Looks (model prog w) hh (typeOf (.ref a)) (.ref C) := hc ▸ (Looks.ld hx).andThen .now
  have L1 := looks_findIn (M := model prog w) X g3
  have f5 : typeOf (.builtin "object.__class__") = pure (.type "getset_descriptor") := KF.type_class
  have f6 := F.slot_gs_get.lookup
  have f7 := F.slot_gs_set.lookup
  repeat (any_goals (first | assumption | (with_reducible refine wpAny_loadPart_at hx ?_; rw [hc]) | with_reducible refine L1.at ?_ | wp_step))
  refine av8 X hx hc hm ?_
  repeat (any_goals (first | assumption | wp_step))
theorem aT6 {M : Model} {nameV : Value} {Q : Unit → Shared → Prop} (X : K.In s.heap) (hx : s.heap.get? a = some o) (hc : o.cls = .ref C) (hmB : mroIn K C (.type "BaseException") = some true) (hq : Q () s) :
    wpAny M A (checkBuiltinCall "BaseException.__getattribute__" ⟨[.ref a, nameV], []⟩) Q E s := by
  obtain ⟨hh, g, d, t, os⟩ := s
  have L3 := looks_mroIn (M := M) X hmB
  have hk : builtinKind "BaseException.__getattribute__" = some .slot := by decide +kernel
  have hsplit : splitId "BaseException.__getattribute__" = some ("BaseException", "__getattribute__") := by decide +kernel
  have ha := F.args_bexc_ga (.ref a) nameV
  simp only [checkBuiltinCall, hk, hsplit]
  refine wpAny_bind ?_
  · unfold isInstance
    repeat (first | (with_reducible refine wpAny_loadPart_at hx ?_; rw [hc]) | with_reducible refine L3.at ?_ | wp_step)
    exact hq
theorem aT5 {Q : Option Value → Shared → Prop} (X : K.In s.heap) (hx : s.heap.get? a = some o) (hc : o.cls = .ref C) (g1 : findIn K (.ref C) "__getattribute__" = some (some (.builtin "BaseException.__getattribute__"))) (g2 : findIn K (.ref C) "__getattr__" = some none)
    (g3 : findIn K (.ref C) "__class__" = some (some (.builtin "object.__class__"))) (hm : mroIn K C (.type "object") = some true) (hmB : mroIn K C (.type "BaseException") = some true) 
    (h : Q (some (.ref C)) { s with toks := s.toks + 1 }) : wpAny (model prog w) A (getAttr? (.ref a) "__class__") Q E s := by
  obtain ⟨hh, g, d, t, os⟩ := s
  have L0 : Looks (model prog w) hh (typeOf (.ref a)) (.ref C) := hc ▸ (Looks.ld hx).andThen .now
  have L1 := looks_findIn (M := model prog w) X g1
  have L2 := looks_findIn (M := model prog w) X g2
  have L3 := looks_mroIn (M := model prog w) X hmB
  unfold getAttr? getAttrBy? getAttrBy
  refine wpAny_bind (wpAny_mkText (wpAny_bind (wpAny_attempt (wpAny_holding (wpAny_bind (L0.at (wpAny_bind (L1.at ?_))))))))
  have hx2 : (Value.builtin "BaseException.__getattribute__" == Value.builtin "object.__getattribute__") = false := by decide +kernel
  have hx1 : (onTheHeap (Value.ref C) && Value.builtin "BaseException.__getattribute__" == Value.builtin "object.__getattribute__") = false := by rw [hx2]; rfl
  show wpAny _ _ (if (onTheHeap (Value.ref C) && Value.builtin "BaseException.__getattribute__" == Value.builtin "object.__getattribute__") = true then _ else _) _ _ _
  rw [if_neg (by rw [hx1]; decide)]
  have f3 := PySem.F.attr_ValueError.ga.bind (.ref a)
  have hx0 : (false && onTheHeap (Value.builtin "BaseException.__getattribute__")) = false := rfl
  unfold getAttrByItsOwn hookBefore
  repeat (any_goals (first | assumption | (with_reducible refine wpAny_loadPart_at hx ?_; rw [hc]) | with_reducible refine L1.at ?_ | with_reducible refine L2.at ?_ | wp_step))
  refine codeAny_call_builtin PySem.F.attr_ValueError.ga.plain F.entry_bexc_ga (aT6 X hx hc hmB (aT4 X hx hc g3 hm ?_))
  dsimp only
  unfold handedOut
  exact wpAny_pure (wpAny_pure h)
structure D6 (K : Frag) (C : Addr) : Prop where
  cl : (clsIn K C).isSome = true
  g1 : findIn K (.ref C) "__getattribute__" = some (some (.builtin "BaseException.__getattribute__"))
  g2 : findIn K (.ref C) "__getattr__" = some none
  g3 : findIn K (.ref C) "__class__" = some (some (.builtin "object.__class__"))
  hm : mroIn K C (.type "object") = some true
  hB : mroIn K C (.type "BaseException") = some true
theorem bb8 (c : D6 K C) : KitX K (.ref a) (.ref C) (fun h => ∃ o, h.get? a = some o ∧ o.cls = .ref C) where
  ty := fun _ _ _ ⟨o, hx, hc⟩ => hc ▸ (Looks.ld hx).andThen .now
  it := fun _ _ X _ => by
    obtain ⟨cdD, hcD⟩ := Option.isSome_iff_exists.mp c.cl
    unfold clsIn at hcD
    split at hcD
    · rename_i c' d' cd' sl' ho
      intro A' Q' E' s' k q
      unfold isType loadHead
      exact wpAny_bind (wpAny_loadPart (k _ _ (X _ _ ho)) (wpAny_pure q))
    · cases hcD
  ne := fun h tp dd its n sl X htp => by
    obtain ⟨cdD, hcD⟩ := Option.isSome_iff_exists.mp c.cl
    refine Bool.eq_false_iff.mpr fun q => ?_
    have e : C = tp := Value.ref.inj (beq_iff_eq.mp q)
    subst e
    unfold clsIn at hcD
    split at hcD
    · rename_i c' d' cd' sl' ho
      have z := (X _ _ ho).symm.trans htp
      cases z
    · cases hcD
  ca := fun X ⟨o, hx, hc⟩ k => aT5 X hx hc c.g1 c.g2 c.g3 c.hm c.hB k
end
section
variable {X : Cx}
def br3 : V → Value
  | .ty n => .type n
  | .ref a => .ref a
  | _ => .none
def isC : V → Prop
  | .ty _ => True
  | .ref _ => True
  | _ => False
inductive TyX (K : Frag) (H : Hp) : V → Value → Prop where
  | of {x : V} {t : Value} (h : aj8 K H x t) : TyX K H x t
  | exc {a C : Addr} (e : H a = some (Exc (.ref C) a)) (c : D6 K C) : TyX K H (.ref a) (.ref C)
  | sqt {a : Addr} {xs : List V} (h : SqT K H a xs) : TyX K H (.ref a) (.type "tuple")
  | sql {a : Addr} {xs : List V} (h : SqL K H a xs) : TyX K H (.ref a) (.type "list")
def aY3 (K : Frag) : List V → Hp → VK → Prop := fun xs H Q => ∃ x c t b, xs = [x, c] ∧ isC c ∧ TyX K H x t ∧ kitOne K t (br3 c) = some b ∧ Q (.bl b) H
theorem j0 : V5 X (.builtin "isinstance") (aY3 X.K) := by
  intro pins s σ H us vs Q I r h
  obtain ⟨x, c, t, b, rfl, ic, ty, e, q⟩ := h
  obtain ⟨u, cu, rfl, rx, rc⟩ := m8.two r
  have ec : cu = br3 c := by
    cases c with
    | ty n => exact rc
    | ref a => exact rc
    | _ => exact False.elim ic
  subst ec
  have fin : ∀ tk, EP X pins σ Q (.bool b) { s with toks := tk } := fun tk => ⟨.bl b, H, I.tok tk, rfl, q⟩
  cases ty with
  | of ty => exact aT0 I rx ty e fin
  | @exc a C ea cl =>
    cases (show u = Value.ref a from rx)
    obtain ⟨⟨o, _, h1, h2, _⟩, _⟩ := (show F9 X.prog X.w H s.heap a (Exc (.ref C) a) from I.hok a _ ea)
    exact kia_one (bb8 cl) I.kIn ⟨o, h1, h2⟩ e (fun z => nomatch z) fin
  | @sqt a xs h =>
    cases (show u = Value.ref a from rx)
    obtain ⟨_, _, ⟨o, h1, h2, _⟩, _⟩ := I.tuple h
    exact kia_one kitx_tuple I.kIn ⟨o, h1, h2⟩ e (fun z => nomatch z) fin
  | @sql a xs h =>
    cases (show u = Value.ref a from rx)
    obtain ⟨_, _, ⟨o, n, h1, h2, _⟩, _⟩ := I.list h
    exact kia_one kitx_list I.kIn ⟨o, h1, h2⟩ e (fun z => nomatch z) fin
theorem w5 : OpR X (binaryOp .Mult) (rI IntMulOk fun i j => .int (i * j)) := opI fun _ _ _ _ _ _ _ hc q => mul_int q hc
def au3 (_ j : Int) : Prop := j ≠ 0 ∧ j.natAbs.log2 < 9000
theorem B5 : OpR X (binaryOp .FloorDiv) (rI au3 fun i j => .int (i.fdiv j)) := opI fun _ _ _ _ _ _ _ hc q => floordiv_int hc.1 q (.inl (PyProof.noPylong_of_log2 hc.2))
end
open PySem PySem.Spec PyProof.Rows
inductive D where
  | v (x : V)
  | tup (ds : List D)
  | lst (ds : List D)
mutual
def eqD : D → D → Bool
  | .v x, .v y => eqV x y
  | .tup a, .tup b => G3 a b
  | .lst a, .lst b => G3 a b
  | _, _ => false
def G3 : List D → List D → Bool
  | [], [] => true
  | x :: xs, y :: ys => eqD x y && G3 xs ys
  | _, _ => false
end
mutual
def okD : D → D → Bool
  | .v _, .v _ => true
  | .tup a, .tup b => V8 a b
  | .lst a, .lst b => V8 a b
  | _, _ => false
def V8 : List D → List D → Bool
  | x :: xs, y :: ys => okD x y && V8 xs ys
  | _, _ => true
end
mutual
def dpD : D → Nat
  | .v _ => 0
  | .tup a => ab5 a + 1
  | .lst a => ab5 a + 1
def ab5 : List D → Nat
  | [] => 0
  | x :: xs => max (dpD x) (ab5 xs)
end
mutual
inductive IsD (K : PySem.W.Frag) (H : Hp) : V → D → Prop where
  | v {x : V} (f : U6 x = true) : IsD K H x (.v x)
  | tup {p : Addr} {xs : List V} {ds : List D} (h : SqT K H p xs) (t : O7 K H xs ds) : IsD K H (.ref p) (.tup ds)
  | lst {p : Addr} {xs : List V} {ds : List D} (h : SqL K H p xs) (t : O7 K H xs ds) : IsD K H (.ref p) (.lst ds)
inductive O7 (K : PySem.W.Frag) (H : Hp) : List V → List D → Prop where
  | nil : O7 K H [] []
  | cons {x : V} {xs : List V} {d : D} {ds : List D} (h : IsD K H x d) (t : O7 K H xs ds) : O7 K H (x :: xs) (d :: ds)
end
theorem O7.length {K : PySem.W.Frag} {H : Hp} : ∀ {xs : List V} {ds : List D}, O7 K H xs ds → xs.length = ds.length
  | _, _, .nil => rfl
  | _, _, .cons _ t => congrArg (· + 1) t.length
theorem bd0 : ∀ {x : V}, U6 x = true → eqV x x = true
  | .non, _ => rfl
  | .bl a, _ => by simp [eqV]
  | .int a, _ => by simp [eqV]
  | .str a, _ => by simp [eqV]
  | .byt _, h => absurd (show false = true from h) Bool.false_ne_true
  | .flt _, h => absurd (show false = true from h) Bool.false_ne_true
  | .ref _, h => absurd (show false = true from h) Bool.false_ne_true
  | .ty _, h => absurd (show false = true from h) Bool.false_ne_true
section
variable {X : Cx} {pins : List (Addr × Obj)} {σ : St} {H : Hp} {s : Shared}
mutual
theorem as9 (I : Inv X pins σ H s) : ∀ {x : V} {d d' : D}, IsD X.K H x d → IsD X.K H x d' → okD d d' = true → eqD d d' = true
  | _, _, _, .v f, .v _, _ => by rw [eqD]; exact bd0 f
  | _, _, _, .tup h t, .tup h' t', ok => by
    have e := I.tuple_inj h h'
    subst e
    rw [eqD]
    rw [okD] at ok
    exact aj3 I t t' ok
  | _, _, _, .lst h t, .lst h' t', ok => by
    have e := I.list_inj h h'
    subst e
    rw [eqD]
    rw [okD] at ok
    exact aj3 I t t' ok
  | _, _, _, .v f, .tup _ _, _ => absurd (show false = true from f) Bool.false_ne_true
  | _, _, _, .v f, .lst _ _, _ => absurd (show false = true from f) Bool.false_ne_true
  | _, _, _, .tup _ _, .v f, _ => absurd (show false = true from f) Bool.false_ne_true
  | _, _, _, .lst _ _, .v f, _ => absurd (show false = true from f) Bool.false_ne_true
  | _, _, _, .tup _ _, .lst _ _, ok => by simp [okD] at ok
  | _, _, _, .lst _ _, .tup _ _, ok => by simp [okD] at ok
theorem aj3 (I : Inv X pins σ H s) : ∀ {xs : List V} {ds ds' : List D}, O7 X.K H xs ds → O7 X.K H xs ds' → V8 ds ds' = true → G3 ds ds' = true
  | _, _, _, .nil, .nil, _ => by rw [G3]
  | _, _, _, .cons h t, .cons h' t', ok => by
    rw [V8, Bool.and_eq_true] at ok
    rw [G3, as9 I h h' ok.1, aj3 I t t' ok.2]
    rfl
end
def aa2 (ds ds' : List D) (j : Nat) : Bool := match ds[j]?, ds'[j]? with
  | some d, some d' => eqD d d'
  | _, _ => true
theorem aa4 (n : Nat) (e : Nat → Bool) : (List.range (n + 1)).all e = (e 0 && (List.range n).all fun j => e (j + 1)) := by
  rw [List.range_succ_eq_map, List.all_cons, List.all_map]; rfl
theorem ab4 : ∀ (ds ds' : List D), ((List.range (min ds.length ds'.length)).all (aa2 ds ds') && ds.length == ds'.length) = G3 ds ds'
  | [], [] => by rw [G3]; rfl
  | [], _ :: _ => by simp [G3]
  | _ :: _, [] => by simp [G3]
  | x :: xs, y :: ys => by
    have ih := ab4 xs ys
    rw [G3, ← ih]
    have e1 : min (x :: xs).length (y :: ys).length = min xs.length ys.length + 1 := by simp only [List.length_cons]; omega
    rw [e1, aa4]
    have e2 : ((x :: xs).length == (y :: ys).length) = (xs.length == ys.length) := by
      by_cases h : xs.length = ys.length <;> simp [h]
    rw [e2, Bool.and_assoc]
    rfl
theorem ac5 (ds ds' : List D) (h : ds.length = ds'.length) : (List.range ds.length).all (aa2 ds ds') = G3 ds ds' := by
  rw [← ab4, ← h, Nat.min_self]; simp
theorem as8 : ∀ (ds ds' : List D), ds.length ≠ ds'.length → G3 ds ds' = false
  | [], [], h => absurd rfl h
  | [], _ :: _, _ => by simp [G3]
  | _ :: _, [], _ => by simp [G3]
  | x :: xs, y :: ys, h => by
    rw [G3, as8 xs ys (fun e => h (by simp [e]))]; simp
theorem ax4 (I : Inv X pins σ H s) {p p' : Addr} {xs ys : List V} {ds ds' : List D} {A : Around} (h : SqT X.K H p xs) (t : O7 X.K H xs ds) (h' : SqT X.K H p' ys) (t' : O7 X.K H ys ds') (hu : A.units < cLine)
    (q : ∀ {us vs : List Value}, m8 xs us → m8 ys vs → ∀ (j : Nat) (h1 : j < us.length) (h2 : j < vs.length), SeqAt.EqAt A.in1 s us[j] vs[j] (aa2 ds ds' j)) : SeqAt.RcAt A s (.ref p) (.ref p') (G3 ds ds') := by
    obtain ⟨its, r1, i1, _⟩ := I.tuple h
    obtain ⟨its', r2, i2, _⟩ := I.tuple h'
    have z := SeqAt.RcAt.tuples (A := A) (items := its.toArray) (items2 := its'.toArray) (e := aa2 ds ds') i1 i2 hu (fun j h1 h2 => q r1 r2 j (by simpa using h1) (by simpa using h2))
    have e1 : its.toArray.size = ds.length := by rw [List.size_toArray, ← r1.length, t.length]
    have e2 : its'.toArray.size = ds'.length := by rw [List.size_toArray, ← r2.length, t'.length]
    rw [e1, e2, ab4] at z
    exact z
theorem ax5 (I : Inv X pins σ H s) {p p' : Addr} {xs ys : List V} {ds ds' : List D} {A : Around} (h : SqL X.K H p xs) (t : O7 X.K H xs ds) (h' : SqL X.K H p' ys) (t' : O7 X.K H ys ds') (hu : A.units < cLine)
    (q : ∀ {us vs : List Value}, m8 xs us → m8 ys vs → ∀ (j : Nat) (h1 : j < us.length) (h2 : j < vs.length), SeqAt.EqAt A.in1 s us[j] vs[j] (aa2 ds ds' j)) : SeqAt.RcAt A s (.ref p) (.ref p') (G3 ds ds') := by
    obtain ⟨its, r1, i1, _⟩ := I.list h
    obtain ⟨its', r2, i2, _⟩ := I.list h'
    have e1 : its.toArray.size = ds.length := by rw [List.size_toArray, ← r1.length, t.length]
    have e2 : its'.toArray.size = ds'.length := by rw [List.size_toArray, ← r2.length, t'.length]
    by_cases hl : ds.length = ds'.length
    · have z := SeqAt.RcAt.lists (A := A) (items := its.toArray) (items2 := its'.toArray) (e := aa2 ds ds') i1.isList i2.isList (by rw [e1, e2, hl]) hu (fun j h1 h2 => q r1 r2 j (by simpa using h1) (by simpa using h2))
      rw [e1, ac5 ds ds' hl] at z
      exact z
    · rw [as8 ds ds' hl]
      exact SeqAt.RcAt.lists_lengths i1.isList i2.isList (by rw [e1, e2]; simpa using hl) hu
mutual
theorem bo2 (I : Inv X pins σ H s) : ∀ {x y : V} {d d' : D} {u v : Value} {A : Around}, IsD X.K H x d → IsD X.K H y d' → okD d d' = true → z7 x u → z7 y v → A.units + dpD d < cLine → SeqAt.EqAt A s u v (eqD d d')
  | _, _, _, _, _, _, _, .v f, .v f', _, r, r', _ => by rw [eqD]; exact bd3 r r' f f'
  | _, _, _, _, u, v, A, .tup (p := p) h t, .tup (p := p') h' t', ok, r, r', hu => by
    cases (show u = Value.ref p from r)
    cases (show v = Value.ref p' from r')
    by_cases hp : p = p'
    · subst hp
      rw [as9 I (.tup h t) (.tup h' t') ok]
      exact SeqAt.EqAt.same _
    · rw [okD] at ok
      rw [dpD] at hu
      rw [eqD]
      exact SeqAt.EqAt.of_refs hp (ax4 I h t h' t' (by omega) fun r1 r2 j h1 h2 => Y7 (A := A.in1) I t t' ok r1 r2 (by show A.units + 1 + _ < _; omega) j h1 h2)
  | _, _, _, _, u, v, A, .lst (p := p) h t, .lst (p := p') h' t', ok, r, r', hu => by
    cases (show u = Value.ref p from r)
    cases (show v = Value.ref p' from r')
    by_cases hp : p = p'
    · subst hp
      rw [as9 I (.lst h t) (.lst h' t') ok]
      exact SeqAt.EqAt.same _
    · rw [okD] at ok
      rw [dpD] at hu
      rw [eqD]
      exact SeqAt.EqAt.of_refs hp (ax5 I h t h' t' (by omega) fun r1 r2 j h1 h2 => Y7 (A := A.in1) I t t' ok r1 r2 (by show A.units + 1 + _ < _; omega) j h1 h2)
  | _, _, _, _, _, _, _, .v _, .tup _ _, ok, _, _, _ => by simp [okD] at ok
  | _, _, _, _, _, _, _, .v _, .lst _ _, ok, _, _, _ => by simp [okD] at ok
  | _, _, _, _, _, _, _, .tup _ _, .v _, ok, _, _, _ => by simp [okD] at ok
  | _, _, _, _, _, _, _, .lst _ _, .v _, ok, _, _, _ => by simp [okD] at ok
  | _, _, _, _, _, _, _, .tup _ _, .lst _ _, ok, _, _, _ => by simp [okD] at ok
  | _, _, _, _, _, _, _, .lst _ _, .tup _ _, ok, _, _, _ => by simp [okD] at ok
theorem Y7 (I : Inv X pins σ H s) : ∀ {xs ys : List V} {ds ds' : List D} {us vs : List Value} {A : Around}, O7 X.K H xs ds → O7 X.K H ys ds' → V8 ds ds' = true → m8 xs us → m8 ys vs → A.units + ab5 ds < cLine →
    ∀ (j : Nat) (h1 : j < us.length) (h2 : j < vs.length), SeqAt.EqAt A s us[j] vs[j] (aa2 ds ds' j)
  | _, _, _, _, _, _, _, .nil, _, _, .nil, _, _ => fun j h1 _ => absurd h1 (Nat.not_lt_zero _)
  | _, _, _, _, _, _, _, .cons _ _, .nil, _, _, .nil, _ => fun j _ h2 => absurd h2 (Nat.not_lt_zero _)
  | _, _, _, _, _, _, A, .cons h t, .cons h' t', ok, .cons r rs, .cons r' rs', hu => fun j h1 h2 => by
    rw [V8, Bool.and_eq_true] at ok
    rw [ab5] at hu
    cases j with
    | zero => exact bo2 I h h' ok.1 r r' (by omega)
    | succ j => exact Y7 I t t' ok.2 rs rs' (by omega) j (by simpa using h1) (by simpa using h2)
end
def D.isV : D → Bool
  | .v _ => true
  | _ => false
def bq4 (K : PySem.W.Frag) : R2 := fun x y H Q => ∃ d d', d.isV = false ∧ IsD K H x d ∧ IsD K H y d' ∧ okD d d' = true ∧ dpD d ≤ 60 ∧ Q (.bl (eqD d d')) H
theorem ad3 (hu : X.A.units + 64 < cLine) : OpR X (compareOp .Eq) (bq4 X.K) := by
  intro pins s σ H x y v u Q I rx ry h
  obtain ⟨d, d', nf, h1, h2, ok, dp, q⟩ := h
  have fin : EP X pins σ Q (.bool (eqD d d')) s := ⟨.bl _, H, I, rfl, q⟩
  cases h1 with
  | v f =>
    cases h2 with
    | v f' => exact absurd (show true = false from nf) (by decide)
    | tup _ _ => simp [okD] at ok
    | lst _ _ => simp [okD] at ok
  | @tup p xs ds h t =>
    cases h2 with
    | v f' => simp [okD] at ok
    | @tup p' ys ds' h' t' =>
      cases (show v = Value.ref p from rx)
      cases (show u = Value.ref p' from ry)
      rw [okD] at ok
      rw [dpD] at dp
      rw [eqD] at fin
      exact ax4 I h t h' t' (by omega) (fun r1 r2 j h1 h2 => Y7 (A := X.A.in1) I t t' ok r1 r2 (by show X.A.units + 1 + _ < _; omega) j h1 h2) X.prog X.w X.xe _ fin
    | lst _ _ => simp [okD] at ok
  | @lst p xs ds h t =>
    cases h2 with
    | v f' => simp [okD] at ok
    | tup _ _ => simp [okD] at ok
    | @lst p' ys ds' h' t' =>
      cases (show v = Value.ref p from rx)
      cases (show u = Value.ref p' from ry)
      rw [okD] at ok
      rw [dpD] at dp
      rw [eqD] at fin
      exact ax5 I h t h' t' (by omega) (fun r1 r2 j h1 h2 => Y7 (A := X.A.in1) I t t' ok r1 r2 (by show X.A.units + 1 + _ < _; omega) j h1 h2) X.prog X.w X.xe _ fin
end
open PySem PySem.Spec PyProof.Rows
section
variable {X : Cx}
def af3 : V → List V → Hp → VK → Prop := fun x vs H Q => ∃ i, x = .int i ∧ vs = [] ∧ Q (.int (Builtin.Int.intBits i)) H
theorem W6 : MtM X "int.bit_length" af3 := by
  intro pins s σ H x vs v us Q I rx rv h
  obtain ⟨i, rfl, rfl, q⟩ := h
  obtain ⟨t, rfl⟩ := rx
  cases m8.zero rv
  exact call_int_bit_length ⟨.int _, H, I.tok _, ⟨_, rfl⟩, q⟩
theorem az0 {x : V} : ∀ {xs : List V} {us : List Value}, m8 xs us → xs.all U6 = true → us.countP (eqU x) = xs.countP fun y => eqV y x
  | _, _, .nil, _ => rfl
  | y :: xs, u :: us, .cons r t, f => by
    rw [List.all_cons, Bool.and_eq_true] at f
    rw [List.countP_cons, List.countP_cons, aM4 r f.1, az0 t f.2]
def aq1 : V → List V → Hp → VK → Prop := fun x vs H Q => ∃ l xs y, x = .ref l ∧ vs = [y] ∧ H l = some (.lst xs) ∧ U6 y = true ∧ xs.all U6 = true ∧ Q (.int (xs.countP fun z => eqV z y)) H
theorem bb3 : MtM X "list.count" aq1 := by
  intro pins s σ H x vs v us Q I rx rv h
  obtain ⟨l, xs, y, rfl, rfl, hH, fy, fx, q⟩ := h
  cases rx
  obtain ⟨u, rfl, ru⟩ := rv.one
  obtain ⟨z, its, n, r, hl, e⟩ := I.lstM hH
  refine call_meets F.slot_list_count ⟨_, e, rfl⟩ F.entry_list_count (F.args_list_count_2 _ _) (SeqAt.list_countAt l its.toArray n none #[] u (eqU y)) ⟨e, fun w hw => ar7 ru fy r fx w (by simpa using hw), ?_⟩
  refine ⟨.int _, H, I.tok _, ⟨_, rfl⟩, ?_⟩
  rw [show its.toArray.toList = its from rfl, az0 r fx]
  exact q
theorem aP4 {y : V} {xs : List V} {us : List Value} (r : m8 xs us) (f : xs.all U6 = true) (j : Nat) (hj : j < us.length) (hx : j < xs.length) : eqU y us[j] = eqV xs[j] y := by
  obtain ⟨u, e1, e2⟩ := r.get (List.getElem?_eq_getElem hx)
  have e3 : us[j] = u := by rw [List.getElem?_eq_getElem hj] at e1; exact Option.some.inj e1
  rw [e3]
  exact aM4 e2 (List.all_eq_true.mp f _ (List.getElem_mem hx))
def aq0 : V → List V → Hp → VK → Prop := fun x vs H Q => ∃ l xs y j, x = .ref l ∧ vs = [y] ∧ H l = some (.lst xs) ∧ U6 y = true ∧ xs.all U6 = true ∧ (xs.findIdx? fun z => eqV z y) = some j ∧ Q (.int (j : Nat)) H
theorem bb2 : MtM X "list.index" aq0 := by
  intro pins s σ H x vs v us Q I rx rv h
  obtain ⟨l, xs, y, j, rfl, rfl, hH, fy, fx, hi, q⟩ := h
  cases rx
  obtain ⟨u, rfl, ru⟩ := rv.one
  obtain ⟨z, its, n, r, hl, e⟩ := I.lstM hH
  obtain ⟨hj, h1, h2⟩ := List.findIdx?_eq_some_iff_getElem.mp hi
  have hz : xs.length < 2 ^ 63 := Nat.lt_of_le_of_lt z ad6
  refine call_meets F.slot_list_index ⟨_, e, rfl⟩ F.entry_list_index (F.args_list_index_2 _ _) (SeqAt.list_indexAt l its.toArray n none #[] u (eqU y) j (by simpa [← hl] using hj) (by have : (xs.length : Int) < 2 ^ 63 := by exact_mod_cast hz
                                                                                                                                                                                       omega) ?_ ?_) ⟨e, fun w hw => ar7 ru fy r fx w (by simpa using hw), ?_⟩
  · rw [show its.toArray[j]'(by simpa [← hl] using hj) = its[j]'(by rw [← hl]; exact hj) from rfl, aP4 r fx j _ hj]; exact h1
  · intro m hm hlt
    have hm' : m < its.length := by simpa using hm
    rw [show its.toArray[m]'hm = its[m]'hm' from rfl, aP4 r fx m _ (by rw [hl]; exact hm')]
    have := h2 m hlt
    simpa using this
  · exact ⟨.int _, H, I.tok _, ⟨_, rfl⟩, q⟩
theorem aw2 : ∀ (t : Nat) (ps : List Str), m8 (ps.map V.str) (strsFrom t ps)
  | _, [] => .nil
  | t, p :: ps => .cons ⟨_, rfl⟩ (aw2 (t + 1) ps)
def ab0 (x y : Str) : List Str := Builtin.Str.partsBetween x (Builtin.Str.occurrences x y 0 x.length (x.length + 1)) y.length
def ap9 : V → List V → Hp → VK → Prop := fun v vs H Q => ∃ x y, v = .str x ∧ vs = [.str y] ∧ (decide (x.length < y.length) || decide (Builtin.Str.strKind x < Builtin.Str.strKind y)) = false ∧ (y.length == 0) = false ∧
  (Builtin.Str.occurrences x y 0 x.length (x.length + 1)).isEmpty = false ∧ x.length ≤ sizeLine ∧ (ab0 x y).length ≤ sizeLine ∧ ∀ l, H l = none → Q (.ref l) (upd H l (.lst ((ab0 x y).map V.str)))
theorem bb1 : MtM X "str.split" ap9 := by
  intro pins s σ H x vs v us Q I rx rv h
  obtain ⟨x', y, rfl, rfl, h1, h2, h3, h4, h5, q⟩ := h
  obtain ⟨t, rfl⟩ := rx
  obtain ⟨u, rfl, t', rfl⟩ := rv.one
  refine call_meets F.slot_str_split rfl F.entry_str_split (F.args_str_split_2 _ _) (meets_str_split_sep x' y t t' h1 h2 h3 h4 h5) ?_
  exact ⟨.ref _, _, I.lnew (ys := (ab0 x' y).map V.str) (aw2 _ _) (by rw [List.length_map]; exact h5), rfl, q _ I.fresh⟩
end
open PySem PySem.Spec PyProof.Rows
structure Df (K : PySem.W.Frag) (mg : Str → Option Value) (x : Str) (st : Stmt) (ps : List Str) (f : Addr) : Prop where
  ex : ∃ fd, Fun K x x st f fd ∧ aa7 K fd ps []
  m : mg x = some (.ref f)
structure Def (P : Program) (w : World) (K : PySem.W.Frag) (mg : Str → Option Value) (base : Heap) (CX : CXT) (k : Nat) (x : Str) (f : Addr) (ps : List Str) (sp : Sp) : Prop where
  ex : ∃ fd, aa6 P w K mg base CX k f fd ps sp ∧ aa7 K fd ps []
  m : mg x = some (.ref f)
  kp : PySem.W.keepIn K (.ref f) = true
structure bj1 (P : Program) (w : World) (K : PySem.W.Frag) (mg : Str → Option Value) (base : Heap) (k : Nat) (x : Str) (f : Addr) (ps : List Str) (sp : Sp) : Prop where
  ex : ∃ fd, aQ2 P w K mg base k f fd ps sp ∧ aa7 K fd ps []
  m : mg x = some (.ref f)
  kp : PySem.W.keepIn K (.ref f) = true
section
variable {P : Program} {w : World} {K : PySem.W.Frag} {mg : Str → Option Value} {base : Heap} {k : Nat} {x : Str} {f : Addr} {ps N : List Str} {sp : Sp} {st : Stmt} {CX : CXT}
theorem Df.ok (d : Df K mg x st ps f) (S : i3 N ps (b9 st)) (len : ∀ vs H Q E, sp vs H Q E → vs.length = ps.length)
    (hbody : ∀ (cdv : Value) (A : Around) (outer : List Env) (s : Shared) (H : Hp) (vs : List V) (Q : VK) (E : XK), U8 k (A.deeper (envOfC x (b9 st) s.heap.objs.size f cdv)) → sp vs H Q E →
      ∃ t, PSs (ah1 CX0 P w K mg base N x (b9 st) f cdv A outer s H E).nox (g9 st) t ∧ t { nx := fun _ H' => Q .non H', rt := Q } (start N vs) H) : Def P w K mg base CX0 (k + 1) x f ps sp := by
  obtain ⟨fd, F, b⟩ := d.ex
  exact ⟨⟨fd, F.ok S len hbody, b⟩, d.m, F.kp⟩
theorem Df.okR (d : Df K mg x st ps f) (S : i3 N ps (b9 st)) (len : ∀ vs H Q E, sp vs H Q E → vs.length = ps.length)
    (hbody : ∀ (cdv : Value) (A : Around) (outer : List Env) (s : Shared) (H : Hp) (vs : List V) (Q : VK) (E : XK), U8 k (A.deeper (envOfC x (b9 st) s.heap.objs.size f cdv)) → sp vs H Q E →
      ∃ t, PSs (cxR P w K mg base N x (b9 st) f cdv A outer s H E) (g9 st) t ∧ t { nx := fun _ H' => Q .non H', rt := Q } (start N vs) H) : Def P w K mg base (CXR P w) (k + 1) x f ps sp := by
  obtain ⟨fd, F, b⟩ := d.ex
  have kp := F.kp
  obtain ⟨oc, od, kV, doc, pm, an, cdv, ct, osl, rfl, lk, hcd⟩ := F.ex
  exact ⟨⟨_, bk8 lk hcd S len fun A outer s H vs Q E hr hsp => hbody cdv A outer s H vs Q E hr hsp, b⟩, d.m, kp⟩
theorem Df.okX (d : Df K mg x st ps f) (S : i3 N ps (b9 st)) (len : ∀ vs H Q E, sp vs H Q E → vs.length = ps.length)
    (hbody : ∀ (cdv : Value) (A : Around) (outer : List Env) (s : Shared) (H : Hp) (vs : List V) (Q : VK) (E : XK), O8 k (A.deeper (envOfC x (b9 st) s.heap.objs.size f cdv)) → sp vs H Q E →
      ∃ t, PSs (cxX P w K mg base N x (b9 st) f cdv A outer s H E) (g9 st) t ∧ t { nx := fun _ H' => Q .non H', rt := Q } (start N vs) H) : bj1 P w K mg base (k + 1) x f ps sp := by
  obtain ⟨fd, F, b⟩ := d.ex
  exact ⟨⟨fd, F.okX S len hbody, b⟩, d.m, F.kp⟩
theorem Def.imp {sp' : Sp} (d : Def P w K mg base CX k x f ps sp) (h : ∀ vs H Q E, sp' vs H Q E → sp vs H Q E) : Def P w K mg base CX k x f ps sp' :=
  let ⟨fd, F, b⟩ := d.ex
  ⟨⟨fd, F.imp h, b⟩, d.m, d.kp⟩
end
section
variable {X : Cx} {CX : CXT} {k j : Nat} {f : Addr} {ps : List Str} {sp : Sp} {E : XK} {x : Str} {p pos : Pos} {e : Expr} {es : List Expr} {t : TA}
def aQ9 (sp : Sp) (E : XK) (t : TA) : TE := fun σ H Q => t σ H fun vs H1 => sp vs H1 Q E
theorem d9 (d : Def X.prog X.w X.K X.mg X.base CX j x f ps sp) (hr : U8 k X.A) (ha : PA X (e :: es) t) (hx : au2 CX X E) (hj : j ≤ k := by decide) (hg : Gl X x := by rfl)
    (hdb : (x == ("__debug__" : Str)) = false := by decide) (he : starEach (e :: es) X.env = (false, eval e X.env) :: starEach es X.env := by rfl) (hpl : (backTo pos (starEach es X.env)).any (·.1) = false := by rfl) :
    PE X (.Call (.Name x p) (e :: es) [] pos) (aQ9 sp E t) := by
  obtain ⟨fd, F, b⟩ := d.ex
  have z := bf7 (E := E) (es := es) (e := e) (p := p) (pos := pos) (F.mono hj) hr hg d.m d.kp b .nil hx ha hdb he hpl
  intro pins s σ H Q I h
  refine z pins s σ H Q I ?_
  unfold bj7
  simpa only [List.append_nil, aQ9] using h
theorem bf6 (d : bj1 X.prog X.w X.K X.mg X.base j x f ps sp) (hr : O8 k X.A) (ha : PA X (e :: es) t) (hj : j ≤ k := by decide) (hg : Gl X x := by rfl)
    (hdb : (x == ("__debug__" : Str)) = false := by decide) (he : starEach (e :: es) X.env = (false, eval e X.env) :: starEach es X.env := by rfl) (hpl : (backTo pos (starEach es X.env)).any (·.1) = false := by rfl) :
    PE X (.Call (.Name x p) (e :: es) [] pos) (ah7 sp t) := by
  obtain ⟨fd, F, b⟩ := d.ex
  exact aZ8 F (hr.mono hj) hg d.m d.kp b ha hdb he hpl
end
theorem d5.new {H : Hp} {p : Addr} (h : H p = none) (o : HO) : d5 H (upd H p o) := fun b u q => by rw [i5 (g6 q h)]; exact q
theorem d5.tup {K : PySem.W.Frag} {H H' : Hp} {a : Addr} {xs : List V} (e : d5 H H') (h : SqT K H a xs) : SqT K H' a xs := by
  rcases h with h | h
  · rcases h with h | ⟨o, h⟩
    · exact .inl (.inl (e _ _ h))
    · exact .inl (.inr ⟨o, e _ _ h⟩)
  · exact .inr h
open PySem PySem.Spec PyProof.Rows
section
variable {prog : Program} {w : World} {A : Around} {R : Result → Shared → Prop} {s : Shared}
theorem az1 {elt target iter : Expr} {scope : Scope} {pos : Pos} {it acc : Value} {env : Env} (I : Nat → Shared → Prop)
    (turn : ∀ n s, I n s → wpAny (model prog w) A (pyNext it) (fun r s₁ => match r with
      | none => R (.ok .next) s₁
      | some v => wpAny (model prog w) A (letOwnedTupleGo target it v) (fun _ s₁' => wpAny (model prog w) A (assign target env v) (fun _ s₂ => wpAny (model prog w) A (eval elt env) (fun x s₃ =>
          wpAny (model prog w) A (call (.builtin "list.append") [acc, x]) (fun _ s₄ => ∃ m, m < n ∧ I m s₄) (fun _ _ => False) s₃)
          (fun _ _ => False) s₂) (fun _ _ => False) s₁') (fun _ _ => False) s₁) (fun _ _ => False) s)
    (n : Nat) (h : I n s) :
    codeAny (model prog w) A (.compLoop (.ListComp elt [⟨target, iter, [], 0⟩] scope pos) 0 it acc env) R s := by
  refine codeAny_loop rfl I (fun n s hI => ?_) n h
  show wpAny _ _ ((compTurn (.ListComp elt [⟨target, iter, [], 0⟩] scope pos) 0 it acc env).onRaise (fun x => do noteFrame x env; theTreesLotGoes x)) _ _ s
  refine wpAny_noted ?_
  rw [compTurn_list1]
  have no : ∀ {P : Value → Shared → Prop} (e : Value) (s : Shared), False → P e s := fun _ _ h => h.elim
  refine wpAny_bind (wpAny_standAt (wpAny_bind (wpAny_mono (turn n s hI) (fun r s₁ h₁ => ?_) no)))
  cases r with
  | none => exact wpAny_pure h₁
  | some v =>
    refine wpAny_bind (wpAny_mono h₁ (fun _ s₁' h₁' => ?_) no)
    exact wpAny_bind (wpAny_mono h₁' (fun _ s₂ h₂ => wpAny_bind (wpAny_bind (wpAny_mono h₂ (fun x s₃ h₃ => wpAny_bind (wpAny_mono h₃
      (fun _ s₄ h₄ => wpAny_pure (wpAny_pure ⟨rfl, h₄⟩)) no)) no))) no)
end
abbrev Cx.block (X : Cx) (scope : Scope) (cl : List (Str × Addr)) (C : Addr) (Nc : List Str) (s₂ : Shared) (H₂ : Hp) (fp : List Addr) (pins : List (Addr × Obj)) : Cx :=
  { X with N := Nc, s₀ := s₂, H₀ := H₂, env := compEnvC scope cl C X.env, outer := X.stack, ex := fp, fn := fun _ => false, pn := X.pn ++ pins, xe := fun _ _ => False }
def R1 (caps : List (Option Nat)) (σ : St) : St := caps.map fun o => o.bind fun j => (σ[j]?).join
def aW2 (wi : TI) (caps : List (Option Nat)) (g : TG) (te : TE) : TE := fun σ H Q => wi σ H fun J H1 => ∀ D, H1 D = none → ∃ W : Nat → Nat → St → Hp → Prop, (∃ m, W 0 m (R1 caps σ) (upd H1 D (.lst []))) ∧
  ∀ i m σc H2, W i m σc H2 → (J.stop i H2 ∧ Q (.ref D) H2) ∨
    (J.go i H2 ∧ ∀ x H3, J.yld i H2 x H3 → g x σc H3 fun σ4 H4 => te σ4 H4 fun y H5 => ∃ ys, H5 D = some (.lst ys) ∧ ys.length < sizeLine ∧ ∃ m', m' < m ∧ W (i + 1) m' σ4 (upd H5 D (.lst (ys ++ [y]))))
section
variable {X : Cx}
structure V9 (X : Cx) (scope : Scope) (cl : List (Str × Addr)) (Nc : List Str) (caps : List (Option Nat)) : Prop where
  clos : closureFor scope X.env = pure cl
  sub : ∀ x c, cl.lookup x = some c → X.env.cells.lookup x = some c
  has : ∀ x, (relabel scope X.env).names.lookup x = some .cell ∨ (relabel scope X.env).names.lookup x = some .free → ∃ c, cl.lookup x = some c
  nocell : ∀ x ∈ scope.names, x.2 ≠ .cell
  kind : scope.kind = .function
  names : ∀ x ∈ scope.names, x.2 = .local → scope.names.lookup x.1 = some .local
  len : caps.length = Nc.length
  cap : ∀ (i j : Nat) (x : Str), caps[i]? = some (some j) → Nc[i]? = some x → X.N[j]? = some x ∧ Vis X.env.scope x ∧ X.env.kindOf x ≠ some .local ∧ ((relabel scope X.env).names.lookup x = some .cell ∨ (relabel scope X.env).names.lookup x = some .free)
theorem Inv.sameC {pins : List (Addr × Obj)} {σ : St} {H H' : Hp} {s s' : Shared} {h'' : Heap} {fp : List Addr} {C : Addr} (I : Inv X pins σ H s) (hf : ∀ b ∈ fp, am6 X pins H b) (os : s'.os = s.os) (bare : AllBare s'.gens)
    (un : Un (frs X.stack) fp H H' s.heap s'.heap) (hok : HOk X.prog X.w H' s'.heap) (hC : s.heap.objs.size ≤ C) (hCn : H' C = none) (sb : Heap.SameBut C s'.heap h'') : Inv X pins σ H' { s' with heap := h'' } := by
  have ne : ∀ b o, s.heap.get? b = some o → b ≠ C := fun b o e => Nat.ne_of_lt (Nat.lt_of_lt_of_le (Heap.lt_size e) hC)
  refine I.call' (s' := { s' with heap := h'' }) (ch := fp) os ⟨fun b o e n h1 h2 => (sb.2 b (ne b o e)).trans (un.keep b o e n h1 h2), fun b o e n h1 h2 => ?_, un.free, fun b o e h2 => ?_, un.tups, un.frzs, un.tbls⟩ (fun b u e => ?_) bare (fun b hb => ?_)
  · obtain ⟨sl, z⟩ := un.slot b o e n h1 h2
    exact ⟨sl, (sb.2 b (ne b o e)).trans z⟩
  · obtain ⟨o', z⟩ := un.there b o e h2
    exact ⟨o', (sb.2 b (ne b o e)).trans z⟩
  · refine (hok b u e).stay (fun c v hc q => (sb.2 c ?_).trans q) (fun _ q => q) fun _ _ q => q
    rintro rfl
    rcases hc with rfl | hc
    · rw [hCn] at e; cases e
    · rw [hCn] at hc; cases hc
  · obtain ⟨_, f1, _, f3, f4, f5⟩ := hf b hb
    exact ⟨f3, f1, f4, f5⟩
theorem M0 {elt tg iter : Expr} {scope : Scope} {pos : Pos} {cl : List (Str × Addr)} {Nc : List Str} {caps : List (Option Nat)} {wi : TI} {g : TG} {te : TE} (hc : X.calm = true) (cp : V9 X scope cl Nc caps) (hi : PI X tg iter wi)
    (hg : ∀ C s₂ H₂ fp pins, PG (X.block scope cl C Nc s₂ H₂ fp pins) tg g) (he : ∀ C s₂ H₂ fp pins, PE (X.block scope cl C Nc s₂ H₂ fp pins) elt te) (hs : ∀ x, foldedSetIterable iter X.env x = pure x := by intro _; rfl) :
    PE X (.ListComp elt [⟨tg, iter, [], 0⟩] scope pos) (aW2 wi caps g te) := by
  intro pins s σ H Q I h
  rw [eval_ListComp]
  refine wpAny_comprehension_free (use := none) rfl hs cp.clos cp.kind cp.names ?_
  refine thn (hi pins s σ H _ I h) fun v s1 h1 => thn h1 fun itv s2 h2 => ?_
  obtain ⟨it, fp, tn, J, H2, e, I2, T, st2, f2, hW⟩ := h2
  subst e
  refine wpAny_newObj_type ?_ (by show 0 ≤ sizeLine; exact Nat.zero_le _)
  refine wpAny_newFunctionEnv cp.nocell (by intro y hy; simp at hy) (fun h4 hns hsb => ?_) cp.kind
  dsimp only at hns hsb ⊢
  generalize hH3 : s2.heap.push { cls := .type "list", dict := none, data := .seq ([] : List Value).toArray } = H3 at hns hsb ⊢
  have hCe : H3.objs.size = s2.heap.objs.size + 1 := by rw [← hH3, Heap.size_push]
  have ah6 : ∀ b o, s2.heap.get? b = some o → b ≠ H3.objs.size := fun b o e => by rw [hCe]; exact Nat.ne_of_lt (Nat.lt_succ_of_lt (Heap.lt_size e))
  have old : ∀ b o, s2.heap.get? b = some o → h4.get? b = some o := fun b o e => hsb.extBut b o (ah6 b o e) (Heap.get?_push_of_some _ (hH3 ▸ Heap.get?_push_of_some _ e))
  have hD : h4.get? s2.heap.objs.size = some { cls := .type "list", dict := none, data := .seq ([] : List Value).toArray } :=
    hsb.extBut _ _ (by rw [hCe]; exact Nat.ne_of_lt (Nat.lt_succ_self _)) (Heap.get?_push_of_some _ (hH3 ▸ Heap.get?_push_size _ rfl))
  have hDn : H2 s2.heap.objs.size = none := I2.fresh
  have hCn : H2 H3.objs.size = none := I2.hok.fresh (by rw [hCe]; exact Nat.le_succ _)
  have hCs : s2.heap.objs.size ≤ H3.objs.size := by rw [hCe]; exact Nat.le_succ _
  have hDC : s2.heap.objs.size ≠ H3.objs.size := by rw [hCe]; exact Nat.ne_of_lt (Nat.lt_succ_self _)
  have fpl : ∀ b ∈ fp, ∃ o, s2.heap.get? b = some o := fun b hb => let ⟨o, e, _⟩ := T.obj _ _ st2 b hb; ⟨o, e⟩
  have fpC : ∀ b ∈ fp, b ≠ H3.objs.size := fun b hb => let ⟨o, e⟩ := fpl b hb; ah6 b o e
  have fpD : ∀ b ∈ fp, b ≠ s2.heap.objs.size := fun b hb => let ⟨o, e⟩ := fpl b hb; Nat.ne_of_lt (Heap.lt_size e)
  have stkN : ∀ b, b ≠ X.env.locals → b ∉ X.fs → b ∉ frs X.stack := fun b h1 h2 z => (List.mem_cons.mp (I2.stkSub b z)).elim h1 h2
  obtain ⟨W, ⟨m0, w0⟩, turn⟩ := hW s2.heap.objs.size hDn
  have okB : (X.block scope cl H3.objs.size Nc s2 H2 fp pins).Ok := by
    refine ⟨I2.ok.mod, ?_, I2.ok.glob, I2.ok.blt, hCs, fun x y c h1 h2 => I2.ok.inj x y c (cp.sub x c h1) (cp.sub y c h2), fun x hx => cp.has x hx, fun x c h => (by cases h), I2.ok.hd, I2.ok.frames, .inl rfl, fun b hb => ⟨fpC b hb, fun x c h => (f2 b hb).2.2.2.2.1 x c (cp.sub x c h)⟩, I2.bs, Nat.le_trans I2.ok.bsz I2.sz, fun b o e hb => ?_, fun b hb => stkN b (f2 b hb).2.1 (f2 b hb).2.2.1, I2.stack, I2.stkFree⟩
    · exact cp.kind
    · rcases (f2 b hb).2.2.2.1 with z | z
      · exact I2.ok.noex b o e z
      · exact absurd (Nat.lt_of_lt_of_le (Heap.lt_size e) (Nat.le_trans I2.ok.bsz z)) (Nat.lt_irrefl _)
  have hokB : HOk X.prog X.w (upd H2 s2.heap.objs.size (.lst [])) h4 := I2.hok.laid old (Nat.le_refl _) ⟨Nat.zero_le _, [], _, .nil, hD⟩
  have IB : Inv (X.block scope cl H3.objs.size Nc s2 H2 fp pins) [] (R1 caps σ) (upd H2 s2.heap.objs.size (.lst [])) { s2 with heap := h4, toks := s2.toks + ([] : List (Str × Value)).length } := by
    refine ⟨okB, rfl, I2.bare, Un.laid old (Nat.le_refl _) hDn, ⟨_, hns, fun i x v e1 e2 e3 => ?_⟩, fun x c e => ?_, (show upd H2 s2.heap.objs.size (.lst []) H3.objs.size = none by rw [i5 (Ne.symm hDC)]; exact hCn), fun x c e => ?_, fun p hp => ?_, hokB, ?_⟩
    · unfold R1 at e2
      rw [List.getElem?_map] at e2
      cases hcap : caps[i]? with
      | none => rw [hcap] at e2; cases e2
      | some o =>
        rw [hcap] at e2
        cases o with
        | none => cases e2
        | some j =>
          have hj : σ[j]? = some (some v) := by
            have e2' : (σ[j]?).join = some v := Option.some.inj e2
            cases q : σ[j]? with
            | none => rw [q] at e2'; cases e2'
            | some z => rw [q] at e2'; exact congrArg some e2'
          obtain ⟨n1, n2, n3, n4⟩ := cp.cap i j x hcap e1
          obtain ⟨m, hm, hl⟩ := I2.loc
          obtain ⟨u, r, q⟩ := hl j x v n1 hj n2
          rcases q with ⟨k, _⟩ | ⟨k, c, ec, z⟩
          · exact absurd k n3
          · obtain ⟨c', ec'⟩ := cp.has x n4
            have := cp.sub x c' ec'
            rw [ec] at this; cases this
            obtain ⟨oc, ho, hd⟩ := z
            exact ⟨u, r, .inr ⟨n4, c, ec', oc, old _ _ ho, hd⟩⟩
    · obtain ⟨v, oc, ho, hd⟩ := I2.cell x c (cp.sub x c e)
      exact ⟨v, oc, old _ _ ho, hd⟩
    · obtain ⟨v, oc, ho, hd⟩ := I2.cell x c (cp.sub x c e)
      rw [i5 (Nat.ne_of_lt (Heap.lt_size ho))]
      exact I2.freeC x c (cp.sub x c e)
    · have hp' : p ∈ X.pn ++ pins := by simpa using hp
      obtain ⟨e1, e2, e3, e4, e5⟩ := I2.pin p hp'
      exact ⟨old _ _ e1, by rw [i5 (Nat.ne_of_lt (Heap.lt_size e1))]; exact e2, ah6 _ _ e1, stkN _ e3 e4, e5⟩
    · show (R1 caps σ).length = Nc.length
      unfold R1
      rw [List.length_map]; exact cp.len
  have stat : ∀ {H' : Hp}, (∀ b ∈ fp, H' b = none) → ∀ b ∈ fp, am6 (X.block scope cl H3.objs.size Nc s2 H2 fp pins) [] H' b := fun hn b hb =>
    ⟨hn b hb, fpC b hb, stkN b (f2 b hb).2.1 (f2 b hb).2.2.1, .inl hb, fun x c h => (f2 b hb).2.2.2.2.1 x c (cp.sub x c h), fun p hp => (f2 b hb).2.2.2.2.2 p (by simpa using hp)⟩
  have loop : ∀ s5 : Shared, s5 = { s2 with heap := h4, toks := s2.toks + ([] : List (Str × Value)).length } →
      codeAny (model X.prog X.w) X.A (.compLoop (.ListComp elt [⟨tg, iter, [], 0⟩] scope pos) 0 (.ref it) (.ref s2.heap.objs.size) (compEnvC scope cl H3.objs.size X.env))
        (compPost (model X.prog X.w) X.A X.xe none (EP X pins σ Q) (.ref s2.heap.objs.size) H3.objs.size) s5 := by
    rintro s5 rfl
    refine az1 (fun n s' => ∃ i σ' H', Inv (X.block scope cl H3.objs.size Nc s2 H2 fp pins) [] σ' H' s' ∧ tn i s'.heap ∧ (∀ b ∈ fp, H' b = none) ∧ W i n σ' H') ?_ m0 ⟨0, _, _, IB, T.keep _ _ _ st2 fun b hb o e => old b o e, fun b hb => by rw [i5 (fpD b hb)]; exact (f2 b hb).1, w0⟩
    rintro n s6 ⟨i, σ6, H6, I6, st6, fr6, w6⟩
    rcases turn i n σ6 H6 w6 with ⟨stop, qn⟩ | ⟨go, step⟩
    · refine thn (T.done (X.block scope cl H3.objs.size Nc s2 H2 fp pins) rfl rfl rfl hc i [] s6 σ6 H6 _ I6 (stat fr6) st6 stop) fun r s7 ⟨hr, I7⟩ => ?_
      subst hr
      obtain ⟨m7, hn7, _⟩ := id I7.loc
      exact ⟨m7, hn7, fun h' sb => ⟨.ref s2.heap.objs.size, H6, I2.sameC f2 I7.os I7.bare I7.base I7.hok hCs I7.free sb, rfl, qn⟩⟩
    · refine thn (T.item (X.block scope cl H3.objs.size Nc s2 H2 fp pins) rfl rfl rfl hc i [] s6 σ6 H6 _ I6 (stat fr6) st6 go) fun r s7 ⟨u, hr, h7⟩ => ?_
      subst hr
      refine thn h7 fun _ s8 ⟨x, H8, I8, r8, y8, st8, fr8⟩ => ?_
      have I8' := I8.pinned (stat fr8) (T.obj _ _ st8)
      refine thn (hg _ _ _ _ _ _ s8 σ6 H8 x u _ I8' r8 (step x H8 y8)) fun _ s9 ⟨σ9, H9, I9, q9⟩ => ?_
      refine thn (he _ _ _ _ _ _ s9 σ9 H9 _ I9 q9) fun u10 s10 ⟨v10, H10, I10, r10, ys, hys, hlen, m', hm', w'⟩ => ?_
      refine thn (N3 _ s10 σ9 H10 (.ref s2.heap.objs.size) [v10] (.ref s2.heap.objs.size) [u10] (fun _ H11 => H11 = upd H10 s2.heap.objs.size (.lst (ys ++ [v10]))) I10 rfl (.cons r10 .nil) ⟨_, ys, v10, rfl, rfl, hys, hlen, rfl⟩) fun _ s11 ⟨_, H11, I11, _, hH11⟩ => ?_
      subst hH11
      refine ⟨m', hm', i + 1, σ9, _, I11.unpinned, T.keep _ _ _ st8 fun b hb o e => (I11.pin (b, o) (List.mem_append_right _ (List.mem_append_right _ (K0 hb e)))).1, fun b hb => ?_, w'⟩
      obtain ⟨o, e, d⟩ := T.obj _ _ st8 b hb
      exact (I11.pin (b, o) (List.mem_append_right _ (List.mem_append_right _ (K0 hb e)))).2.1
  exact codeAny_compStart_list (loop _ rfl) (T.self _ 0 _ _ _ (T.keep _ _ _ st2 fun b hb o e => old b o e) (loop _ rfl))
end
open PySem PySem.Spec PyProof.Rows
def af2 (scope osc : Scope) : List (Str × NameKind) := scope.names.map fun (n, k) => if (k == .free && osc.kind == .function && osc.names.lookup n == some .cell) then (n, .cell) else (n, k)
def bh2 (o : Option NameKind) : Bool := o == some .cell || o == some .free
def bd9 (scope osc : Scope) (N ks Nc : List Str) (caps : List (Option Nat)) : Bool :=
  ((af2 scope osc).all fun y => !(y.2 == .cell || y.2 == .free) || ks.contains y.1) && (scope.names.all fun y => y.2 != .cell) && scope.kind == .function &&
  (scope.names.all fun y => y.2 != .local || scope.names.lookup y.1 == some .local) && caps.length == Nc.length &&
  ((caps.zip Nc).all fun p => match p.1 with
    | none => true
    | some j => N[j]? == some p.2 && bh2 (osc.names.lookup p.2) && bh2 ((af2 scope osc).lookup p.2))
theorem ar8 {α β : Type} [BEq α] [LawfulBEq α] : ∀ {l : List (α × β)} {x : α} {v : β}, l.lookup x = some v → (x, v) ∈ l
  | [], _, _, h => by simp at h
  | (a, b) :: r, x, v, h => by
    rw [List.lookup_cons] at h
    split at h
    · rename_i e
      have := eq_of_beq e
      subst this
      cases h
      exact List.mem_cons_self
    · exact List.mem_cons_of_mem _ (ar8 h)
theorem ac3 {β : Type} : ∀ {l : List (Str × β)} {x : Str}, x ∈ l.map (·.1) → ∃ c, l.lookup x = some c
  | [], _, h => by simp at h
  | (a, b) :: r, x, h => by
    rw [List.lookup_cons]
    by_cases e : x = a
    · subst e; exact ⟨b, by simp⟩
    · have : (x == a) = false := by simpa using e
      rw [this]
      rcases List.mem_cons.mp h with z | z
      · exact absurd z e
      · exact ac3 z
theorem aO9 {o : Option NameKind} (h : bh2 o = true) : o = some .cell ∨ o = some .free := by
  unfold bh2 at h
  simp only [Bool.or_eq_true, beq_iff_eq] at h
  exact h
theorem V9.of {X : Cx} {scope osc : Scope} {cl : List (Str × Addr)} {N ks Nc : List Str} {caps : List (Option Nat)} (clos : closureFor scope X.env = pure cl) (hN : X.N = N) (hosc : X.env.scope = osc) (hks : cl.map (·.1) = ks)
    (sub : ∀ x c, cl.lookup x = some c → X.env.cells.lookup x = some c) (ok : bd9 scope osc N ks Nc caps = true) : V9 X scope cl Nc caps := by
  unfold bd9 at ok
  simp only [Bool.and_eq_true, List.all_eq_true, beq_iff_eq, Bool.or_eq_true, Bool.not_eq_true', bne_iff_ne, ne_eq] at ok
  obtain ⟨⟨⟨⟨⟨o1, o2⟩, o3⟩, o4⟩, o5⟩, o6⟩ := ok
  have er : (relabel scope X.env).names = af2 scope osc := by subst hosc; rfl
  have kof : ∀ x, X.env.kindOf x = osc.names.lookup x := fun x => by subst hosc; rfl
  refine ⟨clos, sub, fun x h => ?_, fun x hx => o2 x hx, o3, fun x hx hl => ?_, o5, fun i j x h1 h2 => ?_⟩
  · rw [er] at h
    refine ac3 ?_
    rw [hks]
    have key : ∀ k, (af2 scope osc).lookup x = some k → (k = .cell ∨ k = .free) → x ∈ ks := fun k hk hcf => by
      rcases o1 (x, k) (ar8 hk) with z | z
      · rcases hcf with rfl | rfl <;> simp at z
      · simpa using z
    rcases h with h | h
    · exact key _ h (.inl rfl)
    · exact key _ h (.inr rfl)
  · rcases o4 x hx with z | z
    · exact absurd hl z
    · exact z
  · have hm : (some j, x) ∈ caps.zip Nc := by
      have : (caps.zip Nc)[i]? = some (some j, x) := by
        rw [List.getElem?_zip_eq_some]; exact ⟨h1, h2⟩
      exact List.mem_of_getElem? this
    have z := o6 _ hm
    simp only [Bool.and_eq_true, beq_iff_eq] at z
    obtain ⟨⟨z1, z2⟩, z3⟩ := z
    have c2 := aO9 z2
    have c3 := aO9 z3
    refine ⟨by rw [hN]; exact z1, ?_, ?_, ?_⟩
    · rw [hosc]
      rcases c2 with c | c
      · exact .inr (.inl c)
      · exact .inr (.inr c)
    · rw [kof]
      rcases c2 with c | c <;> rw [c] <;> decide
    · rw [er]; exact c3
open PySem PySem.Spec PyProof.Rows
section
variable {X : Cx} {pins : List (Addr × Obj)} {σ : St} {H : Hp} {s : Shared}
theorem Inv.turnLaid {h' : Heap} {t' : Nat} {fp : List Addr} {a : Addr} {o : HO} (I : Inv X pins σ H s) (hf : ∀ b ∈ fp, am6 X pins H b)
    (k : ∀ b u, b ∉ fp → s.heap.get? b = some u → h'.get? b = some u) (hp : s.heap.objs.size ≤ a) (new : F9 X.prog X.w (upd H a o) h' a o) : Inv X pins σ (upd H a o) { s with heap := h', toks := t' } := by
  have hn : H a = none := I.hok.fresh hp
  have nf : ∀ b u, H b = some u → b ∉ fp := fun b u e z => by rw [(hf b z).1] at e; cases e
  have ne : ∀ b u, s.heap.get? b = some u → b ≠ a := fun b u e => Nat.ne_of_lt (Nat.lt_of_lt_of_le (Heap.lt_size e) hp)
  refine I.step (g' := s.gens) (d' := s.drawn) (ch := fp) (fun b hb => ?_) (fun b o _ _ hc e _ => k b o hc e) (fun b o _ _ hc e _ => ⟨o.slots, k b o hc e⟩) (fun b o _ e n => by rw [i5 (ne b o e)]; exact n)
    (fun b o hc e => ⟨o, k b o hc e⟩) (fun b xs e => by rw [i5 (g6 e hn)]; exact e) (fun b o u e => by rw [i5 (g6 e hn)]; exact e) (fun b ps e => ⟨#[], by rw [i5 (g6 e hn), e]; simp⟩) (fun m hm => ?_) (fun b u e => ?_) I.bare
  · obtain ⟨_, f1, _, f3, f4, f5⟩ := hf b hb
    exact ⟨f3, f1, f4, f5⟩
  · obtain ⟨o, es, ep, ho, r⟩ := hm
    exact ⟨o, es, ep, k _ o (fun z => (hf _ z).2.1 rfl) ho, r⟩
  · by_cases hb : b = a
    · subst hb; rw [b8] at e; cases e; exact new
    · rw [i5 hb] at e
      refine (I.hok b u e).stay (fun c v hc q => k c v ?_ q) (fun c q => by rw [i5 (g6 q hn)]; exact q) fun c xs q => by rw [i5 (g6 q hn)]; exact q
      rcases hc with z | z
      · rw [z]; exact nf b u e
      · exact nf c _ z
end
def Ite (K : PySem.W.Frag) (a : Addr) : It :=
  ⟨fun i H => ∃ xs x, SqL K H a xs ∧ xs[i]? = some x, fun i H y H' => ∀ xs, SqL K H a xs → ∃ x p, xs[i]? = some x ∧ H p = none ∧ y = .ref p ∧ H' = upd H p (.tup [.int i, x]), fun i H => ∃ xs, SqL K H a xs ∧ xs.length ≤ i⟩
theorem aQ4 {P : Program} {w : World} {K : PySem.W.Frag} {elts : List Expr} {k : Nat} {tpos : Pos} (a e it : Addr) (hei : e ≠ it) :
    aU5 P w K (.Tuple elts k tpos) (Ite K a) [e, it] e (fun i h => (∃ old, IsEnum h e it ((i : Nat) : Int) old) ∧ h.IsListIter it a i) where
  mem := by simp
  obj := fun i h st b hb => by
    obtain ⟨⟨old, he⟩, hit⟩ := st
    rcases (by simpa using hb : b = e ∨ b = it) with z | z
    · subst z
      exact ⟨_, he, fun v z => by cases z⟩
    · subst z
      obtain ⟨o, e, c, d⟩ := hit
      exact ⟨o, e, fun v z => by rw [d] at z; cases z⟩
  keep := fun i h h' st k => ⟨let ⟨old, he⟩ := st.1; ⟨old, k e (by simp) _ he⟩, st.2.at fun o e => k it (by simp) o e⟩
  item := by
    intro X hP hw hK hc i pins s σ H E I hf st hg
    subst hP hw hK
    obtain ⟨xs, x, hq, hx⟩ := hg
    obtain ⟨its, rv, p, hz⟩ := I.list hq
    obtain ⟨u, hu, ru⟩ := rv.get hx
    obtain ⟨⟨old, he⟩, hit⟩ := st
    have helt : e < s.heap.objs.size := Heap.lt_size he
    have hilt : it < s.heap.objs.size := by obtain ⟨_, x, _⟩ := id hit; exact Heap.lt_size x
    refine wpAny_pyNext_enum_item he hit p.isList (x := u) (by simpa using hu) hei fun h' ho hit' hT hsz kk => ?_
    refine ⟨_, rfl, ?_⟩
    refine wpAny_letOwnedTupleGo_enum (s := { s with heap := h', toks := s.toks + 1 }) ho fun h'' he' sb => ?_
    have hT' : h''.get? s.heap.objs.size = some { cls := .type "tuple", data := .seq #[.int i s.toks, u] } := (sb.2 _ (Nat.ne_of_gt helt)).trans hT
    refine ⟨.ref s.heap.objs.size, upd H s.heap.objs.size (.tup [.int i, x]), I.turnLaid (fp := [e, it]) (t' := s.toks + 1) hf (fun b v hb q => ?_) (Nat.le_refl _) ?_, rfl, ?_, ?_, fun b hb => ?_⟩
    · have h1 : b ≠ e := fun z => hb (by simp [z])
      have h2 : b ≠ it := fun z => hb (by simp [z])
      exact (sb.2 b h1).trans (kk b v h1 h2 q)
    · exact ⟨(show 2 ≤ sizeLine by decide +kernel), [.int i s.toks, u], .cons ⟨_, rfl⟩ (.cons ru .nil), _, hT', rfl, _, rfl⟩
    · intro ys hy
      rw [I.list_inj hy hq]
      exact ⟨x, _, hx, I.fresh, rfl, rfl⟩
    · refine ⟨⟨u, by have := he'; simpa using this⟩, hit'.at fun o q => (sb.2 it hei.symm).trans q⟩
    · have hlt : b < s.heap.objs.size := by
        rcases (by simpa using hb : b = e ∨ b = it) with z | z
        · rw [z]; exact helt
        · rw [z]; exact hilt
      rw [i5 (Nat.ne_of_lt hlt)]
      exact (hf b hb).1
  done := by
    intro X hP hw hK hc i pins s σ H E I hf st hg
    subst hP hw hK
    obtain ⟨xs, hq, hx⟩ := hg
    obtain ⟨its, rv, p, hz⟩ := I.list hq
    obtain ⟨⟨old, he⟩, hit⟩ := st
    obtain ⟨f0, f1, f2, f3, f4, f5⟩ := hf it (by simp)
    have hl := rv.length
    exact wpAny_pyNext_enum_end (I.ok.hd hc) he hit p.isList (by simp; omega) fun h' eb => ⟨rfl, I.turned (t' := s.toks) (fun b o hb e => eb b o hb e) f0 f1 f3 f4 f5⟩
  self := fun _ _ _ _ _ st h => by
    obtain ⟨⟨old, he⟩, _⟩ := st
    exact wpAny_pyIter_enum he h
section
variable {X : Cx}
def aI7 (K : PySem.W.Frag) (ta : TA) : TI := fun σ H R => ta σ H fun vs H1 => ∃ a, vs = [.ref a] ∧ (∃ xs, SqL K H1 a xs) ∧ R (Ite K a) H1
theorem V4 {elts : List Expr} {k : Nat} {tpos : Pos} {l : Expr} {ta : TA} {p pos : Pos} (hg : Gl X "enumerate") (hm : X.mg "enumerate" = none) (ha : PA X [l] ta) (hs : starEach [l] X.env = [(false, eval l X.env)] := by rfl) :
    PI X (.Tuple elts k tpos) (.Call (.Name "enumerate" p) [l] [] pos) (aI7 X.K ta) := by
  intro pins s σ H R I h
  refine Call_ (Z9 I hg hm (u := .type "enumerate") (by decide +kernel) (PyProof.Rows.callWith_type1 (thn (ha pos pins s σ H _ I h) fun us s1 ⟨vs, H1, I1, r1, q1⟩ => ?_) hs rfl))
  obtain ⟨a, e, ⟨xs, hq⟩, q⟩ := q1
  subst e
  obtain ⟨u, rfl, rx⟩ := ab7 r1
  cases rx
  obtain ⟨its, rv, p, hz⟩ := I1.list hq
  refine call_enumerate_list p.isList fun h' he hit hsz kk => ?_
  refine wpAny_pyIter_enum he ?_
  have I2 : Inv X pins σ H1 { s1 with heap := h' } := I1.kept (t' := s1.toks) kk
  refine ⟨s1.heap.objs.size + 1, [s1.heap.objs.size + 1, s1.heap.objs.size], _, _, H1, rfl, I2, aQ4 a _ _ (Nat.succ_ne_self _), ⟨⟨_, he⟩, hit⟩, fun b hb => ?_, q⟩
  have hb' : s1.heap.objs.size ≤ b := by
    rcases (by simpa using hb : b = s1.heap.objs.size + 1 ∨ b = s1.heap.objs.size) with z | z
    · rw [z]; exact Nat.le_succ _
    · rw [z]; exact Nat.le_refl _
  obtain ⟨f0, f1, f2, f3, f4, f5⟩ := I1.fpOk (H' := H1) hb' (I1.hok.fresh hb')
  exact ⟨f0, f1, f2, f3, f4, f5⟩
end
def be7 (wi : TI) (caps : List (Option Nat)) (g : TG) (tt : TT) (te : TE) : TE := fun σ H Q => wi σ H fun J H1 => ∀ D, H1 D = none → ∃ W : Nat → Nat → St → Hp → Prop, (∃ m, W 0 m (R1 caps σ) (upd H1 D (.lst []))) ∧
  ∀ i m σc H2, W i m σc H2 → (J.stop i H2 ∧ Q (.ref D) H2) ∨
    (J.go i H2 ∧ ∀ x H3, J.yld i H2 x H3 → g x σc H3 fun σ4 H4 => tt σ4 H4 fun b H4' => if b = true then te σ4 H4' fun y H5 => ∃ ys, H5 D = some (.lst ys) ∧ ys.length < sizeLine ∧ ∃ m', m' < m ∧ W (i + 1) m' σ4 (upd H5 D (.lst (ys ++ [y])))
      else ∃ m', m' < m ∧ W (i + 1) m' σ4 H4')
open PySem PySem.Spec PyProof.Rows
section
variable {X : Cx}
theorem aw0 (bs : List Bool) : (List.range bs.length).all (fun i => (bs[i]?).getD true) = bs.all id := by
  induction bs with
  | nil => rfl
  | cons b bs ih =>
    rw [List.length_cons, aa4, List.all_cons, ← ih]
    rfl
theorem ah5 (hc : X.calm = true) : V5 X (.builtin "all") (fun xs H Q => ∃ (p : Addr) (bs : List Bool), xs = [.ref p] ∧ SqL X.K H p (bs.map V.bl) ∧ Q (.bl (bs.all id)) H) := by
  intro pins s σ H xs us Q I r h
  obtain ⟨p, bs, rfl, hq, q⟩ := h
  obtain ⟨u, rfl, rx⟩ := ab7 r
  cases rx
  obtain ⟨its, r', pl, hz⟩ := I.list hq
  have hlen : its.length = bs.length := by rw [← r'.length, List.length_map]
  have hp : p ≠ s.heap.objs.size := by
    obtain ⟨o, ho, _⟩ := pl.isList
    exact Nat.ne_of_lt (Heap.lt_size ho)
  refine call_all_walk (wpAny_pyIter_list pl.isList ?_)
  refine ⟨s.heap.objs.size, _, _, _, _, _, fun i => (bs[i]?).getD true, rfl, Walks.list (A := X.A.in1) (I.ok.hd hc) _ p hp its.toArray, ⟨⟨_, Heap.get?_push_size _ rfl, rfl, rfl⟩, pl.isList.at fun o e => Heap.get?_push_of_some _ e⟩, ?_, ?_⟩
  · intro i v s' Q' E' hv hQ
    have hv' : its[i]? = some v := by simpa using hv
    have hi : i < bs.length := by rw [← hlen]; exact (List.getElem?_eq_some_iff.mp hv').1
    obtain ⟨u, hu, ru⟩ := r'.get (i := i) (x := .bl bs[i]) (by rw [List.getElem?_map, List.getElem?_eq_getElem hi]; rfl)
    rw [hv'] at hu
    cases hu
    cases ru
    simp only [List.getElem?_eq_getElem hi] at hQ
    exact wpAny_truthy_bool hQ
  · intro h' tk kk
    have e : (List.range its.toArray.size).all (fun i => (bs[i]?).getD true) = bs.all id := by rw [List.size_toArray, hlen, aw0]
    rw [e]
    refine ⟨.bl _, H, I.kept (t' := tk) fun b o e => kk b o ?_ (Heap.get?_push_of_some _ e), rfl, q⟩
    intro z
    have : b = s.heap.objs.size := by simpa using z
    exact absurd (Heap.lt_size e) (by rw [this]; exact Nat.lt_irrefl _)
def bs4 (K : PySem.W.Frag) : R2 := fun x y H Q => ∃ d d', d.isV = false ∧ IsD K H x d ∧ IsD K H y d' ∧ okD d d' = true ∧ dpD d ≤ 60 ∧ Q (.bl (!eqD d d')) H
theorem ad2 (hu : X.A.units + 64 < cLine) : OpR X (compareOp .NotEq) (bs4 X.K) := by
  intro pins s σ H x y v u Q I rx ry h
  obtain ⟨d, d', nf, h1, h2, ok, dp, q⟩ := h
  have fin : EP X pins σ Q (.bool (!eqD d d')) s := ⟨.bl _, H, I, rfl, q⟩
  cases h1 with
  | v f =>
    cases h2 with
    | v f' => exact absurd (show true = false from nf) (by decide)
    | tup _ _ => simp [okD] at ok
    | lst _ _ => simp [okD] at ok
  | @tup p xs ds h t =>
    cases h2 with
    | v f' => simp [okD] at ok
    | @tup p' ys ds' h' t' =>
      cases (show v = Value.ref p from rx)
      cases (show u = Value.ref p' from ry)
      rw [okD] at ok
      rw [dpD] at dp
      rw [eqD] at fin
      obtain ⟨its, r1, i1, _⟩ := I.tuple h
      obtain ⟨its', r2, i2, _⟩ := I.tuple h'
      have q' : ∀ (j : Nat) (h1 : j < its.length) (h2 : j < its'.length), SeqAt.EqAt X.A.in1 s its[j] its'[j] (aa2 ds ds' j) := fun j h1 h2 => Y7 (A := X.A.in1) I t t' ok r1 r2 (by show X.A.units + 1 + _ < _; omega) j h1 h2
      have z := SeqAt.RcNeAt.tuples (A := X.A) (items := its.toArray) (items2 := its'.toArray) (e := aa2 ds ds') i1 i2 (by omega) (fun j h1 h2 => q' j (by simpa using h1) (by simpa using h2))
      have e1 : its.toArray.size = ds.length := by rw [List.size_toArray, ← r1.length, t.length]
      have e2 : its'.toArray.size = ds'.length := by rw [List.size_toArray, ← r2.length, t'.length]
      rw [e1, e2, ab4] at z
      exact PySem.EqBoolInt.of_rcne z fin
    | lst _ _ => simp [okD] at ok
  | @lst p xs ds h t =>
    cases h2 with
    | v f' => simp [okD] at ok
    | tup _ _ => simp [okD] at ok
    | @lst p' ys ds' h' t' =>
      cases (show v = Value.ref p from rx)
      cases (show u = Value.ref p' from ry)
      rw [okD] at ok
      rw [dpD] at dp
      rw [eqD] at fin
      obtain ⟨its, r1, i1, _⟩ := I.list h
      obtain ⟨its', r2, i2, _⟩ := I.list h'
      have q' : ∀ (j : Nat) (h1 : j < its.length) (h2 : j < its'.length), SeqAt.EqAt X.A.in1 s its[j] its'[j] (aa2 ds ds' j) := fun j h1 h2 => Y7 (A := X.A.in1) I t t' ok r1 r2 (by show X.A.units + 1 + _ < _; omega) j h1 h2
      have e1 : its.toArray.size = ds.length := by rw [List.size_toArray, ← r1.length, t.length]
      have e2 : its'.toArray.size = ds'.length := by rw [List.size_toArray, ← r2.length, t'.length]
      by_cases hl : ds.length = ds'.length
      · have z := SeqAt.RcNeAt.lists (A := X.A) (items := its.toArray) (items2 := its'.toArray) (e := aa2 ds ds') i1.isList i2.isList (by rw [e1, e2, hl]) (by omega) (fun j h1 h2 => q' j (by simpa using h1) (by simpa using h2))
        rw [e1, ac5 ds ds' hl] at z
        exact PySem.EqBoolInt.of_rcne z fin
      · rw [as8 ds ds' hl] at fin
        exact PySem.EqBoolInt.of_rcne (SeqAt.RcNeAt.lists_lengths (A := X.A) i1.isList i2.isList (by rw [e1, e2]; simpa using hl) (by omega)) fin
def ak2 (xs : List V) (lo hi st : Option Int) : List V :=
  (sliceRange (sliceBounds lo hi st xs.length).1 (sliceBounds lo hi st xs.length).2.1 (sliceBounds lo hi st xs.length).2.2).filterMap (xs[·]?)
theorem m8.picks {xs : List V} {us : List Value} (r : m8 xs us) : ∀ ks : List Nat, m8 (ks.filterMap (xs[·]?)) (ks.filterMap (us[·]?))
  | [] => .nil
  | k :: ks => by
    rw [List.filterMap_cons, List.filterMap_cons]
    cases h : xs[k]? with
    | none => rw [r.none_of h]; exact r.picks ks
    | some x =>
      obtain ⟨u, hu, ru⟩ := r.get h
      rw [hu]
      exact .cons ru (r.picks ks)
def aV7 (K : PySem.W.Frag) (te : TE) (tl th tk : TO) : TE := fun σ H Q => te σ H fun x H1 => tl σ H1 fun l H2 => th σ H2 fun u H3 => tk σ H3 fun k H4 =>
  ∃ a xs, x = .ref a ∧ SqL K H4 a xs ∧ k ≠ some 0 ∧ ∀ p, H4 p = none → Q (.ref p) (upd H4 p (.lst (ak2 xs l u k)))
theorem aR9 {e : Expr} {te : TE} {lo hi : Option Expr} {st : Expr} {tl th tk : TO} {pos p2 : Pos} (he : PE X e te) (hl : PO X lo tl) (hu : PO X hi th) (hk : PO X (some st) tk) : PE X (.Subscript e (.Slice lo hi (some st) p2) pos) (aV7 X.K te tl th tk) := by
  intro pins s σ H Q I h
  refine Subscript_ (thn (he pins s σ H _ I h) fun v s1 ⟨x, H1, I1, r1, q1⟩ => ?_)
  refine wpAny_Slice (thn (hl pins s1 σ H1 _ I1 q1) fun vl s2 ⟨l, H2, I2, pl, q2⟩ => thn (hu pins s2 σ H2 _ I2 q2) fun vu s3 ⟨u, H3, I3, pu, q3⟩ => thn (hk pins s3 σ H3 _ I3 q3) fun vk s4 ⟨k, H4, I4, pk, q4⟩ => ?_)
  obtain ⟨a, xs, rfl, hq, h0, q⟩ := q4
  cases r1
  have I5 : Inv X pins σ H4 { s4 with heap := s4.heap.push { cls := .type "slice", data := .fields #[vl, vu, vk] } } := I4.kept (t' := s4.toks) fun b ob q => Heap.get?_push_of_some _ q
  obtain ⟨its, r, ht, hz⟩ := I5.list hq
  have hlen := r.length
  show wpAny (model X.prog X.w) X.A (subscriptTail e (.Slice lo hi (some st) p2) (.ref a) (.ref s4.heap.objs.size)) (EP X pins σ Q) X.xe { s4 with heap := s4.heap.push { cls := .type "slice", data := .fields #[vl, vu, vk] } }
  refine tail_any (ops := [.ref a, .ref s4.heap.objs.size]) (s := { s4 with heap := s4.heap.push { cls := .type "slice", data := .fields #[vl, vu, vk] } }) (T := "list") ht.isList.typeIs slot_list_getitem.lookup ?_ (by with_unfolding_all rfl)
  refine wpAny_getItem_list_slice ht.isList (Heap.IsSliceOf.new ..) pl pu pk h0 ?_ (by rw [List.size_toArray] <;> omega)
  have ep : (slicePick its.toArray l u k) = ((sliceRange (sliceBounds l u k xs.length).1 (sliceBounds l u k xs.length).2.1 (sliceBounds l u k xs.length).2.2).filterMap (its[·]?)).toArray := by
    unfold slicePick
    rw [List.size_toArray, ← hlen]
    simp
  rw [ep]
  have hv : m8 (ak2 xs l u k) ((sliceRange (sliceBounds l u k xs.length).1 (sliceBounds l u k xs.length).2.1 (sliceBounds l u k xs.length).2.2).filterMap (its[·]?)) := m8.picks r _
  have hsz := slicePick_size_le its.toArray l u k
  rw [ep, List.size_toArray, List.size_toArray, ← hv.length] at hsz
  refine ⟨.ref _, _, I5.laid (t' := s4.toks) (o := .lst (ak2 xs l u k)) (fun b ob q => Heap.get?_push_of_some _ q) (Nat.le_refl _) ?_, rfl, q _ (I5.hok.fresh (Nat.le_refl _))⟩
  exact ⟨by omega, _, 0, hv, Heap.get?_push_size _ rfl⟩
end
def N5 (D : Addr) (n : Nat) (Pv : Nat → St → Hp → Prop) (i : Nat) (σ4 : St) (y : V) (H5 : Hp) : Prop :=
  ∃ ys, H5 D = some (.lst ys) ∧ ys.length < sizeLine ∧ ∃ m', m' < n - i ∧ (m' = n - (i + 1) ∧ i + 1 ≤ n ∧ Pv (i + 1) σ4 (upd H5 D (.lst (ys ++ [y]))))
theorem N5.mk {D : Addr} {n : Nat} {Pv : Nat → St → Hp → Prop} {i : Nat} {σ4 : St} {y : V} {H5 : Hp} {ys : List V} (hi : i < n) (h : H5 D = some (.lst ys)) (hl : ys.length < sizeLine) (p : Pv (i + 1) σ4 (upd H5 D (.lst (ys ++ [y])))) : N5 D n Pv i σ4 y H5 :=
  ⟨ys, h, hl, _, by omega, rfl, hi, p⟩
section
variable {K : PySem.W.Frag} {a D : Addr} {xs : List V} {g : TG} {te : TE} {σ0 : St} {H0 : Hp} {Q : VK}
theorem aT7 (Pv : Nat → St → Hp → Prop) (h0 : Pv 0 σ0 H0) (hl : ∀ i σ H, i ≤ xs.length → Pv i σ H → SqL K H a xs)
    (hs : ∀ i x σ H, xs[i]? = some x → Pv i σ H → g x σ H fun σ4 H4 => te σ4 H4 fun y H5 => N5 D xs.length Pv i σ4 y H5) (hd : ∀ σ H, Pv xs.length σ H → Q (.ref D) H) :
    ∃ W : Nat → Nat → St → Hp → Prop, (∃ m, W 0 m σ0 H0) ∧ ∀ i m σc H2, W i m σc H2 → ((Itl K a).stop i H2 ∧ Q (.ref D) H2) ∨
      ((Itl K a).go i H2 ∧ ∀ x H3, (Itl K a).yld i H2 x H3 → g x σc H3 fun σ4 H4 => te σ4 H4 fun y H5 => ∃ ys, H5 D = some (.lst ys) ∧ ys.length < sizeLine ∧ ∃ m', m' < m ∧ W (i + 1) m' σ4 (upd H5 D (.lst (ys ++ [y])))) := by
  refine ⟨fun i m σ H => m = xs.length - i ∧ i ≤ xs.length ∧ Pv i σ H, ⟨xs.length, by simp, Nat.zero_le _, h0⟩, ?_⟩
  rintro i m σ H ⟨rfl, hi, p⟩
  have q := hl i σ H hi p
  by_cases hlt : i < xs.length
  · refine .inr ⟨⟨xs, xs[i], q, List.getElem?_eq_getElem hlt⟩, ?_⟩
    rintro x H3 ⟨rfl, hx⟩
    exact hs i x σ _ (hx xs q) p
  · have e : i = xs.length := by omega
    subst e
    exact .inl ⟨⟨xs, q, Nat.le_refl _⟩, hd σ H p⟩
end
end L2
namespace R
theorem Y2 {n d : Int} (hd : 0 < d) (hc : Int.gcd n d = 1) : (Rat.divInt n d).num = n ∧ ((Rat.divInt n d).den : Int) = d := by
  obtain ⟨k, rfl⟩ : ∃ k : Nat, d = k := ⟨d.toNat, by omega⟩
  have hk : k ≠ 0 := by omega
  have hc' : n.natAbs.Coprime k := by
    rw [Int.gcd_eq_natAbs_gcd_natAbs] at hc
    simpa [Nat.Coprime] using hc
  have e : (⟨n, k, hk, hc'⟩ : Rat) = Rat.divInt n k := Rat.mk_eq_divInt
  rw [← e]
  exact ⟨rfl, rfl⟩
theorem K4 {n d t b : Int} (hd : 0 < d) (hc : Int.gcd n d = 1) (hb : b ≠ 0) (h : n * b = t * d) : n = (Rat.divInt t b).num ∧ d = ((Rat.divInt t b).den : Int) := by
  have e : Rat.divInt n d = Rat.divInt t b := (Rat.divInt_eq_divInt_iff (by omega) hb).mpr h
  obtain ⟨h1, h2⟩ := Y2 hd hc
  rw [e] at h1 h2
  exact ⟨h1.symm, h2.symm⟩
theorem j2 {g n : Int} (hg : g ≠ 0) : (g * n).fdiv g = n := by
  rw [Int.mul_comm]; exact Int.mul_fdiv_cancel n hg
theorem K3 {t b : Int} (hb : b ≠ 0) : 0 < Int.gcd t b := Int.gcd_pos_of_ne_zero_right t hb
theorem P7 {t b n d : Int} (hb : b ≠ 0) (h1 : t = (Int.gcd t b : Int) * n) (h2 : b = (Int.gcd t b : Int) * d) : Int.gcd n d = 1 := by
  have hg := K3 (t := t) hb
  have e : Int.gcd ((Int.gcd t b : Int) * n) ((Int.gcd t b : Int) * d) = Int.gcd t b * Int.gcd n d := by
    rw [Int.gcd_mul_left]; simp
  rw [← h1, ← h2] at e
  exact Nat.eq_of_mul_eq_mul_left hg (by rw [← e, Nat.mul_one])
theorem aC8 {t b g : Int} (hb : b ≠ 0) (hg : g = if b < 0 then -(Int.gcd t b : Int) else (Int.gcd t b : Int)) : t.fdiv g = (Rat.divInt t b).num ∧ b.fdiv g = ((Rat.divInt t b).den : Int) := by
  have hp : (0 : Int) < Int.gcd t b := by have := K3 (t := t) hb; omega
  obtain ⟨n, hn⟩ := Int.gcd_dvd_left t b
  obtain ⟨d, hd⟩ := Int.gcd_dvd_right t b
  have hc := P7 hb hn hd
  by_cases hs : b < 0
  · rw [if_pos hs] at hg
    subst hg
    have hg0 : (-(Int.gcd t b : Int)) ≠ 0 := by omega
    have e1 : t = -(Int.gcd t b : Int) * (-n) := by rw [Int.neg_mul_neg]; exact hn
    have e2 : b = -(Int.gcd t b : Int) * (-d) := by rw [Int.neg_mul_neg]; exact hd
    have f1 : t.fdiv (-(Int.gcd t b : Int)) = -n := by conv => lhs; arg 1; rw [e1]
                                                       exact j2 hg0
    have f2 : b.fdiv (-(Int.gcd t b : Int)) = -d := by conv => lhs; arg 1; rw [e2]
                                                       exact j2 hg0
    rw [f1, f2]
    have hd0 : 0 < -d := by
      rcases Int.lt_or_le d 0 with z | z
      · omega
      · have := Int.mul_nonneg (Int.le_of_lt hp) z; omega
    refine K4 hd0 (by rw [Int.gcd_neg, Int.neg_gcd]; exact hc) hb ?_
    conv => lhs; rw [hd]
    conv => rhs; rw [hn]
    generalize (Int.gcd t b : Int) = g
    grind
  · rw [if_neg hs] at hg
    subst hg
    have hg0 : ((Int.gcd t b : Int)) ≠ 0 := by omega
    have f1 : t.fdiv (Int.gcd t b : Int) = n := by conv => lhs; arg 1; rw [hn]
                                                   exact j2 hg0
    have f2 : b.fdiv (Int.gcd t b : Int) = d := by conv => lhs; arg 1; rw [hd]
                                                   exact j2 hg0
    rw [f1, f2]
    have hd0 : 0 < d := by
      rcases Int.lt_or_le 0 d with z | z
      · exact z
      · have := Int.mul_nonneg (Int.le_of_lt hp) (show 0 ≤ -d by omega); rw [Int.mul_neg] at this; omega
    refine K4 hd0 hc hb ?_
    conv => lhs; rw [hd]
    conv => rhs; rw [hn]
    generalize (Int.gcd t b : Int) = g
    grind
theorem ak6 {x y : Int} (h : ∀ k : Int, k ∣ x → k ∣ y → k ∣ 1) : Int.gcd x y = 1 := by
  have := h (Int.gcd x y : Int) (Int.gcd_dvd_left x y) (Int.gcd_dvd_right x y)
  have h2 := Int.natAbs_dvd_natAbs.mpr this
  simpa using h2
theorem at2 {x y k : Int} (h : Int.gcd x y = 1) (h1 : k ∣ x) (h2 : k ∣ y) : k ∣ 1 := by
  have := Int.dvd_coe_gcd h1 h2
  rw [h] at this
  simpa using this
theorem P8 {k m n : Int} (h1 : Int.gcd k m = 1) (h2 : Int.gcd k n = 1) : Int.gcd k (m * n) = 1 := by
  rw [Int.gcd_eq_natAbs_gcd_natAbs] at *
  rw [Int.natAbs_mul]
  exact Nat.Coprime.mul_right h1 h2
theorem aa3 {k m : Int} (h1 : Int.gcd k m = 1) : Int.gcd m k = 1 := by rw [Int.gcd_comm]; exact h1
theorem aD8 {k m n : Int} (h1 : Int.gcd k m = 1) (h : n ∣ m) : Int.gcd k n = 1 := ak6 fun j a b => at2 h1 a (Int.dvd_trans b h)
theorem ah3 {k m n : Int} (h1 : Int.gcd k m = 1) (h : n ∣ k) : Int.gcd n m = 1 := ak6 fun j a b => at2 h1 (Int.dvd_trans a h) b
theorem aV6 {a b c d g1 g2 : Int} (hb : 0 < b) (hd : 0 < d) (h1 : Int.gcd a b = 1) (h2 : Int.gcd c d = 1) (hg1 : g1 = (Int.gcd a d : Int)) (hg2 : g2 = (Int.gcd c b : Int)) :
    0 < b.fdiv g2 * d.fdiv g1 ∧ Int.gcd (a.fdiv g1 * c.fdiv g2) (b.fdiv g2 * d.fdiv g1) = 1 ∧ (a.fdiv g1 * c.fdiv g2) * (b * d) = (a * c) * (b.fdiv g2 * d.fdiv g1) := by
  have p1 : 0 < g1 := by rw [hg1]; have := K3 (t := a) (b := d) (by omega); omega
  have p2 : 0 < g2 := by rw [hg2]; have := K3 (t := c) (b := b) (by omega); omega
  obtain ⟨a', ha'⟩ : g1 ∣ a := hg1 ▸ Int.gcd_dvd_left a d
  obtain ⟨d', hd'⟩ : g1 ∣ d := hg1 ▸ Int.gcd_dvd_right a d
  obtain ⟨c', hc'⟩ : g2 ∣ c := hg2 ▸ Int.gcd_dvd_left c b
  obtain ⟨b', hb'⟩ : g2 ∣ b := hg2 ▸ Int.gcd_dvd_right c b
  have c1 : Int.gcd a' d' = 1 := P7 (t := a) (b := d) (by omega) (by rw [← hg1]; exact ha') (by rw [← hg1]; exact hd')
  have c2 : Int.gcd c' b' = 1 := P7 (t := c) (b := b) (by omega) (by rw [← hg2]; exact hc') (by rw [← hg2]; exact hb')
  have ea : a.fdiv g1 = a' := by rw [ha']; exact j2 (by omega)
  have ed : d.fdiv g1 = d' := by rw [hd']; exact j2 (by omega)
  have ec : c.fdiv g2 = c' := by rw [hc']; exact j2 (by omega)
  have eb : b.fdiv g2 = b' := by rw [hb']; exact j2 (by omega)
  rw [ea, ed, ec, eb]
  have bp : 0 < b' := by
    rcases Int.lt_or_le 0 b' with z | z
    · exact z
    · have := Int.mul_nonneg (Int.le_of_lt p2) (show 0 ≤ -b' by omega); rw [Int.mul_neg] at this; omega
  have dp : 0 < d' := by
    rcases Int.lt_or_le 0 d' with z | z
    · exact z
    · have := Int.mul_nonneg (Int.le_of_lt p1) (show 0 ≤ -d' by omega); rw [Int.mul_neg] at this; omega
  have x1 : Int.gcd a' b' = 1 := aD8 (ah3 h1 (ha' ▸ Int.dvd_mul_left _ _)) (hb' ▸ Int.dvd_mul_left _ _)
  have x2 : Int.gcd c' d' = 1 := aD8 (ah3 h2 (hc' ▸ Int.dvd_mul_left _ _)) (hd' ▸ Int.dvd_mul_left _ _)
  refine ⟨Int.mul_pos bp dp, aa3 (P8 (aa3 (P8 x1 c1)) (aa3 (P8 c2 x2))), ?_⟩
  rw [ha', hb', hc', hd']
  grind
theorem aa9 (q : Rat) : Int.gcd q.num q.den = 1 := by
  rw [Int.gcd_eq_natAbs_gcd_natAbs]
  simpa using q.reduced
theorem n9 (q : Rat) : (0 : Int) < q.den := by have := q.den_nz; omega
theorem aM9 (p q : Rat) : p + q = Rat.divInt (p.num * q.den + q.num * p.den) (p.den * q.den) := by
  have h1 := n9 p
  have h2 := n9 q
  conv => lhs; rw [← Rat.num_divInt_den p, ← Rat.num_divInt_den q]
  exact Rat.divInt_add_divInt _ _ (by omega) (by omega)
theorem U5 (p q : Rat) : p * q = Rat.divInt (p.num * q.num) (p.den * q.den) := by
  conv => lhs; rw [← Rat.num_divInt_den p, ← Rat.num_divInt_den q]
  exact Rat.divInt_mul_divInt _ _
theorem aM6 (p q : Rat) : p / q = Rat.divInt (p.num * q.den) (p.den * q.num) := by
  rw [Rat.div_def, Rat.inv_def]
  conv => lhs; lhs; rw [← Rat.num_divInt_den p]
  exact Rat.divInt_mul_divInt _ _
theorem aI9 (a b : Int) : Int.gcd b (a.fmod b) = Int.gcd a b := by
  have e := Int.mul_fdiv_add_fmod a b
  rw [Int.gcd_comm a b]
  conv => rhs; rw [← e]
  rw [show b * a.fdiv b + a.fmod b = a.fmod b + a.fdiv b * b by rw [Int.mul_comm, Int.add_comm]]
  simp
theorem Z8 (a : Int) {b : Int} (hb : b ≠ 0) : (a.fmod b).natAbs < b.natAbs := by
  rcases Int.lt_or_le b 0 with h | h
  · have e := Int.neg_fmod_neg a b
    have h1 := Int.fmod_nonneg_of_pos (-a) (show 0 < -b by omega)
    have h2 := Int.fmod_lt_of_pos (-a) (show 0 < -b by omega)
    omega
  · have h1 := Int.fmod_nonneg_of_pos a (show 0 < b by omega)
    have h2 := Int.fmod_lt_of_pos a (show 0 < b by omega)
    omega
open PySem L2 PyProof.Rows
section
variable {P : Program} {w : World} {K : PySem.W.Frag} {mg : Str → Option Value} {base : Heap}
theorem P4 {a : Int} {m : Nat} (h : a.natAbs < 2 ^ m) : Builtin.Int.intBits a ≤ m := by
  unfold Builtin.Int.intBits
  split
  · exact Nat.zero_le _
  · rename_i hz
    have h0 : a.natAbs ≠ 0 := by
      intro z
      have : a = 0 := by omega
      simp [this] at hz
    have := (Nat.log2_lt h0).mpr h
    omega
theorem Q8 {a b : Int} {m n : Nat} (ha : a.natAbs < 2 ^ m) (hb : b.natAbs < 2 ^ n) (h : m + n ≤ 134217728 := by decide) : IntMulOk a b := IntMulOk.of_le (P4 ha) (P4 hb) h
theorem R0 {j : Int} (h0 : j ≠ 0) (h : j.natAbs < 2 ^ 9000) : au3 i j := ⟨h0, (Nat.log2_lt (by omega)).mpr h⟩
theorem d7 {m n : Nat} (h : m ≤ n) : 2 ^ m ≤ 2 ^ n := Nat.pow_le_pow_right (by decide) h
theorem N4 {a : Nat} {m n : Nat} (h : a < 2 ^ m) (hm : m ≤ n := by decide) : a < 2 ^ n := Nat.lt_of_lt_of_le h (d7 hm)
def w9 (q : Rat) : List V := [.int q.num, .int (q.den : Int)]
structure Bd (q : Rat) : Prop where
  n : q.num.natAbs < 2 ^ 3000
  d : q.den < 2 ^ 3000
def Num (K : PySem.W.Frag) (H : Hp) (v : V) (q : Rat) : Prop := ∃ p, v = .ref p ∧ SqT K H p (w9 q)
def aE3 (H : Hp) (Q : VK) (q : Rat) : Prop := ∀ r H', d5 H H' → H' r = some (.tup (w9 q)) → Q (.ref r) H'
theorem Num.same {K : PySem.W.Frag} {H H' : Hp} {v : V} {q : Rat} (n : Num K H v q) (e : d5 H H') : Num K H' v q := let ⟨p, h1, h2⟩ := n; ⟨p, h1, e.tup h2⟩
theorem v8 : (2 : Nat) ≤ sizeLine := by decide
theorem ap5 : (1 : Nat) ≤ sizeLine := by decide
theorem as6 {a b : Int} {n : Nat} (hb : b ≠ 0) (h : b.natAbs < n) : ((Int.gcd a b : Nat) : Int).natAbs < n := by
  have h1 : Int.gcd a b ∣ b.natAbs := by
    have := Int.natAbs_dvd_natAbs.mpr (Int.gcd_dvd_right a b)
    simpa using this
  have h2 := Nat.le_of_dvd (by omega) h1
  simp only [Int.natAbs_natCast]
  omega
theorem aI8 {a b : Int} {n : Nat} (hb : a ≠ 0) (h : a.natAbs < n) : ((Int.gcd a b : Nat) : Int).natAbs < n := by
  rw [Int.gcd_comm]; exact as6 hb h
theorem Y6 {a g : Int} (hg : 0 < g) (hd : g ∣ a) : (a.fdiv g).natAbs ≤ a.natAbs := by
  obtain ⟨n, rfl⟩ := hd
  rw [j2 (by omega), Int.natAbs_mul]
  exact Nat.le_mul_of_pos_left _ (by omega)
theorem W4 {q : Rat} : q.num = 0 ↔ q = 0 := by
  constructor
  · intro h; exact Rat.num_eq_zero.mp h
  · intro h; rw [h]; rfl
theorem at0 (q : Rat) : atI (w9 q) 0 = some (.int q.num) := rfl
theorem at1 (q : Rat) : atI (w9 q) 1 = some (.int (q.den : Int)) := rfl
theorem bn1 {a b : Int} (h : a.natAbs < 2 ^ 64) : IntMulOk a b := IntMulOk.of_left (P4 h)
theorem ay1 {a b : Int} (h : b.natAbs < 2 ^ 64) : IntMulOk a b := IntMulOk.of_right (P4 h)
def aw8 : Sp := fun vs H Q _ => ∃ t b : Int, vs = [.int t, .int b] ∧ b ≠ 0 ∧ b.natAbs < 2 ^ 6000 ∧ aE3 H Q (Rat.divInt t b)
def t6 (H : Hp) (u : Addr) : Prop := ∃ g m p : Int, H u = some (.lst [.int g, .int m, .int p]) ∧ 0 ≤ g ∧ 0 ≤ m ∧ m < 2 ^ 40 ∧ 0 < p ∧ p < 2 ^ 40
def t8 (u : Addr) (H H' : Hp) : Prop := ∀ b o, H b = some o → b ≠ u → H' b = some o
theorem d5.x {H H' : Hp} (s : d5 H H') (u : Addr) : t8 u H H' := fun b o h _ => s b o h
theorem t8.trans {u : Addr} {H H1 H2 : Hp} (a : t8 u H H1) (b : t8 u H1 H2) : t8 u H H2 := fun c o h n => b c o (a c o h n) n
theorem t8.upd (u : Addr) (H : Hp) (o : HO) : t8 u H (upd H u o) := fun b p h n => by rw [i5 n]; exact h
theorem d5.urn {H H' : Hp} {u : Addr} (s : d5 H H') (h : t6 H u) : t6 H' u := let ⟨g, m, p, h1, r⟩ := h; ⟨g, m, p, s _ _ h1, r⟩
def bj8 (K : PySem.W.Frag) : Sp := fun vs H Q _ => ∃ (a : Addr) (ns : List Int) (k : Int), vs = [.ref a, .int k] ∧ SqL K H a (ns.map V.int) ∧ 0 ≤ k ∧ k < 64 ∧ ∀ r H', d5 H H' → H r = none → t6 H' r → Q (.ref r) H'
def bm3 : List V := [.int 1899999979, .int 1899998977, .int 1899997949, .int 1899996929, .int 1899995927, .int 1899994903, .int 1899993877, .int 1899992839]
theorem aY9 {k : Int} (h0 : 0 ≤ k) : ∃ p : Int, atI bm3 (k.fmod 8) = some (.int p) ∧ 1899992839 ≤ p ∧ p ≤ 1899999979 := by
  have h1 := Int.fmod_nonneg_of_pos k (show (0 : Int) < 8 by decide)
  have h2 := Int.fmod_lt_of_pos k (show (0 : Int) < 8 by decide)
  have h3 : k.fmod 8 = 0 ∨ k.fmod 8 = 1 ∨ k.fmod 8 = 2 ∨ k.fmod 8 = 3 ∨ k.fmod 8 = 4 ∨ k.fmod 8 = 5 ∨ k.fmod 8 = 6 ∨ k.fmod 8 = 7 := by omega
  rcases h3 with h | h | h | h | h | h | h | h <;> rw [h] <;> exact ⟨_, rfl, by decide, by decide⟩
theorem aU2 {ns : List Int} {k : Int} (h0 : 0 ≤ k) (h : k < (ns.length : Int)) : ∃ v : Int, atI (ns.map V.int) k = some (.int v) := by
  have hk : k.toNat < ns.length := by omega
  have ek : k = ((k.toNat : Nat) : Int) := by omega
  have q : atI (ns.map V.int) ((k.toNat : Nat) : Int) = some (.int ns[k.toNat]) := P9 (by rw [List.getElem?_map, List.getElem?_eq_getElem hk] <;> rfl)
  rw [← ek] at q
  exact ⟨_, q⟩
def O0 : Sp := fun vs H Q _ => ∃ (u : Addr) (n : Int), vs = [.ref u, .int n] ∧ t6 H u ∧ 0 < n ∧ n < 2 ^ 40 ∧ ∀ r H', 0 ≤ r → r < n → t8 u H H' → t6 H' u → Q (.int r) H'
structure Sm (q : Rat) : Prop where
  n : q.num.natAbs ≤ 10 ^ 12
  d : q.den ≤ 10 ^ 12
theorem K5 {t b : Int} (hb : b ≠ 0) : (Rat.divInt t b).num.natAbs ≤ t.natAbs ∧ (Rat.divInt t b).den ≤ b.natAbs := by
  have hp := K3 (t := t) hb
  obtain ⟨e1, e2⟩ := aC8 (t := t) (b := b) (g := if b < 0 then -(Int.gcd t b : Int) else (Int.gcd t b : Int)) hb rfl
  have key : ∀ x : Int, (Int.gcd t b : Int) ∣ x → (x.fdiv (if b < 0 then -(Int.gcd t b : Int) else (Int.gcd t b : Int))).natAbs ≤ x.natAbs := by
    rintro x ⟨n, hn⟩
    split
    · have : x = -(Int.gcd t b : Int) * (-n) := by rw [Int.neg_mul_neg]; exact hn
      rw [this, j2 (by omega), Int.natAbs_mul]
      exact Nat.le_mul_of_pos_left _ (by omega)
    · rw [hn, j2 (by omega), Int.natAbs_mul]
      exact Nat.le_mul_of_pos_left _ (by omega)
  have k1 := key t (Int.gcd_dvd_left t b)
  have k2 := key b (Int.gcd_dvd_right t b)
  rw [e1] at k1
  rw [e2] at k2
  exact ⟨k1, by omega⟩
theorem bq2 {t b : Int} (hb : b ≠ 0) (h1 : t.natAbs ≤ 10 ^ 12) (h2 : b.natAbs ≤ 10 ^ 12) : Sm (Rat.divInt t b) := by
  obtain ⟨e1, e2⟩ := K5 (t := t) hb
  exact ⟨by omega, by omega⟩
def aK1 : Sp := fun vs H Q _ => ∃ u, vs = [.ref u] ∧ t6 H u ∧ ∀ r H', r = 0 ∨ r = 1 ∨ r = 2 → t8 u H H' → t6 H' u → Q (.int r) H'
theorem N8 {H : Hp} {u l : Addr} (hu : t6 H u) (hl : H l = none) : l ≠ u := by
  obtain ⟨g, m, p, h, r⟩ := hu
  exact (g6 h hl).symm
theorem L9 {H : Hp} {u l : Addr} {o : HO} (hu : t6 H u) (hl : H l = none) : t6 (upd H l o) u := by
  obtain ⟨g, m, p, h, r⟩ := hu
  exact ⟨g, m, p, by rw [i5 (g6 h hl)]; exact h, r⟩
def spNumber : Sp := fun vs H Q _ => ∃ u kd, vs = [.ref u, .int kd] ∧ t6 H u ∧ ∀ r q H', Sm q → t8 u H H' → t6 H' u → H' r = some (.tup (w9 q)) → Q (.ref r) H'
def ae4 : Sp := fun vs H Q _ => ∃ i : Int, vs = [.int i] ∧ Q (.bl true) H
theorem aI3 : PySem.W.kitOne K (.type "int") (.type "int") = some true := by unfold PySem.W.kitOne; rw [if_pos (by decide)]
theorem aC9 : PySem.W.kitOne K (.type "int") (.type "bool") = some false := by kernel_rfl
theorem aI2 : PySem.W.kitOne K (.type "tuple") (.type "tuple") = some true := by unfold PySem.W.kitOne; rw [if_pos (by decide)]
def A7 (q : Rat) : D := .tup [.v (.int q.num), .v (.int (q.den : Int))]
theorem Y3 {H : Hp} {a : Addr} {q : Rat} (h : SqT K H a (w9 q)) : IsD K H (.ref a) (A7 q) := .tup h (.cons (.v rfl) (.cons (.v rfl) .nil))
theorem aP5 (q : Rat) : eqD (A7 q) (A7 q) = true := by simp [A7, eqD, G3, eqV]
theorem ag3 (p q : Rat) : okD (A7 p) (A7 q) = true := by simp [A7, okD, V8]
theorem aD6 (q : Rat) : dpD (A7 q) ≤ 60 := by simp [A7, dpD, ab5]
def aN9 (K : PySem.W.Frag) : Sp := fun vs H Q _ => ∃ x q, vs = [x] ∧ (∃ p, x = .ref p ∧ SqT K H p (w9 q)) ∧ (q.den : Int).natAbs < 2 ^ 6000 ∧ ∀ H', d5 H H' → Q (.bl true) H'
end
open PySem L2 PyProof.Rows
inductive p7 (H : Hp) : List V → List Rat → Prop where
  | nil : p7 H [] []
  | cons {p : Addr} {q : Rat} {vs : List V} {qs : List Rat} (h : H p = some (.tup (w9 q))) (t : p7 H vs qs) : p7 H (.ref p :: vs) (q :: qs)
def X4 (H H' : Hp) : Prop := ∀ b xs, H b = some (.tup xs) → H' b = some (.tup xs)
theorem _root_.L2.d5.tups {H H' : Hp} (s : d5 H H') : X4 H H' := fun b xs h => s b _ h
theorem t8.tups {u : Addr} {H H' : Hp} (s : t8 u H H') (hu : t6 H u) : X4 H H' := fun b xs h => by
  obtain ⟨g, m, p, e, _⟩ := hu
  exact s b _ h (bk5 h e (by intro z; cases z))
theorem X4.lst {H : Hp} {a : Addr} {xs : List V} {o : HO} (h : H a = some (.lst xs)) : X4 H (upd H a o) := fun b ys e => by
  rw [i5 (bk5 e h (by intro z; cases z))]; exact e
theorem X4.new {H : Hp} {a : Addr} {o : HO} (h : H a = none) : X4 H (upd H a o) := (d5.new h o).tups
theorem p7.mono {H H' : Hp} (e : X4 H H') : ∀ {vs : List V} {qs : List Rat}, p7 H vs qs → p7 H' vs qs
  | _, _, .nil => .nil
  | _, _, .cons h t => .cons (e _ _ h) (t.mono e)
theorem p7.length {H : Hp} : ∀ {vs : List V} {qs : List Rat}, p7 H vs qs → vs.length = qs.length
  | _, _, .nil => rfl
  | _, _, .cons _ t => congrArg (· + 1) t.length
theorem p7.take {H : Hp} : ∀ {vs : List V} {qs : List Rat} (m : Nat), p7 H vs qs → p7 H (vs.take m) (qs.take m)
  | _, _, 0, _ => by simp; exact .nil
  | _, _, _ + 1, .nil => .nil
  | _, _, m + 1, .cons h t => .cons h (t.take m)
theorem p7.append {H : Hp} : ∀ {vs ws : List V} {qs rs : List Rat}, p7 H vs qs → p7 H ws rs → p7 H (vs ++ ws) (qs ++ rs)
  | _, _, _, _, .nil, b => b
  | _, _, _, _, .cons h t, b => .cons h (t.append b)
theorem p7.get {H : Hp} : ∀ {vs : List V} {qs : List Rat} {i : Nat} {q : Rat}, p7 H vs qs → qs[i]? = some q → ∃ p, vs[i]? = some (.ref p) ∧ H p = some (.tup (w9 q))
  | _, _, _, _, .nil, e => by simp at e
  | _, _, 0, _, .cons h t, e => by
    have := Option.some.inj e
    subst this
    exact ⟨_, rfl, h⟩
  | _, _, i + 1, _, .cons h t, e => by
    obtain ⟨p, e1, e2⟩ := t.get (i := i) (by simpa using e)
    exact ⟨p, by simpa using e1, e2⟩
theorem p7.getV {H : Hp} : ∀ {vs : List V} {qs : List Rat} {i : Nat} {v : V}, p7 H vs qs → vs[i]? = some v → ∃ p q, v = .ref p ∧ qs[i]? = some q ∧ H p = some (.tup (w9 q))
  | _, _, _, _, .nil, e => by simp at e
  | _, _, 0, _, .cons h t, e => by
    have := Option.some.inj e
    subst this
    exact ⟨_, _, rfl, rfl, h⟩
  | _, _, i + 1, _, .cons h t, e => by
    obtain ⟨p, q, e0, e1, e2⟩ := t.getV (i := i) (by simpa using e)
    exact ⟨p, q, e0, by simpa using e1, e2⟩
theorem p7.isDs {K : PySem.W.Frag} {H : Hp} : ∀ {vs : List V} {qs : List Rat}, p7 H vs qs → O7 K H vs (qs.map A7)
  | _, _, .nil => .nil
  | _, _, .cons h t => .cons (Y3 (SqT.of h)) t.isDs
theorem bf3 {p q : Rat} (h1 : p.num = q.num) (h2 : p.den = q.den) : p = q := by
  cases p; cases q; simp at h1 h2; subst h1 h2; rfl
theorem ah0 (p q : Rat) : eqD (A7 p) (A7 q) = decide (p = q) := by
  by_cases h : p = q
  · subst h; rw [aP5]; simp
  · rw [decide_eq_false h]
    simp only [A7, eqD, G3, eqV, Bool.and_true]
    by_cases h1 : p.num = q.num
    · have h2 : p.den ≠ q.den := fun z => h (bf3 h1 z)
      have : ((p.den : Int) == (q.den : Int)) = false := by
        rw [beq_eq_false_iff_ne]; intro z; exact h2 (by omega)
      rw [this, Bool.and_false]
    · have : (p.num == q.num) = false := by rw [beq_eq_false_iff_ne]; exact h1
      rw [this, Bool.false_and]
theorem ay6 : ∀ ps qs : List Rat, G3 (ps.map A7) (qs.map A7) = decide (ps = qs)
  | [], [] => by simp [G3]
  | [], _ :: _ => by simp [G3]
  | _ :: _, [] => by simp [G3]
  | p :: ps, q :: qs => by
    rw [List.map_cons, List.map_cons, G3, ah0, ay6 ps qs]
    by_cases h1 : p = q <;> by_cases h2 : ps = qs <;> simp [h1, h2]
theorem ay0 : ∀ ps qs : List Rat, V8 (ps.map A7) (qs.map A7) = true
  | [], [] => by simp [V8]
  | [], _ :: _ => by simp [V8]
  | _ :: _, [] => by simp [V8]
  | p :: ps, q :: qs => by rw [List.map_cons, List.map_cons, V8, ag3, ay0 ps qs]; rfl
theorem ay8 : ∀ qs : List Rat, ab5 (qs.map A7) ≤ 1
  | [] => by simp [ab5]
  | q :: qs => by
    have h1 : dpD (A7 q) ≤ 1 := by simp [A7, dpD, ab5]
    have h2 := ay8 qs
    rw [List.map_cons, ab5]
    omega
def j7 (qs : List Rat) : D := .lst (qs.map A7)
theorem K1 {K : PySem.W.Frag} {H : Hp} {a : Addr} {vs : List V} {qs : List Rat} (h : SqL K H a vs) (n : p7 H vs qs) : IsD K H (.ref a) (j7 qs) := .lst h n.isDs
theorem F8 (ps qs : List Rat) : eqD (j7 ps) (j7 qs) = decide (ps = qs) := by unfold j7; rw [eqD, ay6]
theorem O5 (ps qs : List Rat) : okD (j7 ps) (j7 qs) = true := by unfold j7; rw [okD, ay0]
theorem R8 (qs : List Rat) : dpD (j7 qs) ≤ 2 := by unfold j7; rw [dpD]; have := ay8 qs; omega
structure v9 (qs : List Rat) (m : Nat) : Prop where
  le : m ≤ qs.length
  zero : ∀ (i : Nat) (q : Rat), m ≤ i → qs[i]? = some q → q = 0
  last : m ≠ 0 → ∀ q, qs[m - 1]? = some q → q ≠ 0
theorem v9.uniq {qs : List Rat} {m n : Nat} (a : v9 qs m) (b : v9 qs n) : m = n := by
  have key : ∀ {m n : Nat}, v9 qs m → v9 qs n → ¬ m < n := by
    intro m n a b h
    have hn : n - 1 < qs.length := by have := b.le; omega
    exact b.last (by omega) _ (List.getElem?_eq_getElem hn) (a.zero (n - 1) _ (by omega) (List.getElem?_eq_getElem hn))
  have := key a b
  have := key b a
  omega
theorem v9.self {qs : List Rat} {m : Nat} (a : v9 qs m) : v9 (qs.take m) m := by
  have hl : (qs.take m).length = m := by rw [List.length_take]; have := a.le; omega
  refine ⟨by omega, fun i q hi e => ?_, fun h q e => ?_⟩
  · rw [List.getElem?_eq_none (by omega)] at e; cases e
  · rw [List.getElem?_take_of_lt (by omega)] at e
    exact a.last h q e
def evs {α : Type} : List α → List α
  | [] => []
  | [x] => [x]
  | x :: _ :: r => x :: evs r
def ods {α : Type} (xs : List α) : List α := evs xs.tail
theorem bc9 {α : Type} (x : α) : ∀ ys : List α, evs (ys ++ [x]) = if ys.length % 2 = 0 then evs ys ++ [x] else evs ys
  | [] => rfl
  | [y] => rfl
  | y :: z :: r => by
    have ih := bc9 x r
    show y :: evs (r ++ [x]) = _
    rw [ih]
    have : (y :: z :: r).length % 2 = r.length % 2 := by simp only [List.length_cons]; omega
    rw [this]
    split <;> rfl
theorem aD4 {α : Type} : ∀ xs : List α, (evs xs).length ≤ xs.length
  | [] => Nat.le_refl _
  | [_] => Nat.le_refl _
  | _ :: _ :: r => by have := aD4 r; simp only [evs, List.length_cons]; omega
theorem bg3 {α : Type} (xs : List α) : (ods xs).length ≤ xs.length := by
  have := aD4 xs.tail
  rw [List.length_tail] at this
  unfold ods; omega
theorem as7 {α : Type} : ∀ xs : List α, (List.range ((xs.length + 1) / 2)).filterMap (fun k => xs[2 * k]?) = evs xs
  | [] => by simp [evs]
  | [x] => by simp [evs, List.range_succ]
  | x :: y :: r => by
    have e : ((x :: y :: r).length + 1) / 2 = (r.length + 1) / 2 + 1 := by simp only [List.length_cons]; omega
    rw [e, List.range_succ_eq_map, List.filterMap_cons]
    show x :: _ = x :: evs r
    congr 1
    rw [List.filterMap_map, ← as7 r]
    congr 1
theorem aZ4 (xs : List V) : ak2 xs (some 0) none (some 2) = evs xs := by
  unfold ak2
  have e : sliceBounds (some 0) none (some 2) xs.length = (0, (xs.length : Int), 2) := by
    simp only [sliceBounds, Option.getD_some, show (2 : Int) > 0 by decide, if_true, show ¬ ((0 : Int) < 0) by decide, if_false]
    refine Prod.ext ?_ rfl
    show max 0 (min 0 (xs.length : Int)) = 0
    omega
  rw [e, ← as7]
  unfold sliceRange
  simp only [show (2 : Int) > 0 by decide, if_true]
  have ec : (if (0 : Int) < (xs.length : Int) then ((xs.length : Int) - 0 + 2 - 1) / 2 else 0).toNat = (xs.length + 1) / 2 := by
    split <;> omega
  rw [ec, List.filterMap_map]
  congr 1
  funext k
  show xs[(0 + 2 * (k : Int)).toNat]? = _
  congr 1
  omega
theorem aZ3 (xs : List V) : ak2 xs (some 1) none (some 2) = ods xs := by
  cases xs with
  | nil => rfl
  | cons x r =>
    unfold ak2
    have e : sliceBounds (some 1) none (some 2) (x :: r).length = (1, ((r.length : Int) + 1), 2) := by
      simp only [sliceBounds, Option.getD_some, show (2 : Int) > 0 by decide, if_true, show ¬ ((1 : Int) < 0) by decide, if_false, List.length_cons]
      refine Prod.ext ?_ (Prod.ext ?_ rfl)
      · show max 0 (min 1 ((r.length + 1 : Nat) : Int)) = 1
        omega
      · show ((r.length + 1 : Nat) : Int) = (r.length : Int) + 1
        omega
    rw [e]
    show _ = evs r
    rw [← as7]
    unfold sliceRange
    simp only [show (2 : Int) > 0 by decide, if_true]
    have ec : (if (1 : Int) < (r.length : Int) + 1 then ((r.length : Int) + 1 - 1 + 2 - 1) / 2 else 0).toNat = (r.length + 1) / 2 := by
      split <;> omega
    rw [ec, List.filterMap_map]
    congr 1
    funext k
    show (x :: r)[(1 + 2 * (k : Int)).toNat]? = _
    have : (1 + 2 * (k : Int)).toNat = 2 * k + 1 := by omega
    rw [this, List.getElem?_cons_succ]
theorem aJ2 (vs : List V) {m : Nat} (h : m ≤ vs.length) : aM8 vs none (some (m : Int)) = vs.take m := by
  unfold aM8
  have e1 : HT.sIx vs.length 0 none = 0 := by simp [HT.sIx]
  have e2 : HT.sIx vs.length vs.length (some (m : Int)) = m := by
    simp only [HT.sIx]
    split <;> omega
  rw [e1, e2]; simp
end R
set_option maxRecDepth 100000
namespace L2
open PySem PySem.Spec PyProof.Rows
def WhN (Pv : St → Hp → Prop) (μ : St → Hp → Nat) (m : Nat) : St → Hp → Prop := fun σ' H' => ∃ m', m' < m ∧ (m' = μ σ' H' ∧ Pv σ' H')
theorem WhN.mk {Pv : St → Hp → Prop} {μ : St → Hp → Nat} {m : Nat} {σ' : St} {H' : Hp} (h : Pv σ' H') (l : μ σ' H' < m) : WhN Pv μ m σ' H' := ⟨_, l, rfl, h⟩
def WhB (tb : TS) (D : ab6) (Pv : St → Hp → Prop) (μ : St → Hp → Nat) (m : Nat) (σ : St) (H1 : Hp) : Prop :=
  ∃ N : St → Hp → Prop, (∀ σ' H', N σ' H' → ∃ m', m' < m ∧ (m' = μ σ' H' ∧ Pv σ' H')) ∧ tb { D with nx := N, ct := N, bk := D.nx } σ H1
theorem WhB.mk {tb : TS} {D : ab6} {Pv : St → Hp → Prop} {μ : St → Hp → Nat} {m : Nat} {σ : St} {H1 : Hp} (h : tb { D with nx := WhN Pv μ m, ct := WhN Pv μ m, bk := D.nx } σ H1) : WhB tb D Pv μ m σ H1 := ⟨_, fun _ _ n => n, h⟩
theorem Z0 {c : TT} {tb : TS} {D : ab6} {σ : St} {H : Hp} (Pv : St → Hp → Prop) (μ : St → Hp → Nat) (h0 : Pv σ H)
    (hs : ∀ σ H, Pv σ H → c σ H fun b H1 => if b = true then WhB tb D Pv μ (μ σ H) σ H1 else D.nx σ H1) : ao6 c tb D σ H := by
  refine ⟨fun m σ H => m = μ σ H ∧ Pv σ H, ⟨_, rfl, h0⟩, ?_⟩
  rintro m σ H ⟨rfl, p⟩
  exact hs σ H p
theorem d5.over {H H1 : Hp} {l : Addr} (s : d5 H H1) (hl : H l = none) (o : HO) : d5 H (upd H1 l o) := fun b u h => by
  rw [i5 (g6 h hl)]; exact s b u h
def al7 (J : It) (D : Addr) (σ0 : St) (H0 : Hp) (g : TG) (te : TE) (Q : VK) : Prop := ∃ W : Nat → Nat → St → Hp → Prop, (∃ m, W 0 m σ0 H0) ∧
  ∀ i m σc H2, W i m σc H2 → (J.stop i H2 ∧ Q (.ref D) H2) ∨
    (J.go i H2 ∧ ∀ x H3, J.yld i H2 x H3 → g x σc H3 fun σ4 H4 => te σ4 H4 fun y H5 => ∃ ys, H5 D = some (.lst ys) ∧ ys.length < sizeLine ∧ ∃ m', m' < m ∧ W (i + 1) m' σ4 (upd H5 D (.lst (ys ++ [y]))))
theorem ae3 (wi : TI) (caps : List (Option Nat)) (g : TG) (te : TE) : aW2 wi caps g te = fun σ H Q => wi σ H fun J H1 => ∀ D, H1 D = none → al7 J D (R1 caps σ) (upd H1 D (.lst [])) g te Q := rfl
def bp2 (J : It) (D : Addr) (σ0 : St) (H0 : Hp) (g : TG) (tt : TT) (te : TE) (Q : VK) : Prop := ∃ W : Nat → Nat → St → Hp → Prop, (∃ m, W 0 m σ0 H0) ∧
  ∀ i m σc H2, W i m σc H2 → (J.stop i H2 ∧ Q (.ref D) H2) ∨
    (J.go i H2 ∧ ∀ x H3, J.yld i H2 x H3 → g x σc H3 fun σ4 H4 => tt σ4 H4 fun b H4' => if b = true then te σ4 H4' fun y H5 => ∃ ys, H5 D = some (.lst ys) ∧ ys.length < sizeLine ∧ ∃ m', m' < m ∧ W (i + 1) m' σ4 (upd H5 D (.lst (ys ++ [y])))
      else ∃ m', m' < m ∧ W (i + 1) m' σ4 H4')
theorem X5 (wi : TI) (caps : List (Option Nat)) (g : TG) (tt : TT) (te : TE) : be7 wi caps g tt te = fun σ H Q => wi σ H fun J H1 => ∀ D, H1 D = none → bp2 J D (R1 caps σ) (upd H1 D (.lst [])) g tt te Q := rfl
section
variable {K : PySem.W.Frag} {a D : Addr} {xs : List V} {g : TG} {te : TE} {σ0 : St} {H0 : Hp} {Q : VK}
theorem K6 (xs : List V) (Pv : Nat → St → Hp → Prop) (h0 : Pv 0 σ0 H0) (hl : ∀ i σ H, i ≤ xs.length → Pv i σ H → SqL K H a xs)
    (hs : ∀ i x σ H, xs[i]? = some x → Pv i σ H → g x σ H fun σ4 H4 => te σ4 H4 fun y H5 => N5 D xs.length Pv i σ4 y H5) (hd : ∀ σ H, Pv xs.length σ H → Q (.ref D) H) : al7 (Itl K a) D σ0 H0 g te Q := aT7 Pv h0 hl hs hd
end
theorem C5 {cells : List (Str × Addr)} : ∀ (x : Str) (c : Addr), ([] : List (Str × Addr)).lookup x = some c → cells.lookup x = some c := fun x c h => by cases h
theorem Q3 {cells cl : List (Str × Addr)} {k : Str} {a : Addr} (h : cells.lookup k = some a) (r : ∀ (x : Str) (c : Addr), cl.lookup x = some c → cells.lookup x = some c) : ∀ (x : Str) (c : Addr), ((k, a) :: cl).lookup x = some c → cells.lookup x = some c := fun x c e => by
  rw [List.lookup_cons] at e
  split at e
  · rename_i q
    have := eq_of_beq q
    subst this
    cases e
    exact h
  · exact r x c e
end L2
namespace R
open PySem L2 PyProof.Rows
theorem t8.over {u : Addr} {H H1 : Hp} {l : Addr} (s : t8 u H H1) (hl : H l = none) (o : HO) : t8 u H (L2.upd H1 l o) := fun b x h n => by
  rw [i5 (g6 h hl)]; exact s b x h n
theorem t8.free {u : Addr} {H H' : Hp} {l : Addr} (s : t8 u H H') (hu : t6 H' u) (h : H' l = none) : H l = none := by
  cases e : H l with
  | none => rfl
  | some o =>
    by_cases q : l = u
    · subst q
      obtain ⟨_, _, _, z, _⟩ := hu
      rw [z] at h; cases h
    · rw [s l o e q] at h; cases h
theorem t6.other {H : Hp} {u l : Addr} {o : HO} (h : t6 H u) (ne : l ≠ u) : t6 (upd H l o) u := by
  obtain ⟨g, m, p, e, r⟩ := h
  exact ⟨g, m, p, by rw [i5 ne.symm]; exact e, r⟩
theorem aH9 {H : Hp} {p l : Addr} {o : HO} (h : upd H p o l = none) : H l = none := by
  by_cases q : l = p
  · subst q; rw [b8] at h; cases h
  · rw [i5 q] at h; exact h
theorem bn0 {H : Hp} {p l : Addr} {o : HO} (h : upd H p o l = none) : l ≠ p := fun q => by
  subst q; rw [b8] at h; cases h
theorem av7 {K : PySem.W.Frag} : PySem.W.kitOne K (.type "list") (.type "list") = some true := by unfold PySem.W.kitOne; rw [if_pos (by decide)]
end R
set_option maxRecDepth 100000
namespace L2
open PySem PySem.Spec PyProof.Rows
def Itz (K : PySem.W.Frag) (a b : Addr) : It :=
  ⟨fun i H => ∃ xs ys x y, SqL K H a xs ∧ SqL K H b ys ∧ xs[i]? = some x ∧ ys[i]? = some y,
   fun i H v H' => ∀ xs ys, SqL K H a xs → SqL K H b ys → ∃ x y p, xs[i]? = some x ∧ ys[i]? = some y ∧ H p = none ∧ v = .ref p ∧ H' = upd H p (.tup [x, y]),
   fun i H => ∃ xs ys, SqL K H a xs ∧ SqL K H b ys ∧ (xs.length ≤ i ∨ ys.length ≤ i)⟩
section
variable {X : Cx}
def bs9 (K : PySem.W.Frag) (ta : TA) : TI := fun σ H R => ta σ H fun vs H1 => ∃ a b, vs = [.ref a, .ref b] ∧ (∃ xs, SqL K H1 a xs) ∧ (∃ ys, SqL K H1 b ys) ∧ R (Itz K a b) H1
end
section
variable {prog : Program} {w : World} {A : Around} {E : Value → Shared → Prop} {s : Shared}
theorem bh4 {a b : Int} {t u : Tok} {Q : Value → Shared → Prop} (h : Q (.bool (decide (a > b))) s) : wpAny (model prog w) A (richCompare .Gt (.int a t) (.int b u)) Q E s :=
  richCompare_gives (op := .Gt) (typeIs_int s _ t) (typeIs_int s _ u) F.slot_int_gt F.entry_int_gt (F.args_int_gt_2 _ _) (gives_int_gt _ _ t u) (fun x => nomatch x) h
theorem aE0 {id : String} {b : Builtin} {args : List Value} {kw : List (Str × Value)} {Q : Value → Shared → Prop} (hk : builtinKind id = none) (hp : plainId id = true)
    (hb : entryFor table id = some b) (ha : argsOk id ⟨args, kw⟩)
    (hc : wpAny (model prog w) A.in1 (b ⟨args, kw⟩) (fun fin s' => match fin with
      | .done f => (match (Except.ok f : Result) with | .ok (.ret v) => Q v s' | .ok _ => False | .error e => E e s')
      | .again c' => c'.quiet = true ∧ codeAny (model prog w) A c' (fun r s' => match r with | .ok (.ret v) => Q v s' | .ok _ => False | .error e => E e s') s') E s) :
    wpAny (model prog w) A (call (.builtin id) args kw) Q E s := by
  refine wpAny_call (codeAny_call_builtin hp hb ?_)
  simp only [checkBuiltinCall, hk]
  cases hsig : Manifest.signature? id with
  | none => exact wpAny_pure hc
  | some sig =>
    have ha' : Bind.checkArgs id sig ⟨args, kw⟩ = pure () := by simpa only [argsOk, hsig] using ha
    simp only [ha']
    exact wpAny_pure hc
variable {R : Result → Shared → Prop} {I : Addr} {fp wr : List Addr} {n : Nat} {P : Nat → Value → Prop} {St : Nat → Heap → Prop}
theorem aS6 (W : Walks prog w A.in1 I fp wr n P St) (hint : ∀ i v, P i v → ∃ x t, v = .int x t) (S : Addr) (hSf : S ∉ fp) (d : Value) :
    ∀ (k j : Nat) (s : Shared) (x0 : Int) (t0 : Tok) (c : Nat), n - (j + 1) = k → j + 1 ≤ n → St (j + 1) s.heap →
    s.heap.get? S = some { cls := .type "list", dict := none, data := .seq #[.int x0 t0, .int x0 t0] c, slots := #[] } →
    (∀ x t h' tk, (∀ b o, b ∉ wr → b ≠ S → s.heap.get? b = some o → h'.get? b = some o) → R (.ok (.ret (.int x t))) { s with heap := h', toks := tk }) →
    codeAny (model prog w) A (.builtin "max.loop" ⟨[.ref I, .none, .ref S], [("default", d)]⟩) R s := by
  have hSw : S ∉ wr := fun h => hSf (W.sub _ h)
  have hname : (toString "max" ++ toString ".loop" : String) = "max.loop" := by decide
  intro k
  induction k with
  | zero =>
    intro j s x0 t0 c hk hj hst hS hR
    have hin : j + 1 = n := by omega
    refine codeAny_builtin F.entry_max_loop ?_
    rw [Around.under_plainId F.plain_max_loop _]
    show wpAny _ A.in1 (seqItems? (.ref S) >>= _) _ _ s
    refine wpAny_bind (wpAny_seqItems hS rfl ?_)
    show wpAny _ A.in1 (tryCatch (pyNext (.ref I)) _ >>= _) _ _ s
    refine wpAny_bind (wpAny_tryCatch (W.done s _ _ (hin ▸ hst) fun h' tk hk' => ?_))
    have hS' := hk' S _ hSw hS
    show wpAny _ A.in1 (updateSeq S (fun _ => #[]) >>= _) _ _ _
    refine wpAny_bind ?_
    refine wpAny_updateSeq hS' rfl (wpAny_bind (wpAny_letGo (wpAny_pure ?_)))
    exact hR x0 t0 _ tk fun b o hbw hbS e => (Heap.get?_update_other _ _ (Ne.symm hbS)).trans (hk' b o hbw e)
  | succ k ih =>
    intro j s x0 t0 c hk hj hst hS hR
    have hlt : j + 1 < n := by omega
    refine codeAny_builtin F.entry_max_loop ?_
    rw [Around.under_plainId F.plain_max_loop _]
    show wpAny _ A.in1 (seqItems? (.ref S) >>= _) _ _ s
    refine wpAny_bind (wpAny_seqItems hS rfl ?_)
    show wpAny _ A.in1 (tryCatch (pyNext (.ref I)) _ >>= _) _ _ s
    refine wpAny_bind (wpAny_tryCatch (W.item (j + 1) s _ _ hlt hst fun v h' tk hP hst' hk' => ?_))
    obtain ⟨x1, t1, rfl⟩ := hint _ _ hP
    have hS' := hk' S _ hSw hS
    show wpAny _ A.in1 (tryCatch (holding [.int x1 t1, .int x1 t1] (richCompare .Gt (.int x1 t1) (.int x0 t0) >>= _)) _ >>= _) _ _ _
    refine wpAny_bind (wpAny_tryCatch (wpAny_holding (wpAny_bind (bh4 ?_))))
    refine wpAny_bind (wpAny_holding (wpAny_truthy_bool ?_))
    refine wpAny_bind (wpAny_letGo (wpAny_pure ?_))
    cases hb : decide (x1 > x0) with
    | true =>
      simp only [if_true]
      refine wpAny_bind ?_
      refine wpAny_updateSeq hS' rfl (wpAny_bind (wpAny_letGo ?_))
      rw [hname]
      refine wpAny_pure ⟨plainId_quiet F.plain_max_loop _, ih (j + 1) _ x1 t1 _ (by omega) hlt (W.frame _ _ _ hst' fun b hbf o e => ?_) (Heap.get?_update_self _ hS' rfl)
        fun x t h'' tk'' hk'' => ?_⟩
      · exact (Heap.get?_update_other _ _ (fun h : S = b => hSf (by rw [h]; exact hbf))).trans e
      · exact hR x t h'' tk'' fun b o hbw hbS e => hk'' b o hbw hbS ((Heap.get?_update_other _ _ (Ne.symm hbS)).trans (hk' b o hbw e))
    | false =>
      simp only [Bool.false_eq_true, if_false]
      refine wpAny_bind (wpAny_letGo ?_)
      rw [hname]
      refine wpAny_pure ⟨plainId_quiet F.plain_max_loop _, ih (j + 1) _ x0 t0 c (by omega) hlt hst' hS' fun x t h'' tk'' hk'' => ?_⟩
      exact hR x t h'' tk'' fun b o hbw hbS e => hk'' b o hbw hbS (hk' b o hbw e)
theorem aL5 (W : Walks prog w A.in1 I fp wr n P St) (hint : ∀ i v, P i v → ∃ x t, v = .int x t) (S : Addr) (hSf : S ∉ fp) {x0 : Int} {t0 : Tok} {c : Nat} (hst : St 0 s.heap)
    (hS : s.heap.get? S = some { cls := .type "list", dict := none, data := .seq #[] c, slots := #[] })
    (hR : ∀ x t h' tk, (∀ b o, b ∉ wr → b ≠ S → s.heap.get? b = some o → h'.get? b = some o) → R (.ok (.ret (.int x t))) { s with heap := h', toks := tk }) :
    codeAny (model prog w) A (.builtin "max.loop" ⟨[.ref I, .none, .ref S], [("default", .int x0 t0)]⟩) R s := by
  have hSw : S ∉ wr := fun h => hSf (W.sub _ h)
  have hname : (toString "max" ++ toString ".loop" : String) = "max.loop" := by decide
  refine codeAny_builtin F.entry_max_loop ?_
  rw [Around.under_plainId F.plain_max_loop _]
  show wpAny _ A.in1 (seqItems? (.ref S) >>= _) _ _ s
  refine wpAny_bind (wpAny_seqItems hS rfl ?_)
  show wpAny _ A.in1 (tryCatch (pyNext (.ref I)) _ >>= _) _ _ s
  by_cases hn : 0 < n
  · refine wpAny_bind (wpAny_tryCatch (W.item 0 s _ _ hn hst fun v h' tk hP hst' hk' => ?_))
    obtain ⟨x1, t1, rfl⟩ := hint _ _ hP
    have hS' := hk' S _ hSw hS
    show wpAny _ A.in1 (updateSeq S (fun _ => #[.int x1 t1, .int x1 t1]) >>= _) _ _ _
    refine wpAny_bind ?_
    refine wpAny_updateSeq hS' rfl ?_
    rw [hname]
    refine wpAny_pure ⟨plainId_quiet F.plain_max_loop _, aS6 W hint S hSf _ _ 0 _ x1 t1 _ rfl hn (W.frame _ _ _ hst' fun b hbf o e => ?_) (Heap.get?_update_self _ hS' rfl) fun x t h'' tk'' hk'' => ?_⟩
    · exact (Heap.get?_update_other _ _ (fun h : S = b => hSf (by rw [h]; exact hbf))).trans e
    · exact hR x t h'' tk'' fun b o hbw hbS e => hk'' b o hbw hbS ((Heap.get?_update_other _ _ (Ne.symm hbS)).trans (hk' b o hbw e))
  · have h0 : n = 0 := by omega
    refine wpAny_bind (wpAny_tryCatch (W.done s _ _ (by rw [h0]; exact hst) fun h' tk hk' => ?_))
    show wpAny _ A.in1 (rule _ >>= _) _ _ _
    refine wpAny_bind (wpAny_rule (wpAny_pure ?_))
    exact hR x0 t0 _ tk fun b o hbw hbS e => hk' b o hbw e
theorem aU3 (a d : Value) : argsOk "max" ⟨[a], [("default", d)]⟩ := by unfold argsOk; kernel_rfl
end
section
variable {X : Cx}
def aF0 (K : PySem.W.Frag) (ta : TA) : TE := fun σ H Q => ta σ H fun vs H1 => ∃ (a : Addr) (ns : List Int), vs = [.ref a] ∧ SqL K H1 a (ns.map V.int) ∧ ∀ i : Int, Q (.int i) H1
theorem aU0 (hc : X.calm = true) {pins : List (Addr × Obj)} {s : Shared} {σ : St} {H : Hp} {a : Addr} {ns : List Int} {Q : VK} {x0 : Int} {t0 : Tok} (I : Inv X pins σ H s) (hq : SqL X.K H a (ns.map V.int)) (q : ∀ i : Int, Q (.int i) H) :
    wpAny (model X.prog X.w) X.A (call (.builtin "max") [.ref a] [("default", .int x0 t0)]) (EP X pins σ Q) X.xe s := by
  have hname : (toString "max" ++ toString ".loop" : String) = "max.loop" := by decide
  obtain ⟨its, r', pl, hz⟩ := I.list hq
  have hp : a ≠ s.heap.objs.size := by
    obtain ⟨o, ho, _⟩ := pl.isList
    exact Nat.ne_of_lt (Heap.lt_size ho)
  refine aE0 F.kind_max F.plain_max F.entry_max (aU3 _ _) ?_
  show wpAny _ X.A.in1 (Builtin.Builtins.bindParams "max" ["key", "default"] 0 ⟨[], [("default", .int x0 t0)]⟩ >>= _) _ _ s
  refine wpAny_bind (wpAny_of_eq (show Builtin.Builtins.bindParams "max" ["key", "default"] 0 ⟨[], [("default", .int x0 t0)]⟩ = pure [none, some (.int x0 t0)] from by with_unfolding_all rfl) ?_)
  refine wpAny_bind (wpAny_pure ?_)
  refine wpAny_bind (wpAny_pyIter_list pl.isList ?_)
  refine wpAny_bind (wpAny_newObj_type ?_)
  have a1 : a < s.heap.objs.size := by obtain ⟨o, ho, _⟩ := pl.isList; exact Heap.lt_size ho
  rw [hname]
  refine wpAny_pure ⟨plainId_quiet F.plain_max_loop _, ?_⟩
  refine aL5 (Walks.list (A := X.A.in1) (I.ok.hd hc) s.heap.objs.size a hp its.toArray) ?_ _ ?_ ⟨⟨_, Heap.get?_push_of_some _ (Heap.get?_push_size _ rfl), rfl, rfl⟩, pl.isList.at fun o e => Heap.get?_push_of_some _ (Heap.get?_push_of_some _ e)⟩ (Heap.get?_push_size _ rfl) ?_
  · intro i v hv
    have hv' : its[i]? = some v := by simpa using hv
    have hi : i < ns.length := by
      have := (List.getElem?_eq_some_iff.mp hv').1
      rw [← r'.length, List.length_map] at this; exact this
    obtain ⟨u, hu, ru⟩ := r'.get (i := i) (x := .int ns[i]) (by rw [List.getElem?_map, List.getElem?_eq_getElem hi]; rfl)
    rw [hv'] at hu
    cases hu
    obtain ⟨t, rfl⟩ := ru
    exact ⟨_, _, rfl⟩
  · rw [Heap.size_push]
    intro z
    rcases (by simpa using z : s.heap.objs.size + 1 = s.heap.objs.size ∨ s.heap.objs.size + 1 = a) with e | e
    · exact absurd e (Nat.succ_ne_self _)
    · exact absurd a1 (by rw [← e]; exact Nat.not_lt.mpr (Nat.le_succ _))
  · intro x t h' tk kk
    refine ⟨.int x, H, I.kept (t' := tk) fun b o e => kk b o ?_ ?_ (Heap.get?_push_of_some _ (Heap.get?_push_of_some _ e)), ⟨t, rfl⟩, q x⟩
    · intro z
      have : b = s.heap.objs.size := by simpa using z
      exact absurd (Heap.lt_size e) (by rw [this]; exact Nat.lt_irrefl _)
    · rw [Heap.size_push]
      intro z
      exact absurd (Heap.lt_size e) (by rw [z]; exact Nat.not_lt.mpr (Nat.le_succ _))
theorem bf5 {l : Expr} {ta : TA} {p pos p1 p2 : Pos} {x0 : Int} {j : Nat} (hc : X.calm = true) (hg : Gl X "max") (hm : X.mg "max" = none) (ha : PA X [l] ta) (hs : starEach [l] X.env = [(false, eval l X.env)] := by rfl) :
    PE X (.Call (.Name "max" p) [l] [⟨some "default", .Constant (.int x0) j p1, p2⟩] pos) (aF0 X.K ta) := by
  intro pins s σ H Q I h
  refine wpAny_Call_Name_kw (Z9 I hg hm (u := .builtin "max") (by decide +kernel) ?_ (by decide) (by decide))
  refine callWith_kw (thn (ha pos pins s σ H _ I h) fun us s1 ⟨vs, H1, I1, r1, q1⟩ => ?_) (by rw [hs]; rfl) (by rw [hs]; rfl) rfl rfl
  obtain ⟨a, ns, e, hq, q⟩ := q1
  subst e
  obtain ⟨u, rfl, rx⟩ := ab7 r1
  cases rx
  show wpAny _ _ (evalAll [do let v ← eval (.Constant (.int x0) j p1) X.env; standAt pos; pure v]) _ _ _
  unfold evalAll
  refine wpAny_bind (wpAny_bind (wpAny_Constant_int (wpAny_bind (wpAny_standAt (wpAny_pure ?_)))))
  unfold evalAll
  refine wpAny_bind (wpAny_holding (wpAny_pure (wpAny_pure ?_)))
  exact aU0 hc (I1.tok _) hq q
end
end L2
set_option maxRecDepth 100000
namespace R
open PySem L2 PyProof.Rows
structure BdN (k : Nat) (q : Rat) : Prop where
  n : q.num.natAbs < 2 ^ k
  d : q.den < 2 ^ k
theorem BdN.mono {m n : Nat} {q : Rat} (h : BdN m q) (l : m ≤ n) : BdN n q := ⟨Nat.lt_of_lt_of_le h.n (d7 l), Nat.lt_of_lt_of_le h.d (d7 l)⟩
theorem Sm.bdN {q : Rat} (s : Sm q) : BdN 40 q := ⟨Nat.lt_of_le_of_lt s.n (by decide), Nat.lt_of_le_of_lt s.d (by decide)⟩
theorem BdN.mul {m n : Nat} {p q : Rat} (a : BdN m p) (b : BdN n q) : BdN (m + n) (p * q) := by
  rw [U5]
  have hb : (p.den : Int) * q.den ≠ 0 := Int.ne_of_gt (Int.mul_pos (n9 p) (n9 q))
  obtain ⟨e1, e2⟩ := K5 (t := p.num * q.num) hb
  rw [Int.natAbs_mul] at e1 e2
  refine ⟨Nat.lt_of_le_of_lt e1 ?_, Nat.lt_of_le_of_lt e2 ?_⟩
  · rw [Nat.pow_add]; exact Nat.mul_lt_mul'' a.n b.n
  · rw [Nat.pow_add, Int.natAbs_natCast, Int.natAbs_natCast]; exact Nat.mul_lt_mul'' a.d b.d
structure SmW (q : Rat) : Prop where
  n : q.num.natAbs < 2 ^ 42
  d : q.den < 2 ^ 40
def Y8 : List Rat → List Rat → List Rat
  | [], q => q
  | x :: p, [] => x :: p
  | x :: p, y :: q => (x + y) :: Y8 p q
theorem at8 : ∀ p q : List Rat, (Y8 p q).length = max p.length q.length
  | [], q => by simp [Y8]
  | x :: p, [] => by simp [Y8]
  | x :: p, y :: q => by simp only [Y8, List.length_cons, at8 p q]; omega
theorem at9 : ∀ (p q : List Rat) (i : Nat), i < max p.length q.length → (Y8 p q)[i]? = some ((p[i]?).getD 0 + (q[i]?).getD 0)
  | [], q, i, h => by
    have : i < q.length := by simpa using h
    simp only [Y8, List.getElem?_nil, Option.getD_none, List.getElem?_eq_getElem this, Option.getD_some]
    congr 1; grind
  | x :: p, [], i, h => by
    have : i < (x :: p).length := by simpa using h
    simp only [Y8, List.getElem?_nil, Option.getD_none, List.getElem?_eq_getElem this, Option.getD_some]
    congr 1; grind
  | x :: p, y :: q, 0, h => rfl
  | x :: p, y :: q, i + 1, h => by
    simp only [Y8, List.getElem?_cons_succ]
    exact at9 p q i (by simp only [List.length_cons] at h; omega)
section
variable {α β : Type}
def L8 [Add α] : List α → Nat → α → List α
  | [], _, _ => []
  | y :: r, 0, x => (y + x) :: r
  | y :: r, k + 1, x => y :: L8 r k x
theorem aj6 [Add α] : ∀ (f : List α) (k : Nat) (x : α), (L8 f k x).length = f.length
  | [], _, _ => rfl
  | _ :: _, 0, _ => rfl
  | _ :: r, k + 1, x => by simp [L8, aj6 r k x]
theorem X3 [Add α] : ∀ (f : List α) (k : Nat) (x y : α), f[k]? = some y → f.set k (y + x) = L8 f k x
  | [], _, _, _, h => by simp at h
  | z :: r, 0, x, y, h => by cases h; rfl
  | z :: r, k + 1, x, y, h => by
    rw [List.set_cons_succ, L8, X3 r k x y (by simpa using h)]
theorem Q9 [Add α] : ∀ (f : List α) (k i : Nat) (x : α), i ≠ k → (L8 f k x)[i]? = f[i]?
  | [], _, _, _, _ => rfl
  | _ :: _, 0, 0, _, h => absurd rfl h
  | _ :: _, 0, i + 1, _, _ => rfl
  | _ :: _, k + 1, 0, _, _ => rfl
  | _ :: r, k + 1, i + 1, x, h => by
    simp only [L8, List.getElem?_cons_succ]; exact Q9 r k i x (by omega)
theorem U7 [Add α] : ∀ (f : List α) (k : Nat) (x y : α), f[k]? = some y → (L8 f k x)[k]? = some (y + x)
  | [], _, _, _, h => by simp at h
  | z :: r, 0, x, y, h => by cases h; rfl
  | z :: r, k + 1, x, y, h => by simp only [L8, List.getElem?_cons_succ]; exact U7 r k x y (by simpa using h)
theorem az7 [Add α] [Add β] (φ : α → β) (hφ : ∀ a b, φ (a + b) = φ a + φ b) : ∀ (f : List α) (k : Nat) (x : α), (L8 f k x).map φ = L8 (f.map φ) k (φ x)
  | [], _, _ => rfl
  | y :: r, 0, x => by simp [L8, hφ]
  | y :: r, k + 1, x => by simp [L8, az7 φ hφ r k x]
def p5 [Add α] [Mul α] (z : α) (f : List α) (i : Nat) (x : α) (q : List α) : Nat → List α
  | 0 => f
  | j + 1 => L8 (p5 z f i x q j) (i + j) (x * (q[j]?).getD z)
def u8 [Add α] [Mul α] (z : α) (f p q : List α) : Nat → List α
  | 0 => f
  | i + 1 => p5 z (u8 z f p q i) i ((p[i]?).getD z) q q.length
theorem S7 [Add α] [Mul α] (z : α) (f : List α) (i : Nat) (x : α) (q : List α) : ∀ j, (p5 z f i x q j).length = f.length
  | 0 => rfl
  | j + 1 => by rw [p5, aj6, S7 z f i x q j]
theorem R9 [Add α] [Mul α] (z : α) (f p q : List α) : ∀ n, (u8 z f p q n).length = f.length
  | 0 => rfl
  | n + 1 => by rw [u8, S7, R9 z f p q n]
theorem ad8 [Add α] [Mul α] (z : α) (f : List α) (i : Nat) (x : α) (q : List α) (k : Nat) : ∀ j, i + j ≤ k → (p5 z f i x q j)[k]? = f[k]?
  | 0, _ => rfl
  | j + 1, h => by rw [p5, Q9 _ _ _ _ (by omega), ad8 z f i x q k j (by omega)]
theorem aq9 [Add α] [Mul α] (z : α) (f p q : List α) (k : Nat) : ∀ n, n + q.length ≤ k + 1 → (u8 z f p q n)[k]? = f[k]?
  | 0, _ => rfl
  | n + 1, h => by rw [u8, ad8 _ _ _ _ _ _ _ (by omega), aq9 z f p q k n (by omega)]
end
def O6 (p q : List Rat) : List Rat := if p = [] ∨ q = [] then [] else u8 0 (List.replicate (p.length + q.length - 1) 0) p q p.length
def W5 (p q : List Int) : List Int := if p = [] ∨ q = [] then [] else u8 0 (List.replicate (p.length + q.length - 1) 0) p q p.length
def scl (s : Rat) (ws : List Int) : List Rat := ws.map fun w : Int => s * (w : Rat)
theorem U9 (s : Rat) (ws : List Int) : (scl s ws).length = ws.length := by simp [scl]
theorem aG4 (s : Rat) (ws : List Int) (i : Nat) : ((scl s ws)[i]?).getD 0 = s * (((ws[i]?).getD 0 : Int) : Rat) := by
  unfold scl
  rw [List.getElem?_map]
  cases ws[i]? with
  | none => show (0 : Rat) = s * ((0 : Int) : Rat); rw [Rat.intCast_zero]; grind
  | some w => rfl
theorem aR4 (s : Rat) (f : List Int) (k : Nat) (x : Int) : scl s (L8 f k x) = L8 (scl s f) k (s * (x : Rat)) :=
  az7 (fun w : Int => s * (w : Rat)) (fun a b => by rw [Rat.intCast_add]; grind) f k x
theorem ax1 (s t : Rat) (f : List Int) (i : Nat) (x : Int) (q : List Int) : ∀ j, scl (s * t) (p5 0 f i x q j) = p5 0 (scl (s * t) f) i (s * (x : Rat)) (scl t q) j
  | 0 => rfl
  | j + 1 => by
    rw [p5, p5, aR4, ax1 s t f i x q j, aG4, Rat.intCast_mul]
    congr 1; grind
theorem ax0 (s t : Rat) (f p q : List Int) : ∀ n, scl (s * t) (u8 0 f p q n) = u8 0 (scl (s * t) f) (scl s p) (scl t q) n
  | 0 => rfl
  | n + 1 => by rw [u8, u8, ax1, ax0 s t f p q n, aG4, U9]
theorem aO2 (s t : Rat) (p q : List Int) : scl (s * t) (W5 p q) = O6 (scl s p) (scl t q) := by
  unfold W5 O6
  have e1 : (scl s p = [] ∨ scl t q = []) ↔ (p = [] ∨ q = []) := by simp [scl]
  by_cases h : p = [] ∨ q = []
  · rw [if_pos h, if_pos (e1.mpr h)]; rfl
  · rw [if_neg h, if_neg (fun z => h (e1.mp z)), ax0, U9, U9]
    congr 1
    unfold scl
    rw [List.map_replicate]
    congr 1
    rw [Rat.intCast_zero]; grind
theorem aS5 {p q : List Rat} (hp : p ≠ []) (hq : q ≠ []) {x y : Rat} (hx : p[p.length - 1]? = some x) (hy : q[q.length - 1]? = some y) : (O6 p q)[(O6 p q).length - 1]? = some (x * y) := by
  have lp : 0 < p.length := List.length_pos_iff.mpr hp
  have lq : 0 < q.length := List.length_pos_iff.mpr hq
  unfold O6
  rw [if_neg (by simp [hp, hq]), R9, List.length_replicate]
  obtain ⟨n, hn⟩ : ∃ n, p.length = n + 1 := ⟨p.length - 1, by omega⟩
  obtain ⟨m, hm⟩ : ∃ m, q.length = m + 1 := ⟨q.length - 1, by omega⟩
  have hx' : (p[n]?).getD 0 = x := by
    have : p[n]? = some x := by rw [hn] at hx; simpa using hx
    rw [this]; rfl
  have hy' : (q[m]?).getD 0 = y := by
    have : q[m]? = some y := by rw [hm] at hy; simpa using hy
    rw [this]; rfl
  have key : ∀ F : List Rat, u8 0 F p q (n + 1) = L8 (p5 0 (u8 0 F p q n) n x q m) (n + m) (x * y) := fun F => by
    rw [u8, hm, p5, hx', hy']
  rw [hn, hm, key]
  have e : n + 1 + (m + 1) - 1 - 1 = n + m := by omega
  rw [e]
  have h0 : (p5 (0 : Rat) (u8 0 (List.replicate (n + 1 + (m + 1) - 1) 0) p q n) n x q m)[n + m]? = some 0 := by
    rw [ad8 _ _ _ _ _ _ _ (by omega), aq9 _ _ _ _ _ _ (by rw [hm]; omega), List.getElem?_replicate, if_pos (by omega)]
  rw [U7 _ _ _ _ h0]
  congr 1; grind
theorem aI0 {p q : List Rat} (hp : p ≠ []) (hq : q ≠ []) : (O6 p q).length = p.length + q.length - 1 := by
  unfold O6
  rw [if_neg (by simp [hp, hq]), R9, List.length_replicate]
def j3 (qs : List Rat) : Nat := qs.foldl (fun b q => Nat.lcm b q.den) 1
theorem aS8 (qs : List Rat) (q : Rat) : j3 (qs ++ [q]) = Nat.lcm (j3 qs) q.den := by simp [j3]
theorem al3 : ∀ (qs : List Rat) (b m : Nat), b ∣ m → (∀ q ∈ qs, q.den ∣ m) → qs.foldl (fun b q => Nat.lcm b q.den) b ∣ m
  | [], _, _, h, _ => h
  | q :: qs, b, m, h, k => al3 qs _ m (Nat.lcm_dvd h (k q List.mem_cons_self)) fun r hr => k r (List.mem_cons_of_mem _ hr)
theorem as0 {qs : List Rat} {m : Nat} (h : ∀ q ∈ qs, q.den ∣ m) : j3 qs ∣ m := al3 qs 1 m (Nat.one_dvd _) h
theorem ag7 : ∀ (qs : List Rat) (b : Nat), b ∣ qs.foldl (fun b q => Nat.lcm b q.den) b
  | [], _ => Nat.dvd_refl _
  | q :: qs, b => Nat.dvd_trans (Nat.dvd_lcm_left _ _) (ag7 qs _)
theorem al1 : ∀ (qs : List Rat) (b : Nat) (q : Rat), q ∈ qs → q.den ∣ qs.foldl (fun b q => Nat.lcm b q.den) b
  | r :: qs, b, q, h => by
    rcases List.mem_cons.mp h with e | e
    · subst e; exact Nat.dvd_trans (Nat.dvd_lcm_right _ _) (ag7 qs _)
    · exact al1 qs _ q e
theorem M2 {qs : List Rat} {q : Rat} (h : q ∈ qs) : q.den ∣ j3 qs := al1 qs 1 q h
def t7 (ws : List Int) : Nat := ws.foldl (fun c w => Int.gcd w c) 0
theorem aT2 (ws : List Int) (w : Int) : t7 (ws ++ [w]) = Int.gcd w (t7 ws) := by simp [t7]
theorem al5 : ∀ (ws : List Int) (c : Nat), (ws.foldl (fun c w => Int.gcd w c) c ∣ c) ∧ ∀ w ∈ ws, ((ws.foldl (fun c w => Int.gcd w c) c : Nat) : Int) ∣ w
  | [], c => ⟨Nat.dvd_refl _, by simp⟩
  | w :: ws, c => by
    obtain ⟨h1, h2⟩ := al5 ws (Int.gcd w c)
    have a1 : Int.gcd w c ∣ c := by have := Int.gcd_dvd_right w (c : Int); exact Int.natCast_dvd_natCast.mp this
    refine ⟨Nat.dvd_trans h1 a1, fun v hv => ?_⟩
    rcases List.mem_cons.mp hv with e | e
    · subst e
      exact Int.dvd_trans (Int.natCast_dvd_natCast.mpr h1) (Int.gcd_dvd_left v (c : Int))
    · exact h2 v e
theorem K9 {ws : List Int} {w : Int} (h : w ∈ ws) : ((t7 ws : Nat) : Int) ∣ w := (al5 ws 0).2 w h
theorem al4 : ∀ (ws : List Int), ws.foldl (fun c w => Int.gcd w c) 1 = 1
  | [] => rfl
  | w :: ws => by
    rw [List.foldl_cons]
    have : Int.gcd w ((1 : Nat) : Int) = 1 := by simp
    rw [this, al4 ws]
theorem bc7 {ws : List Int} (i : Nat) (h : t7 (ws.take i) = 1) : t7 ws = 1 := by
  have e : ws = ws.take i ++ ws.drop i := (List.take_append_drop i ws).symm
  rw [e]
  unfold t7 at h ⊢
  rw [List.foldl_append, h, al4]
def i8 (B : Nat) (qs : List Rat) : List Int := qs.map fun q => q.num * (B : Int).fdiv (q.den : Int)
theorem ao2 {B : Nat} {q : Rat} (hB : 0 < B) (h : q.den ∣ B) : q = Rat.divInt (q.num * (B : Int).fdiv (q.den : Int)) B := by
  obtain ⟨e, he⟩ := h
  have hd : (q.den : Int) ≠ 0 := by have := q.den_nz; omega
  have e1 : (B : Int).fdiv (q.den : Int) = (e : Int) := by
    rw [he, Int.natCast_mul]; exact j2 hd
  rw [e1]
  conv => lhs; rw [← Rat.num_divInt_den q]
  rw [Rat.divInt_eq_divInt_iff hd (by omega), he, Int.natCast_mul]
  grind
end R
namespace L2
open PySem PySem.Spec PyProof.Rows
section
variable {K : PySem.W.Frag} {a b D : Addr} {xs ys : List V} {g : TG} {te : TE} {σ0 : St} {H0 : Hp} {Q : VK}
theorem bi0 (xs : List V) (Pv : Nat → St → Hp → Prop) (h0 : Pv 0 σ0 H0) (hl : ∀ i σ H, Pv i σ H → SqL K H a xs)
    (hs : ∀ i x σ H p, xs[i]? = some x → Pv i σ H → H p = none → g (.ref p) σ (upd H p (.tup [.int i, x])) fun σ4 H4 => te σ4 H4 fun v H5 => N5 D xs.length Pv i σ4 v H5)
    (hd : ∀ σ H, Pv xs.length σ H → Q (.ref D) H) : al7 (Ite K a) D σ0 H0 g te Q := by
  refine ⟨fun i m σ H => m = xs.length - i ∧ i ≤ xs.length ∧ Pv i σ H, ⟨_, rfl, Nat.zero_le _, h0⟩, ?_⟩
  rintro i m σ H ⟨rfl, hi, p⟩
  have q := hl i σ H p
  by_cases hlt : i < xs.length
  · refine .inr ⟨⟨xs, xs[i], q, List.getElem?_eq_getElem hlt⟩, ?_⟩
    intro x H3 hy
    obtain ⟨y, r, hy1, hr, rfl, rfl⟩ := hy xs q
    exact hs i y σ _ r hy1 p hr
  · have e : i = xs.length := by omega
    subst e
    exact .inl ⟨⟨xs, q, Nat.le_refl _⟩, hd σ H p⟩
theorem W7 {tb : TS} {E : ab6} {σ : St} {H : Hp} (xs : List V) (Pv : Nat → St → Hp → Prop) (h0 : Pv 0 σ H) (hl : ∀ i σ H, Pv i σ H → SqL K H a xs)
    (hs : ∀ i x σ H p, xs[i]? = some x → Pv i σ H → H p = none → g (.ref p) σ (upd H p (.tup [.int i, x])) fun σ2 H2 => tb { E with nx := Pv (i + 1), ct := Pv (i + 1), bk := E.nx } σ2 H2) (hd : ∀ σ H, Pv xs.length σ H → E.nx σ H) :
    ∃ W : Nat → Nat → St → Hp → Prop, (∃ m, W 0 m σ H) ∧ ∀ i m σ H, W i m σ H →
      ((Ite K a).stop i H ∧ E.nx σ H) ∨ ((Ite K a).go i H ∧ ∃ N : St → Hp → Prop, (∀ σ' H', N σ' H' → ∃ m', m' < m ∧ W (i + 1) m' σ' H') ∧ ∀ x H', (Ite K a).yld i H x H' → g x σ H' fun σ2 H2 => tb { E with nx := N, ct := N, bk := E.nx } σ2 H2) := by
  refine ⟨fun i m σ H => m = xs.length - i ∧ i ≤ xs.length ∧ Pv i σ H, ⟨_, rfl, Nat.zero_le _, h0⟩, ?_⟩
  rintro i m σ H ⟨rfl, hi, p⟩
  have q := hl i σ H p
  by_cases hlt : i < xs.length
  · refine .inr ⟨⟨xs, xs[i], q, List.getElem?_eq_getElem hlt⟩, Pv (i + 1), fun σ' H' n => ⟨_, by omega, rfl, hlt, n⟩, ?_⟩
    intro x H3 hy
    obtain ⟨y, r, hy1, hr, rfl, rfl⟩ := hy xs q
    exact hs i y σ _ r hy1 p hr
  · have e : i = xs.length := by omega
    subst e
    exact .inl ⟨⟨xs, q, Nat.le_refl _⟩, hd σ H p⟩
end
section
variable {X : Cx}
theorem as5 : br7 X (aK3 X.K) := by
  intro pins s σ H x y v u Q I rx ry h
  obtain ⟨p, xs, i, z, rfl, rfl, hq, he, q⟩ := h
  cases rx
  obtain ⟨t, rfl⟩ := ry
  obtain ⟨its, r, pl, hz⟩ := I.list hq
  obtain ⟨j, h1, h2, h3, h4, h5⟩ := aE1 he
  obtain ⟨w, ew, rw'⟩ := r.get h2
  have hl := r.length
  have hn := ad6
  have fin : EP X pins σ Q w s := ⟨z, H, I, rw', q⟩
  by_cases h0 : 0 ≤ i
  · have hj : i.toNat = j := by
      rw [seqIndex_of h0 h5] at h1
      exact Option.some.inj h1
    exact wpAny_getItem_list pl.isList h0 (by omega) (by rw [hj]; simpa using ew) fin
  · have hj : (i + (its.toArray.size : Int)).toNat = j := by
      rw [seqIndex_neg (by omega) h4] at h1
      rw [List.size_toArray, ← hl]
      exact Option.some.inj h1
    exact wpAny_getItem_list_neg pl.isList (by omega) (by rw [List.size_toArray] <;> omega) (by omega) (by rw [hj]; simpa using ew) fin
end
end L2
set_option maxRecDepth 100000
namespace R
open PySem L2 PyProof.Rows
def j5 (f : Nat → Rat) : Nat → Rat
  | 0 => 0
  | n + 1 => j5 f n + f n
theorem Z3 (f : Nat → Rat) : ∀ n, j5 f (n + 1) = f 0 + j5 (fun i => f (i + 1)) n
  | 0 => by simp only [j5]; grind
  | n + 1 => by
    rw [j5, Z3 f n, j5]; grind
theorem v3 {f g : Nat → Rat} : ∀ {n}, (∀ i, i < n → f i = g i) → j5 f n = j5 g n
  | 0, _ => rfl
  | n + 1, h => by rw [j5, j5, v3 fun i hi => h i (by omega), h n (by omega)]
theorem ab8 : ∀ (n : Nat) (f : Nat → Rat), j5 f n = j5 (fun i => f (n - 1 - i)) n
  | 0, _ => rfl
  | n + 1, f => by
    rw [Z3 (fun i => f (n + 1 - 1 - i)) n, j5, ab8 n f]
    have : j5 (fun i => f (n - 1 - i)) n = j5 (fun i => f (n + 1 - 1 - (i + 1))) n := v3 fun i hi => by congr 1; omega
    rw [this]
    show _ = f (n + 1 - 1 - 0) + _
    rw [show n + 1 - 1 - 0 = n by omega]
    grind
theorem T0 {f : Nat → Rat} {m : Nat} : ∀ {n}, m ≤ n → (∀ i, m ≤ i → i < n → f i = 0) → j5 f n = j5 f m
  | 0, h, _ => by rw [show m = 0 by omega]
  | n + 1, h, z => by
    by_cases e : m = n + 1
    · rw [e]
    · rw [j5, z n (by omega) (by omega), T0 (n := n) (by omega) fun i a b => z i a (by omega)]
      grind
theorem ay3 (f : List Rat) (i : Nat) (x : Rat) (q : List Rat) {k : Nat} (y : Rat) (hy : f[k]? = some y) : ∀ j, (p5 0 f i x q j)[k]? = some (y + if i ≤ k ∧ k < i + j then x * (q[k - i]?).getD 0 else 0)
  | 0 => by
    rw [p5, hy, if_neg (by omega)]; congr 1; grind
  | j + 1 => by
    have ih := ay3 f i x q y hy j
    rw [p5]
    by_cases e : k = i + j
    · subst e
      rw [U7 _ _ _ _ ih, if_neg (by omega), if_pos (by omega), show i + j - i = j by omega]
      congr 1; grind
    · rw [Q9 _ _ _ _ e, ih]
      by_cases h : i ≤ k ∧ k < i + j
      · rw [if_pos h, if_pos (by omega)]
      · rw [if_neg h, if_neg (by omega)]
def aA2 (p q : List Rat) (k i : Nat) : Rat := if i ≤ k then (p[i]?).getD 0 * (q[k - i]?).getD 0 else 0
theorem ax9 (f p q : List Rat) {k : Nat} (hy : f[k]? = some 0) : ∀ n, (u8 0 f p q n)[k]? = some (j5 (aA2 p q k) n)
  | 0 => hy
  | n + 1 => by
    rw [u8, ay3 _ _ _ _ _ (ax9 f p q hy n), j5]
    congr 2
    unfold aA2
    by_cases h : n ≤ k
    · rw [if_pos h]
      by_cases h2 : k < n + q.length
      · rw [if_pos ⟨h, h2⟩]
      · rw [if_neg (by omega), List.getElem?_eq_none (l := q) (by omega)]
        show (0 : Rat) = _ * 0
        grind
    · rw [if_neg h, if_neg (by omega)]
theorem bb0 {p q : List Rat} (hp : p ≠ []) (hq : q ≠ []) {k : Nat} (hk : k < p.length + q.length - 1) : (O6 p q)[k]? = some (j5 (fun i => (p[i]?).getD 0 * (q[k - i]?).getD 0) (k + 1)) := by
  unfold O6
  rw [if_neg (by simp [hp, hq]), ax9 _ _ _ (by rw [List.getElem?_replicate, if_pos hk])]
  congr 1
  have h1 : j5 (aA2 p q k) (max p.length (k + 1)) = j5 (aA2 p q k) p.length := T0 (by omega) fun i a _ => by
    unfold aA2
    rw [List.getElem?_eq_none a]
    split
    · show (0 : Rat) * _ = 0; grind
    · rfl
  have h2 : j5 (aA2 p q k) (max p.length (k + 1)) = j5 (aA2 p q k) (k + 1) := T0 (by omega) fun i a _ => by
    unfold aA2
    rw [if_neg (by omega)]
  rw [← h1, h2]
  exact v3 fun i hi => by unfold aA2; rw [if_pos (by omega)]
end R
namespace L2
theorem i9 {t R : TS} {D : ab6} {σ : St} {H : Hp} (P : St → Hp → Prop) (first : ∀ N : St → Hp → Prop, (∀ σ H, P σ H → N σ H) → t { D with nx := N } σ H) (af1 : ∀ σ H, P σ H → R D σ H) : aQ6 t R D σ H := first _ af1
end L2
set_option maxRecDepth 100000
namespace R
section
variable {α : Type} [Lean.Grind.CommRing α]
def syn (c : α) : List α → List α
  | [] => []
  | a :: p => match syn c p with
    | [] => [a]
    | h :: t => (a + c * h) :: h :: t
def pass (c : α) (k : Nat) (l : List α) : List α := l.take k ++ syn c (l.drop k)
end
open PySem L2 PyProof.Rows
structure Bd6 (q : Rat) : Prop where
  n : q.num.natAbs < 2 ^ 6000
  d : q.den < 2 ^ 6000
theorem BdN.bd6 {n : Nat} {q : Rat} (h : BdN n q) (l : n ≤ 6000) : Bd6 q := ⟨Nat.lt_of_lt_of_le h.n (d7 l), Nat.lt_of_lt_of_le h.d (d7 l)⟩
theorem al0 : ∀ (qs : List Rat) (b : Nat), 0 < b → 0 < qs.foldl (fun b q => Nat.lcm b q.den) b
  | [], b, h => h
  | q :: qs, b, h => al0 qs _ (Nat.lcm_pos h (by have := q.den_nz; omega))
theorem B1 (qs : List Rat) : 0 < j3 qs := al0 qs 1 (by decide)
theorem al2 (m : Nat) : ∀ (qs : List Rat) (b n : Nat), 0 < b → b < 2 ^ n → (∀ q ∈ qs, q.den < 2 ^ m) → qs.foldl (fun b q => Nat.lcm b q.den) b < 2 ^ (n + m * qs.length)
  | [], b, n, h0, h, _ => by simpa using h
  | q :: qs, b, n, h0, h, k => by
    have hd : 0 < q.den := by have := q.den_nz; omega
    have h1 : 0 < Nat.lcm b q.den := Nat.lcm_pos h0 hd
    have h2 : Nat.lcm b q.den ≤ b * q.den := Nat.le_of_dvd (Nat.mul_pos h0 hd) (Nat.lcm_dvd (Nat.dvd_mul_right _ _) (Nat.dvd_mul_left _ _))
    have h3 : b * q.den < 2 ^ (n + m) := by rw [Nat.pow_add]; exact Nat.mul_lt_mul'' h (k q List.mem_cons_self)
    have ih := al2 m qs (Nat.lcm b q.den) (n + m) h1 (by omega) fun r hr => k r (List.mem_cons_of_mem _ hr)
    have e : n + m + m * qs.length = n + m * (q :: qs).length := by rw [List.length_cons, Nat.mul_succ]; omega
    rw [e] at ih
    exact ih
theorem bb6 {m : Nat} {qs : List Rat} (h : ∀ q ∈ qs, q.den < 2 ^ m) : j3 qs < 2 ^ (1 + m * qs.length) := al2 m qs 1 1 (by decide) (by decide) h
theorem aD9 (qs : List Rat) : Int.gcd (t7 (i8 (j3 qs) qs) : Int) (j3 qs : Int) = 1 := by
  have hB := B1 qs
  have key : ∀ c : Nat, c ∣ t7 (i8 (j3 qs) qs) → c ∣ j3 qs → c = 1 := by
    intro c h1 h2
    have hc : 0 < c := Nat.pos_of_dvd_of_pos h2 hB
    have h3 : j3 qs ∣ j3 qs / c := by
      refine as0 fun q hq => ?_
      obtain ⟨e, he⟩ := M2 hq
      have hd : (q.den : Int) ≠ 0 := by have := q.den_nz; omega
      have e1 : (j3 qs : Int).fdiv (q.den : Int) = (e : Int) := by
        rw [he, Int.natCast_mul]; exact j2 hd
      have m1 : (c : Int) ∣ q.num * (e : Int) := by
        have := Int.dvd_trans (Int.natCast_dvd_natCast.mpr h1) (K9 (List.mem_map.mpr ⟨q, hq, rfl⟩))
        rw [e1] at this; exact this
      have m2 : c ∣ q.num.natAbs * e := by
        have := Int.natAbs_dvd_natAbs.mpr m1
        rw [Int.natAbs_mul] at this
        simpa using this
      have m3 : c ∣ q.den * e := by rw [← he]; exact h2
      have m4 : c ∣ e := by
        have := Nat.dvd_gcd m2 m3
        rw [Nat.gcd_mul_right] at this
        have hg : Nat.gcd q.num.natAbs q.den = 1 := q.reduced
        rw [hg, Nat.one_mul] at this
        exact this
      obtain ⟨f, hf⟩ := m4
      rw [he, hf]
      refine ⟨f, ?_⟩
      rw [show q.den * (c * f) = c * (q.den * f) by grind, Nat.mul_div_cancel_left _ hc]
    have h4 := Nat.le_of_dvd (Nat.div_pos (Nat.le_of_dvd hB h2) hc) h3
    have h5 := Nat.div_mul_cancel h2
    by_cases hc1 : c = 1
    · exact hc1
    · have : j3 qs / c * 2 ≤ j3 qs / c * c := Nat.mul_le_mul_left _ (by omega)
      omega
  have z := key (Int.gcd (t7 (i8 (j3 qs) qs) : Int) (j3 qs : Int))
  refine z ?_ ?_
  · exact Int.natCast_dvd_natCast.mp (Int.gcd_dvd_left _ _)
  · exact Int.natCast_dvd_natCast.mp (Int.gcd_dvd_right _ _)
def ak0 (ws : List Int) : Int := ws.foldl (fun p v => if v = 0 then p else p * v) 1
theorem aq4 (ws : List Int) (v : Int) : ak0 (ws ++ [v]) = if v = 0 then ak0 ws else ak0 ws * v := by simp [ak0]
theorem Y4 : ∀ (ws : List Int) (p : Int), p ∣ ws.foldl (fun p v => if v = 0 then p else p * v) p
  | [], p => Int.dvd_refl _
  | v :: ws, p => by
    simp only [List.foldl_cons]
    by_cases h : v = 0
    · rw [if_pos h]; exact Y4 ws p
    · rw [if_neg h]; exact Int.dvd_trans ⟨v, rfl⟩ (Y4 ws _)
theorem ag6 : ∀ (ws : List Int) (p v : Int), v ∈ ws → v ≠ 0 → v ∣ ws.foldl (fun p v => if v = 0 then p else p * v) p
  | [], p, v, h, _ => by cases h
  | u :: ws, p, v, h, hv => by
    simp only [List.foldl_cons]
    rcases List.mem_cons.mp h with e | e
    · subst e
      rw [if_neg hv]
      exact Int.dvd_trans ⟨p, Int.mul_comm _ _⟩ (Y4 ws _)
    · exact ag6 ws _ v e hv
theorem aR6 {ws : List Int} {v : Int} (h : v ∈ ws) (hv : v ≠ 0) : v ∣ ak0 ws := ag6 ws 1 v h hv
theorem bc6 {b p v : Int} (h : v ∣ p) : Int.gcd (Int.gcd b p : Nat) v = Int.gcd b v := by
  refine Nat.dvd_antisymm ?_ ?_
  · refine Int.dvd_gcd ?_ ?_
    · exact Int.dvd_trans (Int.gcd_dvd_left _ _) (Int.gcd_dvd_left _ _)
    · exact Int.gcd_dvd_right _ _
  · refine Int.dvd_gcd ?_ (Int.gcd_dvd_right _ _)
    exact Int.natCast_dvd_natCast.mpr (Int.dvd_gcd (Int.gcd_dvd_left _ _) (Int.dvd_trans (Int.gcd_dvd_right _ _) h))
end R
set_option maxRecDepth 100000
namespace L2
open PySem PySem.Spec PyProof.Rows
theorem aS2 {h : Heap} {a : Addr} {m : Str → Option Value} {o : Obj} (n : h.Ns a m) (e : h.get? a = some o) (v : Option Value) (z : o.data = .cell v) : False := by
  obtain ⟨o', es, ep, e', r⟩ := n
  rw [e] at e'
  cases e'
  have d := r.1
  rw [d] at z; cases z
section
variable {X : Cx}
theorem U1 {elt tg iter : Expr} {scope : Scope} {pos spos py : Pos} {y : Str} {i₀ : Nat} {cl : List (Str × Addr)} {Nc : List Str} {caps : List (Option Nat)} {wi : TI} {g : TG} {te : TE} (hN : X.N.Nodup) (hi₀ : X.N[i₀]? = some y) (hx : Loc X.env.scope y) (hc : X.calm = true) (cp : V9 X scope cl Nc caps) (hi : PI X tg iter wi)
    (hg : ∀ C s₂ H₂ fp pins, PG (X.block scope cl C Nc s₂ H₂ fp pins) tg g) (he : ∀ C s₂ H₂ fp pins, PE (X.block scope cl C Nc s₂ H₂ fp pins) elt te) (hs : ∀ x, foldedSetIterable iter X.env x = pure x := by intro _; rfl) (hsw : swapsWith (.ListComp elt [⟨tg, iter, [], 0⟩] scope pos) (some (.Name y py)) spos.line X.env = pure true := by rfl)
    (hf : X.fn y = true ∨ X.env.scope.names.lookup y = some .local := by first | exact .inl rfl | exact .inr rfl | assumption) :
    PS X (.Assign [.Name y py] (.ListComp elt [⟨tg, iter, [], 0⟩] scope pos) spos) (aJ9 (aW2 wi caps g te) (j9 i₀)) := by
  intro pins s σ H DD I h
  rw [exec_Assign_Name_used _ _ _ _ hsw]
  refine wpAny_bind (wpAny_standAt (wpAny_bind ?_))
  show wpAny _ X.A (do let _ ← comprehension (.ListComp elt [⟨tg, iter, [], 0⟩] scope pos) scope X.env _ (newList []) false (eval iter X.env) (some (assign (.Name y py) X.env))) _ _ s
  refine wpAny_bind (wpAny_mono (wpAny_comprehension_free (use := some (assign (.Name y py) X.env)) (Q := fun _ s' => SP X pins DD .next s') rfl hs cp.clos cp.kind cp.names ?_) (fun _ s' hq => wpAny_pure (wpAny_pure hq)) fun _ _ e => e)
  refine thn (hi pins s σ H _ I h) fun v s1 h1 => thn h1 fun itv s2 h2 => ?_
  obtain ⟨it, fp, tn, J, H2, e, I2, T, st2, f2, hW⟩ := h2
  subst e
  refine wpAny_newObj_type ?_ (by show 0 ≤ sizeLine; exact Nat.zero_le _)
  refine wpAny_newFunctionEnv cp.nocell (by intro y hy; simp at hy) (fun h4 hns hsb => ?_) cp.kind
  dsimp only at hns hsb ⊢
  generalize hH3 : s2.heap.push { cls := .type "list", dict := none, data := .seq ([] : List Value).toArray } = H3 at hns hsb ⊢
  have hCe : H3.objs.size = s2.heap.objs.size + 1 := by rw [← hH3, Heap.size_push]
  have ah6 : ∀ b o, s2.heap.get? b = some o → b ≠ H3.objs.size := fun b o e => by rw [hCe]; exact Nat.ne_of_lt (Nat.lt_succ_of_lt (Heap.lt_size e))
  have old : ∀ b o, s2.heap.get? b = some o → h4.get? b = some o := fun b o e => hsb.extBut b o (ah6 b o e) (Heap.get?_push_of_some _ (hH3 ▸ Heap.get?_push_of_some _ e))
  have hD : h4.get? s2.heap.objs.size = some { cls := .type "list", dict := none, data := .seq ([] : List Value).toArray } :=
    hsb.extBut _ _ (by rw [hCe]; exact Nat.ne_of_lt (Nat.lt_succ_self _)) (Heap.get?_push_of_some _ (hH3 ▸ Heap.get?_push_size _ rfl))
  have hDn : H2 s2.heap.objs.size = none := I2.fresh
  have hCn : H2 H3.objs.size = none := I2.hok.fresh (by rw [hCe]; exact Nat.le_succ _)
  have hCs : s2.heap.objs.size ≤ H3.objs.size := by rw [hCe]; exact Nat.le_succ _
  have hDC : s2.heap.objs.size ≠ H3.objs.size := by rw [hCe]; exact Nat.ne_of_lt (Nat.lt_succ_self _)
  have fpl : ∀ b ∈ fp, ∃ o, s2.heap.get? b = some o := fun b hb => let ⟨o, e, _⟩ := T.obj _ _ st2 b hb; ⟨o, e⟩
  have fpC : ∀ b ∈ fp, b ≠ H3.objs.size := fun b hb => let ⟨o, e⟩ := fpl b hb; ah6 b o e
  have fpD : ∀ b ∈ fp, b ≠ s2.heap.objs.size := fun b hb => let ⟨o, e⟩ := fpl b hb; Nat.ne_of_lt (Heap.lt_size e)
  have stkN : ∀ b, b ≠ X.env.locals → b ∉ X.fs → b ∉ frs X.stack := fun b h1 h2 z => (List.mem_cons.mp (I2.stkSub b z)).elim h1 h2
  obtain ⟨W, ⟨m0, w0⟩, turn⟩ := hW s2.heap.objs.size hDn
  have okB : (X.block scope cl H3.objs.size Nc s2 H2 fp pins).Ok := by
    refine ⟨I2.ok.mod, ?_, I2.ok.glob, I2.ok.blt, hCs, fun x y c h1 h2 => I2.ok.inj x y c (cp.sub x c h1) (cp.sub y c h2), fun x hx => cp.has x hx, fun x c h => (by cases h), I2.ok.hd, I2.ok.frames, .inl rfl, fun b hb => ⟨fpC b hb, fun x c h => (f2 b hb).2.2.2.2.1 x c (cp.sub x c h)⟩, I2.bs, Nat.le_trans I2.ok.bsz I2.sz, fun b o e hb => ?_, fun b hb => stkN b (f2 b hb).2.1 (f2 b hb).2.2.1, I2.stack, I2.stkFree⟩
    · exact cp.kind
    · rcases (f2 b hb).2.2.2.1 with z | z
      · exact I2.ok.noex b o e z
      · exact absurd (Nat.lt_of_lt_of_le (Heap.lt_size e) (Nat.le_trans I2.ok.bsz z)) (Nat.lt_irrefl _)
  have hokB : HOk X.prog X.w (upd H2 s2.heap.objs.size (.lst [])) h4 := I2.hok.laid old (Nat.le_refl _) ⟨Nat.zero_le _, [], _, .nil, hD⟩
  have IB : Inv (X.block scope cl H3.objs.size Nc s2 H2 fp pins) [] (R1 caps σ) (upd H2 s2.heap.objs.size (.lst [])) { s2 with heap := h4, toks := s2.toks + ([] : List (Str × Value)).length } := by
    refine ⟨okB, rfl, I2.bare, Un.laid old (Nat.le_refl _) hDn, ⟨_, hns, fun i x v e1 e2 e3 => ?_⟩, fun x c e => ?_, (show upd H2 s2.heap.objs.size (.lst []) H3.objs.size = none by rw [i5 (Ne.symm hDC)]; exact hCn), fun x c e => ?_, fun p hp => ?_, hokB, ?_⟩
    · unfold R1 at e2
      rw [List.getElem?_map] at e2
      cases hcap : caps[i]? with
      | none => rw [hcap] at e2; cases e2
      | some o =>
        rw [hcap] at e2
        cases o with
        | none => cases e2
        | some j =>
          have hj : σ[j]? = some (some v) := by
            have e2' : (σ[j]?).join = some v := Option.some.inj e2
            cases q : σ[j]? with
            | none => rw [q] at e2'; cases e2'
            | some z => rw [q] at e2'; exact congrArg some e2'
          obtain ⟨n1, n2, n3, n4⟩ := cp.cap i j x hcap e1
          obtain ⟨m, hm, hl⟩ := I2.loc
          obtain ⟨u, r, q⟩ := hl j x v n1 hj n2
          rcases q with ⟨k, _⟩ | ⟨k, c, ec, z⟩
          · exact absurd k n3
          · obtain ⟨c', ec'⟩ := cp.has x n4
            have := cp.sub x c' ec'
            rw [ec] at this; cases this
            obtain ⟨oc, ho, hd⟩ := z
            exact ⟨u, r, .inr ⟨n4, c, ec', oc, old _ _ ho, hd⟩⟩
    · obtain ⟨v, oc, ho, hd⟩ := I2.cell x c (cp.sub x c e)
      exact ⟨v, oc, old _ _ ho, hd⟩
    · obtain ⟨v, oc, ho, hd⟩ := I2.cell x c (cp.sub x c e)
      rw [i5 (Nat.ne_of_lt (Heap.lt_size ho))]
      exact I2.freeC x c (cp.sub x c e)
    · have hp' : p ∈ X.pn ++ pins := by simpa using hp
      obtain ⟨e1, e2, e3, e4, e5⟩ := I2.pin p hp'
      exact ⟨old _ _ e1, by rw [i5 (Nat.ne_of_lt (Heap.lt_size e1))]; exact e2, ah6 _ _ e1, stkN _ e3 e4, e5⟩
    · show (R1 caps σ).length = Nc.length
      unfold R1
      rw [List.length_map]; exact cp.len
  have stat : ∀ {H' : Hp}, (∀ b ∈ fp, H' b = none) → ∀ b ∈ fp, am6 (X.block scope cl H3.objs.size Nc s2 H2 fp pins) [] H' b := fun hn b hb =>
    ⟨hn b hb, fpC b hb, stkN b (f2 b hb).2.1 (f2 b hb).2.2.1, .inl hb, fun x c h => (f2 b hb).2.2.2.2.1 x c (cp.sub x c h), fun p hp => (f2 b hb).2.2.2.2.2 p (by simpa using hp)⟩
  have loop : ∀ s5 : Shared, s5 = { s2 with heap := h4, toks := s2.toks + ([] : List (Str × Value)).length } →
      codeAny (model X.prog X.w) X.A (.compLoop (.ListComp elt [⟨tg, iter, [], 0⟩] scope pos) 0 (.ref it) (.ref s2.heap.objs.size) (compEnvC scope cl H3.objs.size X.env))
        (compPost (model X.prog X.w) X.A X.xe (some (assign (.Name y py) X.env)) (fun _ s' => SP X pins DD .next s') (.ref s2.heap.objs.size) H3.objs.size) s5 := by
    rintro s5 rfl
    refine az1 (fun n s' => ∃ i σ' H', Inv (X.block scope cl H3.objs.size Nc s2 H2 fp pins) [] σ' H' s' ∧ tn i s'.heap ∧ (∀ b ∈ fp, H' b = none) ∧ W i n σ' H') ?_ m0 ⟨0, _, _, IB, T.keep _ _ _ st2 fun b hb o e => old b o e, fun b hb => by rw [i5 (fpD b hb)]; exact (f2 b hb).1, w0⟩
    rintro n s6 ⟨i, σ6, H6, I6, st6, fr6, w6⟩
    rcases turn i n σ6 H6 w6 with ⟨stop, qn⟩ | ⟨go, step⟩
    · refine thn (T.done (X.block scope cl H3.objs.size Nc s2 H2 fp pins) rfl rfl rfl hc i [] s6 σ6 H6 _ I6 (stat fr6) st6 stop) fun r s7 ⟨hr, I7⟩ => ?_
      subst hr
      obtain ⟨m7, hn7, _⟩ := id I7.loc
      have Io : Inv X pins σ H6 s7 := I2.sameC (h'' := s7.heap) f2 I7.os I7.bare I7.base I7.hok hCs I7.free ⟨rfl, fun _ _ => rfl⟩
      have fC : am6 X pins H6 H3.objs.size := I2.fpOk hCs I7.free
      have fC' : ∀ b ∈ [H3.objs.size], am6 X pins H6 b := fun b hb => by rw [List.mem_singleton.mp hb]; exact fC
      obtain ⟨oC, esC, epC, hoC, restC⟩ := id hn7
      have obC : ∀ b ∈ [H3.objs.size], ∃ o, s7.heap.get? b = some o ∧ ∀ v, o.data ≠ .cell v := fun b hb => by
        rw [List.mem_singleton.mp hb]
        exact ⟨oC, hoC, fun v z => aS2 hn7 hoC v z⟩
      have Ip := Io.pinned fC' obC
      show wpAny (model X.prog X.w) X.A (assign (.Name y py) X.env (.ref s2.heap.objs.size)) _ _ s7
      refine thn (e8 (pos := py) hN hi₀ hx hf _ s7 σ H6 (.ref s2.heap.objs.size) (.ref s2.heap.objs.size) DD.nx Ip rfl qn) fun _ s9 ⟨σ9, H9, I9, q9⟩ => ?_
      have keepC := (I9.pin (H3.objs.size, oC) (List.mem_append_right _ (List.mem_append_right _ (K0 (by simp) hoC)))).1
      have H9C := (I9.pin (H3.objs.size, oC) (List.mem_append_right _ (List.mem_append_right _ (K0 (by simp) hoC)))).2.1
      refine ⟨m7, hn7.at' fun o e => by rw [hoC] at e; cases e; exact keepC, fun h' sb => ?_⟩
      obtain ⟨_, g1, g2, g3, g4, g5⟩ := fC
      exact ⟨σ9, H9, I9.unpinned.turned (t' := s9.toks) (fun b o hb e => (sb.2 b hb).trans e) H9C g1 g3 g4 g5, q9⟩
    · refine thn (T.item (X.block scope cl H3.objs.size Nc s2 H2 fp pins) rfl rfl rfl hc i [] s6 σ6 H6 _ I6 (stat fr6) st6 go) fun r s7 ⟨u, hr, h7⟩ => ?_
      subst hr
      refine thn h7 fun _ s8 ⟨x, H8, I8, r8, y8, st8, fr8⟩ => ?_
      have I8' := I8.pinned (stat fr8) (T.obj _ _ st8)
      refine thn (hg _ _ _ _ _ _ s8 σ6 H8 x u _ I8' r8 (step x H8 y8)) fun _ s9 ⟨σ9, H9, I9, q9⟩ => ?_
      refine thn (he _ _ _ _ _ _ s9 σ9 H9 _ I9 q9) fun u10 s10 ⟨v10, H10, I10, r10, ys, hys, hlen, m', hm', w'⟩ => ?_
      refine thn (N3 _ s10 σ9 H10 (.ref s2.heap.objs.size) [v10] (.ref s2.heap.objs.size) [u10] (fun _ H11 => H11 = upd H10 s2.heap.objs.size (.lst (ys ++ [v10]))) I10 rfl (.cons r10 .nil) ⟨_, ys, v10, rfl, rfl, hys, hlen, rfl⟩) fun _ s11 ⟨_, H11, I11, _, hH11⟩ => ?_
      subst hH11
      refine ⟨m', hm', i + 1, σ9, _, I11.unpinned, T.keep _ _ _ st8 fun b hb o e => (I11.pin (b, o) (List.mem_append_right _ (List.mem_append_right _ (K0 hb e)))).1, fun b hb => ?_, w'⟩
      obtain ⟨o, e, d⟩ := T.obj _ _ st8 b hb
      exact (I11.pin (b, o) (List.mem_append_right _ (List.mem_append_right _ (K0 hb e)))).2.1
  exact codeAny_compStart_list (loop _ rfl) (T.self _ 0 _ _ _ (T.keep _ _ _ st2 fun b hb o e => old b o e) (loop _ rfl))
end
def Itv (K : PySem.W.Frag) (a : Addr) (n : Nat) : It :=
  ⟨fun i H => i < n ∧ ∃ xs x, SqL K H a xs ∧ xs[n - 1 - i]? = some x, fun i H x H' => H' = H ∧ ∀ xs, SqL K H a xs → xs[n - 1 - i]? = some x, fun i H => i = n⟩
theorem aV1 {P : Program} {w : World} {K : PySem.W.Frag} {tg : Expr} (a it : Addr) (n : Nat) : aU5 P w K tg (Itv K a n) [it] it (fun i h => h.IsRevIter it a ((n : Int) - 1 - (i : Int))) where
  mem := by simp
  obj := fun i h st b hb => by
    have e : b = it := by simpa using hb
    subst e
    obtain ⟨o, e, c, d⟩ := st
    exact ⟨o, e, fun v z => by rw [d] at z; cases z⟩
  keep := fun i h h' st k => st.at fun o e => k it (by simp) o e
  item := by
    intro X hP hw hK hc i pins s σ H E I hf st hg
    subst hP hw hK
    obtain ⟨hi, xs, x, hq, hx⟩ := hg
    obtain ⟨its, rv, p, hz⟩ := I.list hq
    obtain ⟨u, hu, ru⟩ := rv.get hx
    obtain ⟨f0, f1, f2, f3, f4, f5⟩ := hf it (by simp)
    have e : (n : Int) - 1 - (i : Int) = ((n - 1 - i : Nat) : Int) := by omega
    rw [e] at st
    refine wpAny_pyNext_rev_item st p.isList (x := u) (by simpa using hu) fun h' st' sb => ?_
    have I1 : Inv X pins σ H { s with heap := h' } := I.turned (t' := s.toks) (fun b o hb e => (sb.2 b hb).trans e) f0 f1 f3 f4 f5
    have e2 : ((n - 1 - i : Nat) : Int) - 1 = (n : Int) - 1 - ((i + 1 : Nat) : Int) := by omega
    rw [e2] at st'
    obtain ⟨o, e, c, d⟩ := id st'
    exact ⟨u, rfl, aP0 (s := { s with heap := h' }) e c d (by decide) ⟨x, H, I1, ru, ⟨rfl, fun ys hy => by rw [I.list_inj hy hq]; exact hx⟩, st', fun b hb => (hf b hb).1⟩⟩
  done := by
    intro X hP hw hK hc i pins s σ H E I hf st hg
    subst hP hw hK
    have e : i = n := hg
    subst e
    have e : (i : Int) - 1 - (i : Int) = -1 := by omega
    rw [e] at st
    obtain ⟨f0, f1, f2, f3, f4, f5⟩ := hf it (by simp)
    exact wpAny_pyNext_rev_end (I.ok.hd hc) st fun h' eb => ⟨rfl, I.turned (t' := s.toks) (fun b o hb e => eb b o hb e) f0 f1 f3 f4 f5⟩
  self := fun _ _ _ _ _ st h => wpAny_pyIter_revIter st h
section
variable {X : Cx}
def bc4 (K : PySem.W.Frag) (ta : TA) : TI := fun σ H R => ta σ H fun vs H1 => ∃ a xs, vs = [.ref a] ∧ SqL K H1 a xs ∧ R (Itv K a xs.length) H1
theorem aZ5 {tg l : Expr} {ta : TA} {p pos : Pos} (hg : Gl X "reversed") (hm : X.mg "reversed" = none) (ha : PA X [l] ta) (hs : starEach [l] X.env = [(false, eval l X.env)] := by rfl) :
    PI X tg (.Call (.Name "reversed" p) [l] [] pos) (bc4 X.K ta) := by
  intro pins s σ H R I h
  refine Call_ (Z9 I hg hm (u := .type "reversed") (by decide +kernel) (PyProof.Rows.callWith_type1 (thn (ha pos pins s σ H _ I h) fun us s1 ⟨vs, H1, I1, r1, q1⟩ => ?_) hs rfl))
  obtain ⟨a, xs, e, hq, q⟩ := q1
  subst e
  obtain ⟨u, rfl, rx⟩ := ab7 r1
  cases rx
  obtain ⟨its, rv, p, hz⟩ := I1.list hq
  refine call_reversed_list p.isList ?_
  have hl := rv.length
  have e : ((its.toArray.size : Nat) : Int) - 1 = (xs.length : Int) - 1 - ((0 : Nat) : Int) := by simp; omega
  rw [e]
  have I2 : Inv X pins σ H1 { s1 with heap := s1.heap.push (revObj a ((xs.length : Int) - 1 - ((0 : Nat) : Int))) } := I1.kept (t' := s1.toks) fun b o e => Heap.get?_push_of_some _ e
  refine wpAny_pyIter_revIter (it := s1.heap.objs.size) (l := a) (i := (xs.length : Int) - 1 - ((0 : Nat) : Int)) ⟨_, Heap.get?_push_size _ rfl, rfl, rfl⟩ ?_
  refine ⟨s1.heap.objs.size, [s1.heap.objs.size], _, _, H1, rfl, I2, aV1 a _ xs.length, ⟨_, Heap.get?_push_size _ rfl, rfl, rfl⟩, fun b hb => ?_, q⟩
  have e : b = s1.heap.objs.size := by simpa using hb
  subst e
  exact I1.fpOk (Nat.le_refl _) (I1.hok.fresh (Nat.le_refl _))
end
section
variable {X : Cx}
def ipM (c : Int → Int → Prop) (f : Int → Int → Int) : TIp := fun x y H Q => ∃ i j, x = .int i ∧ y = .int j ∧ c i j ∧ Q (.int (f i j)) H
theorem bn8 : PIp X .Mult (ipM IntMulOk fun i j => i * j) := by
  intro pins s σ H x y v u Q I r1 r2 h
  obtain ⟨i, j, e1, e2, hc, q⟩ := h
  subst e1; subst e2
  obtain ⟨t, rfl⟩ := r1
  obtain ⟨t', rfl⟩ := r2
  exact imul_int ⟨.int _, H, I.tok _, ⟨_, rfl⟩, q⟩ hc
end
section
variable {X : Cx}
def ac6 (K : PySem.W.Frag) (te : TE) : TT := fun σ H Q => te σ H fun x H' => ∃ k, Y9 K x H' k ∧ Q k H'
theorem ax6 {e : Expr} {te : TE} (h : PE X e te) (he : ∀ whole, isTrue e X.env whole = (do let v ← whole; standAt e.pos; holding [v] (truthy v))) : PT X e (ac6 X.K te) := B4 h he
end
def Itd (hi : Int) (n : Nat) : It := ⟨fun i _ => i < n, fun i H x H' => H' = H ∧ x = .int (hi - i), fun i _ => n ≤ i⟩
section
variable {X : Cx} {tg : Expr}
def br0 (ta : TA) : TI := fun σ H R => ta σ H fun vs H1 => ∃ i j : Int, vs = [.int i, .int j, .int (-1)] ∧ (-(2 ^ 62) ≤ i ∧ i < 2 ^ 62 ∧ -(2 ^ 62) ≤ j ∧ j < 2 ^ 62) ∧ R (Itd i (i - j).toNat) H1
end
theorem aP2 {K : PySem.W.Frag} {a : Addr} {xs : List V} {g : TG} {tb : TS} {D : ab6} {σ : St} {H : Hp} (Pv : Nat → St → Hp → Prop) (h0 : Pv 0 σ H) (hl : ∀ i σ H, i ≤ xs.length → Pv i σ H → SqL K H a xs)
    (hs : ∀ i x σ H, i < xs.length → xs[xs.length - 1 - i]? = some x → Pv i σ H → g x σ H fun σ2 H2 => tb { D with nx := Pv (i + 1), ct := Pv (i + 1), bk := D.nx } σ2 H2) (hd : ∀ σ H, Pv xs.length σ H → D.nx σ H) :
    ∃ W : Nat → Nat → St → Hp → Prop, (∃ m, W 0 m σ H) ∧ ∀ i m σ H, W i m σ H →
      ((Itv K a xs.length).stop i H ∧ D.nx σ H) ∨ ((Itv K a xs.length).go i H ∧ ∃ N : St → Hp → Prop, (∀ σ' H', N σ' H' → ∃ m', m' < m ∧ W (i + 1) m' σ' H') ∧ ∀ x H', (Itv K a xs.length).yld i H x H' → g x σ H' fun σ2 H2 => tb { D with nx := N, ct := N, bk := D.nx } σ2 H2) := by
  refine ⟨fun i m σ H => m = xs.length - i ∧ i ≤ xs.length ∧ Pv i σ H, ⟨xs.length, by simp, Nat.zero_le _, h0⟩, ?_⟩
  rintro i m σ H ⟨rfl, hi, p⟩
  have q := hl i σ H hi p
  by_cases hlt : i < xs.length
  · refine .inr ⟨⟨hlt, xs, xs[xs.length - 1 - i], q, List.getElem?_eq_getElem (by omega)⟩, Pv (i + 1), fun σ' H' p' => ⟨xs.length - (i + 1), by omega, rfl, hlt, p'⟩, fun x H' y => ?_⟩
    obtain ⟨e, y⟩ := y
    subst e
    exact hs i x σ _ hlt (y xs q) p
  · have e : i = xs.length := by omega
    subst e
    exact .inl ⟨rfl, hd σ H p⟩
def aY1 (K : PySem.W.Frag) : List V → Hp → VK → Prop := fun xs H Q => ∃ p ys, xs = [.ref p] ∧ (SqL K H p ys ∨ SqT K H p ys) ∧ Q (.int ys.length) H
def bp5 (K : PySem.W.Frag) (n C i : Nat) (tb : XK → TS) (th : Addr → TS) : TS := fun D σ H =>
  tb (fun cls _ H' => PySem.W.exmOne K cls (.ref C) = some true ∧ ∀ a, H' a = none → th a { nx := fun σ H' => D.nx (σ.set i none) H', rt := D.rt } ((List.replicate n none).set i (some (.ref a))) (upd H' a (Exc cls a))) D σ H
def smZ : List Int → Int
  | [] => 0
  | a :: l => a + smZ l
theorem ap6 : ∀ (l m : List Int), smZ (l ++ m) = smZ l + smZ m
  | [], m => by simp [smZ]
  | a :: l, m => by rw [List.cons_append, smZ, smZ, ap6 l m]; omega
theorem ak1 (ns : List Int) : ∀ k, k ≤ ns.length → preSum (fun i => (ns[i]?).getD 0) k = smZ (ns.take k)
  | 0, _ => by rw [List.take_zero]; rfl
  | k + 1, h => by
    have hk : ns[k]? = some (ns[k]'(by omega)) := List.getElem?_eq_getElem _
    rw [List.take_succ, hk, ap6, ← ak1 ns k (by omega)]
    show preSum (fun i => (ns[i]?).getD 0) k + (ns[k]?).getD 0 = preSum (fun i => (ns[i]?).getD 0) k + (ns[k]'(by omega) + 0)
    rw [hk, Int.add_zero]; rfl
def aX7 (K : PySem.W.Frag) : List V → Hp → VK → Prop := fun xs H Q => ∃ (p : Addr) (ns : List Int), xs = [.ref p] ∧ SqL K H p (ns.map V.int) ∧ Q (.int (smZ ns)) H
section
variable {X : Cx}
theorem be0 (hc : X.calm = true) : V5 X (.builtin "sum") (aX7 X.K) := by
  intro pins s σ H xs us Q I r h
  obtain ⟨p, ns, rfl, hq, q⟩ := h
  obtain ⟨u, rfl, rx⟩ := ab7 r
  cases rx
  obtain ⟨its, r', pl, hz⟩ := I.list hq
  have hlen : its.length = ns.length := by rw [← r'.length, List.length_map]
  have hp : p ≠ s.heap.objs.size := by
    obtain ⟨o, ho, _⟩ := pl.isList
    exact Nat.ne_of_lt (Heap.lt_size ho)
  refine call_sum_walkAnyS (wpAny_pyIter_list pl.isList ?_)
  refine ⟨s.heap.objs.size, _, _, _, _, _, _, fun i => (ns[i]?).getD 0, rfl, (Walks.list (A := X.A.in1) (I.ok.hd hc) _ p hp its.toArray).toS, ⟨⟨_, Heap.get?_push_size _ rfl, rfl, rfl⟩, pl.isList.at fun o e => Heap.get?_push_of_some _ e⟩, ?_, ?_, ?_⟩
  · intro b hb
    have hb' : b = s.heap.objs.size ∨ b = p := by simpa using hb
    show b < (s.heap.push _).objs.size
    rw [Heap.size_push]
    rcases hb' with z | z
    · rw [z]; exact Nat.lt_succ_self _
    · obtain ⟨o, ho, _⟩ := pl.isList
      rw [z]
      exact Nat.lt_succ_of_lt (Heap.lt_size ho)
  · intro i v hv
    have hv' : its[i]? = some v := by simpa using hv
    have hi : i < ns.length := by rw [← hlen]; exact (List.getElem?_eq_some_iff.mp hv').1
    obtain ⟨u, hu, ru⟩ := r'.get (i := i) (x := .int ns[i]) (by rw [List.getElem?_map, List.getElem?_eq_getElem hi]; rfl)
    rw [hv'] at hu
    cases hu
    obtain ⟨t, rfl⟩ := (show ∃ t, v = Value.int ns[i] t from ru)
    exact ⟨t, by show _ = Value.int ((ns[i]?).getD 0) t; rw [List.getElem?_eq_getElem hi]; rfl⟩
  · intro s' t' mv
    have e : preSum (fun i => (ns[i]?).getD 0) its.toArray.size = smZ ns := by
      rw [List.size_toArray, hlen, ak1 ns _ (Nat.le_refl _), List.take_length]
    rw [e]
    obtain ⟨h', g', d', tk', o'⟩ := s'
    obtain ⟨m1, m2, m3, m4, m5⟩ := mv
    have m2' : g' = s.gens := m2
    have m3' : d' = s.drawn := m3
    have m4' : o' = s.os := m4
    subst m2' m3' m4'
    refine ⟨.int _, H, ?_, ⟨_, rfl⟩, q⟩
    refine I.kept (t' := tk') (h' := h') fun b o e => m1 b o ?_ (Heap.get?_push_of_some _ e)
    intro z
    have : b = s.heap.objs.size := by simpa using z
    exact absurd (Heap.lt_size e) (by rw [this]; exact Nat.lt_irrefl _)
end
def aK2 (K : PySem.W.Frag) : List V → Hp → VK → Prop := fun xs H Q => ∃ p ys, xs = [.ref p] ∧ (SqL K H p ys ∨ SqT K H p ys) ∧ ∀ l, H l = none → Q (.ref l) (upd H l (.lst ys))
structure OwnCells (h h' : Heap) (names : List (Str × NameKind)) (acc cs : List (Str × Addr)) : Prop where
  cell : ∀ x c, cs.lookup x = some c → ∃ v, h'.IsCell c v
  inj : ∀ x y c, cs.lookup x = some c → cs.lookup y = some c → x = y
  old : ∀ x c, cs.lookup x = some c → acc.lookup x = some c ∨ h.objs.size ≤ c
  fresh : ∀ x, (x, NameKind.cell) ∈ names → ∀ c, cs.lookup x = some c → h.objs.size ≤ c
structure CapsC (X : Cx) (scope : Scope) (cl : List (Str × Addr)) (Nc : List Str) (caps : List (Option Nat)) : Prop where
  clos : closureFor scope X.env = pure cl
  sub : ∀ x c, cl.lookup x = some c → X.env.cells.lookup x = some c
  has : ∀ n x, (relabel scope X.env).names.lookup x = some .cell ∨ (relabel scope X.env).names.lookup x = some .free → ∃ c, (cellsFrom n scope.names cl).lookup x = some c
  kind : scope.kind = .function
  names : ∀ x ∈ scope.names, x.2 = .local → scope.names.lookup x.1 = some .local
  len : caps.length = Nc.length
  cap : ∀ (i j : Nat) (x : Str), caps[i]? = some (some j) → Nc[i]? = some x → X.N[j]? = some x ∧ Vis X.env.scope x ∧ X.env.kindOf x ≠ some .local ∧ ((relabel scope X.env).names.lookup x = some .cell ∨ (relabel scope X.env).names.lookup x = some .free) ∧
    (∃ c, cl.lookup x = some c) ∧ ∀ n c, cl.lookup x = some c → (cellsFrom n scope.names cl).lookup x = some c
section
variable {X : Cx}
def bs6 : R2 := fun x y H Q => ∃ c d, x = .bl c ∧ y = .bl d ∧ Q (.bl (c == d)) H
def bq3 : R2 := fun x y H Q => ∃ c d, x = .bl c ∧ y = .bl d ∧ Q (.bl (!(c == d))) H
end
structure Stp (prog : Program) (w : World) (it src : Addr) (ar : Array Value) (st : Nat → Heap → Prop) : Prop where
  stay : ∀ {k : Nat} {h h' : Heap}, st k h → (∀ o, h.get? it = some o → h'.get? it = some o) → (∀ o, h.get? src = some o → h'.get? src = some o) → st k h'
  item : ∀ {A : Around} {E : Value → Shared → Prop} {s : Shared} {k : Nat} {v : Value} {Q : Value → Shared → Prop}, st k s.heap → ar[k]? = some v → (∀ h', st (k + 1) h' → Heap.SameBut it s.heap h' → Q v { s with heap := h' }) → wpAny (model prog w) A (Builtin.SmallTypes.nextOf (.ref it)) Q E s
  fin : ∀ {A : Around} {E : Value → Shared → Prop} {s : Shared} {k : Nat} {Q : Value → Shared → Prop}, A.handled = none → st k s.heap → ar[k]? = none → (∀ h' e, Heap.ExtBut it s.heap h' → (∃ o, h'.get? e = some o ∧ o.cls = .type "StopIteration") → E (.ref e) { s with heap := h' }) → wpAny (model prog w) A (Builtin.SmallTypes.nextOf (.ref it)) Q E s
def bt5 (K : PySem.W.Frag) (a b : Addr) : It :=
  ⟨fun i H => ∃ xs ys x y, SqT K H a xs ∧ SqT K H b ys ∧ xs[i]? = some x ∧ ys[i]? = some y,
   fun i H v H' => ∀ xs ys, SqT K H a xs → SqT K H b ys → ∃ x y p, xs[i]? = some x ∧ ys[i]? = some y ∧ H p = none ∧ v = .ref p ∧ H' = upd H p (.tup [x, y]),
   fun i H => ∃ xs ys, SqT K H a xs ∧ SqT K H b ys ∧ (xs.length ≤ i ∨ ys.length ≤ i)⟩
section
variable {X : Cx}
def bq8 (K : PySem.W.Frag) (ta : TA) : TI := fun σ H R => ta σ H fun vs H1 => ∃ a b, vs = [.ref a, .ref b] ∧ (∃ xs, SqT K H1 a xs) ∧ (∃ ys, SqT K H1 b ys) ∧ R (bt5 K a b) H1
end
section
variable {X : Cx} {pos : Pos}
def bp8 (i j l : Nat) (ta : TA) : TS := fun D σ H => ta σ H fun vs H1 => ∃ v w x, vs = [v, w, x] ∧ D.nx (((σ.set i (some v)).set j (some w)).set l (some x)) H1
end
end L2
set_option maxRecDepth 100000
namespace R
theorem M3 {f : Nat → Rat} : ∀ n, (∀ i, i < n → f i = 0) → j5 f n = 0
  | 0, _ => rfl
  | n + 1, h => by
    rw [j5, M3 n (fun i hi => h i (by omega)), h n (by omega)]
    grind
open PySem L2 PyProof.Rows
theorem aE4 {qs : List Rat} {B m n : Nat} (hs : ∀ q ∈ qs, BdN m q) (hB : B < 2 ^ n) (hd : ∀ q ∈ qs, q.den ∣ B) : ∀ v ∈ i8 B qs, Int.natAbs v < 2 ^ (m + n) := by
  intro v hv
  obtain ⟨q, hq, rfl⟩ := List.mem_map.mp hv
  obtain ⟨e, he⟩ := hd q hq
  have h0 : (q.den : Int) ≠ 0 := by have := q.den_nz; omega
  have e1 : (B : Int).fdiv (q.den : Int) = (e : Int) := by
    rw [he, Int.natCast_mul]; exact j2 h0
  have h1 : e ≤ B := by rw [he]; exact Nat.le_mul_of_pos_left _ (by have := q.den_nz; omega)
  rw [e1, Int.natAbs_mul, Int.natAbs_natCast, Nat.pow_add]
  exact Nat.mul_lt_mul'' (hs q hq).n (by omega)
structure ClN (W : Nat) (qs : List Rat) : Prop where
  l : j3 qs < 2 ^ W
  w : ∀ v ∈ i8 (j3 qs) qs, Int.natAbs v < 2 ^ W
theorem ClN.den {W : Nat} {qs : List Rat} (h : ClN W qs) {q : Rat} (hq : q ∈ qs) : q.den < 2 ^ W := Nat.lt_of_le_of_lt (Nat.le_of_dvd (B1 qs) (M2 hq)) h.l
theorem ClN.num {W : Nat} {qs : List Rat} (h : ClN W qs) {q : Rat} (hq : q ∈ qs) : q.num.natAbs < 2 ^ W := by
  have h1 := h.w _ (List.mem_map.mpr ⟨q, hq, rfl⟩)
  obtain ⟨e, he⟩ := M2 hq
  have hp := B1 qs
  have h0 : (q.den : Int) ≠ 0 := by have := q.den_nz; omega
  have e1 : (j3 qs : Int).fdiv (q.den : Int) = (e : Int) := by
    rw [he, Int.natCast_mul]; exact j2 h0
  rw [e1, Int.natAbs_mul, Int.natAbs_natCast] at h1
  refine Nat.lt_of_le_of_lt (Nat.le_mul_of_pos_right _ ?_) h1
  rcases Nat.eq_zero_or_pos e with z | z
  · rw [z] at he; omega
  · exact z
theorem ClN.take {W : Nat} {qs : List Rat} (h : ClN W qs) (i : Nat) : j3 (qs.take i) < 2 ^ W :=
  Nat.lt_of_le_of_lt (Nat.le_of_dvd (B1 qs) (as0 fun q hq => M2 (List.mem_of_mem_take hq))) h.l
theorem ClN.mono {V W : Nat} {qs : List Rat} (h : ClN V qs) (l : V ≤ W) : ClN W qs := ⟨Nat.lt_of_lt_of_le h.l (d7 l), fun v hv => Nat.lt_of_lt_of_le (h.w v hv) (d7 l)⟩
theorem ah4 {m : Nat} {qs : List Rat} (hs : ∀ q ∈ qs, BdN m q) : ClN (1 + m * qs.length + m) qs := by
  have hB1 := bb6 (m := m) fun q hq => (hs q hq).d
  have wl := aE4 hs hB1 (fun q hq => M2 hq)
  rw [show m + (1 + m * qs.length) = 1 + m * qs.length + m by omega] at wl
  exact ⟨Nat.lt_of_lt_of_le hB1 (d7 (by omega)), wl⟩
theorem af7 (v : Int) (L : Nat) : Rat.divInt 1 L * (v : Rat) = Rat.divInt v L := by
  have h1 := Rat.num_divInt_den (v : Rat)
  rw [Rat.num_intCast, Rat.den_intCast] at h1
  conv => lhs; rw [← h1]
  rw [Rat.divInt_mul_divInt]
  simp
theorem at4 (v : Int) {L : Nat} (h : 0 < L) : (Rat.divInt v L).den ∣ L := by
  have hL : (L : Int) ≠ 0 := by omega
  obtain ⟨_, e2⟩ := aC8 (t := v) (b := (L : Int)) (g := (Int.gcd v L : Int)) hL (by rw [if_neg (by omega)])
  obtain ⟨k, hk⟩ := Int.gcd_dvd_right v (L : Int)
  have hg := K3 (t := v) hL
  have e3 : (L : Int).fdiv (Int.gcd v L : Int) = k := by
    conv => lhs; arg 1; rw [hk]
    exact j2 (by omega)
  rw [e3] at e2
  have : ((Rat.divInt v L).den : Int) ∣ (L : Int) := ⟨_, by rw [Int.mul_comm, ← e2]; exact hk⟩
  exact Int.natCast_dvd_natCast.mp this
theorem aD7 (v : Int) {L : Nat} (h : 0 < L) : (Rat.divInt v L).num * L = v * ((Rat.divInt v L).den : Int) := by
  have hL : (L : Int) ≠ 0 := by omega
  have hd : ((Rat.divInt v L).den : Int) ≠ 0 := by have := (Rat.divInt v L).den_nz; omega
  exact (Rat.divInt_eq_divInt_iff hd hL).mp (Rat.num_divInt_den _)
theorem aT8 {L W : Nat} {vs : List Int} (hL0 : 0 < L) (hL : L < 2 ^ W) (hv : ∀ v ∈ vs, Int.natAbs v < 2 ^ W) : ClN W (scl (Rat.divInt 1 L) vs) := by
  have hd : j3 (scl (Rat.divInt 1 L) vs) ∣ L := as0 fun q hq => by
    obtain ⟨v, _, rfl⟩ := List.mem_map.mp hq
    rw [af7]
    exact at4 v hL0
  have hle := Nat.le_of_dvd hL0 hd
  refine ⟨Nat.lt_of_le_of_lt hle hL, fun u hu => ?_⟩
  obtain ⟨q, hq, rfl⟩ := List.mem_map.mp hu
  obtain ⟨e, he⟩ := M2 hq
  have h0 : (q.den : Int) ≠ 0 := by have := q.den_nz; omega
  have e1 : (j3 (scl (Rat.divInt 1 L) vs) : Int).fdiv (q.den : Int) = (e : Int) := by
    rw [he, Int.natCast_mul]; exact j2 h0
  obtain ⟨v, hvm, hvq⟩ := List.mem_map.mp hq
  rw [af7] at hvq
  have hc := aD7 v hL0
  rw [hvq] at hc
  have hc' : q.num.natAbs * L = v.natAbs * q.den := by
    have := congrArg Int.natAbs hc
    rwa [Int.natAbs_mul, Int.natAbs_mul, Int.natAbs_natCast, Int.natAbs_natCast] at this
  rw [e1, Int.natAbs_mul, Int.natAbs_natCast]
  refine Nat.lt_of_le_of_lt ?_ (hv v hvm)
  have h2 : (q.num.natAbs * e) * L ≤ v.natAbs * L := by
    calc (q.num.natAbs * e) * L = (q.num.natAbs * L) * e := by rw [Nat.mul_right_comm]
      _ = v.natAbs * (q.den * e) := by rw [hc', Nat.mul_assoc]
      _ ≤ v.natAbs * L := Nat.mul_le_mul_left _ (by rw [← he]; exact hle)
  exact Nat.le_of_mul_le_mul_right h2 hL0
theorem bf1 (qs : List Rat) : scl (Rat.divInt 1 (j3 qs)) (i8 (j3 qs) qs) = qs := by
  unfold scl i8
  rw [List.map_map]
  conv => rhs; rw [← List.map_id qs]
  refine List.map_congr_left fun q hq => ?_
  show Rat.divInt 1 (j3 qs) * ((q.num * (j3 qs : Int).fdiv (q.den : Int) : Int) : Rat) = q
  rw [af7]
  exact (ao2 (B1 qs) (M2 hq)).symm
open PySem L2 PyProof.Rows
structure bo7 (H : Hp) (p : Addr) (qs : List Rat) : Prop where
  ex : ∃ xs, H p = some (.lst xs) ∧ p7 H xs qs
  bd : ∀ q ∈ qs, q.den < 2 ^ 6000
  len : qs.length < 900
  tl : v9 qs qs.length
inductive be4 (H : Hp) : List Addr → List (List Rat) → Prop where
  | nil : be4 H [] []
  | cons {p : Addr} {ps : List Addr} {L : List Rat} {Ls : List (List Rat)} (h : bo7 H p L) (t : be4 H ps Ls) : be4 H (p :: ps) (L :: Ls)
theorem aM5 : ∀ Ls : List (List Rat), G3 (Ls.map j7) (Ls.map j7) = true
  | [] => by simp [G3]
  | L :: Ls => by rw [List.map_cons, G3, F8, aM5 Ls]; simp
theorem ae0 : ∀ Ls : List (List Rat), ab5 (Ls.map j7) ≤ 2
  | [] => by simp [ab5]
  | L :: Ls => by
    have h1 := R8 L
    have h2 := ae0 Ls
    rw [List.map_cons, ab5]; omega
theorem ap8 {ts : List Addr} {i : Nat} {x : V} (h : (ts.map V.ref)[i]? = some x) : ∃ p, ts[i]? = some p ∧ x = .ref p := by
  rw [List.getElem?_map] at h
  cases hw : ts[i]? with
  | none => rw [hw] at h; cases h
  | some v => rw [hw] at h; cases h; exact ⟨v, rfl, rfl⟩
theorem al6 : ∀ Ls Ms : List (List Rat), G3 (Ls.map j7) (Ms.map j7) = decide (Ls = Ms)
  | [], [] => by simp [G3]
  | [], _ :: _ => by simp [G3]
  | _ :: _, [] => by simp [G3]
  | p :: ps, q :: qs => by
    rw [List.map_cons, List.map_cons, G3, F8, al6 ps qs]
    by_cases h1 : p = q <;> by_cases h2 : ps = qs <;> simp [h1, h2]
theorem ak7 : ∀ Ls Ms : List (List Rat), V8 (Ls.map j7) (Ms.map j7) = true
  | [], [] => by simp [V8]
  | [], _ :: _ => by simp [V8]
  | _ :: _, [] => by simp [V8]
  | p :: ps, q :: qs => by rw [List.map_cons, List.map_cons, V8, O5, ak7 ps qs]; rfl
def N0 (Ls : List (List Rat)) : D := .lst (Ls.map j7)
theorem aj4 (Ls Ms : List (List Rat)) : eqD (N0 Ls) (N0 Ms) = decide (Ls = Ms) := by unfold N0; rw [eqD, al6]
theorem ai9 (Ls Ms : List (List Rat)) : okD (N0 Ls) (N0 Ms) = true := by unfold N0; rw [okD, ak7]
theorem aJ0 (Ls : List (List Rat)) : dpD (N0 Ls) ≤ 60 := by unfold N0; rw [dpD]; have := ae0 Ls; omega
open PySem L2 PyProof.Rows
theorem S8 {qs : List Rat} (h : ∀ x, qs[qs.length - 1]? = some x → x ≠ 0) : v9 qs qs.length :=
  ⟨Nat.le_refl _, fun i q hi e => (by rw [List.getElem?_eq_none hi] at e; cases e), fun _ q e => h q e⟩
theorem t8.seq {K : PySem.W.Frag} {u : Addr} {H H' : Hp} {b : Addr} {xs : List V} (s : t8 u H H') (hu : H u = none) (h : SqL K H b xs) : SqL K H' b xs := by
  rcases h with h | h
  · rcases h with h | ⟨o, h⟩
    · exact .inl (.inl (s _ _ h (g6 h hu)))
    · exact .inl (.inr ⟨o, s _ _ h (g6 h hu)⟩)
  · exact .inr h
theorem am7 {qs : List Rat} {m : Nat} (h : v9 qs m) : v9 (qs.take m) (qs.take m).length := by
  have := h.self
  rw [List.length_take, Nat.min_eq_left h.le]; exact this
def aN6 (K : PySem.W.Frag) : Sp := fun vs H Q _ => ∃ (a : Addr) (ns : List Int), vs = [.ref a] ∧ SqL K H a (ns.map V.int) ∧ ns.length ≤ 63 ∧ ∀ H', Q (.bl true) H'
structure ExT (K : PySem.W.Frag) (mg : Str → Option Value) (x : Str) (C : Addr) : Prop where
  m : mg x = some (.ref C)
  ox : bj0 K C [.type "ValueError", .type "Exception", .type "BaseException", .type "object"] "ValueError.__new__"
  ec : D6 K C
structure CAd where
  c_NoFraction : Addr
  c_NoPolynomial : Addr
  c_NoStretch : Addr
  c_NoRow : Addr
  c_NoPair : Addr
  c_NoBack : Addr
  c_NoForm : Addr
  c_NoParts : Addr
  c_NoDegree : Addr
  c_NoSteps : Addr
  c_NoBox : Addr
  c_NoGain : Addr
  c_NoText : Addr
  c_NoLine : Addr
  c_NoName : Addr
  c_NoDeed : Addr
  c_RestError : Addr
structure XTx (K : PySem.W.Frag) (mg : Str → Option Value) (a : CAd) : Prop where
  x_NoFraction : ExT K mg "NoFraction" a.c_NoFraction
  x_NoPolynomial : ExT K mg "NoPolynomial" a.c_NoPolynomial
  x_NoStretch : ExT K mg "NoStretch" a.c_NoStretch
  x_NoRow : ExT K mg "NoRow" a.c_NoRow
  x_NoPair : ExT K mg "NoPair" a.c_NoPair
  x_NoBack : ExT K mg "NoBack" a.c_NoBack
  x_NoForm : ExT K mg "NoForm" a.c_NoForm
  x_NoParts : ExT K mg "NoParts" a.c_NoParts
  x_NoDegree : ExT K mg "NoDegree" a.c_NoDegree
  x_NoSteps : ExT K mg "NoSteps" a.c_NoSteps
  x_NoBox : ExT K mg "NoBox" a.c_NoBox
  x_NoGain : ExT K mg "NoGain" a.c_NoGain
  x_NoText : ExT K mg "NoText" a.c_NoText
  x_NoLine : ExT K mg "NoLine" a.c_NoLine
  x_NoName : ExT K mg "NoName" a.c_NoName
  x_NoDeed : ExT K mg "NoDeed" a.c_NoDeed
structure bt4 (K : PySem.W.Frag) (a : CAd) (C : Addr) (j : Nat) : Prop where
  k_NoFraction : PySem.W.kitOne K (.ref C) (.ref a.c_NoFraction) = some (decide (j = 0))
  k_NoPolynomial : PySem.W.kitOne K (.ref C) (.ref a.c_NoPolynomial) = some (decide (j = 1))
  k_NoStretch : PySem.W.kitOne K (.ref C) (.ref a.c_NoStretch) = some (decide (j = 2))
  k_NoRow : PySem.W.kitOne K (.ref C) (.ref a.c_NoRow) = some (decide (j = 3))
  k_NoPair : PySem.W.kitOne K (.ref C) (.ref a.c_NoPair) = some (decide (j = 4))
  k_NoBack : PySem.W.kitOne K (.ref C) (.ref a.c_NoBack) = some (decide (j = 5))
  k_NoForm : PySem.W.kitOne K (.ref C) (.ref a.c_NoForm) = some (decide (j = 6))
  k_NoParts : PySem.W.kitOne K (.ref C) (.ref a.c_NoParts) = some (decide (j = 7))
  k_NoDegree : PySem.W.kitOne K (.ref C) (.ref a.c_NoDegree) = some (decide (j = 8))
  k_NoSteps : PySem.W.kitOne K (.ref C) (.ref a.c_NoSteps) = some (decide (j = 9))
  k_NoBox : PySem.W.kitOne K (.ref C) (.ref a.c_NoBox) = some (decide (j = 10))
  k_NoGain : PySem.W.kitOne K (.ref C) (.ref a.c_NoGain) = some (decide (j = 11))
  k_NoText : PySem.W.kitOne K (.ref C) (.ref a.c_NoText) = some (decide (j = 12))
  k_NoLine : PySem.W.kitOne K (.ref C) (.ref a.c_NoLine) = some (decide (j = 13))
  k_NoName : PySem.W.kitOne K (.ref C) (.ref a.c_NoName) = some (decide (j = 14))
  k_NoDeed : PySem.W.kitOne K (.ref C) (.ref a.c_NoDeed) = some (decide (j = 15))
  kV : PySem.W.kitOne K (.ref C) (.type "ValueError") = some true
  ec : D6 K C
  ex : PySem.W.exmOne K (.ref C) (.ref a.c_RestError) = some true
def aL4 (j : Nat) : Str := [("fraction" : Str), "polynomial", "stretch", "row", "pair", "back", "form", "parts", "degree", "steps", "box", "gain", "text", "line", "name", "deed"].getD j ""
def aA3 (K : PySem.W.Frag) (a : CAd) : Sp := fun vs H Q _ => ∃ e C j, vs = [.ref e] ∧ bt4 K a C j ∧ j < 16 ∧ H e = some (Exc (.ref C) e) ∧ ∀ H', d5 H H' → Q (.str (aL4 j)) H'
def aV4 (j : Nat) : List V := [V.bl (decide (j = 0)), V.bl (decide (j = 1)), V.bl (decide (j = 2)), V.bl (decide (j = 3))] ++ [V.bl (decide (j = 4)), V.bl (decide (j = 5)), V.bl (decide (j = 6)), V.bl (decide (j = 7))] ++ [V.bl (decide (j = 8)), V.bl (decide (j = 9)), V.bl (decide (j = 10)), V.bl (decide (j = 11))] ++ [V.bl (decide (j = 12)), V.bl (decide (j = 13)), V.bl (decide (j = 14)), V.bl (decide (j = 15))]
theorem aJ8 : ∀ j, j < 16 → (aV4 j).countP (fun z => eqV z (V.bl true)) = 1 := by decide
theorem aV3 : ∀ j, j < 16 → (aV4 j).findIdx? (fun z => eqV z (V.bl true)) = some j := by decide
theorem aw4 : ∀ j, j < 16 → (aV4 j).all U6 = true := by decide
theorem ak4 : ab0 "fraction polynomial stretch row pair back form parts degree steps box gain text line name deed" " " = [("fraction" : Str), "polynomial", "stretch", "row", "pair", "back", "form", "parts", "degree", "steps", "box", "gain", "text", "line", "name", "deed"] := by decide +kernel
theorem bg6 {j : Nat} (hj : j < 16) : atI ((ab0 "fraction polynomial stretch row pair back form parts degree steps box gain text line name deed" " ").map V.str) (j : Int) = some (.str (aL4 j)) := by
  rw [ak4]
  refine P9 ?_
  have : ∀ j, j < 16 → ((["fraction", "polynomial", "stretch", "row", "pair", "back", "form", "parts", "degree", "steps", "box", "gain", "text", "line", "name", "deed"] : List Str).map V.str)[j]? = some (.str (aL4 j)) := by decide
  exact this j hj
theorem K8 {ws : List Int} {i : Nat} {x : V} (h : (ws.map V.int)[i]? = some x) : ∃ v, ws[i]? = some v ∧ x = .int v := by
  rw [List.getElem?_map] at h
  cases hw : ws[i]? with
  | none => rw [hw] at h; cases h
  | some v => rw [hw] at h; cases h; exact ⟨v, rfl, rfl⟩
open PySem L2 PyProof.Rows
def top (i : Nat) : Stmt := PySem.Challenge.pw_restward_k14_divisions_undone.main.body.getD i (.Pass ⟨0, 0, 0, 0⟩)
end R
set_option maxRecDepth 100000
local macro_rules | `(tactic| subst_eqs) => `(tactic| simp only [L2.bc4, L2.ipM, L2.ac6, L2.aY1, L2.aX7, L2.aK2, L2.ae3, L2.X5, L2.aF0, L2.aX9, L2.aF2, L2.tSl, L2.aV7, L2.aE7, L2.ae2, L2.aX8, L2.aY0, L2.af4, L2.aI7, L2.R1, List.map_cons, List.map_nil, Option.bind_none, Option.bind_some, Option.join_some, L2.aQ6, L2.aW1, L2.aW4, L2.tOr, L2.aV9, L2.ao7, L2.tB, L2.tOp, L2.tUn, L2.aR0, L2.tBM, L2.S9, L2.tC, L2.tCB, L2.aQ7, L2.aJ9, L2.j9, L2.bc8, L2.N6, L2.n8, L2.N7, L2.W0, L2.ao9, L2.aQ8, L2.aQ5, L2.aW0, L2.tIf, L2.aF3, L2.aV8, L2.aE8, L2.aQ9, L2.ah7, L2.aF1, L2.aE9, L2.ap0, L2.ao8, L2.aW3, L2.ipI, L2.rI, L2.rI0, L2.rU, L2.af3, L2.aK3, L2.aY2, L2.aG8, L2.rEq, L2.rNe, L2.aq1, L2.aq0, L2.ap9, L2.aY3, L2.aY5, L2.aI5, L2.aI6, L2.ah1, L2.cxR, L2.cxX, L2.Cx.nox, L2.Cx.wish, L2.Cx.body, L2.Cx.suite, List.getElem?_cons_zero, List.getElem?_cons_succ, List.set_cons_zero, List.set_cons_succ, Option.some.injEq, L2.V.int.injEq, L2.V.bl.injEq, L2.V.ref.injEq, L2.V.str.injEq, exists_eq_left', exists_eq_left, exists_and_left, true_and, and_true, List.cons.injEq, reduceCtorEq, Bool.false_eq_true, if_false, if_true, exists_const, ↓reduceIte, L2.tyV, List.length_cons, List.length_nil, exists_eq, List.append_nil, List.cons_append, List.nil_append, decide_eq_true_eq, not_true_eq_false, not_false_eq_true, Bool.not_eq_true', decide_eq_false_iff_not, Bool.not_true, Bool.not_false, and_assoc, false_and, false_or, or_false])
local macro_rules | `(tactic| simp! [$ls,*]) => `(tactic| simp only [L2.bc4, L2.ipM, L2.ac6, L2.aY1, L2.aX7, L2.aK2, L2.ae3, L2.X5, L2.aF0, L2.aX9, L2.aF2, L2.tSl, L2.aV7, L2.aE7, L2.ae2, L2.aX8, L2.aY0, L2.af4, L2.aI7, L2.R1, List.map_cons, List.map_nil, Option.bind_none, Option.bind_some, Option.join_some, L2.aQ6, L2.aW1, L2.aW4, L2.tOr, L2.aV9, L2.ao7, L2.tB, L2.tOp, L2.tUn, L2.aR0, L2.tBM, L2.S9, L2.tC, L2.tCB, L2.aQ7, L2.aJ9, L2.j9, L2.bc8, L2.N6, L2.n8, L2.N7, L2.W0, L2.ao9, L2.aQ8, L2.aQ5, L2.aW0, L2.tIf, L2.aF3, L2.aV8, L2.aE8, L2.aQ9, L2.ah7, L2.aF1, L2.aE9, L2.ap0, L2.ao8, L2.aW3, L2.ipI, L2.rI, L2.rI0, L2.rU, L2.af3, L2.aK3, L2.aY2, L2.aG8, L2.rEq, L2.rNe, L2.aq1, L2.aq0, L2.ap9, L2.aY3, L2.aY5, L2.aI5, L2.aI6, L2.ah1, L2.cxR, L2.cxX, L2.Cx.nox, L2.Cx.wish, L2.Cx.body, L2.Cx.suite, List.getElem?_cons_zero, List.getElem?_cons_succ, List.set_cons_zero, List.set_cons_succ, Option.some.injEq, L2.V.int.injEq, L2.V.bl.injEq, L2.V.ref.injEq, L2.V.str.injEq, exists_eq_left', exists_eq_left, exists_and_left, true_and, and_true, List.cons.injEq, reduceCtorEq, Bool.false_eq_true, if_false, if_true, exists_const, ↓reduceIte, L2.tyV, List.length_cons, List.length_nil, exists_eq, List.append_nil, List.cons_append, List.nil_append, decide_eq_true_eq, not_true_eq_false, not_false_eq_true, Bool.not_eq_true', decide_eq_false_iff_not, Bool.not_true, Bool.not_false, and_assoc, false_and, false_or, or_false, $ls,*])
local macro_rules | `(tactic| clean_wf) => `(tactic| exact ⟨rfl, rfl, rfl, by decide +kernel, rfl, by decide +kernel, by decide +kernel⟩)
namespace R
open PySem L2 PyProof.Rows
section
variable {P : Program} {w : World} {K : PySem.W.Frag} {mg : Str → Option Value} {base : Heap}
def ac7 : Sp := fun vs H Q _ => ∃ a b : Int, vs = [.int a, .int b] ∧ (a.natAbs < 2 ^ 6000 ∨ b.natAbs < 2 ^ 6000) ∧ Q (.int (Int.gcd a b)) H
abbrev A4 : Stmt := top 25
theorem V1 : i3 ["one", "other"] ["one", "other"] (b9 A4) := by clean_wf
theorem af9 {f : Addr} (d : Df K mg "common_divisor" A4 ["one", "other"] f) (c_SHORT : ∃ t, mg "SHORT" = some (.int 6000 t)) (n_abs : mg "abs" = none) : Def P w K mg base CX0 1 "common_divisor" f ["one", "other"] ac7 := by
  obtain ⟨tS, c_SHORT⟩ := c_SHORT
  refine d.ok (N := ["one", "other"]) V1 (fun vs H Q E ⟨a, b, h, _⟩ => by rw [h]; rfl) (fun cdv A outer s H vs Q E hr h => ?_)
  obtain ⟨a, b, rfl, hab, q⟩ := h
  refine ⟨_, (d3 (z9 (PW.pt (aq2 (j6 ar0 (ad1 PySem.F.plainAttrs_int PySem.F.slot_int_bit_length PySem.F.type_int_bit_length W6 (pv 1)) (p8 (v := .int 6000) rfl c_SHORT ⟨_, rfl⟩) (j8 _)) (af5 (j6 ar0 (ad1 PySem.F.plainAttrs_int PySem.F.slot_int_bit_length PySem.F.type_int_bit_length W6 (pv 0)) (p8 (v := .int 6000) rfl c_SHORT ⟨_, rfl⟩) (j8 _))))) (d6 aq3) m6)
      (d3 (U0 PassesOwn.never (B4 (pv 1) (fun _ => rfl)) (d6 (X9 (i := 0) (j := 1) rfl V1.nd rfl rfl (by decide) rfl rfl (b6 (pv 1) (b6 (e9 M1 (pv 0) (pv 1)) b7)) rfl)))
      (d6 (g7 (d8 X0 rfl n_abs (by decide +kernel) (b6 (pv 0) b7)))))), ?_⟩
  rw [show start ["one", "other"] [.int a, .int b] = [some (.int a), some (.int b)] from rfl]
  have hno : ¬ ((6000 : Int) < Builtin.Int.intBits b ∧ (6000 : Int) < Builtin.Int.intBits a) := by
    rintro ⟨h1, h2⟩
    rcases hab with z | z
    · have := P4 z; omega
    · have := P4 z; omega
  have main : ∀ {D : ab6} , (∀ x : Int, ∀ y : Int, y = 0 → Int.gcd x y = Int.gcd a b → D.nx [some (.int x), some (.int y)] H) → ao6 (fun σ H_1 Q => S9 1 σ H_1 fun x H' => ∃ k, Y9 K x H' k ∧ Q k H')
      (aQ8 0 1 (W0 (S9 1) (W0 (tOp (rI (fun x j => j ≠ 0) fun i j => V.int (i.fmod j)) (S9 0) (S9 1)) ao9))) D [some (.int a), some (.int b)] H := by
    intro D hD
    refine aE5 (fun σ H1 => H1 = H ∧ ∃ x y : Int, σ = [some (.int x), some (.int y)] ∧ Int.gcd x y = Int.gcd a b) (fun σ _ => match σ with | [_, some (.int y)] => y.natAbs | _ => 0) ⟨rfl, a, b, rfl, rfl⟩ ?_ ?_
    · rintro σ H1 ⟨rfl, x, y, rfl, hg⟩
      simp! [Y9]
      split
      · rename_i hy
        have hy' : y ≠ 0 := by simpa using hy
        exact ⟨hy', by rw [aI9]; exact hg, Z8 x hy'⟩
      · rename_i hy
        have hy' : y = 0 := by simpa using hy
        exact hD x y hy' hg
    · intro σ H1 Q Q' hQ h
      obtain ⟨v, e1, k, e2, e3⟩ := h
      exact ⟨v, e1, k, e2, hQ _ _ e3⟩
  have fin : ∀ x y : Int, y = 0 → Int.gcd x y = Int.gcd a b → Q (.int (if x < 0 then -x else x)) H := fun x y hy hg => by
    subst hy
    have e : (if x < 0 then -x else x) = (Int.gcd a b : Int) := by
      rw [← hg, Int.gcd_zero_right]
      split <;> omega
    rw [e]; exact q
  have nxt : ∀ x y : Int, y = 0 → Int.gcd x y = Int.gcd a b → (aQ7 (tCB (fun xs H Q => ∃ i, xs = [V.int i] ∧ Q (V.int (if i < 0 then -i else i)) H) (W0 (S9 0) ao9)) { nx := fun x H' => Q V.non H', rt := Q }) [some (.int x), some (.int y)] H := fun x y hy hg => by
    subst_eqs
    exact fin x y hy hg
  subst_eqs
  split
  · split
    · exact hno ⟨‹_›, ‹_›⟩
    · exact main nxt
  · exact main nxt
def aO0 (K : PySem.W.Frag) (op : Rat → Rat → Rat) : Sp := fun vs H Q _ => ∃ (x y : V) (p q : Rat), vs = [x, y] ∧ Num K H x p ∧ Num K H y q ∧ Bd6 p ∧ Bd6 q ∧ aE3 H Q (op p q)
abbrev X8 : Stmt := top 28
theorem Q4 : i3 ["one", "other", "first", "second", "top", "one_top", "one_bottom", "other_top", "other_bottom"] ["one", "other"] (b9 X8) := by clean_wf
theorem ba4 {f fc : Addr} (d : Df K mg "times" X8 ["one", "other"] f) (G_common_divisor : Def P w K mg base CX0 1 "common_divisor" fc ["one", "other"] ac7) : Def P w K mg base CX0 2 "times" f ["one", "other"] (aO0 K (· * ·)) := by
  refine d.ok (N := ["one", "other", "first", "second", "top", "one_top", "one_bottom", "other_top", "other_bottom"]) Q4 (fun vs H Q E ⟨x, y, p, q, h, _⟩ => by rw [h]; rfl) (fun cdv A outer s H vs Q E hr h => ?_)
  obtain ⟨x, y, p, q, rfl, ⟨ap, rfl, hp⟩, ⟨aq, rfl, hq⟩, bp, bq, k⟩ := h
  refine ⟨_, (d3 (F5 (pv 0) (show PG _ _ (N6 K 2 (n8 (j9 5) (n8 (j9 6) N7))) from by (refine B9 (n := 2) ?_ ?_ ?_ ?_; rfl; (refine g8 ?_ ?_ ?_; (exact (e8 (i := 5) Q4.nd rfl (Or.inl rfl))); (refine g8 ?_ ?_ ?_; (exact (e8 (i := 6) Q4.nd rfl (Or.inl rfl))); (exact w4); rfl); rfl); rfl; rfl)))
      (d3 (F5 (pv 1) (show PG _ _ (N6 K 2 (n8 (j9 7) (n8 (j9 8) N7))) from by (refine B9 (n := 2) ?_ ?_ ?_ ?_; rfl; (refine g8 ?_ ?_ ?_; (exact (e8 (i := 7) Q4.nd rfl (Or.inl rfl))); (refine g8 ?_ ?_ ?_; (exact (e8 (i := 8) Q4.nd rfl (Or.inl rfl))); (exact w4); rfl); rfl); rfl; rfl)))
      (d3 (i7 (i := 2) Q4.nd rfl (Or.inl rfl) (d9 G_common_divisor hr (b6 (pv 5) (b6 (pv 8) b7)) i0))
      (d3 (i7 (i := 3) Q4.nd rfl (Or.inl rfl) (d9 G_common_divisor hr (b6 (pv 7) (b6 (pv 6) b7)) i0))
      (d3 (i7 (i := 4) Q4.nd rfl (Or.inl rfl) (e9 w5 (e9 B5 (pv 5) (pv 2)) (e9 B5 (pv 7) (pv 3))))
      (d6 (g7 (u0 (b6 (pv 4) (b6 (e9 w5 (e9 B5 (pv 6) (pv 3)) (e9 B5 (pv 8) (pv 2))) b7)))))))))), ?_⟩
  rw [show start ["one", "other", "first", "second", "top", "one_top", "one_bottom", "other_top", "other_bottom"] [.ref ap, .ref aq] = [some (.ref ap), some (.ref aq), none, none, none, none, none, none, none] from rfl]
  simp! [ac7]
  refine ⟨_, hp, rfl, ?_⟩
  simp! [w9, ac7]
  refine ⟨_, hq, rfl, ?_⟩
  simp! [w9, ac7]
  have dp := n9 p
  have dq := n9 q
  have bdp : ((p.den : Int)).natAbs < 2 ^ 6000 := by rw [Int.natAbs_natCast]; exact bp.d
  have bdq : ((q.den : Int)).natAbs < 2 ^ 6000 := by rw [Int.natAbs_natCast]; exact bq.d
  have p1 := K3 (t := p.num) (b := (q.den : Int)) (by omega)
  have p2 := K3 (t := q.num) (b := (p.den : Int)) (by omega)
  have l1 : ((Int.gcd p.num q.den : Nat) : Int).natAbs < 2 ^ 6000 := as6 (by omega) bdq
  have l2 : ((Int.gcd q.num p.den : Nat) : Int).natAbs < 2 ^ 6000 := as6 (by omega) bdp
  have v1 : ∀ i, au3 i ((Int.gcd p.num q.den : Nat) : Int) := fun i => R0 (by omega) (N4 l1)
  have v2 : ∀ i, au3 i ((Int.gcd q.num p.den : Nat) : Int) := fun i => R0 (by omega) (N4 l2)
  have f1 := Y6 (a := p.num) (g := ((Int.gcd p.num q.den : Nat) : Int)) (by omega) (Int.gcd_dvd_left _ _)
  have f2 := Y6 (a := q.num) (g := ((Int.gcd q.num p.den : Nat) : Int)) (by omega) (Int.gcd_dvd_left _ _)
  have f3 := Y6 (a := p.den) (g := ((Int.gcd q.num p.den : Nat) : Int)) (by omega) (Int.gcd_dvd_right _ _)
  have f4 := Y6 (a := q.den) (g := ((Int.gcd p.num q.den : Nat) : Int)) (by omega) (Int.gcd_dvd_right _ _)
  have R := aV6 (a := p.num) (b := p.den) (c := q.num) (d := q.den) dp dq (aa9 p) (aa9 q) rfl rfl
  refine ⟨.inr (N4 bdq), .inr (N4 bdp), v1 _, v2 _, Q8 (Nat.lt_of_le_of_lt f1 bp.n) (Nat.lt_of_le_of_lt f2 bq.n), v2 _, v1 _, Q8 (Nat.lt_of_le_of_lt f3 bdp) (Nat.lt_of_le_of_lt f4 bdq), v8, fun r hr' => ?_⟩
  obtain ⟨e1, e2⟩ := K4 R.1 R.2.1 (show (p.den : Int) * q.den ≠ 0 from Int.ne_of_gt (Int.mul_pos dp dq)) R.2.2
  rw [← U5] at e1 e2
  exact k r _ (d5.new hr' _) (by rw [b8]; unfold w9; rw [e1, e2])
def aK0 (K : PySem.W.Frag) : Sp := fun vs H Q _ => ∃ (x y : V) (p q : Rat), vs = [x, y] ∧ Num K H x p ∧ Num K H y q ∧ Bd6 p ∧ Bd6 q ∧ q ≠ 0 ∧ aE3 H Q (p / q)
theorem aj1 (q : Rat) (h : q.num ≠ 0) : (q⁻¹).num = (if q.num < 0 then -(q.den : Int) else q.den) ∧ ((q⁻¹).den : Int) = (if q.num < 0 then -q.num else q.num) := by
  have dq := n9 q
  rw [Rat.inv_def]
  by_cases hs : q.num < 0
  · rw [if_pos hs, if_pos hs]
    have := K4 (n := -(q.den : Int)) (d := -q.num) (t := (q.den : Int)) (b := q.num) (by omega) (by rw [Int.gcd_neg, Int.neg_gcd, Int.gcd_comm]; exact aa9 q) h (by rw [Int.neg_mul, Int.mul_neg])
    exact ⟨this.1.symm, this.2.symm⟩
  · rw [if_neg hs, if_neg hs]
    have := K4 (n := (q.den : Int)) (d := q.num) (t := (q.den : Int)) (b := q.num) (by omega) (by rw [Int.gcd_comm]; exact aa9 q) h rfl
    exact ⟨this.1.symm, this.2.symm⟩
theorem bc2 {q : Rat} (h : q.num ≠ 0) (b : Bd6 q) : Bd6 q⁻¹ := by
  obtain ⟨e1, e2⟩ := aj1 q h
  constructor
  · rw [e1]
    split
    · rw [Int.natAbs_neg, Int.natAbs_natCast]; exact b.d
    · rw [Int.natAbs_natCast]; exact b.d
  · have : (q⁻¹).den = q.num.natAbs := by split at e2 <;> omega
    rw [this]; exact b.n
abbrev ad0 : Stmt := top 29
theorem aA9 : i3 ["one", "other", "top", "bottom"] ["one", "other"] (b9 ad0) := by clean_wf
theorem bg0 {f ft : Addr} (d : Df K mg "over" ad0 ["one", "other"] f) (G_times : Def P w K mg base CX0 2 "times" ft ["one", "other"] (aO0 K (· * ·))) : Def P w K mg base CX0 3 "over" f ["one", "other"] (aK0 K) := by
  refine d.ok (N := ["one", "other", "top", "bottom"]) aA9 (by rintro vs H Q E ⟨x, y, p, q, h, _⟩; rw [h]; rfl) (fun cdv A outer s H vs Q E hr h => ?_)
  obtain ⟨x, y, p, q, rfl, ⟨ap, rfl, hp⟩, ⟨aq, rfl, hq⟩, bp, bq, hq0, k⟩ := h
  refine ⟨_, (d3 (F5 (pv 1) (show PG _ _ (N6 K 2 (n8 (j9 2) (n8 (j9 3) N7))) from by (refine B9 (n := 2) ?_ ?_ ?_ ?_; rfl; (refine g8 ?_ ?_ ?_; (exact (e8 (i := 2) aA9.nd rfl (Or.inl rfl))); (refine g8 ?_ ?_ ?_; (exact (e8 (i := 3) aA9.nd rfl (Or.inl rfl))); (exact w4); rfl); rfl); rfl; rfl)))
      (d3 (z9 (j6 ac2 (pv 2) d4 (j8 _)) (d6 aq3) m6)
      (d3 (z9 (j6 ak5 (pv 2) d4 (j8 _)) (d6 (g7 (d9 G_times hr (b6 (pv 0) (b6 (u0 (b6 (ak3 Z1 (pv 3)) (b6 (ak3 Z1 (pv 2)) b7))) b7)) i0))) m6)
      (d6 (g7 (d9 G_times hr (b6 (pv 0) (b6 (u0 (b6 (pv 3) (b6 (pv 2) b7))) b7)) i0)))))), ?_⟩
  rw [show start ["one", "other", "top", "bottom"] [.ref ap, .ref aq] = [some (.ref ap), some (.ref aq), none, none] from rfl]
  simp! [aG5]
  refine ⟨_, hq, rfl, ?_⟩
  simp! [w9, aG5]
  have h0 : q.num ≠ 0 := fun z => hq0 (W4.mp z)
  rw [if_neg h0]
  obtain ⟨i1, i2⟩ := aj1 q h0
  rw [Rat.div_def] at k
  by_cases hs : q.num < 0
  · rw [if_pos hs] at i1 i2 ⊢
    refine ⟨v8, fun r hr' => ⟨.ref ap, .ref r, p, q⁻¹, rfl, ⟨ap, rfl, (d5.new hr' _).tup hp⟩, ⟨r, rfl, SqT.of (by rw [b8]; unfold w9; rw [i1, i2])⟩, bp, bc2 h0 bq, fun r2 H2 s2 h2 => ?_⟩⟩
    exact k r2 H2 ((d5.new hr' _).trans s2) h2
  · rw [if_neg hs] at i1 i2 ⊢
    refine ⟨v8, fun r hr' => ⟨.ref ap, .ref r, p, q⁻¹, rfl, ⟨ap, rfl, (d5.new hr' _).tup hp⟩, ⟨r, rfl, SqT.of (by rw [b8]; unfold w9; rw [i1, i2])⟩, bp, bc2 h0 bq, fun r2 H2 s2 h2 => ?_⟩⟩
    exact k r2 H2 ((d5.new hr' _).trans s2) h2
end
def tyD : D → Value
  | .v .non => .type "NoneType"
  | .v (.bl _) => .type "bool"
  | .v (.int _) => .type "int"
  | .v (.str _) => .type "str"
  | .v _ => .type "object"
  | .tup _ => .type "tuple"
  | .lst _ => .type "list"
theorem _root_.L2.IsD.ty {K : PySem.W.Frag} {H : Hp} {v : V} {d : D} (h : IsD K H v d) : TyX K H v (tyD d) := by
  cases h with
  | v f =>
    cases v with
    | non => exact .of .non
    | bl b => exact .of (.bl b)
    | int i => exact .of (.int i)
    | str s => exact .of (.str s)
    | _ => cases f
  | tup h t => exact .sqt h
  | lst h t => exact .sql h
def bn7 : D → Bool
  | .tup _ => true
  | _ => false
def bb9 : D → Bool
  | .lst _ => true
  | _ => false
def aD0 : D → Bool
  | .v (.int _) => true
  | .v (.bl _) => true
  | _ => false
def bk7 : D → Bool
  | .v (.bl _) => true
  | _ => false
section
variable {K : PySem.W.Frag}
theorem aI4 {H : Hp} {v : V} {d : D} (h : IsD K H v d) : PySem.W.kitOne K (tyD d) (.type "tuple") = some (bn7 d) := by
  cases h with
  | v f =>
    cases v with
    | non => kernel_rfl
    | bl b => kernel_rfl
    | int i => kernel_rfl
    | str s => kernel_rfl
    | _ => cases f
  | tup h t => kernel_rfl
  | lst h t => kernel_rfl
theorem as1 {H : Hp} {v : V} {d : D} (h : IsD K H v d) : PySem.W.kitOne K (tyD d) (.type "list") = some (bb9 d) := by
  cases h with
  | v f =>
    cases v with
    | non => kernel_rfl
    | bl b => kernel_rfl
    | int i => kernel_rfl
    | str s => kernel_rfl
    | _ => cases f
  | tup h t => kernel_rfl
  | lst h t => kernel_rfl
theorem aS9 {H : Hp} {v : V} {d : D} (h : IsD K H v d) : PySem.W.kitOne K (tyD d) (.type "int") = some (aD0 d) := by
  cases h with
  | v f =>
    cases v with
    | non => kernel_rfl
    | bl b => kernel_rfl
    | int i => kernel_rfl
    | str s => kernel_rfl
    | _ => cases f
  | tup h t => kernel_rfl
  | lst h t => kernel_rfl
theorem aL8 {H : Hp} {v : V} {d : D} (h : IsD K H v d) : PySem.W.kitOne K (tyD d) (.type "bool") = some (bk7 d) := by
  cases h with
  | v f =>
    cases v with
    | non => kernel_rfl
    | bl b => kernel_rfl
    | int i => kernel_rfl
    | str s => kernel_rfl
    | _ => cases f
  | tup h t => kernel_rfl
  | lst h t => kernel_rfl
end
def ao4 : D → Bool
  | .v (.int _) => true
  | _ => false
theorem ao3 {d : D} (h : ao4 d = true) : ∃ i, d = .v (.int i) := by
  unfold ao4 at h
  split at h
  · exact ⟨_, rfl⟩
  · cases h
def U4 : D → Bool
  | .tup [.v (.int t), .v (.int b)] => decide (1 ≤ b) && decide (Int.gcd t b = 1)
  | _ => false
theorem bg5 {d : D} (h : U4 d = true) : ∃ q : Rat, d = A7 q := by
  unfold U4 at h
  split at h
  · rename_i t b
    simp only [Bool.and_eq_true, decide_eq_true_eq] at h
    obtain ⟨h1, h2⟩ := Y2 (n := t) (d := b) (by omega) h.2
    exact ⟨Rat.divInt t b, by unfold A7; rw [h1, h2]⟩
  · cases h
theorem ba7 (q : Rat) : U4 (A7 q) = true := by
  have := n9 q
  have := aa9 q
  simp only [A7, U4, Bool.and_eq_true, decide_eq_true_eq]
  omega
def bl0 (d : D) : Prop := ∀ t b : Int, d = .tup [.v (.int t), .v (.int b)] → t.natAbs < 2 ^ 6000 ∨ b.natAbs < 2 ^ 6000
end R
namespace L2
open PySem PyProof.Rows
mutual
theorem IsD.same {K : PySem.W.Frag} {H H' : Hp} (s : d5 H H') : ∀ {v : V} {d : D}, IsD K H v d → IsD K H' v d
  | _, _, .v f => .v f
  | _, _, .tup h t => .tup (s.tup h) (t.same s)
  | _, _, .lst h t => .lst (s.seq h) (t.same s)
theorem O7.same {K : PySem.W.Frag} {H H' : Hp} (s : d5 H H') : ∀ {vs : List V} {ds : List D}, O7 K H vs ds → O7 K H' vs ds
  | _, _, .nil => .nil
  | _, _, .cons h t => .cons (h.same s) (t.same s)
end
theorem O7.get {K : PySem.W.Frag} {H : Hp} : ∀ {vs : List V} {ds : List D} {i : Nat} {v : V}, O7 K H vs ds → vs[i]? = some v → ∃ d, ds[i]? = some d ∧ IsD K H v d
  | _, _, _, _, .nil, e => by simp at e
  | _, _, 0, _, .cons h _, e => by cases e; exact ⟨_, rfl, h⟩
  | _, _, i + 1, _, .cons _ t, e => t.get (i := i) (by simpa using e)
end L2
set_option maxRecDepth 100000
namespace R
open PySem L2 PyProof.Rows
mutual
def noU : D → Bool
  | .v _ => true
  | .tup ds => bm9 ds
  | .lst ds => (ds.length != 3) && bm9 ds
def bm9 : List D → Bool
  | [] => true
  | d :: ds => noU d && bm9 ds
end
end R
set_option maxRecDepth 100000
namespace L2
open PySem PyProof.Rows
end L2
namespace R
open PySem L2 PyProof.Rows
inductive Rws (H : Hp) : List Addr → List (List Rat) → Prop where
  | nil : Rws H [] []
  | cons {p : Addr} {xs : List V} {ps : List Addr} {L : List Rat} {Ls : List (List Rat)} (h : H p = some (.lst xs)) (n : p7 H xs L) (t : Rws H ps Ls) : Rws H (p :: ps) (L :: Ls)
theorem Rws.length {H : Hp} : ∀ {ts : List Addr} {M : List (List Rat)}, Rws H ts M → ts.length = M.length
  | _, _, .nil => rfl
  | _, _, .cons _ _ t => congrArg (· + 1) t.length
theorem Rws.same {H H' : Hp} (s : d5 H H') : ∀ {ts : List Addr} {M : List (List Rat)}, Rws H ts M → Rws H' ts M
  | _, _, .nil => .nil
  | _, _, .cons h n t => .cons (s _ _ h) (n.mono s.tups) (t.same s)
theorem Rws.samex {u : Addr} {H H' : Hp} (s : t8 u H H') (hu : t6 H u) : ∀ {ts : List Addr} {M : List (List Rat)}, (∀ t ∈ ts, t ≠ u) → Rws H ts M → Rws H' ts M
  | _, _, _, .nil => .nil
  | _, _, hn, .cons h n t => .cons (s _ _ h (hn _ List.mem_cons_self)) (n.mono (s.tups hu)) (t.samex s hu fun x hx => hn x (List.mem_cons_of_mem _ hx))
theorem Rws.over {H : Hp} {l : Addr} {xs : List V} {o : HO} (hl : H l = some (.lst xs)) : ∀ {ts : List Addr} {M : List (List Rat)}, l ∉ ts → Rws H ts M → Rws (upd H l o) ts M
  | _, _, _, .nil => .nil
  | _, _, hn, .cons h n t => .cons (by rw [i5 (fun z => hn (by rw [← z]; exact List.mem_cons_self))]; exact h) (n.mono (X4.lst hl)) (t.over hl fun z => hn (List.mem_cons_of_mem _ z))
theorem Rws.append {H : Hp} : ∀ {ts us : List Addr} {M N : List (List Rat)}, Rws H ts M → Rws H us N → Rws H (ts ++ us) (M ++ N)
  | _, _, _, _, .nil, h => h
  | _, _, _, _, .cons h n t, k => .cons h n (t.append k)
theorem Rws.get {H : Hp} : ∀ {ts : List Addr} {M : List (List Rat)} {i : Nat} {p : Addr}, Rws H ts M → ts[i]? = some p → ∃ xs L, M[i]? = some L ∧ H p = some (.lst xs) ∧ p7 H xs L
  | _, _, _, _, .nil, e => by simp at e
  | _, _, 0, _, .cons h n _, e => by cases e; exact ⟨_, _, rfl, h, n⟩
  | _, _, i + 1, _, .cons _ _ t, e => t.get (i := i) (by simpa using e)
theorem Rws.isDs {K : PySem.W.Frag} {H : Hp} : ∀ {ts : List Addr} {M : List (List Rat)}, Rws H ts M → O7 K H (ts.map V.ref) (M.map j7)
  | _, _, .nil => .nil
  | _, _, .cons h n t => .cons (K1 (SqL.of h) n) t.isDs
structure au1 (H : Hp) (D : Addr) (M : List (List Rat)) (H2 : Hp) : Prop where
  same : d5 H H2
  at' : ∃ ts : List Addr, H2 D = some (.lst (ts.map V.ref)) ∧ (∀ t ∈ ts, H t = none ∧ t ≠ D) ∧ ts.Nodup ∧ Rws H2 ts M
structure br6 (H : Hp) (D : Addr) (L : List Rat) (H2 : Hp) : Prop where
  same : d5 H H2
  at' : ∃ xs : List V, H2 D = some (.lst xs) ∧ p7 H2 xs L
theorem au1.start {H : Hp} {D : Addr} (h : H D = none) : au1 H D [] (upd H D (.lst [])) := ⟨d5.new h _, [], b8, by simp, .nil, .nil⟩
theorem au1.add {H H2 H3 : Hp} {D D2 : Addr} {M : List (List Rat)} {L : List Rat} (t : au1 H D M H2) (h : H D = none) (h2 : H2 D2 = none) (r : br6 H2 D2 L H3) :
    ∃ ys, H3 D = some (.lst ys) ∧ ys.length = M.length ∧ au1 H D (M ++ [L]) (upd H3 D (.lst (ys ++ [.ref D2]))) := by
  obtain ⟨s2, ts, e2, hn, nd, n2⟩ := t
  obtain ⟨s, xs, e3, n3⟩ := r
  have eD := s _ _ e2
  have hD2 : D2 ≠ D := (g6 e2 h2).symm
  have hnt : D2 ∉ ts := fun z => by
    obtain ⟨i, hi⟩ := List.mem_iff_getElem?.mp z
    obtain ⟨_, _, _, e, _⟩ := n2.get hi
    rw [h2] at e; cases e
  refine ⟨_, eD, by rw [List.length_map, n2.length], (s2.trans s).over h _, ts ++ [D2], by rw [b8, List.map_append]; rfl, ?_, ?_, ?_⟩
  · intro t ht
    rcases List.mem_append.mp ht with z | z
    · exact hn t z
    · rw [List.mem_singleton.mp z]
      refine ⟨?_, hD2⟩
      cases q : H D2 with
      | none => rfl
      | some o => rw [s2 _ _ q] at h2; cases h2
  · rw [List.nodup_append]
    refine ⟨nd, by simp, fun a ha b hb => ?_⟩
    rw [List.mem_singleton.mp hb]
    rintro rfl
    exact hnt ha
  · refine ((n2.same s).append (.cons e3 n3 .nil)).over eD fun z => ?_
    rcases List.mem_append.mp z with z | z
    · exact (hn D z).2 rfl
    · exact hD2 (List.mem_singleton.mp z).symm
def NmC (K : PySem.W.Frag) (H : Hp) (p : Addr) (q : Rat) : Prop := H p = some (.tup (w9 q)) ∨ ∀ H', SqT K H' p (w9 q)
theorem NmC.sqt {K : PySem.W.Frag} {H : Hp} {p : Addr} {q : Rat} : NmC K H p q → SqT K H p (w9 q)
  | .inl h => SqT.of h
  | .inr h => h H
theorem NmC.mono {K : PySem.W.Frag} {H H' : Hp} {p : Addr} {q : Rat} (e : X4 H H') : NmC K H p q → NmC K H' p q
  | .inl h => .inl (e _ _ h)
  | .inr h => .inr h
inductive B6 (K : PySem.W.Frag) (H : Hp) : List V → List Rat → Prop where
  | nil : B6 K H [] []
  | cons {p : Addr} {q : Rat} {vs : List V} {qs : List Rat} (h : NmC K H p q) (t : B6 K H vs qs) : B6 K H (.ref p :: vs) (q :: qs)
theorem B6.mono {K : PySem.W.Frag} {H H' : Hp} (e : X4 H H') : ∀ {vs : List V} {qs : List Rat}, B6 K H vs qs → B6 K H' vs qs
  | _, _, .nil => .nil
  | _, _, .cons h t => .cons (h.mono e) (t.mono e)
theorem B6.length {K : PySem.W.Frag} {H : Hp} : ∀ {vs : List V} {qs : List Rat}, B6 K H vs qs → vs.length = qs.length
  | _, _, .nil => rfl
  | _, _, .cons _ t => congrArg (· + 1) t.length
theorem B6.append {K : PySem.W.Frag} {H : Hp} : ∀ {vs ws : List V} {qs rs : List Rat}, B6 K H vs qs → B6 K H ws rs → B6 K H (vs ++ ws) (qs ++ rs)
  | _, _, _, _, .nil, b => b
  | _, _, _, _, .cons h t, b => .cons h (t.append b)
theorem B6.getV {K : PySem.W.Frag} {H : Hp} : ∀ {vs : List V} {qs : List Rat} {i : Nat} {v : V}, B6 K H vs qs → vs[i]? = some v → ∃ p q, v = .ref p ∧ qs[i]? = some q ∧ NmC K H p q
  | _, _, _, _, .nil, e => by simp at e
  | _, _, 0, _, .cons h t, e => by cases e; exact ⟨_, _, rfl, rfl, h⟩
  | _, _, i + 1, _, .cons _ t, e => t.getV (i := i) (by simpa using e)
theorem p7.toC {K : PySem.W.Frag} {H : Hp} : ∀ {vs : List V} {qs : List Rat}, p7 H vs qs → B6 K H vs qs
  | _, _, .nil => .nil
  | _, _, .cons h t => .cons (.inl h) t.toC
inductive bi8 (K : PySem.W.Frag) (H : Hp) : List Addr → List (List Rat) → Prop where
  | nil : bi8 K H [] []
  | cons {p : Addr} {xs : List V} {ps : List Addr} {L : List Rat} {Ls : List (List Rat)} (h : H p = some (.lst xs)) (n : B6 K H xs L) (t : bi8 K H ps Ls) : bi8 K H (p :: ps) (L :: Ls)
structure TabC (K : PySem.W.Frag) (H : Hp) (D : Addr) (M : List (List Rat)) (H2 : Hp) : Prop where
  same : d5 H H2
  at' : ∃ ts : List Addr, H2 D = some (.lst (ts.map V.ref)) ∧ (∀ t ∈ ts, H t = none ∧ t ≠ D) ∧ ts.Nodup ∧ bi8 K H2 ts M
structure RowC (K : PySem.W.Frag) (H : Hp) (D : Addr) (L : List Rat) (H2 : Hp) : Prop where
  same : d5 H H2
  at' : ∃ xs : List V, H2 D = some (.lst xs) ∧ B6 K H2 xs L
def ClA (D : Addr) (H : Hp) (v : V) (p : List Rat) : Prop := ∃ r l, v = .ref r ∧ H r = some (.tup [.ref l, .int (j3 p)]) ∧ H l = some (.lst ((i8 (j3 p) p).map V.int)) ∧ l ≠ D
inductive ClL (D : Addr) (H : Hp) : List V → List (List Rat) → Prop where
  | nil : ClL D H [] []
  | cons {v : V} {p : List Rat} {vs : List V} {ps : List (List Rat)} (h : ClA D H v p) (t : ClL D H vs ps) : ClL D H (v :: vs) (p :: ps)
structure ClR (H : Hp) (D : Addr) (M : List (List Rat)) (H2 : Hp) : Prop where
  same : d5 H H2
  at' : ∃ vs : List V, H2 D = some (.lst vs) ∧ ClL D H2 vs M
instance {K : PySem.W.Frag} {H : Hp} {vs : List V} {qs : List Rat} : Coe (p7 H vs qs) (B6 K H vs qs) := ⟨p7.toC⟩
theorem B6.get {K : PySem.W.Frag} {H : Hp} : ∀ {vs : List V} {qs : List Rat} {i : Nat} {q : Rat}, B6 K H vs qs → qs[i]? = some q → ∃ p, vs[i]? = some (.ref p) ∧ NmC K H p q
  | _, _, _, _, .nil, e => by simp at e
  | _, _, 0, _, .cons h _, e => by cases e; exact ⟨_, rfl, h⟩
  | _, _, i + 1, _, .cons _ t, e => t.get (i := i) (by simpa using e)
theorem B6.take {K : PySem.W.Frag} {H : Hp} : ∀ {vs : List V} {qs : List Rat} (m : Nat), B6 K H vs qs → B6 K H (vs.take m) (qs.take m)
  | _, _, 0, _ => by simp only [List.take_zero]; exact .nil
  | _, _, m + 1, .nil => by simp only [List.take_nil]; exact .nil
  | _, _, m + 1, .cons h t => by simp only [List.take_succ_cons]; exact .cons h (t.take m)
section
variable {P : Program} {w : World} {K : PySem.W.Frag} {mg : Str → Option Value} {base : Heap}
def ai2 (K : PySem.W.Frag) : Sp := fun vs H Q _ => ∃ a ws, vs = [.ref a] ∧ SqL K H a (ws.map V.int) ∧ (∀ w ∈ ws, Int.natAbs w < 2 ^ 6000) ∧ Q (.int (t7 ws)) H
abbrev E6 : Stmt := top 32
theorem P5 : i3 ["wholes", "content", "whole"] ["wholes"] (b9 E6) := by clean_wf
set_option maxHeartbeats 0 in
theorem av1 {f fc : Addr} (d : Df K mg "content_of" E6 ["wholes"] f) (G_common_divisor : Def P w K mg base CX0 1 "common_divisor" fc ["one", "other"] ac7) : Def P w K mg base CX0 2 "content_of" f ["wholes"] (ai2 K) := by
  refine d.ok (N := ["wholes", "content", "whole"]) P5 (by rintro vs H Q E ⟨a, b, h, _⟩; rw [h]; rfl) (fun cdv A outer s H vs Q E hr h => ?_)
  obtain ⟨a, ws, rfl, hS, hb, k⟩ := h
  refine ⟨_, (d3 (i7 (i := 1) P5.nd rfl (Or.inl rfl) d4)
      (d3 (J4 PassesOwn.never rfl (B2 (pv 0)) (e8 (i := 2) P5.nd rfl (Or.inl rfl)) (d3 (i7 (i := 1) P5.nd rfl (Or.inl rfl) (d9 G_common_divisor hr (b6 (pv 2) (b6 (pv 1) b7)) i0))
      (d6 (z9 (j6 ac2 (pv 1) d4 (j8 _)) (d6 (g7 d4)) m6))))
      (d6 (g7 (pv 1))))), ?_⟩
  rw [show start ["wholes", "content", "whole"] [.ref a] = [some (.ref a), none, none] from rfl]
  subst_eqs
  refine ⟨_, rfl, a, rfl, ⟨_, hS⟩, aa0 (xs := ws.map V.int) (fun i σ H1 => H1 = H ∧ ∃ o, σ = [some (.ref a), some (.int (t7 (ws.take i) : Nat)), o]) ⟨rfl, _, rfl⟩ (fun i σ H1 _ ⟨e, _⟩ => e ▸ hS) ?_ ?_⟩
  · rintro i x σ H1 hx ⟨rfl, o, rfl⟩
    rw [List.getElem?_map] at hx
    cases hw : ws[i]? with
    | none => rw [hw] at hx; cases hx
    | some v =>
      rw [hw] at hx
      cases hx
      have hm := List.mem_of_getElem? hw
      simp! [ac7]
      have es : ws.take (i + 1) = ws.take i ++ [v] := by rw [List.take_succ, hw]; rfl
      have eg : Int.gcd v (t7 (ws.take i) : Int) = t7 (ws.take (i + 1)) := by rw [es, aT2]
      refine ⟨.inl (Nat.lt_of_lt_of_le (hb v hm) (d7 (by decide))), ?_⟩
      rw [eg]
      refine ⟨rfl, v7 (fun h1 => ?_) (fun _ => ?_)⟩
      · have : t7 (ws.take (i + 1)) = 1 := by omega
        have e1 := bc7 _ this
        rw [e1] at k
        exact k
      · exact ⟨rfl, _, rfl⟩
  · rintro σ H1 ⟨rfl, o, rfl⟩
    rw [List.length_map, List.take_length]
    exact ⟨_, rfl, k⟩
def aw9 (K : PySem.W.Frag) : Sp := fun vs H Q _ => ∃ a xs qs, vs = [.ref a] ∧ SqL K H a xs ∧ B6 K H xs qs ∧ (∃ W : Nat, ClN W qs ∧ W ≤ 6000) ∧ qs.length ≤ 100 ∧
  ∀ r l H', d5 H H' → H l = none → H' r = some (.tup [.ref l, .int (j3 qs)]) → H' l = some (.lst ((i8 (j3 qs) qs).map V.int)) → Q (.ref r) H'
abbrev N2 : Stmt := top 34
theorem X7 : i3 ["numbers", "bottom", "number"] ["numbers"] (b9 N2) := by clean_wf
set_option maxHeartbeats 0 in
theorem aL1 {f fc : Addr} (d : Df K mg "cleared" N2 ["numbers"] f) (G_common_divisor : Def P w K mg base CX0 1 "common_divisor" fc ["one", "other"] ac7) : Def P w K mg base CX0 2 "cleared" f ["numbers"] (aw9 K) := by
  refine d.ok (N := ["numbers", "bottom", "number"]) X7 (by rintro vs H Q E ⟨a, b, c, h, _⟩; rw [h]; rfl) (fun cdv A outer s H vs Q E hr h => ?_)
  obtain ⟨a, xs, qs, rfl, hS, hN, ⟨W, hs, hm⟩, hl, k⟩ := h
  refine ⟨_, (d3 (i7 (i := 1) X7.nd rfl (Or.inr rfl) d4)
      (d3 (J4 PassesOwn.never rfl (B2 (pv 0)) (e8 (i := 2) X7.nd rfl (Or.inl rfl)) (d6 (i7 (i := 1) X7.nd rfl (Or.inr rfl) (e9 w5 (e9 B5 (pv 1) (d9 G_common_divisor hr (b6 (pv 1) (b6 (n5 o0 (pv 2) d4 (fun _ _ => rfl)) b7)) i0)) (n5 o0 (pv 2) d4 (fun _ _ => rfl))))))
      (d6 (g7 (u0 (b6 (M0 (Nc := ["bottom", "top", "under"]) (caps := [some 1, none, none]) rfl (V9.of (osc := b9 N2) (N := ["numbers", "bottom", "number"]) (ks := ["bottom"]) rfl rfl rfl rfl (Q3 rfl C5) (by decide +kernel)) (B2 (pv 0)) (fun C s₂ H₂ fp pins => (show PG _ _ (N6 K 2 (n8 (j9 1) (n8 (j9 2) N7))) from by (refine B9 (n := 2) ?_ ?_ ?_ ?_; rfl; (refine g8 ?_ ?_ ?_; (exact (e8 (i := 1) (show List.Nodup (["bottom", "top", "under"] : List Str) by decide +kernel) rfl (Or.inl rfl) (Or.inr rfl))); (refine g8 ?_ ?_ ?_; (exact (e8 (i := 2) (show List.Nodup (["bottom", "top", "under"] : List Str) by decide +kernel) rfl (Or.inl rfl) (Or.inr rfl))); (exact w4); rfl); rfl); rfl; rfl))) (fun C s₂ H₂ fp pins => (e9 w5 (pv 1) (e9 B5 (pv 0) (pv 2))))) (b6 (pv 1) b7))))))), ?_⟩
  rw [show start ["numbers", "bottom", "number"] [.ref a] = [some (.ref a), none, none] from rfl]
  subst_eqs
  have small : ∀ q ∈ qs, q.den < 2 ^ 6000 := fun q hq => Nat.lt_of_lt_of_le (hs.den hq) (d7 hm)
  have hB : ∀ i, 0 < j3 (qs.take i) ∧ j3 (qs.take i) < 2 ^ 6000 := fun i => by
    exact ⟨B1 _, Nat.lt_of_lt_of_le (hs.take i) (d7 hm)⟩
  refine ⟨_, rfl, a, rfl, ⟨_, hS⟩, aa0 (xs := xs) (fun i σ H1 => H1 = H ∧ ∃ o, σ = [some (.ref a), some (.int (j3 (qs.take i) : Nat)), o]) ⟨rfl, _, rfl⟩ (fun i σ H1 _ ⟨e, _⟩ => e ▸ hS) ?_ ?_⟩
  · rintro i x σ H1 hx ⟨rfl, o, rfl⟩
    obtain ⟨p, q, rfl, hq, hp⟩ := hN.getV hx
    obtain ⟨b1, b2⟩ := hB i
    have hd := small q (List.mem_of_getElem? hq)
    have hd0 := n9 q
    have es : qs.take (i + 1) = qs.take i ++ [q] := by rw [List.take_succ, hq]; rfl
    have gp : (0 : Int) < (Int.gcd (j3 (qs.take i) : Int) (q.den : Int) : Nat) := by
      have := K3 (t := (j3 (qs.take i) : Int)) (b := (q.den : Int)) (by omega); omega
    have el : (j3 (qs.take i) : Int).fdiv (Int.gcd (j3 (qs.take i) : Int) (q.den : Int) : Nat) * (q.den : Int) = (j3 (qs.take (i + 1)) : Nat) := by
      rw [es, aS8]
      obtain ⟨e, he⟩ := Int.gcd_dvd_left (j3 (qs.take i) : Int) (q.den : Int)
      have hg : Int.gcd (j3 (qs.take i) : Int) (q.den : Int) = Nat.gcd (j3 (qs.take i)) q.den := by simp [Int.gcd]
      have h1 : (j3 (qs.take i) : Int).fdiv (Int.gcd (j3 (qs.take i) : Int) (q.den : Int) : Nat) = e := by
        conv => lhs; arg 1; rw [he]
        exact j2 (by omega)
      rw [h1]
      have h2 : Nat.gcd (j3 (qs.take i)) q.den * Nat.lcm (j3 (qs.take i)) q.den = j3 (qs.take i) * q.den := Nat.gcd_mul_lcm _ _
      have h3 : ((Nat.gcd (j3 (qs.take i)) q.den : Nat) : Int) * (Nat.lcm (j3 (qs.take i)) q.den : Nat) = (j3 (qs.take i) : Int) * (q.den : Int) := by
        rw [← Int.natCast_mul, h2, Int.natCast_mul]
      rw [← hg] at h3
      have h4 : ((Int.gcd (j3 (qs.take i) : Int) (q.den : Int) : Nat) : Int) * (e * q.den) = ((Int.gcd (j3 (qs.take i) : Int) (q.den : Int) : Nat) : Int) * (Nat.lcm (j3 (qs.take i)) q.den : Nat) := by
        rw [h3, ← Int.mul_assoc, ← he]
      exact Int.eq_of_mul_eq_mul_left (by omega) h4
    simp! [ac7]
    have hd9 : (q.den : Int).natAbs < 2 ^ 6000 := by rw [Int.natAbs_natCast]; exact hd
    exact ⟨_, hp.sqt, _, at1 q, _, rfl, .inr (N4 hd9), R0 (by omega) (as6 (by omega) (N4 hd9)), _, hp.sqt, _, at1 q, _, rfl, Q8 (m := 6000) (n := 6000) (Nat.lt_of_le_of_lt (Y6 (by omega) (Int.gcd_dvd_left _ _)) (by rw [Int.natAbs_natCast]; exact b2)) hd9, el, _, rfl⟩
  · rintro σ H1 ⟨rfl, o, rfl⟩
    rw [← hN.length] at hl
    have e1 : qs.take xs.length = qs := by rw [hN.length, List.take_length]
    rw [e1]
    simp! [ac7]
    refine ⟨⟨_, hS⟩, fun D hD => ?_⟩
    refine K6 xs (fun i σ H2 => ∃ o1 o2, σ = [some (.int (j3 qs)), o1, o2] ∧ d5 H1 H2 ∧ H2 D = some (.lst ((i8 (j3 qs) (qs.take i)).map V.int))) ⟨_, _, rfl, d5.new hD _, b8⟩ (fun i σ H2 _ ⟨_, _, _, s2, _⟩ => s2.seq hS) ?_ ?_
    · rintro i x σ H2 hx ⟨o1, o2, rfl, s2, e2⟩
      have hi := (List.getElem?_eq_some_iff.mp hx).1
      obtain ⟨p, q, rfl, hq, hp⟩ := hN.getV hx
      have hd := small q (List.mem_of_getElem? hq)
      have hd0 := n9 q
      have hd9 : (q.den : Int).natAbs < 2 ^ 6000 := by rw [Int.natAbs_natCast]; exact hd
      have hn9 := hs.num (List.mem_of_getElem? hq)
      have es : qs.take (i + 1) = qs.take i ++ [q] := by rw [List.take_succ, hq]; rfl
      subst_eqs
      refine ⟨_, s2.tup hp.sqt, rfl, _, _, rfl, _, _, rfl, rfl, ?_⟩
      refine ⟨_, rfl, R0 (by omega) (N4 hd9), _, rfl, Q8 (m := 6000) (n := 6000) (Nat.lt_of_lt_of_le hn9 (d7 (by omega))) (Nat.lt_of_le_of_lt (Y6 (by omega) (Int.natCast_dvd_natCast.mpr (M2 (List.mem_of_getElem? hq)))) (by rw [Int.natAbs_natCast]; have := (hB qs.length).2; rwa [List.take_length] at this)), ?_⟩
      refine N5.mk hi e2 ?_ ⟨_, _, rfl, (s2.trans (d5.refl _)).over hD _, ?_⟩
      · simp only [List.length_map, i8, List.length_take]
        exact Nat.lt_of_le_of_lt (show _ ≤ 100 by omega) (by decide)
      · rw [b8, es]
        simp [i8]
    · rintro σ H2 ⟨o1, o2, rfl, s2, e2⟩
      rw [e1] at e2
      refine ⟨v8, fun p hp => k p D _ (s2.trans (d5.new hp _)) hD b8 ?_⟩
      rw [i5 (g6 e2 hp)]; exact e2
end
theorem bg9 {qs : List Rat} (hc : t7 (i8 (j3 qs) qs) ≠ 0) :
    let c : Int := t7 (i8 (j3 qs) qs)
    (Rat.divInt c (j3 qs)).num = c ∧ ((Rat.divInt c (j3 qs)).den : Int) = j3 qs ∧ qs = scl (Rat.divInt c (j3 qs)) ((i8 (j3 qs) qs).map fun v => v.fdiv c) := by
  intro c
  have hB := B1 qs
  obtain ⟨h1, h2⟩ := Y2 (n := c) (d := (j3 qs : Int)) (by omega) (aD9 qs)
  refine ⟨h1, h2, ?_⟩
  unfold scl i8
  rw [List.map_map, List.map_map]
  conv => lhs; rw [← List.map_id qs]
  refine List.map_congr_left fun q hq => ?_
  show q = Rat.divInt c (j3 qs) * (((q.num * (j3 qs : Int).fdiv (q.den : Int)).fdiv c : Int) : Rat)
  obtain ⟨e, he⟩ := K9 (ws := i8 (j3 qs) qs) (List.mem_map.mpr ⟨q, hq, rfl⟩)
  have hc' : c ≠ 0 := by show ((t7 (i8 (j3 qs) qs) : Nat) : Int) ≠ 0; omega
  have e1 : (q.num * (j3 qs : Int).fdiv (q.den : Int)).fdiv c = e := by
    conv => lhs; arg 1; rw [he]
    exact j2 hc'
  rw [e1]
  conv => lhs; rw [ao2 hB (M2 hq)]
  rw [he]
  have e2 : (e : Rat) = Rat.divInt e 1 := by
    have := Rat.num_divInt_den (e : Rat)
    rw [Rat.num_intCast, Rat.den_intCast] at this
    exact this.symm
  rw [e2, Rat.divInt_mul_divInt, Int.mul_one]
theorem aP1 {ws : List Int} {v : Int} (h : v ∈ ws) (hv : v ≠ 0) : t7 ws ≠ 0 := fun z => by
  obtain ⟨e, he⟩ := K9 h
  rw [z] at he
  simp at he
  exact hv he
theorem ad9 {a g : Int} {n : Nat} (hg : 0 < g) (hd : g ∣ a) (h : a.natAbs < n) : (a.fdiv g).natAbs < n := Nat.lt_of_le_of_lt (Y6 hg hd) h
section
variable {P : Program} {w : World} {K : PySem.W.Frag} {mg : Str → Option Value} {base : Heap}
theorem ay7 {d : Nat} : ∀ (ws : List Int) (c : Nat), d ∣ c → (∀ w ∈ ws, (d : Int) ∣ w) → d ∣ ws.foldl (fun c w => Int.gcd w c) c
  | [], c, h, _ => h
  | w :: r, c, h, hw => ay7 r _ (Int.dvd_gcd (hw w List.mem_cons_self) (Int.natCast_dvd_natCast.mpr h)) fun x hx => hw x (List.mem_cons_of_mem _ hx)
theorem ay4 {ws : List Int} (hc : t7 ws ≠ 0) : t7 (ws.map fun v => v.fdiv ((t7 ws : Nat) : Int)) = 1 := by
  obtain ⟨g, hg⟩ : ∃ g, g = t7 ws := ⟨_, rfl⟩
  obtain ⟨e, he⟩ : ∃ e, e = t7 (ws.map fun v => v.fdiv ((t7 ws : Nat) : Int)) := ⟨_, rfl⟩
  have hd : (g * e) ∣ t7 ws := ay7 ws 0 (Nat.dvd_zero _) fun w hw => by
    obtain ⟨y, hy⟩ := K9 hw
    have h1 : w.fdiv ((t7 ws : Nat) : Int) = y := by
      conv => lhs; arg 1; rw [hy]
      exact j2 (by omega)
    obtain ⟨z, hz⟩ := K9 (List.mem_map.mpr ⟨w, hw, rfl⟩ : w.fdiv ((t7 ws : Nat) : Int) ∈ ws.map fun v => v.fdiv ((t7 ws : Nat) : Int))
    rw [h1, ← he] at hz
    exact ⟨z, by rw [hy, ← hg, hz, Int.natCast_mul, Int.mul_assoc]⟩
  rw [← hg] at hd
  obtain ⟨z, hz⟩ := hd
  have h2 : g * 1 = g * (e * z) := by rw [Nat.mul_one, ← Nat.mul_assoc]; exact hz
  have h3 := Nat.eq_of_mul_eq_mul_left (show 0 < g by omega) h2
  rw [← he]
  exact Nat.dvd_one.mp ⟨z, h3⟩
def ai0 (K : PySem.W.Frag) : Sp := fun vs H Q _ => ∃ a xs qs, vs = [.ref a] ∧ SqL K H a xs ∧ B6 K H xs qs ∧ ∃ W : Nat, ClN W qs ∧ W ≤ 6000 ∧ 1 ≤ W ∧ qs.length ≤ 100 ∧ v9 qs qs.length ∧
  ∀ r rs l s ws H', d5 H H' → H l = none → H' r = some (.tup [.ref rs, .ref l]) → SqT K H' rs (w9 s) → H' l = some (.lst (ws.map V.int)) → BdN W s → s ≠ 0 → (∀ v ∈ ws, Int.natAbs v < 2 ^ W) → ws.length = qs.length → qs = scl s ws → (ws ≠ [] → t7 ws = 1) → Q (.ref r) H'
abbrev Q6 : Stmt := top 35
theorem aa8 : i3 ["p", "content", "wholes", "bottom"] ["p"] (b9 Q6) := by clean_wf
set_option maxHeartbeats 0 in
theorem aL2 {f fc fk aN : Addr} (d : Df K mg "lifted" Q6 ["p"] f) (G_cleared : Def P w K mg base CX0 2 "cleared" fc ["numbers"] (aw9 K)) (G_content_of : Def P w K mg base CX0 2 "content_of" fk ["wholes"] (ai2 K)) (c_ONE : mg "ONE" = some (.ref aN)) (tN : ∀ H, SqT K H aN (w9 1)) : Def P w K mg base CX0 3 "lifted" f ["p"] (ai0 K) := by
  refine d.ok (N := ["p", "content", "wholes", "bottom"]) aa8 (by rintro vs H Q E ⟨a, b, c, h, _⟩; rw [h]; rfl) (fun cdv A outer s H vs Q E hr h => ?_)
  obtain ⟨a, xs, qs, rfl, hS, hN, m, hs, hm, hm1, hl, ht, k⟩ := h
  refine ⟨_, (d3 (F5 (d9 G_cleared hr (b6 (pv 0) b7) i0) (show PG _ _ (N6 K 2 (n8 (j9 2) (n8 (j9 3) N7))) from by (refine B9 (n := 2) ?_ ?_ ?_ ?_; rfl; (refine g8 ?_ ?_ ?_; (exact (e8 (i := 2) aa8.nd rfl (Or.inl rfl))); (refine g8 ?_ ?_ ?_; (exact (e8 (i := 3) aa8.nd rfl (Or.inl rfl))); (exact w4); rfl); rfl); rfl; rfl)))
      (d3 (z9 (B3 (B4 (pv 2) (fun _ => rfl))) (d6 (g7 (u0 (b6 (p8 (v := .ref _) rfl c_ONE rfl) (b6 (w8 b7) b7))))) m6)
      (d3 (i7 (i := 1) aa8.nd rfl (Or.inr rfl) (d9 G_content_of hr (b6 (pv 2) b7) i0))
      (d6 (g7 (u0 (b6 (u0 (b6 (pv 1) (b6 (pv 3) b7))) (b6 (M0 (Nc := ["content", "whole"]) (caps := [some 1, none]) rfl (V9.of (osc := b9 Q6) (N := ["p", "content", "wholes", "bottom"]) (ks := ["content"]) rfl rfl rfl rfl (Q3 rfl C5) (by decide +kernel)) (B2 (pv 2)) (fun C s₂ H₂ fp pins => (e8 (i := 1) (show List.Nodup (["content", "whole"] : List Str) by decide +kernel) rfl (Or.inl rfl) (Or.inr rfl))) (fun C s₂ H₂ fp pins => (e9 B5 (pv 1) (pv 0)))) b7)))))))), ?_⟩
  rw [show start ["p", "content", "wholes", "bottom"] [.ref a] = [some (.ref a), none, none, none] from rfl]
  simp! [Y9]
  refine ⟨a, xs, qs, rfl, hS, hN, ⟨m, hs, hm⟩, hl, fun r l H1 s1 hl1 er el => ?_⟩
  have hB := B1 qs
  have hB1 := hs.l
  have wl := hs.w
  refine ⟨r, rfl, _, SqT.of er, rfl, _, _, rfl, _, _, rfl, rfl, _, .inl ⟨_, SqL.of el, rfl⟩, v7 (fun h0 => ?_) (fun h0 => ?_)⟩
  · have hq : qs = [] := by
      cases qs with
      | nil => rfl
      | cons q r => simp [i8] at h0
    subst hq
    refine ⟨by decide, fun p hp => ⟨v8, fun p1 hp1 => ?_⟩⟩
    refine k p1 aN p 1 [] _ (s1.trans ((d5.new hp _).trans (d5.new hp1 _))) (s1.free hp) b8 (tN _) (by rw [i5 (bn0 hp1).symm]; exact b8) ⟨Nat.lt_of_lt_of_le (show _ < 2 ^ 1 by decide) (d7 (by omega)), Nat.lt_of_lt_of_le (show _ < 2 ^ 1 by decide) (d7 (by omega))⟩ (by decide) (by simp) (by simp) rfl (fun z => absurd rfl z)
  · have hq : qs ≠ [] := fun z => h0 (by rw [z]; rfl)
    have lp : 0 < qs.length := List.length_pos_iff.mpr hq
    have hlast : qs.length - 1 < qs.length := by omega
    have hne : qs[qs.length - 1] ≠ 0 := ht.last (by omega) _ (List.getElem?_eq_getElem hlast)
    have hmem : qs[qs.length - 1] ∈ qs := List.getElem_mem hlast
    have hc : t7 (i8 (j3 qs) qs) ≠ 0 := by
      refine aP1 (List.mem_map.mpr ⟨_, hmem, rfl⟩) ?_
      obtain ⟨e, he⟩ := M2 hmem
      have h0 : (qs[qs.length - 1].den : Int) ≠ 0 := by have := qs[qs.length - 1].den_nz; omega
      have e1 : (j3 qs : Int).fdiv (qs[qs.length - 1].den : Int) = (e : Int) := by
        rw [he, Int.natCast_mul]; exact j2 h0
      rw [e1]
      refine Int.mul_ne_zero (fun z => hne (W4.mp z)) ?_
      intro z
      have : e = 0 := by omega
      rw [this] at he; omega
    obtain ⟨f1, f2, f3⟩ := bg9 hc
    have cpos : (0 : Int) < (t7 (i8 (j3 qs) qs) : Nat) := by omega
    have cle : t7 (i8 (j3 qs) qs) < 2 ^ m := by
      have hm : qs[qs.length - 1].num * (j3 qs : Int).fdiv (qs[qs.length - 1].den : Int) ∈ i8 (j3 qs) qs := List.mem_map.mpr ⟨_, hmem, rfl⟩
      obtain ⟨e, he⟩ := K9 hm
      have w1 := wl _ hm
      rw [he, Int.natAbs_mul, Int.natAbs_natCast] at w1
      have e0 : e.natAbs ≠ 0 := fun z => by
        have hz : e = 0 := by omega
        rw [hz, Int.mul_zero] at he
        rcases Int.mul_eq_zero.mp he with q1 | q1
        · exact hne (W4.mp q1)
        · obtain ⟨e', he'⟩ := M2 hmem
          have h0 : (qs[qs.length - 1].den : Int) ≠ 0 := by have := qs[qs.length - 1].den_nz; omega
          have e1 : (j3 qs : Int).fdiv (qs[qs.length - 1].den : Int) = (e' : Int) := by
            rw [he', Int.natCast_mul]; exact j2 h0
          rw [e1] at q1
          have : e' = 0 := by omega
          rw [this] at he'; omega
      exact Nat.lt_of_le_of_lt (Nat.le_mul_of_pos_right _ (by omega)) w1
    refine ⟨l, _, rfl, SqL.of el, fun v hv => Nat.lt_of_lt_of_le (wl v hv) (d7 hm), v8, fun p hp => ⟨l, rfl, ⟨_, SqL.of (d5.new hp _ _ _ el)⟩, fun D hD => ?_⟩⟩
    have sp := d5.new hp (.tup [.int (t7 (i8 (j3 qs) qs) : Nat), .int (j3 qs)])
    refine K6 ((i8 (j3 qs) qs).map V.int) (fun i σ H2 => ∃ o, σ = [some (.int (t7 (i8 (j3 qs) qs) : Nat)), o] ∧ d5 (upd H1 p (.tup [.int (t7 (i8 (j3 qs) qs) : Nat), .int (j3 qs)])) H2 ∧ H2 D = some (.lst ((((i8 (j3 qs) qs).take i).map fun v => v.fdiv (t7 (i8 (j3 qs) qs) : Nat)).map V.int)))
      ⟨_, rfl, d5.new hD _, b8⟩ (fun i σ H2 _ ⟨_, _, s2, _⟩ => SqL.of (s2 _ _ (sp _ _ el))) ?_ ?_
    · rintro i x σ H2 hx ⟨o, rfl, s2, e2⟩
      have hi := (List.getElem?_eq_some_iff.mp hx).1
      rw [List.getElem?_map] at hx
      cases hw : (i8 (j3 qs) qs)[i]? with
      | none => rw [hw] at hx; cases hx
      | some v =>
        rw [hw] at hx
        cases hx
        subst_eqs
        refine ⟨R0 (by omega) (by rw [Int.natAbs_natCast]; exact N4 cle (by omega)), N5.mk hi e2 ?_ ⟨_, rfl, s2.over hD _, ?_⟩⟩
        · simp only [List.length_map, List.length_take, i8]
          exact Nat.lt_of_le_of_lt (show _ ≤ 100 by omega) (by decide)
        · rw [b8, List.take_succ, hw]
          simp
    · rintro σ H2 ⟨o, rfl, s2, e2⟩
      rw [List.length_map, List.take_length] at e2
      refine ⟨v8, fun p1 hp1 => ?_⟩
      have S := (s1.trans sp).trans (s2.trans (d5.new hp1 (.tup [.ref p, .ref D])))
      have ep : SqT K (upd H2 p1 (.tup [.ref p, .ref D])) p (w9 (Rat.divInt (t7 (i8 (j3 qs) qs) : Nat) (j3 qs))) := by
        refine SqT.of ?_
        rw [i5 (g6 (s2 _ _ b8) hp1), s2 _ _ b8]
        unfold w9
        rw [f1, f2]
      refine k p1 p D _ ((i8 (j3 qs) qs).map fun v => v.fdiv (t7 (i8 (j3 qs) qs) : Nat)) _ S (s1.free (aH9 hD)) b8 ep (by rw [i5 (g6 e2 hp1)]; exact e2) ⟨?_, ?_⟩ ?_ ?_ ?_ f3 (fun _ => ay4 hc)
      · rw [f1, Int.natAbs_natCast]; exact cle
      · have : (Rat.divInt (t7 (i8 (j3 qs) qs) : Nat) (j3 qs)).den = j3 qs := by omega
        rw [this]; exact hB1
      · intro z
        rw [z] at f1
        have : (0 : Rat).num = 0 := rfl
        omega
      · intro v hv
        obtain ⟨v', hv', rfl⟩ := List.mem_map.mp hv
        exact ad9 cpos (K9 hv') (wl v' hv')
      · simp only [List.length_map, i8]
end
theorem bg8 (s : Rat) {v : Int} (hv : v ≠ 0) : v.fdiv (Int.gcd (s.den : Int) v : Nat) * s.num = (s * (v : Rat)).num ∧ (s.den : Int).fdiv (Int.gcd (s.den : Int) v : Nat) = ((s * (v : Rat)).den : Int) := by
  have dp := n9 s
  have hg := K3 (t := (s.den : Int)) hv
  obtain ⟨d', hd⟩ := Int.gcd_dvd_left (s.den : Int) v
  obtain ⟨v', hv'⟩ := Int.gcd_dvd_right (s.den : Int) v
  have hc : Int.gcd d' v' = 1 := P7 hv hd hv'
  have e1 : v.fdiv (Int.gcd (s.den : Int) v : Nat) = v' := by
    conv => lhs; arg 1; rw [hv']
    exact j2 (by omega)
  have e2 : (s.den : Int).fdiv (Int.gcd (s.den : Int) v : Nat) = d' := by
    conv => lhs; arg 1; rw [hd]
    exact j2 (by omega)
  rw [e1, e2]
  have ev : s * (v : Rat) = Rat.divInt (s.num * v) s.den := by
    have h1 := Rat.num_divInt_den (v : Rat)
    rw [Rat.num_intCast, Rat.den_intCast] at h1
    conv => lhs; rw [← Rat.num_divInt_den s, ← h1]
    rw [Rat.divInt_mul_divInt]
    simp
  rw [ev]
  have hd0 : 0 < d' := by
    rcases Int.lt_or_le 0 d' with z | z
    · exact z
    · have := Int.mul_nonneg (show (0 : Int) ≤ (Int.gcd (s.den : Int) v : Nat) by omega) (show 0 ≤ -d' by omega)
      rw [Int.mul_neg] at this; omega
  have c1 : Int.gcd d' s.num = 1 := by
    have := aD8 (k := s.num) (m := (s.den : Int)) (n := d') (aa9 s) ⟨_, by rw [Int.mul_comm]; exact hd⟩
    exact aa3 this
  refine K4 hd0 (aa3 (P8 hc c1)) (by omega) ?_
  generalize (Int.gcd (s.den : Int) v : Int) = g at *
  rw [hd, hv']
  grind
section
variable {P : Program} {w : World} {K : PySem.W.Frag} {mg : Str → Option Value} {base : Heap}
def bl1 (b : Int) (ws : List Int) (d : Int) : Prop := 0 < d ∧ d ∣ b ∧ ∀ v ∈ ws, v ≠ 0 → Int.gcd d v = Int.gcd b v
def bk1 (K : PySem.W.Frag) : Sp := fun vs H Q _ => ∃ (a : Addr) (ws : List Int) (b : Int), vs = [.ref a, .int b] ∧ SqL K H a (ws.map V.int) ∧ ws.length ≤ 100 ∧ 0 < b ∧ b.natAbs < 2 ^ 6000 ∧ (∀ v ∈ ws, Int.natAbs v < 2 ^ 20000) ∧ ∀ H' d, d5 H H' → bl1 b ws d → Q (.int d) H'
abbrev v5 : Stmt := top 36
theorem C1 : i3 ["wholes", "bottom", "longest", "product", "whole"] ["wholes", "bottom"] (b9 v5) := by clean_wf
set_option maxHeartbeats 0 in
theorem ad4 {f fc : Addr} {tL : Tok} (d : Df K mg "divisor_for_all" v5 ["wholes", "bottom"] f) (G_common_divisor : Def P w K mg base CX0 1 "common_divisor" fc ["one", "other"] ac7) (c_LONG : mg "LONG" = some (.int 1000 tL)) (n_max : mg "max" = none) : Def P w K mg base CX0 2 "divisor_for_all" f ["wholes", "bottom"] (bk1 K) := by
  refine d.ok (N := ["wholes", "bottom", "longest", "product", "whole"]) C1 (by rintro vs H Q E ⟨a, b, c, h, _⟩; rw [h]; rfl) (fun cdv A outer s H vs Q E hr h => ?_)
  obtain ⟨a, ws, b, rfl, hS, hl, hb0, hb, hws, k⟩ := h
  refine ⟨_, (d3 (i7 (i := 2) C1.nd rfl (Or.inl rfl) (bf5 rfl rfl n_max (b6 (M0 (Nc := ["whole"]) (caps := [none]) rfl (V9.of (osc := b9 v5) (N := ["wholes", "bottom", "longest", "product", "whole"]) (ks := []) rfl rfl rfl rfl C5 (by decide +kernel)) (B2 (pv 0)) (fun C s₂ H₂ fp pins => (e8 (i := 0) (show List.Nodup (["whole"] : List Str) by decide +kernel) rfl (Or.inl rfl) (Or.inr rfl))) (fun C s₂ H₂ fp pins => (show PE _ _ (aR0 K "int" _ _) from by exact (ad1 PySem.F.plainAttrs_int PySem.F.slot_int_bit_length PySem.F.type_int_bit_length W6 (pv 0))))) b7)))
      (d3 (z9 (PW.pt (T9 (j6 ak5 (ad1 PySem.F.plainAttrs_int PySem.F.slot_int_bit_length PySem.F.type_int_bit_length W6 (pv 1)) (p8 (v := .int 1000) rfl c_LONG ⟨_, rfl⟩) (j8 _)) (V6 (j6 ar0 (ad1 PySem.F.plainAttrs_int PySem.F.slot_int_bit_length PySem.F.type_int_bit_length W6 (pv 1)) (e9 w5 d4 (pv 2)) (j8 _))))) (d6 (g7 (pv 1))) m6)
      (d3 (i7 (i := 3) C1.nd rfl (Or.inl rfl) d4)
      (d3 (J4 PassesOwn.never rfl (B2 (pv 0)) (e8 (i := 4) C1.nd rfl (Or.inl rfl)) (d6 (z9 (B4 (pv 4) (fun _ => rfl)) (d6 (i7 (i := 3) C1.nd rfl (Or.inl rfl) (e9 M1 (e9 w5 (pv 3) (pv 4)) (pv 1)))) m6)))
      (d6 (g7 (d9 G_common_divisor hr (b6 (pv 1) (b6 (pv 3) b7)) i0))))))), ?_⟩
  rw [show start ["wholes", "bottom", "longest", "product", "whole"] [.ref a, .int b] = [some (.ref a), some (.int b), none, none, none] from rfl]
  subst_eqs
  have triv : bl1 b ws b := ⟨hb0, Int.dvd_refl _, fun _ _ _ => rfl⟩
  refine ⟨⟨_, hS⟩, fun D hD => ?_⟩
  refine K6 (ws.map V.int) (fun i σ H2 => ∃ o, σ = [o] ∧ d5 H H2 ∧ ∃ ns : List Int, ns.length = i ∧ H2 D = some (.lst (ns.map V.int))) ⟨_, rfl, d5.new hD _, [], rfl, b8⟩ (by rintro i σ H2 _ ⟨_, _, s2, _⟩; exact s2.seq hS) ?_ ?_
  · rintro i x σ H2 hx ⟨o, rfl, s2, ns, hn, e2⟩
    have hi := (List.getElem?_eq_some_iff.mp hx).1
    obtain ⟨v, hw, rfl⟩ := K8 hx
    subst_eqs
    refine N5.mk hi e2 ?_ ⟨_, rfl, s2.over hD _, ?_⟩
    · rw [List.length_map] at hi ⊢
      exact Nat.lt_of_lt_of_le (show ns.length < 101 by omega) (by decide)
    · refine ⟨ns ++ [(Builtin.Int.intBits v : Int)], by simp [hn], ?_⟩
      rw [b8, List.map_append]; rfl
  · rintro σ H2 ⟨o, rfl, s2, ns, hn, e2⟩
    refine ⟨D, rfl, ns, SqL.of e2, fun i => ?_⟩
    refine v7 (fun _ => k H2 b s2 triv) (fun _ => ?_)
    refine ⟨bn1 (by decide), v7 (fun _ => k H2 b s2 triv) (fun _ => ?_)⟩
    refine ⟨_, rfl, a, rfl, ⟨_, s2.seq hS⟩, aa0 (xs := ws.map V.int) (fun i' σ H3 => H3 = H2 ∧ ∃ p o, σ = [some (.ref a), some (.int b), some (.int i), some (.int p), o] ∧ p.natAbs < 2 ^ 6000 ∧ ∃ e, ak0 (ws.take i') = p + b * e) ⟨rfl, 1, _, rfl, Nat.lt_of_lt_of_le (show _ < 2 ^ 1 by decide) (d7 (by decide)), 0, by simp [ak0]⟩ (by rintro i' σ H3 _ ⟨rfl, _⟩; exact s2.seq hS) ?_ ?_⟩
    · rintro i' x σ H3 hx ⟨rfl, p, o, rfl, hp, e, he⟩
      obtain ⟨v, hv, rfl⟩ := K8 hx
      have hvm := hws v (List.mem_of_getElem? hv)
      have es : ws.take (i' + 1) = ws.take i' ++ [v] := by rw [List.take_succ, hv]; rfl
      simp! [Y9]
      refine v7 (fun h => ?_) (fun h => ?_)
      · have hv0 : v ≠ 0 := by simpa using h
        refine ⟨Q8 hp hvm, by omega, ?_, (p * v).fdiv b + e * v, ?_⟩
        · have h1 := Int.fmod_nonneg_of_pos (p * v) hb0
          have h2 := Int.fmod_lt_of_pos (p * v) hb0
          omega
        · rw [es, aq4, if_neg hv0, he]
          have := Int.fmod_add_mul_fdiv (p * v) b
          grind
      · have hv0 : v = 0 := by simpa using h
        refine ⟨hp, e, ?_⟩
        rw [es, aq4, if_pos hv0, he]
    · rintro σ H3 ⟨rfl, p, o, rfl, hp, e, he⟩
      rw [List.length_map, List.take_length] at he
      simp! [ac7]
      refine ⟨.inl hb, k _ _ s2 ⟨?_, Int.gcd_dvd_left _ _, fun v hv hv0 => ?_⟩⟩
      · have := K3 (t := p) (b := b) (by omega)
        rw [Int.gcd_comm] at this; omega
      · have e1 : Int.gcd b p = Int.gcd b (ak0 ws) := by
          rw [he]
          refine Nat.dvd_antisymm ?_ ?_
          · exact Int.dvd_gcd (Int.gcd_dvd_left _ _) (Int.dvd_add (Int.gcd_dvd_right _ _) (Int.dvd_trans (Int.gcd_dvd_left _ _) ⟨e, rfl⟩))
          · refine Int.dvd_gcd (Int.gcd_dvd_left _ _) ?_
            have h1 := Int.gcd_dvd_right b (p + b * e)
            have h2 : ((Int.gcd b (p + b * e) : Nat) : Int) ∣ b * e := Int.dvd_trans (Int.gcd_dvd_left _ _) ⟨e, rfl⟩
            have := Int.dvd_sub h1 h2
            rwa [Int.add_sub_cancel] at this
        rw [e1]
        exact bc6 (aR6 hv hv0)
def ah9 (K : PySem.W.Frag) : Sp := fun vs H Q _ => ∃ (x : V) (s : Rat) (a : Addr) (ws : List Int), vs = [x, .ref a] ∧ Num K H x s ∧ SqL K H a (ws.map V.int) ∧ s.den < 2 ^ 6000 ∧ s.num.natAbs < 2 ^ 6000 ∧ (∀ v ∈ ws, Int.natAbs v < 2 ^ 20000) ∧ ws.length ≤ 100 ∧
  ∀ r xs H', d5 H H' → H r = none → H' r = some (.lst xs) → p7 H' xs (scl s ws) → Q (.ref r) H'
abbrev P1 : Stmt := top 37
theorem M4 : i3 ["scale", "wholes", "divisor", "numbers", "whole", "top", "bottom", "shared"] ["scale", "wholes"] (b9 P1) := by clean_wf
set_option maxHeartbeats 0 in
theorem aL0 {f fd fc : Addr} (d : Df K mg "lowered" P1 ["scale", "wholes"] f) (G_divisor_for_all : Def P w K mg base CX0 2 "divisor_for_all" fd ["wholes", "bottom"] (bk1 K)) (G_common_divisor : Def P w K mg base CX0 1 "common_divisor" fc ["one", "other"] ac7) : Def P w K mg base CX0 3 "lowered" f ["scale", "wholes"] (ah9 K) := by
  refine d.ok (N := ["scale", "wholes", "divisor", "numbers", "whole", "top", "bottom", "shared"]) M4 (by rintro vs H Q E ⟨a, b, c, e, h, _⟩; rw [h]; rfl) (fun cdv A outer s H vs Q E hr h => ?_)
  obtain ⟨x, sc, a, ws, rfl, ⟨px, rfl, hx⟩, hS, hd, hn, hw, hl, k⟩ := h
  refine ⟨_, (d3 (F5 (pv 0) (show PG _ _ (N6 K 2 (n8 (j9 5) (n8 (j9 6) N7))) from by (refine B9 (n := 2) ?_ ?_ ?_ ?_; rfl; (refine g8 ?_ ?_ ?_; (exact (e8 (i := 5) M4.nd rfl (Or.inl rfl))); (refine g8 ?_ ?_ ?_; (exact (e8 (i := 6) M4.nd rfl (Or.inl rfl))); (exact w4); rfl); rfl); rfl; rfl)))
      (d3 (i7 (i := 2) M4.nd rfl (Or.inl rfl) (d9 G_divisor_for_all hr (b6 (pv 1) (b6 (pv 6) b7)) i0))
      (d3 (i7 (i := 3) M4.nd rfl (Or.inl rfl) (w8 b7))
      (d3 (J4 PassesOwn.never rfl (B2 (pv 1)) (e8 (i := 4) M4.nd rfl (Or.inl rfl)) (d3 (i7 (i := 7) M4.nd rfl (Or.inl rfl) (U2 (B4 (pv 4) (fun _ => rfl)) (d9 G_common_divisor hr (b6 (pv 2) (b6 (pv 4) b7)) i0) (pv 6)))
      (d6 (V3 (af6 PySem.F.plainAttrs_list PySem.F.slot_list_append PySem.F.type_list_append N3 (pv 3) (b6 (u0 (b6 (e9 w5 (e9 B5 (pv 4) (pv 7)) (pv 5)) (b6 (e9 B5 (pv 6) (pv 7)) b7))) b7))))))
      (d6 (g7 (pv 3))))))), ?_⟩
  rw [show start ["scale", "wholes", "divisor", "numbers", "whole", "top", "bottom", "shared"] [.ref px, .ref a] = [some (.ref px), some (.ref a), none, none, none, none, none, none] from rfl]
  simp! [Y9]
  refine ⟨_, hx, rfl, _, _, rfl, _, _, rfl, rfl, a, ws, _, rfl, hS, hl, by have := n9 sc; omega, by rw [Int.natAbs_natCast]; exact hd, hw, fun H1 dv s1 ⟨dv0, dv1, dv2⟩ => ⟨by decide, fun p hp => ?_⟩⟩
  refine ⟨_, rfl, a, rfl, ⟨_, (s1.trans (d5.new hp _)).seq hS⟩, aa0 (xs := ws.map V.int) (fun i σ H2 => ∃ o1 o2, σ = [some (.ref px), some (.ref a), some (.int dv), some (.ref p), o1, some (.int sc.num), some (.int sc.den), o2] ∧ d5 H1 H2 ∧ ∃ xs, H2 p = some (.lst xs) ∧ p7 H2 xs (scl sc (ws.take i))) ⟨_, _, rfl, d5.new hp _, [], b8, .nil⟩ (fun i σ H2 _ ⟨_, _, _, s2, _⟩ => s2.seq (s1.seq hS)) ?_ ?_⟩
  · rintro i x σ H2 hx' ⟨o1, o2, rfl, s2, xs, e2, n2⟩
    have hi := (List.getElem?_eq_some_iff.mp hx').1
    obtain ⟨v, hv, rfl⟩ := K8 hx'
    have dp := n9 sc
    have es : ws.take (i + 1) = ws.take i ++ [v] := by rw [List.take_succ, hv]; rfl
    have hvb := hw v (List.mem_of_getElem? hv)
    have hdb : (sc.den : Int).natAbs < 2 ^ 6000 := by rw [Int.natAbs_natCast]; exact hd
    simp! [Y9, ac7]
    have fin : ∀ (A B : Int), A = (sc * (v : Rat)).num → B = ((sc * (v : Rat)).den : Int) → ∀ p1, H2 p1 = none → ∃ x, upd H2 p1 (.tup [.int A, .int B]) p = some (.lst x) ∧ x.length < sizeLine ∧ d5 H1 (upd (upd H2 p1 (.tup [.int A, .int B])) p (.lst (x ++ [.ref p1]))) ∧
        ∃ xs, upd (upd H2 p1 (.tup [.int A, .int B])) p (.lst (x ++ [.ref p1])) p = some (.lst xs) ∧ p7 (upd (upd H2 p1 (.tup [.int A, .int B])) p (.lst (x ++ [.ref p1]))) xs (scl sc (ws.take (i + 1))) := by
      intro A B hA hB p1 hp1
      have e := d5.new hp1 (.tup [.int A, .int B]) _ _ e2
      refine ⟨xs, e, ?_, (s2.trans (d5.new hp1 _)).over hp _, _, b8, ?_⟩
      · rw [n2.length, U9, List.length_take]
        exact Nat.lt_of_le_of_lt (show _ ≤ 100 by omega) (by decide)
      · have e3 : scl sc (ws.take (i + 1)) = scl sc (ws.take i) ++ [sc * (v : Rat)] := by rw [es]; simp [scl]
        rw [e3]
        exact ((n2.mono (X4.new hp1)).append (.cons (by rw [b8]; unfold w9; rw [hA, hB]) .nil)).mono (X4.lst e)
    refine v7 (fun h => ?_) (fun h => ?_)
    · have hv0 : v ≠ 0 := by simpa using h
      obtain ⟨q1, q2⟩ := bg8 sc hv0
      have gp := K3 (t := (sc.den : Int)) hv0
      have gl := aI8 (b := v) (show (sc.den : Int) ≠ 0 by omega) hdb
      have hdvb : dv.natAbs < 2 ^ 6000 := by
        have := Int.le_of_dvd (by omega) dv1
        omega
      rw [dv2 v (List.mem_of_getElem? hv) hv0]
      refine ⟨.inl hdvb, .inl ⟨_, SqL.of e2⟩, R0 (by omega) (N4 gl), Q8 (ad9 (by omega) (Int.gcd_dvd_right _ _) hvb) hn, R0 (by omega) (N4 gl), v8, fin _ _ q1 q2⟩
    · have hv0 : v = 0 := by simpa using h
      subst hv0
      have z1 : sc * ((0 : Int) : Rat) = 0 := by rw [Rat.intCast_zero]; grind
      refine ⟨.inl ⟨_, SqL.of e2⟩, R0 (by omega) (N4 hdb), Q8 (m := 1) (by rw [Int.zero_fdiv]; decide) hn, R0 (by omega) (N4 hdb), v8, fin _ _ ?_ ?_⟩
      · rw [z1, Int.zero_fdiv, Int.zero_mul]; rfl
      · rw [z1, Int.fdiv_self (by omega)]; rfl
  · rintro σ H2 ⟨o1, o2, rfl, s2, xs, e2, n2⟩
    rw [List.length_map, List.take_length] at n2
    exact ⟨_, rfl, k p xs H2 (s1.trans s2) (s1.free hp) e2 n2⟩
end
def bl5 : List D → Bool
  | [.v (.int _), .v (.int _), .v (.int _)] => true
  | _ => false
mutual
def noW : D → Bool
  | .v _ => true
  | .tup ds => aS3 ds
  | .lst ds => !bl5 ds && aS3 ds
def aS3 : List D → Bool
  | [] => true
  | d :: ds => noW d && aS3 ds
end
theorem ba9 : ∀ ds : List D, aS3 ds = true ↔ ∀ d ∈ ds, noW d = true
  | [] => by simp [aS3]
  | d :: ds => by rw [aS3, Bool.and_eq_true, ba9 ds]; simp
mutual
def smD (m : Nat) : D → Prop
  | .v (.int i) => i.natAbs < 2 ^ m
  | .v _ => True
  | .tup ds => au4 m ds
  | .lst ds => au4 m ds
def au4 (m : Nat) : List D → Prop
  | [] => True
  | d :: ds => smD m d ∧ au4 m ds
end
theorem ap7 {m : Nat} : ∀ ds : List D, au4 m ds ↔ ∀ d ∈ ds, smD m d
  | [] => by simp [au4]
  | d :: ds => by rw [au4, ap7 ds]; simp
theorem aX0 {d : D} (h : smD 6000 d) : bl0 d := by
  intro t b e
  subst e
  simp only [smD, au4] at h
  exact .inl h.1
theorem bf0 {m : Nat} {q : Rat} (h : BdN m q) : smD m (A7 q) := by
  simp only [A7, smD, au4, and_true]
  exact ⟨h.n, by rw [Int.natAbs_natCast]; exact h.d⟩
def ah6 (p q : Rat) : Bool := decide (p.num * (q.den : Int) < q.num * (p.den : Int))
def aX5 : D → Rat
  | .tup [.v (.int t), .v (.int b)] => Rat.divInt t b
  | _ => 0
theorem aG7 (q : Rat) : aX5 (A7 q) = q := by simp only [A7, aX5]; exact Rat.num_divInt_den q
structure IsBox (B : List (Rat × Rat)) : Prop where
  l2 : 2 ≤ B.length
  l8 : B.length ≤ 8
  le : ∀ s ∈ B, s.1 ≤ s.2
  last : ∀ s, B[B.length - 1]? = some s → 0 < s.1
def zs (t b a : Int) : List Int → List Int
  | [] => [b * a]
  | x :: r => (b * a + t * x) :: zs t b x r
structure MidN (n : Nat) (R : List Rat) : Prop where
  ex : ∃ (B : Nat) (ws : List Int), 0 < B ∧ B < 2 ^ (40 * n + 1) ∧ R = scl (Rat.divInt 1 B) ws ∧ ∀ v ∈ ws, Int.natAbs v < 2 ^ (41 * n + 1)
  len : R.length = n + 1
  last : R[n]? = some 1
inductive be2 (H : Hp) : List V → List (Rat × Rat) → Prop where
  | nil : be2 H [] []
  | cons {p a b : Addr} {s : Rat × Rat} {vs : List V} {B : List (Rat × Rat)} (h : H p = some (.tup [.ref a, .ref b])) (ha : H a = some (.tup (w9 s.1))) (hb : H b = some (.tup (w9 s.2))) (t : be2 H vs B) : be2 H (.ref p :: vs) (s :: B)
structure TbX (u : Addr) (H : Hp) (a : Addr) (ts : List Addr) (M : List (List Rat)) : Prop where
  au : a ≠ u
  tu : ∀ t ∈ ts, t ≠ u
  at' : H a = some (.lst (ts.map V.ref))
  rws : Rws H ts M
theorem TbX.samex {u a : Addr} {H H' : Hp} {ts : List Addr} {M : List (List Rat)} (t : TbX u H a ts M) (s : t8 u H H') (hu : t6 H u) : TbX u H' a ts M := ⟨t.au, t.tu, s _ _ t.at' t.au, t.rws.samex s hu t.tu⟩
theorem TbX.same {u a : Addr} {H H' : Hp} {ts : List Addr} {M : List (List Rat)} (t : TbX u H a ts M) (s : d5 H H') : TbX u H' a ts M := ⟨t.au, t.tu, s _ _ t.at', t.rws.same s⟩
theorem TbX.isD {K : PySem.W.Frag} {u a : Addr} {H : Hp} {ts : List Addr} {M : List (List Rat)} (t : TbX u H a ts M) : IsD K H (.ref a) (N0 M) := .lst (SqL.of t.at') t.rws.isDs
structure LsX (u : Addr) (H : Hp) (a : Addr) (xs : List V) (qs : List Rat) : Prop where
  au : a ≠ u
  at' : H a = some (.lst xs)
  nums : p7 H xs qs
theorem LsX.samex {u a : Addr} {H H' : Hp} {xs : List V} {qs : List Rat} (t : LsX u H a xs qs) (s : t8 u H H') (hu : t6 H u) : LsX u H' a xs qs := ⟨t.au, s _ _ t.at' t.au, t.nums.mono (s.tups hu)⟩
theorem LsX.same {u a : Addr} {H H' : Hp} {xs : List V} {qs : List Rat} (t : LsX u H a xs qs) (s : d5 H H') : LsX u H' a xs qs := ⟨t.au, s _ _ t.at', t.nums.mono s.tups⟩
theorem LsX.isD {K : PySem.W.Frag} {u a : Addr} {H : Hp} {xs : List V} {qs : List Rat} (t : LsX u H a xs qs) : IsD K H (.ref a) (j7 qs) := K1 (SqL.of t.at') t.nums
def hc (a : Nat → Rat) (i j : Nat) : Rat := if (i + j) % 2 = 1 then a i * a j else 0
def hf (a : Nat → Rat) : Nat → Nat → Rat
  | 0, j => hc a 0 (j + 1)
  | i + 1, j => hc a (i + 1) (j + 1) - hf a i (j + 1)
def pw (x : Rat) : Nat → Rat
  | 0 => 1
  | i + 1 => pw x i * x
theorem aw5 (c : Rat) (f : Nat → Rat) : ∀ n, c * j5 f n = j5 (fun i => c * f i) n
  | 0 => by simp [j5]
  | n + 1 => by rw [j5, j5, ← aw5 c f n]; grind
theorem aw6 (f g : Nat → Rat) : ∀ n, j5 f n + j5 g n = j5 (fun i => f i + g i) n
  | 0 => by simp [j5]; grind
  | n + 1 => by rw [j5, j5, j5, ← aw6 f g n]; grind
def hR (a : Nat → Rat) (n i : Nat) (y : Rat) : Rat := j5 (fun j => hf a i j * pw y j) n
def hC (a : Nat → Rat) (n i : Nat) (y : Rat) : Rat := j5 (fun j => hc a i j * pw y j) (n + 1)
def sg (i : Nat) : Rat := if i % 2 = 0 then 1 else -1
def OvB (B W : Nat) (q : Rat) : Prop := ∃ v : Int, q = Rat.divInt v B ∧ v.natAbs < 2 ^ W
theorem OvB.mono {B V W : Nat} {q : Rat} (h : OvB B V q) (l : V ≤ W) : OvB B W q := let ⟨v, e, b⟩ := h; ⟨v, e, Nat.lt_of_lt_of_le b (d7 l)⟩
theorem OvB.zero (B W : Nat) : OvB B W 0 := ⟨0, by rw [Rat.zero_divInt], Nat.two_pow_pos _⟩
theorem aK7 {W : Nat} {qs : List Rat} (h : ClN W qs) {q : Rat} (hq : q ∈ qs) : OvB (j3 qs) W q :=
  ⟨_, ao2 (B1 qs) (M2 hq), h.w _ (List.mem_map.mpr ⟨q, hq, rfl⟩)⟩
theorem OvB.mul {B C V W : Nat} {p q : Rat} (h : OvB B V p) (k : OvB C W q) : OvB (B * C) (V + W) (p * q) := by
  obtain ⟨v, rfl, b⟩ := h
  obtain ⟨u, rfl, c⟩ := k
  refine ⟨v * u, by rw [Rat.divInt_mul_divInt, Int.natCast_mul], ?_⟩
  rw [Int.natAbs_mul, Nat.pow_add]
  exact Nat.mul_lt_mul'' b c
theorem OvB.add {B W : Nat} (hB : 0 < B) {p q : Rat} (h : OvB B W p) (k : OvB B W q) : OvB B (W + 1) (p + q) := by
  obtain ⟨v, rfl, b⟩ := h
  obtain ⟨u, rfl, c⟩ := k
  refine ⟨v + u, ?_, ?_⟩
  · have hz : (B : Int) ≠ 0 := by omega
    rw [Rat.divInt_add_divInt _ _ hz hz]
    refine (Rat.divInt_eq_divInt_iff (Int.mul_ne_zero hz hz) hz).mpr ?_
    grind
  · have := Int.natAbs_add_le v u
    rw [Nat.pow_succ]; omega
theorem aL7 {α : Type} {xs : List α} {x : α} (h : xs[xs.length - 1]? = some x) : atI xs (-1) = some x := by
  have hp : xs.length - 1 < xs.length := (List.getElem?_eq_some_iff.mp h).1
  have e : ixN xs.length (-1) = some (xs.length - 1) := by
    unfold ixN
    rw [if_neg (by decide)]
    rw [if_pos (by omega)]
    congr 1
    omega
  unfold atI
  rw [e]
  exact h
def aQ (qs : List Rat) (k : Nat) : Rat := (qs[k]?).getD 0
def aZ (ws : List Int) (k : Nat) : Int := (ws[k]?).getD 0
theorem aj7 (s : Rat) (ws : List Int) : aQ (scl s ws) = fun k => s * (aZ ws k : Rat) := by
  funext k
  unfold aQ aZ scl
  rw [List.getElem?_map]
  cases ws[k]? with
  | none => simp [Rat.intCast_zero]
  | some v => simp
theorem au0 {ws : List Int} {W : Nat} (h : ∀ v ∈ ws, Int.natAbs v < 2 ^ W) : ∀ k, (aZ ws k).natAbs < 2 ^ W := fun k => by
  unfold aZ
  cases q : ws[k]? with
  | none => exact Nat.two_pow_pos _
  | some v => exact h v (List.mem_of_getElem? q)
theorem az6 {α : Type} [Add α] : ∀ (f : List α) (k : Nat) (x v : α), v ∈ L8 f k x → v ∈ f ∨ ∃ y ∈ f, v = y + x
  | [], _, _, _, h => by cases h
  | y :: r, 0, x, v, h => by
    rcases List.mem_cons.mp h with z | z
    · exact .inr ⟨y, List.mem_cons_self, z⟩
    · exact .inl (List.mem_cons_of_mem _ z)
  | y :: r, k + 1, x, v, h => by
    rcases List.mem_cons.mp h with z | z
    · exact .inl (by rw [z]; exact List.mem_cons_self)
    · rcases az6 r k x v z with w | ⟨u, hu, e⟩
      · exact .inl (List.mem_cons_of_mem _ w)
      · exact .inr ⟨u, List.mem_cons_of_mem _ hu, e⟩
theorem aU4 {B W : Nat} (hB : 0 < B) {f : List Rat} {k : Nat} {x : Rat} (hf : ∀ v ∈ f, OvB B W v) (hx : OvB B W x) : ∀ v ∈ L8 f k x, OvB B (W + 1) v := fun v hv => by
  rcases az6 f k x v hv with h | ⟨y, hy, rfl⟩
  · exact (hf v h).mono (by omega)
  · exact (hf y hy).add hB hx
def cv (f g : Nat → Rat) (k : Nat) : Rat := j5 (fun i => f i * g (k - i)) (k + 1)
theorem bi7 (p q : List Rat) (k : Nat) : aQ (Y8 p q) k = aQ p k + aQ q k := by
  unfold aQ
  by_cases h : k < max p.length q.length
  · rw [at9 p q k h]; rfl
  · rw [List.getElem?_eq_none (by rw [at8]; omega), List.getElem?_eq_none (by omega), List.getElem?_eq_none (by omega)]; grind
theorem aQ1 (p q : List Rat) (k : Nat) : aQ (O6 p q) k = cv (aQ p) (aQ q) k := by
  by_cases hp : p = []
  · subst hp
    have : O6 [] q = [] := by unfold O6; rw [if_pos (.inl rfl)]
    rw [this]
    symm
    exact M3 _ fun i _ => by show (0 : Rat) * _ = 0; grind
  by_cases hq : q = []
  · subst hq
    have : O6 p [] = [] := by unfold O6; rw [if_pos (.inr rfl)]
    rw [this]
    symm
    exact M3 _ fun i _ => by show _ * (0 : Rat) = 0; grind
  by_cases hk : k < p.length + q.length - 1
  · have := bb0 hp hq hk
    unfold aQ
    rw [this]; rfl
  · have h1 : aQ (O6 p q) k = 0 := by
      unfold aQ
      rw [List.getElem?_eq_none (by rw [aI0 hp hq]; omega)]; rfl
    rw [h1]
    symm
    refine M3 _ fun i hi => ?_
    by_cases h2 : i < p.length
    · have : aQ q (k - i) = 0 := by unfold aQ; rw [List.getElem?_eq_none (by omega)]; rfl
      rw [this]; grind
    · have : aQ p i = 0 := by unfold aQ; rw [List.getElem?_eq_none (by omega)]; rfl
      rw [this]; grind
theorem bi6 {qs : List Rat} {m : Nat} (t : v9 qs m) (k : Nat) : aQ (qs.take m) k = aQ qs k := by
  unfold aQ
  rw [List.getElem?_take]
  split
  · rfl
  · cases h : qs[k]? with
    | none => rfl
    | some v => rw [t.zero k v (by omega) h]; rfl
theorem bl4 {p q : List Rat} (tp : v9 p p.length) (tq : v9 q q.length) (h : ∀ k, aQ p k = aQ q k) : p = q := by
  have key : ∀ {p q : List Rat}, v9 p p.length → (∀ k, aQ p k = aQ q k) → p.length ≤ q.length := fun {p q} tp h => by
    by_cases z : p.length = 0
    · omega
    · have hl : p.length - 1 < p.length := by omega
      have := tp.last z _ (List.getElem?_eq_getElem hl)
      have e := h (p.length - 1)
      refine Classical.byContradiction fun w => this ?_
      unfold aQ at e
      rw [List.getElem?_eq_getElem hl, List.getElem?_eq_none (by omega)] at e
      exact e
  have hl : p.length = q.length := by
    have h1 := key tp h
    have h2 := key tq fun k => (h k).symm
    omega
  refine List.ext_getElem? fun k => ?_
  by_cases hk : k < p.length
  · have e := h k
    unfold aQ at e
    rw [List.getElem?_eq_getElem hk, List.getElem?_eq_getElem (by omega)] at e ⊢
    exact congrArg some e
  · rw [List.getElem?_eq_none (by omega), List.getElem?_eq_none (by omega)]
theorem at7 (f g h : Nat → Rat) (k : Nat) : cv (fun i => f i + g i) h k = cv f h k + cv g h k := by
  unfold cv
  rw [aw6]
  exact v3 fun i _ => by grind
theorem aM7 (c : Rat) (f h : Nat → Rat) (k : Nat) : cv (fun i => c * f i) h k = c * cv f h k := by
  unfold cv
  rw [aw5]
  exact v3 fun i _ => by grind
theorem N9 (g : Nat → Rat) (t : Nat) : ∀ n, j5 (fun i => if i = t then g i else 0) n = if t < n then g t else 0
  | 0 => by rw [if_neg (by omega)]; rfl
  | n + 1 => by
    rw [j5, N9 g t n]
    by_cases h : t < n
    · rw [if_pos h, if_neg (by omega), if_pos (by omega)]; grind
    · by_cases h2 : n = t
      · rw [if_neg h, if_pos h2, if_pos (by omega), h2]; grind
      · rw [if_neg h, if_neg h2, if_neg (by omega)]; grind
theorem ay9 (d : Rat) (t : Nat) (h : Nat → Rat) (k : Nat) : cv (fun i => if i = t then d else 0) h k = if t ≤ k then d * h (k - t) else 0 := by
  unfold cv
  have : j5 (fun i => (if i = t then d else 0) * h (k - i)) (k + 1) = j5 (fun i => if i = t then d * h (k - i) else 0) (k + 1) := v3 fun i _ => by split <;> grind
  rw [this, N9]
  by_cases e : t ≤ k
  · rw [if_pos (by omega), if_pos e]
  · rw [if_neg (by omega), if_neg e]
theorem bd4 {O f0 f1 g0 g1 : Nat → Rat} {n m : Nat} (hn : O n ≠ 0) (hO : ∀ k, n < k → O k = 0) (hf : ∀ k, n ≤ k → f1 k = 0) (hg : ∀ k, n ≤ k → g1 k = 0) (f0m : ∀ k, m ≤ k → f0 k = 0) (g0m : ∀ k, m ≤ k → g0 k = 0)
    (e : ∀ k, cv f0 O k + f1 k = cv g0 O k + g1 k) : (∀ k, f0 k = g0 k) ∧ ∀ k, f1 k = g1 k := by
  have key : ∀ j, j ≤ m → ∀ k, m - j ≤ k → f0 k = g0 k := by
    intro j
    induction j with
    | zero => intro _ k hk; rw [f0m k (by omega), g0m k (by omega)]
    | succ j ih =>
      intro hj k hk
      by_cases h1 : m - j ≤ k
      · exact ih (by omega) k h1
      have ek := e (k + n)
      rw [hf _ (by omega), hg _ (by omega)] at ek
      have one : ∀ f : Nat → Rat, (∀ i, m - j ≤ i → f i = 0) → cv f O (k + n) = f k * O n := fun f hf0 => by
        unfold cv
        have : j5 (fun i => f i * O (k + n - i)) (k + n + 1) = j5 (fun i => if i = k then f k * O n else 0) (k + n + 1) := v3 fun i _ => by
          by_cases z : i = k
          · rw [if_pos z, z, Nat.add_sub_cancel_left]
          · rw [if_neg z]
            by_cases y : i < k
            · rw [hO _ (by omega)]; grind
            · rw [hf0 i (by omega)]; grind
        rw [this, N9, if_pos (by omega)]
      have e2 : cv (fun i => f0 i + -1 * g0 i) O (k + n) = (f0 k + -1 * g0 k) * O n := one _ fun i hi => by
        rw [ih (by omega) i hi]; grind
      rw [at7 f0 (fun i => -1 * g0 i), aM7] at e2
      have e3 : (f0 k + -1 * g0 k) * O n = 0 := by rw [← e2]; grind
      have : f0 k + -1 * g0 k = 0 := by
        have := Rat.mul_inv_cancel _ hn
        generalize (O n)⁻¹ = u at this
        generalize O n = y at *
        grind
      grind
  have h0 : ∀ k, f0 k = g0 k := fun k => key m (Nat.le_refl _) k (by omega)
  refine ⟨h0, fun k => ?_⟩
  have := e k
  rw [show f0 = g0 from funext h0] at this
  grind
def zc (ws : List Int) (k : Nat) : Rat := (aZ ws k : Rat)
theorem as4 (f : List Int) (i : Nat) (x : Int) (q : List Int) {k : Nat} (y : Int) (hy : f[k]? = some y) : ∀ j, (p5 0 f i x q j)[k]? = some (y + if i ≤ k ∧ k < i + j then x * (q[k - i]?).getD 0 else 0)
  | 0 => by
    rw [p5, hy, if_neg (by omega)]; congr 1; omega
  | j + 1 => by
    have ih := as4 f i x q y hy j
    rw [p5]
    by_cases e : k = i + j
    · subst e
      rw [U7 _ _ _ _ ih, if_neg (by omega), if_pos (by omega), show i + j - i = j by omega]
      congr 1; omega
    · rw [Q9 _ _ _ _ e, ih]
      by_cases h : i ≤ k ∧ k < i + j
      · rw [if_pos h, if_pos (by omega)]
      · rw [if_neg h, if_neg (by omega)]
structure B7 (ws : List Int) (m : Nat) : Prop where
  le : m ≤ ws.length
  zero : ∀ i v, m ≤ i → ws[i]? = some v → v = 0
  last : m ≠ 0 → ∀ v, ws[m - 1]? = some v → v ≠ 0
theorem aE2 {ws : List Int} {m : Nat} (t : B7 ws m) (k : Nat) : aZ (ws.take m) k = aZ ws k := by
  unfold aZ
  rw [List.getElem?_take]
  split
  · rfl
  · cases h : ws[k]? with
    | none => rfl
    | some v => rw [t.zero k v (by omega) h]; rfl
theorem B7.self {ws : List Int} {m : Nat} (t : B7 ws m) : B7 (ws.take m) (ws.take m).length := by
  have hm : (ws.take m).length = m := by rw [List.length_take]; have := t.le; omega
  refine ⟨Nat.le_refl _, fun i v hi h => ?_, fun hn v h => ?_⟩
  · rw [List.getElem?_eq_none hi] at h; cases h
  · rw [hm] at hn h
    rw [List.getElem?_take, if_pos (by omega)] at h
    exact t.last hn v h
def Dv (one other Q R : List Int) (many : Int) : Prop := ∀ k, (many : Rat) * zc one k = cv (zc Q) (zc other) k + zc R k
theorem bh7 {one other Q R R' : List Int} {many c d : Int} {t : Nat} (h : Dv one other Q R many) (ht : t < Q.length) (hQ : aZ Q t = 0) (hR : ∀ k, aZ R' k = c * aZ R k - if t ≤ k then d * aZ other (k - t) else 0) :
    Dv one other ((Q.map (c * ·)).set t d) R' (many * c) := by
  intro k
  have e1 : zc ((Q.map (c * ·)).set t d) = fun i => (c : Rat) * zc Q i + if i = t then (d : Rat) else 0 := by
    funext i
    unfold zc aZ
    rw [List.getElem?_set]
    by_cases z : t = i
    · subst z
      rw [if_pos rfl, if_pos (by rw [List.length_map]; exact ht), if_pos rfl]
      unfold aZ at hQ
      rw [hQ, Rat.intCast_zero]
      simp only [Option.getD_some]
      grind
    · rw [if_neg z, if_neg (fun w => z w.symm), List.getElem?_map]
      cases Q[i]? with
      | none => simp [Rat.intCast_zero]; grind
      | some v => simp [Rat.intCast_mul]; grind
  have e2 : zc R' k = (c : Rat) * zc R k - if t ≤ k then (d : Rat) * zc other (k - t) else 0 := by
    unfold zc
    rw [hR k, Rat.intCast_sub, Rat.intCast_mul]
    split
    · rw [Rat.intCast_mul]
    · rw [Rat.intCast_zero]
  rw [e1, at7 (fun i => (c : Rat) * zc Q i) (fun i => if i = t then (d : Rat) else 0), aM7, ay9, e2, Rat.intCast_mul]
  have := h k
  have e3 : (many : Rat) * (c : Rat) * zc one k = (c : Rat) * ((many : Rat) * zc one k) := by grind
  rw [e3, this]
  grind
theorem OvB.up {B W : Nat} {q : Rat} (h : OvB B W q) (hB : 0 < B) {C c : Nat} (hC : 0 < C) (hc : C < 2 ^ c) : OvB (B * C) (W + c) q := by
  obtain ⟨v, rfl, b⟩ := h
  refine ⟨v * C, ?_, ?_⟩
  · rw [Int.natCast_mul]
    refine (Rat.divInt_eq_divInt_iff (by omega) (Int.mul_ne_zero (by omega) (by omega))).mpr ?_
    grind
  · rw [Int.natAbs_mul, Int.natAbs_natCast, Nat.pow_add]
    exact Nat.mul_lt_mul'' b hc
theorem W9 {B W : Nat} (hB : 0 < B) (hW : B < 2 ^ W) {qs : List Rat} (h : ∀ x ∈ qs, OvB B W x) : ClN W qs := by
  have : ∃ vs : List Int, qs = scl (Rat.divInt 1 B) vs ∧ ∀ v ∈ vs, Int.natAbs v < 2 ^ W := by
    induction qs with
    | nil => exact ⟨[], rfl, by simp⟩
    | cons q qs ih =>
      obtain ⟨vs, e, hv⟩ := ih fun x hx => h x (List.mem_cons_of_mem _ hx)
      obtain ⟨v, e2, b⟩ := h q List.mem_cons_self
      refine ⟨v :: vs, ?_, fun u hu => ?_⟩
      · rw [e]
        show q :: _ = (Rat.divInt 1 B * (v : Rat)) :: _
        rw [af7, ← e2]; rfl
      · rcases List.mem_cons.mp hu with z | z
        · rw [z]; exact b
        · exact hv u z
  obtain ⟨vs, rfl, hv⟩ := this
  exact aT8 hB hW hv
theorem aV5 : v9 ([] : List Rat) 0 := ⟨Nat.le_refl _, (fun i q _ e => by simp at e), fun h => absurd rfl h⟩
def br9 (u : Addr) (H : Hp) (v : V) (ps qs : List Rat) : Prop := v = .non ∨ ∃ td l1 l2 zs1 zs2 g0 g1, v = .ref td ∧ td ≠ u ∧ H td = some (.tup [.ref l1, .ref l2]) ∧ LsX u H l1 zs1 g0 ∧ LsX u H l2 zs2 g1 ∧ v9 g0 g0.length ∧ v9 g1 g1.length ∧ g1.length < qs.length ∧ ∀ k, aQ ps k = cv (aQ qs) (aQ g0) k + aQ g1 k
structure PairOk (u : Addr) (H : Hp) (ap aq : Addr) (due : V) (xs ys : List V) (ps qs : List Rat) (S W1 W2 : Nat) : Prop where
  lp : LsX u H ap xs ps
  lq : LsX u H aq ys qs
  tp : v9 ps ps.length
  tq : v9 qs qs.length
  q0 : qs ≠ []
  c1 : ClN W1 ps
  c2 : ClN W2 qs
  w1 : 1 ≤ W1
  w2 : 1 ≤ W2
  w3 : W2 ≤ 690
  t : W1 + S * (W2 + 1) + W2 ≤ 2300
  s : ps.length + 1 ≤ qs.length + S
  pl : ps.length ≤ 16
  ql : qs.length ≤ 16
  due : br9 u H due ps qs
theorem aU8 (ws : List Int) : zc ws = aQ (scl 1 ws) := by
  rw [aj7]; funext k
  show _ = 1 * zc ws k
  grind
def dl : Nat → Rat := fun k => if k = 0 then 1 else 0
theorem aO7 {B W : Nat} (hB : 0 < B) {f : Nat → Rat} (h : ∀ i, OvB B W (f i)) : ∀ n, OvB B (W + n) (j5 f n)
  | 0 => OvB.zero _ _
  | n + 1 => ((aO7 hB h n).add hB ((h n).mono (by omega))).mono (by omega)
def cod (b : Nat) (y : Nat → Nat) : Nat → Nat
  | 0 => 0
  | M + 1 => y 0 + b * cod b (fun e => y (e + 1)) M
def sZ (f : Nat → Int) : Nat → Int
  | 0 => 0
  | n + 1 => sZ f n + f n
theorem aX3 {f g : Nat → Int} : ∀ {n}, (∀ i, i < n → f i = g i) → sZ f n = sZ g n
  | 0, _ => rfl
  | n + 1, h => by rw [sZ, sZ, aX3 fun i hi => h i (by omega), h n (by omega)]
theorem bk2 {f : Nat → Int} {C : Nat} : ∀ {n}, (∀ i, i < n → (f i).natAbs ≤ C) → (sZ f n).natAbs ≤ n * C
  | 0, _ => by simp [sZ]
  | n + 1, h => by
    have ih := bk2 (n := n) fun i hi => h i (by omega)
    have h1 := h n (by omega)
    rw [sZ, Nat.succ_mul]
    omega
theorem ah2 (f g : Nat → Rat) (k : Nat) : cv f g (k + 1) = f 0 * g (k + 1) + cv (fun i => f (i + 1)) g k := by
  unfold cv
  rw [Z3]
  congr 1
  exact v3 fun i _ => by rw [show k + 1 - (i + 1) = k - i by omega]
theorem W8 (f g : Nat → Rat) (k : Nat) : cv f g k = cv g f k := by
  unfold cv
  rw [ab8]
  exact v3 fun i hi => by
    rw [show k + 1 - 1 - i = k - i by omega, show k - (k - i) = i by omega]; grind
theorem bd8 {f g h l : Nat → Rat} {k : Nat} (a : ∀ i, i ≤ k → f i = g i) (b : ∀ i, i ≤ k → h i = l i) : cv f h k = cv g l k :=
  v3 fun i hi => by rw [a i (by omega), b (k - i) (by omega)]
theorem at6 (f g : Nat → Rat) : cv f g 0 = f 0 * g 0 := by
  show (0 : Rat) + f 0 * g 0 = _
  grind
theorem aJ1 : ∀ (k : Nat) (f g h : Nat → Rat), cv (cv f g) h k = cv f (cv g h) k
  | 0, f, g, h => by rw [at6, at6, at6, at6]; grind
  | k + 1, f, g, h => by
    rw [ah2, ah2 f]
    have e1 : cv (fun i => cv f g (i + 1)) h k = cv (fun i => f 0 * g (i + 1) + cv (fun i => f (i + 1)) g i) h k := bd8 (fun i _ => ah2 f g i) fun _ _ => rfl
    rw [e1, at7 (fun i => f 0 * g (i + 1)) (cv (fun i => f (i + 1)) g), aM7 (f 0) (fun i => g (i + 1)), aJ1 k, ah2 g]
    rw [at6]; grind
def Dg (f : Nat → Rat) (n : Nat) : Prop := ∀ k, n ≤ k → f k = 0
theorem Dg.cv {f g : Nat → Rat} {m n : Nat} (hf : Dg f m) (hg : Dg g n) : Dg (cv f g) (m + n - 1) := fun k hk => M3 _ fun i hi => by
  by_cases h : m ≤ i
  · rw [hf i h]; grind
  · rw [hg (k - i) (by omega)]; grind
theorem bh9 {f B : Nat → Rat} {nf n N : Nat} (hf : Dg f nf) (hB : Dg B (n + 1)) (hn : B n ≠ 0) (h : Dg (cv f B) N) : Dg f (N - n) := by
  have key : ∀ j, ∀ k, nf - j ≤ k → N - n ≤ k → f k = 0 := by
    intro j
    induction j with
    | zero => intro k hk _; exact hf k (by omega)
    | succ j ih =>
      intro k hk hN
      by_cases h1 : nf - j ≤ k
      · exact ih k h1 hN
      have e := h (k + n) (by omega)
      have one : cv f B (k + n) = f k * B n := by
        unfold R.cv
        have : j5 (fun i => f i * B (k + n - i)) (k + n + 1) = j5 (fun i => if i = k then f k * B n else 0) (k + n + 1) := v3 fun i _ => by
          by_cases z : i = k
          · rw [if_pos z, z, Nat.add_sub_cancel_left]
          · rw [if_neg z]
            by_cases y : i < k
            · rw [hB _ (by omega)]; grind
            · rw [ih i (by omega) (by omega)]; grind
        rw [this, N9, if_pos (by omega)]
      rw [one] at e
      have := Rat.mul_inv_cancel _ hn
      generalize (B n)⁻¹ = u at this
      generalize B n = y at *
      grind
  exact fun k hk => key nf k (by omega) hk
structure Eu (p q A B : Nat → Rat) (lp lq la lb : Nat) : Prop where
  inv : ∀ m, m < la → ∀ u v, Dg u (lq - m) → Dg v (lp - m) → Dg (fun k => cv u p k + cv v q k) m →
    ∃ a b, (∀ k, cv u p k + cv v q k = cv a A k + cv b B k) ∧ Dg a (lb - m) ∧ Dg b (la - m) ∧ ((∀ k, a k = 0) → (∀ k, b k = 0) → ∀ k, u k = 0 ∧ v k = 0)
  le : la ≤ max lp lq
theorem aF5 (f : Nat → Rat) (n : Nat) : ∀ m, j5 f (n + m) = j5 f n + j5 (fun i => f (n + i)) m
  | 0 => by simp only [j5, Nat.add_zero]; grind
  | m + 1 => by rw [← Nat.add_assoc, j5, aF5 f n m, j5]; grind
theorem aQ0 (f : Nat → Int) : ∀ n, ((sZ f n : Int) : Rat) = j5 (fun i => (f i : Rat)) n
  | 0 => by simp [sZ, j5, Rat.intCast_zero]
  | n + 1 => by rw [sZ, j5, Rat.intCast_add, aQ0 f n]
theorem bi1 {u : Nat → Rat} {n : Nat} (hu : Dg u n) (p : Nat → Rat) (k : Nat) : cv u p k = j5 (fun i => u i * if i ≤ k then p (k - i) else 0) n := by
  unfold cv
  rw [← T0 (f := fun i => u i * if i ≤ k then p (k - i) else 0) (m := n) (n := max n (k + 1)) (by omega) (fun i hi _ => by rw [hu i hi]; grind),
    T0 (f := fun i => u i * if i ≤ k then p (k - i) else 0) (m := k + 1) (n := max n (k + 1)) (by omega) (fun i hi _ => by rw [if_neg (by omega)]; grind)]
  exact v3 fun i hi => by rw [if_pos (by omega)]
theorem at3 {d : Nat} : ∀ (ws : List Int) (c : Nat), d ∣ c → (∀ w ∈ ws, (d : Int) ∣ w) → d ∣ ws.foldl (fun c w => Int.gcd w c) c
  | [], c, h, _ => h
  | w :: r, c, h, hw => at3 r _ (Int.dvd_gcd (hw w List.mem_cons_self) (by exact Int.natCast_dvd_natCast.mpr h)) fun x hx => hw x (List.mem_cons_of_mem _ hx)
def bF (c x : Nat) : Nat := (c + 1) * (x * (x + 1))
structure SgS (c d0 L K : Nat) (P0 Q0 : List Int) (s t : Rat) (A B : List Int) : Prop where
  tA : B7 A A.length
  tB : B7 B B.length
  lA : A.length ≤ L
  lB : B.length < A.length
  gB : B ≠ [] → t7 B = 1
  eu : Eu (zc P0) (zc Q0) (zc A) (zc B) P0.length Q0.length A.length B.length
  s0 : s ≠ 0
  t0 : t ≠ 0
  wA : ∀ k, (aZ A k).natAbs < 2 ^ (c * (2 * (L - A.length) + 1))
  wB : ∀ k, (aZ B k).natAbs < 2 ^ (c * (2 * (L - A.length) + 1))
  sd : s.den < 2 ^ (d0 + bF c (L - A.length - 1))
  sn : s.num.natAbs < 2 ^ (d0 + 2 * bF c (L - A.length - 1))
  td : t.den < 2 ^ (d0 + bF c (L - A.length))
  tn : t.num.natAbs < 2 ^ (d0 + 2 * bF c (L - A.length))
theorem aA1 {B : List Int} (t : B7 B B.length) (h : 0 < B.length) : aZ B (B.length - 1) ≠ 0 := by
  have := t.last (by omega) _ (List.getElem?_eq_getElem (by omega))
  unfold aZ
  rw [List.getElem?_eq_getElem (by omega)]
  exact this
theorem aw1 (B : List Int) : Dg (zc B) B.length := fun k hk => by
  unfold zc aZ
  rw [List.getElem?_eq_none hk]
  exact Rat.intCast_zero
theorem bj3 {B : List Int} {k : Nat} (h : aZ B k ≠ 0) : zc B k ≠ 0 := fun w => h (Rat.intCast_inj.mp (by unfold zc at w; rw [w, Rat.intCast_zero]))
theorem aF6 {K : PySem.W.Frag} {H : Hp} {D a : Addr} {ys xs : List V} {o : HO} (hD : H D = some (.lst ys)) (h : SqT K H a xs) : SqT K (upd H D o) a xs := by
  rcases h with h | h
  · rcases h with h | ⟨o', h⟩
    · have : a ≠ D := by rintro rfl; rw [h] at hD; cases hD
      exact .inl (.inl (by rw [i5 this]; exact h))
    · have : a ≠ D := by rintro rfl; rw [h] at hD; cases hD
      exact .inl (.inr ⟨o', by rw [i5 this]; exact h⟩)
  · exact .inr h
def FmX (K : PySem.W.Frag) (D : Addr) (H : Hp) (r : Addr) (s : Rat) (ws : List Int) : Prop := ∃ rs l, SqT K H r [.ref rs, .ref l] ∧ SqT K H rs (w9 s) ∧ H l = some (.lst (ws.map V.int)) ∧ l ≠ D
theorem FmX.same {K : PySem.W.Frag} {D : Addr} {H H' : Hp} {r : Addr} {s : Rat} {ws : List Int} (e : d5 H H') : FmX K D H r s ws → FmX K D H' r s ws
  | ⟨rs, l, h1, h2, h3, h4⟩ => ⟨rs, l, e.tup h1, e.tup h2, e _ _ h3, h4⟩
theorem FmX.over {K : PySem.W.Frag} {D : Addr} {H : Hp} {r : Addr} {s : Rat} {ws : List Int} {ys : List V} {o : HO} (hD : H D = some (.lst ys)) : FmX K D H r s ws → FmX K D (upd H D o) r s ws
  | ⟨rs, l, h1, h2, h3, h4⟩ => ⟨rs, l, aF6 hD h1, aF6 hD h2, by rw [i5 h4]; exact h3, h4⟩
inductive Fms (K : PySem.W.Frag) (D : Addr) (H : Hp) : List V → List (Rat × List Int) → Prop where
  | nil : Fms K D H [] []
  | cons {r : Addr} {s : Rat} {ws : List Int} {xs : List V} {fs : List (Rat × List Int)} (h : FmX K D H r s ws) (t : Fms K D H xs fs) : Fms K D H (.ref r :: xs) ((s, ws) :: fs)
theorem Fms.same {K : PySem.W.Frag} {D : Addr} {H H' : Hp} (e : d5 H H') : ∀ {xs : List V} {fs : List (Rat × List Int)}, Fms K D H xs fs → Fms K D H' xs fs
  | _, _, .nil => .nil
  | _, _, .cons h t => .cons (h.same e) (t.same e)
theorem Fms.over {K : PySem.W.Frag} {D : Addr} {H : Hp} {ys : List V} {o : HO} (hD : H D = some (.lst ys)) : ∀ {xs : List V} {fs : List (Rat × List Int)}, Fms K D H xs fs → Fms K D (upd H D o) xs fs
  | _, _, .nil => .nil
  | _, _, .cons h t => .cons (h.over hD) (t.over hD)
theorem Fms.snoc {K : PySem.W.Frag} {D : Addr} {H : Hp} {r : Addr} {s : Rat} {ws : List Int} (h : FmX K D H r s ws) : ∀ {xs : List V} {fs : List (Rat × List Int)}, Fms K D H xs fs → Fms K D H (xs ++ [.ref r]) (fs ++ [(s, ws)])
  | _, _, .nil => .cons h .nil
  | _, _, .cons h' t => .cons h' (t.snoc h)
theorem Fms.length {K : PySem.W.Frag} {D : Addr} {H : Hp} : ∀ {xs : List V} {fs : List (Rat × List Int)}, Fms K D H xs fs → xs.length = fs.length
  | _, _, .nil => rfl
  | _, _, .cons _ t => congrArg (· + 1) t.length
theorem Fms.get {K : PySem.W.Frag} {D : Addr} {H : Hp} : ∀ {xs : List V} {fs : List (Rat × List Int)} {i : Nat} {x : V}, Fms K D H xs fs → xs[i]? = some x → ∃ r s ws, x = .ref r ∧ fs[i]? = some (s, ws) ∧ FmX K D H r s ws
  | _, _, _, _, .nil, e => by simp at e
  | _, _, 0, _, .cons h _, e => by cases e; exact ⟨_, _, _, rfl, rfl, h⟩
  | _, _, i + 1, _, .cons _ t, e => t.get (i := i) (by simpa using e)
theorem aZ0 {b : Rat} {ws : List Int} (hg : t7 ws = 1) {s : Nat → Int} (h : ∀ k, (s k : Rat) = b * zc ws k) : ∃ g : Int, b = (g : Rat) := by
  have hb2 : (b.den : Rat) * b = (b.num : Rat) := by
    have h3 : (b.den : Rat) ≠ 0 := fun w => b.den_nz (Rat.natCast_inj.mp (by rw [w]; rfl))
    have h4 : b = (b.num : Rat) / (b.den : Rat) := by
      have := Rat.num_divInt_den b
      rw [Rat.divInt_eq_div] at this
      exact this.symm
    have h5 := Rat.mul_inv_cancel _ h3
    rw [Rat.div_def] at h4
    generalize (b.den : Rat) = y at *
    generalize y⁻¹ = z at *
    generalize (b.num : Rat) = n at *
    grind
  have e : ∀ k, (b.den : Int) * s k = b.num * aZ ws k := fun k => by
    have h1 := h k
    have h3 : (((b.den : Int) * s k : Int) : Rat) = ((b.num * aZ ws k : Int) : Rat) := by
      rw [Rat.intCast_mul, Rat.intCast_mul, h1, Rat.intCast_natCast]
      unfold zc
      grind
    exact Rat.intCast_inj.mp h3
  have d1 : b.den = 1 := by
    have : b.den ∣ t7 ws := at3 ws 0 (Nat.dvd_zero _) fun w hw => by
      obtain ⟨k, hk, ek⟩ := List.getElem_of_mem hw
      have h1 := e k
      have h2 : aZ ws k = w := by unfold aZ; rw [List.getElem?_eq_getElem hk, ek]; rfl
      rw [h2] at h1
      have : (b.den : Int) ∣ b.num * w := ⟨s k, by rw [← h1]⟩
      have h3 : b.den ∣ b.num.natAbs * w.natAbs := by
        have := Int.natAbs_dvd_natAbs.mpr this
        rw [Int.natAbs_natCast, Int.natAbs_mul] at this
        exact this
      exact Int.natAbs_dvd_natAbs.mp (by rw [Int.natAbs_natCast]; exact Nat.Coprime.dvd_of_dvd_mul_left (Nat.Coprime.symm b.reduced) h3)
    rw [hg] at this
    exact Nat.dvd_one.mp this
  refine ⟨b.num, ?_⟩
  rw [← hb2, d1]
  show b = ((1 : Nat) : Rat) * b
  have : ((1 : Nat) : Rat) = 1 := rfl
  rw [this]; grind
theorem aN0 {ws : List Int} {X : Nat} (h : ∀ k, (aZ ws k).natAbs < X) : ∀ v ∈ ws, Int.natAbs v < X := fun v hv => by
  obtain ⟨k, hk, ek⟩ := List.getElem_of_mem hv
  have h2 : aZ ws k = v := by unfold aZ; rw [List.getElem?_eq_getElem hk, ek]; rfl
  rw [← h2]; exact h k
structure Pf where
  f : Nat → Rat
theorem Pf.ext {a b : Pf} (h : ∀ k, a.f k = b.f k) : a = b := by
  cases a; cases b; congr 1; exact funext h
def v6 (c : Rat) : Pf := ⟨fun k => if k = 0 then c else 0⟩
def aK6 (a b : Pf) : Pf := ⟨cv a.f b.f⟩
def bq6 (a : Pf) : Nat → Pf
  | 0 => v6 1
  | n + 1 => aK6 (bq6 a n) a
theorem at5 (c : Rat) (h : Nat → Rat) (k : Nat) : cv (fun k => if k = 0 then c else 0) h k = c * h k := by
  rw [ay9, if_pos (by omega), Nat.sub_zero]
theorem aq8 (c : Rat) (a : Pf) (k : Nat) : (aK6 (v6 c) a).f k = c * a.f k := at5 c a.f k
instance instPf : Lean.Grind.CommRing Pf where
  add a b := ⟨fun k => a.f k + b.f k⟩
  mul := aK6
  neg a := ⟨fun k => - a.f k⟩
  sub a b := ⟨fun k => a.f k - b.f k⟩
  natCast := ⟨fun n => v6 n⟩
  ofNat n := ⟨v6 n⟩
  intCast := ⟨fun n => v6 n⟩
  nsmul := ⟨fun n a => aK6 (v6 n) a⟩
  zsmul := ⟨fun n a => aK6 (v6 n) a⟩
  npow := ⟨bq6⟩
  add_zero a := Pf.ext fun k => by
    show a.f k + (if k = 0 then ((0 : Nat) : Rat) else 0) = a.f k
    have : ((0 : Nat) : Rat) = 0 := rfl
    rw [this]; split <;> grind
  add_comm a b := Pf.ext fun k => by show a.f k + b.f k = b.f k + a.f k; grind
  add_assoc a b c := Pf.ext fun k => by show a.f k + b.f k + c.f k = a.f k + (b.f k + c.f k); grind
  mul_assoc a b c := Pf.ext fun k => aJ1 k a.f b.f c.f
  one_mul a := Pf.ext fun k => by
    show cv (fun k => if k = 0 then ((1 : Nat) : Rat) else 0) a.f k = a.f k
    rw [at5]
    have : ((1 : Nat) : Rat) = 1 := rfl
    rw [this]; grind
  right_distrib a b c := Pf.ext fun k => at7 a.f b.f c.f k
  mul_zero a := Pf.ext fun k => by
    show cv a.f (fun k => if k = 0 then ((0 : Nat) : Rat) else 0) k = (if k = 0 then ((0 : Nat) : Rat) else 0)
    rw [W8, at5]
    have : ((0 : Nat) : Rat) = 0 := rfl
    rw [this]; split <;> grind
  mul_comm a b := Pf.ext fun k => W8 a.f b.f k
  mul_one a := Pf.ext fun k => by
    show cv a.f (fun k => if k = 0 then ((1 : Nat) : Rat) else 0) k = a.f k
    rw [W8, at5]
    have : ((1 : Nat) : Rat) = 1 := rfl
    rw [this]; grind
  left_distrib a b c := Pf.ext fun k => by
    show cv a.f (fun k => b.f k + c.f k) k = cv a.f b.f k + cv a.f c.f k
    rw [W8, at7, W8 b.f, W8 c.f]
  zero_mul a := Pf.ext fun k => by
    show cv (fun k => if k = 0 then ((0 : Nat) : Rat) else 0) a.f k = (if k = 0 then ((0 : Nat) : Rat) else 0)
    rw [at5]
    have : ((0 : Nat) : Rat) = 0 := rfl
    rw [this]; split <;> grind
  pow_zero a := Pf.ext fun k => by
    show (if k = 0 then (1 : Rat) else 0) = if k = 0 then ((1 : Nat) : Rat) else 0
    rfl
  pow_succ a n := rfl
  ofNat_succ n := Pf.ext fun k => by
    show (if k = 0 then ((n + 1 : Nat) : Rat) else 0) = (if k = 0 then (n : Rat) else 0) + (if k = 0 then ((1 : Nat) : Rat) else 0)
    split
    · rw [Rat.natCast_add]
    · grind
  neg_add_cancel a := Pf.ext fun k => by
    show - a.f k + a.f k = if k = 0 then ((0 : Nat) : Rat) else 0
    have : ((0 : Nat) : Rat) = 0 := rfl
    rw [this]; split <;> grind
  sub_eq_add_neg a b := Pf.ext fun k => by show a.f k - b.f k = a.f k + - b.f k; grind
  neg_zsmul i a := Pf.ext fun k => by
    show (aK6 (v6 ((-i : Int) : Rat)) a).f k = - (aK6 (v6 (i : Rat)) a).f k
    rw [aq8, aq8, Rat.intCast_neg]; grind
  intCast_neg i := Pf.ext fun k => by
    show (if k = 0 then ((-i : Int) : Rat) else 0) = - (if k = 0 then (i : Rat) else 0)
    split
    · rw [Rat.intCast_neg]
    · grind
theorem Y1 (a b : Pf) (k : Nat) : (a + b).f k = a.f k + b.f k := rfl
theorem bm4 (a b : Pf) (k : Nat) : (a - b).f k = a.f k - b.f k := rfl
theorem aZ6 (a b : Pf) (k : Nat) : (a * b).f k = cv a.f b.f k := rfl
theorem au9 (c : Rat) (a : Pf) (k : Nat) : (v6 c * a).f k = c * a.f k := aq8 c a k
theorem ai6 (c d : Rat) : v6 (c * d) = v6 c * v6 d := Pf.ext fun k => by
  rw [au9]
  show (if k = 0 then c * d else 0) = c * (if k = 0 then d else 0)
  split <;> grind
def zp (ws : List Int) : Pf := ⟨zc ws⟩
theorem az9 : zp [] = 0 := Pf.ext fun k => by
  show zc [] k = (if k = 0 then ((0 : Nat) : Rat) else 0)
  cases k with
  | zero => rfl
  | succ k => rfl
theorem Y0 (k : Nat) : (0 : Pf).f k = 0 := by
  show (if k = 0 then ((0 : Nat) : Rat) else 0) = 0
  have : ((0 : Nat) : Rat) = 0 := rfl
  rw [this]; split <;> rfl
structure Ev (p q A B fa ha fb hb : Pf) (lp lq la lb : Nat) : Prop where
  inv : ∀ m, m < la → ∀ u v : Pf, Dg u.f (lq - m) → Dg v.f (lp - m) → Dg (u * p + v * q).f m →
    ∃ a b : Pf, u = a * fa + b * fb ∧ v = a * ha + b * hb ∧ Dg a.f (lb - m) ∧ Dg b.f (la - m)
  idA : A = fa * p + ha * q
  idB : B = fb * p + hb * q
  cr : ∃ δ : Rat, δ ≠ 0 ∧ v6 δ * p = hb * A - ha * B ∧ v6 δ * q = fa * B - fb * A
  le : la ≤ max lp lq
theorem bn9 {g : Int} (g0 : (g : Rat) ≠ 0) {x y : Int} (h : (y : Rat) = (g : Rat) * (x : Rat)) : x.natAbs ≤ y.natAbs := by
  have e : y = g * x := Rat.intCast_inj.mp (by rw [h, Rat.intCast_mul])
  have : g ≠ 0 := fun z => g0 (by rw [z]; rfl)
  rw [e, Int.natAbs_mul]
  exact Nat.le_mul_of_pos_left _ (by omega)
theorem bd7 {f g : Nat → Rat} {a b : Nat} (hf : Dg f (a + 1)) (hg : Dg g (b + 1)) : cv f g (a + b) = f a * g b := by
  unfold cv
  have : j5 (fun i => f i * g (a + b - i)) (a + b + 1) = j5 (fun i => if i = a then f a * g b else 0) (a + b + 1) := v3 fun i _ => by
    by_cases z : i = a
    · rw [if_pos z, z, Nat.add_sub_cancel_left]
    · rw [if_neg z]
      by_cases y : i < a
      · rw [hg _ (by omega)]; grind
      · rw [hf i (by omega)]; grind
  rw [this, N9, if_pos (by omega)]
def ExZ (one other : List Int) : Prop := ∃ (V : Nat → Int) (n : Nat), (∀ k, n ≤ k → V k = 0) ∧ ∀ k, zc one k = cv (fun i => (V i : Rat)) (zc other) k
theorem bb5 {one other Qz Rz : List Int} {n t : Nat} (hx : ExZ one other) (dv : Dv one other Qz Rz 1) (ho : other.length = n + 1) (h0 : aZ other n ≠ 0) (hr : Rz.length = n + 1 + t) : aZ other n ∣ aZ Rz (t + n) := by
  obtain ⟨V, nv, hV, e⟩ := hx
  obtain ⟨D, hD⟩ : ∃ D : Pf, D = ⟨fun i => (V i : Rat)⟩ - zp Qz := ⟨_, rfl⟩
  have eD : D * zp other = zp Rz := by
    have e1 : zp one = ⟨fun i => (V i : Rat)⟩ * zp other := Pf.ext e
    have e2 : zp one = zp Qz * zp other + zp Rz := Pf.ext fun k => by
      have := dv k
      rw [show ((1 : Int) : Rat) = 1 from rfl] at this
      show zc one k = cv (zc Qz) (zc other) k + zc Rz k
      rw [← this]; grind
    rw [hD]
    generalize (⟨fun i => (V i : Rat)⟩ : Pf) = x at *
    grind
  have dD : Dg D.f (max nv Qz.length) := fun k hk => by
    rw [hD, bm4]
    show (V k : Rat) - zc Qz k = 0
    rw [hV k (by omega), aw1 Qz k (by omega), Rat.intCast_zero]; grind
  have oD : Dg (zc other) (n + 1) := by rw [← ho]; exact aw1 other
  have back : Dg D.f (t + 1) := by
    have := bh9 (f := D.f) (B := zc other) (N := n + 1 + t) dD oD (bj3 h0) (fun k hk => by
      have : (D * zp other).f k = (zp Rz).f k := by rw [eD]
      rw [show cv D.f (zc other) k = (D * zp other).f k from rfl, this]
      exact aw1 Rz k (by omega))
    rwa [show n + 1 + t - n = t + 1 by omega] at this
  have top := bd7 back oD
  have h1 : zc Rz (t + n) = D.f t * zc other n := by
    rw [← top, show cv D.f (zc other) (t + n) = (D * zp other).f (t + n) from rfl, eD]; rfl
  refine ⟨V t - aZ Qz t, Rat.intCast_inj.mp ?_⟩
  have h2 : D.f t = (V t : Rat) - zc Qz t := by rw [hD]; rfl
  rw [h2] at h1
  unfold zc at h1
  rw [h1, Rat.intCast_mul, Rat.intCast_sub]; grind
section
variable {P : Program} {w : World} {K : PySem.W.Frag} {mg : Str → Option Value} {base : Heap}
def ae6 (K : PySem.W.Frag) : Sp := fun vs H Q _ => ∃ (a : Addr) (ws : List Int), vs = [.ref a] ∧ SqL K H a (ws.map V.int) ∧ ws.length ≤ 100 ∧ ∀ m r, B7 ws m → H r = none → Q (.ref r) (upd H r (.lst ((ws.take m).map V.int)))
abbrev O9 : Stmt := top 33
theorem ac8 : i3 ["wholes", "many"] ["wholes"] (b9 O9) := by clean_wf
set_option maxHeartbeats 0 in
theorem aK9 {f : Addr} (d : Df K mg "trimmed" O9 ["wholes"] f) (n_len : mg "len" = none) : Def P w K mg base CX0 1 "trimmed" f ["wholes"] (ae6 K) := by
  refine d.ok (N := ["wholes", "many"]) ac8 (by rintro vs H Q E ⟨_, _, h, _⟩; rw [h]; rfl) (fun cdv A outer s H vs Q E hr h => ?_)
  obtain ⟨a, ws, rfl, hS, hl, k⟩ := h
  refine ⟨_, (d3 (i7 (i := 1) ac8.nd rfl (Or.inl rfl) (d8 i6 rfl n_len (by decide +kernel) (b6 (pv 0) b7)))
      (d3 (U0 PassesOwn.never (PW.pt (aq2 (B4 (pv 1) (fun _ => rfl)) (af5 (j6 ac2 (n5 y9 (pv 0) (e9 M9 (pv 1) d4) (fun _ _ => rfl)) d4 (j8 _))))) (d6 (aK5 (i := 1) ac8.nd rfl (Or.inl rfl) d4 aM0)))
      (d6 (g7 (aH1 aO1 (pv 0) aB4 (am9 (pv 1))))))), ?_⟩
  rw [show start ["wholes", "many"] [.ref a] = [some (.ref a), none] from rfl]
  refine i9 (fun σ H1 => σ = [some (.ref a), some (.int ws.length)] ∧ H = H1) (fun N hN => ?_) ?_
  · subst_eqs
    refine ⟨_, .inl hS, hN _ _ ⟨?_, rfl⟩⟩
    rw [List.length_map]
  rintro σ H1 ⟨rfl, rfl⟩
  refine i9 (fun σ H1 => ∃ m : Nat, σ = [some (.ref a), some (.int m)] ∧ H = H1 ∧ B7 ws m) (fun N hN => ?_) ?_
  · refine Z0 (fun σ H1 => H = H1 ∧ ∃ m : Nat, σ = [some (.ref a), some (.int m)] ∧ m ≤ ws.length ∧ ∀ i v, m ≤ i → ws[i]? = some v → v = 0) (fun σ _ => match σ with | [_, some (.int y)] => y.toNat | _ => 0) ⟨rfl, ws.length, rfl, Nat.le_refl _, fun i v hi h => by rw [List.getElem?_eq_none hi] at h; cases h⟩ ?_
    rintro σ H1 ⟨rfl, m, rfl, hm, hz⟩
    simp! [Y9]
    refine v7 (fun h0 => ?_) (fun h0 => ?_)
    · have h0' : m ≠ 0 := fun z => by subst z; simp at h0
      have hlt : m - 1 < ws.length := by omega
      have hg : ws[m - 1]? = some ws[m - 1] := List.getElem?_eq_getElem hlt
      have ei : ((m : Int) - 1) = ((m - 1 : Nat) : Int) := by omega
      rw [ei]
      refine ⟨_, hS, .int ws[m - 1], P9 (by rw [List.getElem?_map, hg]; rfl), rfl, v7 (fun hn => ?_) (fun hn => ?_)⟩
      · have hn' : ws[m - 1] = 0 := by simpa using hn
        refine WhB.mk ?_
        subst_eqs
        refine WhN.mk ⟨rfl, m - 1, by rw [ei], by omega, fun i v hi e => ?_⟩ ?_
        · by_cases hi' : i = m - 1
          · subst hi'
            rw [hg] at e
            cases e
            exact hn'
          · exact hz i v (by omega) e
        · show ((m : Int) - 1).toNat < (m : Int).toNat
          omega
      · refine hN _ _ ⟨m, rfl, rfl, hm, hz, fun _ v e => ?_⟩
        rw [hg] at e
        cases e
        intro z
        exact hn (by rw [z])
    · have h0' : m = 0 := by
        by_cases z : m = 0
        · exact z
        · exact absurd (by simp [z]) h0
      exact hN _ _ ⟨m, rfl, rfl, hm, hz, fun h => absurd h0' h⟩
  rintro σ H1 ⟨m, rfl, rfl, t⟩
  subst_eqs
  refine ⟨_, hS, fun p hp => ?_⟩
  rw [aJ2 _ (by rw [List.length_map]; exact t.le), ← List.map_take]
  exact k m p t hp
theorem ag5 {n k : Nat} (h : k < n) : ixN n (k : Int) = some k := by
  unfold ixN
  rw [if_pos (by omega), if_pos (by omega)]
  simp
theorem be8 : (3 : Nat) ≤ sizeLine := by decide
structure WDD (H : Hp) (one other : List Int) (n W1 W2 kst : Nat) (lq lr : Addr) (many : Int) (Qz Rz : List Int) (H3 : Hp) : Prop where
  same : d5 H H3
  fq : H lq = none
  fr : H lr = none
  nqr : lq ≠ lr
  eq : H3 lq = some (.lst (Qz.map V.int))
  er : H3 lr = some (.lst (Rz.map V.int))
  m1 : 1 ≤ many
  mb : many.natAbs < 2 ^ (kst * W2 + 1)
  qb : ∀ v ∈ Qz, Int.natAbs v < 2 ^ (W1 + kst * (W2 + 1))
  rb : ∀ v ∈ Rz, Int.natAbs v < 2 ^ (W1 + kst * (W2 + 1))
  kl : kst + Rz.length ≤ one.length
  ks : kst = 0 ∨ kst + n ≤ one.length
  k0 : kst = 0 → Rz.length = one.length
  rt : B7 Rz Rz.length
  ql : Qz.length = one.length - n
  qz : ∀ i, i + n < Rz.length → aZ Qz i = 0
  qlast : kst ≠ 0 → ∀ v, Qz[Qz.length - 1]? = some v → v ≠ 0
  dv : Dv one other Qz Rz many
  ex : ExZ one other → many = 1
theorem aX1 {K : PySem.W.Frag} {l D : Addr} {ws : List Int} {f : Int} {H1 : Hp} {Q : VK} {m m2 : Nat} (e : H1 l = some (.lst (ws.map V.int))) (hD : H1 D = none) (hl : ws.length ≤ 100) (hf : f.natAbs < 2 ^ m2) (hw : ∀ v ∈ ws, Int.natAbs v < 2 ^ m) (hm : m + m2 ≤ 20000)
    (k : ∀ H2, d5 H1 H2 → H2 D = some (.lst ((ws.map (f * ·)).map V.int)) → Q (.ref D) H2) : al7 (Itl K l) D [some (.int f), none] (upd H1 D (.lst [])) (j9 1) (tOp (rI IntMulOk fun i j => V.int (i * j)) (S9 0) (S9 1)) Q := by
  refine K6 (ws.map V.int) (fun i σ H3 => ∃ o, σ = [some (.int f), o] ∧ d5 H1 H3 ∧ H3 D = some (.lst (((ws.take i).map (f * ·)).map V.int))) ⟨_, rfl, d5.new hD _, b8⟩ (fun i σ H3 _ ⟨_, _, s3, _⟩ => SqL.of (s3 _ _ e)) ?_ ?_
  · rintro i y σ H3 hy ⟨o, rfl, s3, e3⟩
    have hi := (List.getElem?_eq_some_iff.mp hy).1
    obtain ⟨v, hv, rfl⟩ := K8 hy
    subst_eqs
    refine ⟨Q8 hf (hw v (List.mem_of_getElem? hv)) (by omega), N5.mk hi e3 ?_ ⟨_, rfl, s3.over hD _, ?_⟩⟩
    · simp only [List.length_map, List.length_take]
      exact Nat.lt_of_le_of_lt (show _ ≤ 100 by omega) (by decide)
    · rw [b8, List.take_succ, hv]
      simp
  · rintro σ H3 ⟨o, rfl, s3, e3⟩
    rw [List.length_map, List.take_length] at e3
    exact k H3 s3 e3
def ar9 (k : Nat) (σ : L2.St) (H : Hp) : Nat := match σ[k]? with
  | some (some (.ref r)) => (match H r with
    | some (.lst xs) => xs.length
    | _ => 0)
  | _ => 0
theorem aI1 {k : Nat} {σ : L2.St} {H : Hp} {r : Addr} {xs : List V} (h : σ[k]? = some (some (.ref r))) (e : H r = some (.lst xs)) : ar9 k σ H = xs.length := by
  unfold ar9; rw [h]; simp only [e]
def bq1 (K : PySem.W.Frag) : Sp := fun vs H Q _ => ∃ (a b : Addr) (one other : List Int) (n S W1 W2 : Nat), vs = [.ref a, .ref b] ∧ SqL K H a (one.map V.int) ∧ SqL K H b (other.map V.int) ∧ one.length ≤ 30 ∧ other.length = n + 1 ∧ n ≤ 30 ∧ aZ other n ≠ 0 ∧ B7 one one.length ∧ one.length ≤ n + S ∧ (∀ v ∈ one, Int.natAbs v < 2 ^ W1) ∧ (∀ v ∈ other, Int.natAbs v < 2 ^ W2) ∧ W1 + S * (W2 + 1) ≤ 5000 ∧ W2 ≤ 5000 ∧
  ∀ r lq lr many Qz Rz H', d5 H H' → H lq = none → H lr = none → lq ≠ lr → H' r = some (.tup [.int many, .ref lq, .ref lr]) → H' lq = some (.lst (Qz.map V.int)) → H' lr = some (.lst (Rz.map V.int)) → 1 ≤ many → many.natAbs < 2 ^ (S * W2 + 1) → (∀ v ∈ Qz, Int.natAbs v < 2 ^ (W1 + S * (W2 + 1))) → (∀ v ∈ Rz, Int.natAbs v < 2 ^ (W1 + S * (W2 + 1))) → Rz.length ≤ n → B7 Rz Rz.length → Qz.length = one.length - n → B7 Qz Qz.length → Dv one other Qz Rz many → Q (.ref r) H'
def bq0 (K : PySem.W.Frag) : Sp := fun vs H Q _ => ∃ (a b : Addr) (one other : List Int) (n S W1 W2 : Nat), vs = [.ref a, .ref b] ∧ SqL K H a (one.map V.int) ∧ SqL K H b (other.map V.int) ∧ one.length ≤ 30 ∧ other.length = n + 1 ∧ n ≤ 30 ∧ aZ other n ≠ 0 ∧ B7 one one.length ∧ one.length ≤ n + S ∧ (∀ v ∈ one, Int.natAbs v < 2 ^ W1) ∧ (∀ v ∈ other, Int.natAbs v < 2 ^ W2) ∧ W1 + S * (W2 + 1) ≤ 5000 ∧ W2 ≤ 5000 ∧
  ∀ r lq lr many Qz Rz H', d5 H H' → H lq = none → H lr = none → lq ≠ lr → H' r = some (.tup [.int many, .ref lq, .ref lr]) → H' lq = some (.lst (Qz.map V.int)) → H' lr = some (.lst (Rz.map V.int)) → 1 ≤ many → many.natAbs < 2 ^ (S * W2 + 1) → (∀ v ∈ Qz, Int.natAbs v < 2 ^ (W1 + S * (W2 + 1))) → (∀ v ∈ Rz, Int.natAbs v < 2 ^ (W1 + S * (W2 + 1))) → Rz.length ≤ n → B7 Rz Rz.length → Qz.length = one.length - n → B7 Qz Qz.length → Dv one other Qz Rz many → (ExZ one other → many = 1) → Q (.ref r) H'
abbrev q8 : Stmt := top 41
theorem j1 : i3 ["one", "other", "lead", "many", "quotient", "rest", "part", "place", "factor", "further", "whole"] ["one", "other"] (b9 q8) := by clean_wf
set_option maxHeartbeats 0 in
theorem ag2 {f f1 : Addr} (d : Df K mg "whole_divided" q8 ["one", "other"] f) (G_trimmed : Def P w K mg base CX0 1 "trimmed" f1 ["wholes"] (ae6 K)) (n_len : mg "len" = none) (n_max : mg "max" = none) (n_list : mg "list" = none) (n_abs : mg "abs" = none) (n_enumerate : mg "enumerate" = none) : Def P w K mg base CX0 2 "whole_divided" f ["one", "other"] (bq0 K) := by
  refine d.ok (N := ["one", "other", "lead", "many", "quotient", "rest", "part", "place", "factor", "further", "whole"]) j1 (by rintro vs H Q E ⟨_, _, _, _, _, _, _, _, h, _⟩; rw [h]; rfl) (fun cdv A outer s H vs Q E hr h => ?_)
  obtain ⟨a, b, one, other, n, S, W1, W2, rfl, hS, hS', hl1, hl2, hn, h0, ht1, hS1, hw1, hw2, hT, hT2, k⟩ := h
  refine ⟨_, (d3 (i7 (i := 2) j1.nd rfl (Or.inl rfl) (n5 y9 (pv 1) (ak3 Z1 d4) (fun _ _ => rfl)))
      (d3 (i7 (i := 3) j1.nd rfl (Or.inl rfl) d4)
      (d3 (i7 (i := 4) j1.nd rfl (Or.inl rfl) (e9 aB6 (w8 (b6 d4 b7)) (d8 (aj5 rfl) rfl n_max (by decide +kernel) (b6 d4 (b6 (e9 E1 (e9 M9 (d8 i6 rfl n_len (by decide +kernel) (b6 (pv 0) b7)) (d8 i6 rfl n_len (by decide +kernel) (b6 (pv 1) b7))) d4) b7)))))
      (d3 (i7 (i := 5) j1.nd rfl (Or.inl rfl) (K2 C8 rfl n_list (by decide +kernel) (b6 (pv 0) b7)))
      (d3 (U0 PassesOwn.never (j6 bk4 (d8 i6 rfl n_len (by decide +kernel) (b6 (pv 5) b7)) (d8 i6 rfl n_len (by decide +kernel) (b6 (pv 1) b7)) (j8 _)) (d3 (i7 (i := 6) j1.nd rfl (Or.inl rfl) (n5 y9 (pv 5) (ak3 Z1 d4) (fun _ _ => rfl)))
      (d3 (i7 (i := 7) j1.nd rfl (Or.inl rfl) (e9 M9 (d8 i6 rfl n_len (by decide +kernel) (b6 (pv 5) b7)) (d8 i6 rfl n_len (by decide +kernel) (b6 (pv 1) b7))))
      (d3 (z9 (j6 ac2 (e9 M1 (pv 6) (pv 2)) d4 (j8 _)) (d6 (i7 (i := 6) j1.nd rfl (Or.inl rfl) (e9 B5 (pv 6) (pv 2)))) (d3 (i7 (i := 8) j1.nd rfl (Or.inr rfl) (d8 X0 rfl n_abs (by decide +kernel) (b6 (pv 2) b7)))
      (d3 (i7 (i := 6) j1.nd rfl (Or.inl rfl) (U2 (j6 ar0 (pv 2) d4 (j8 _)) (pv 6) (ak3 Z1 (pv 6))))
      (d3 (aK5 (i := 3) j1.nd rfl (Or.inl rfl) (pv 8) bn8)
      (d3 (U1 (i₀ := 4) j1.nd rfl (Or.inl rfl) (Nc := ["factor", "whole"]) (caps := [some 8, none]) rfl (V9.of (osc := b9 q8) (N := ["one", "other", "lead", "many", "quotient", "rest", "part", "place", "factor", "further", "whole"]) (ks := ["factor"]) rfl rfl rfl rfl (Q3 rfl C5) (by decide +kernel)) (B2 (pv 4)) (fun C s₂ H₂ fp pins => (e8 (i := 1) (show List.Nodup (["factor", "whole"] : List Str) by decide +kernel) rfl (Or.inl rfl) (Or.inr rfl))) (fun C s₂ H₂ fp pins => (e9 w5 (pv 0) (pv 1))))
      (d6 (U1 (i₀ := 5) j1.nd rfl (Or.inl rfl) (Nc := ["factor", "whole"]) (caps := [some 8, none]) rfl (V9.of (osc := b9 q8) (N := ["one", "other", "lead", "many", "quotient", "rest", "part", "place", "factor", "further", "whole"]) (ks := ["factor"]) rfl rfl rfl rfl (Q3 rfl C5) (by decide +kernel)) (B2 (pv 5)) (fun C s₂ H₂ fp pins => (e8 (i := 1) (show List.Nodup (["factor", "whole"] : List Str) by decide +kernel) rfl (Or.inl rfl) (Or.inr rfl))) (fun C s₂ H₂ fp pins => (e9 w5 (pv 0) (pv 1))))))))))
      (d3 (F5 (pv 6) (ai5 (pv 4) (pv 7) O1))
      (d3 (J4 PassesOwn.never rfl (V4 rfl n_enumerate (b6 (pv 1) b7)) (show PG _ _ (N6 K 2 (n8 (j9 9) (n8 (j9 10) N7))) from by (refine B9 (n := 2) ?_ ?_ ?_ ?_; rfl; (refine g8 ?_ ?_ ?_; (exact (e8 (i := 9) j1.nd rfl (Or.inl rfl))); (refine g8 ?_ ?_ ?_; (exact (e8 (i := 10) j1.nd rfl (Or.inl rfl))); (exact w4); rfl); rfl); rfl; rfl)) (d6 (aB3 (pv 5) (e9 E1 (pv 7) (pv 9)) as5 (e9 w5 (pv 6) (pv 10)) aM0 O1)))
      (d6 (i7 (i := 5) j1.nd rfl (Or.inl rfl) (d9 G_trimmed hr (b6 (pv 5) b7) i0)))))))))
      (d6 (g7 (u0 (b6 (pv 3) (b6 (pv 4) (b6 (pv 5) b7))))))))))), ?_⟩
  rw [show start ["one", "other", "lead", "many", "quotient", "rest", "part", "place", "factor", "further", "whole"] [.ref a, .ref b] = [some (.ref a), some (.ref b), none, none, none, none, none, none, none, none, none] from rfl]
  obtain ⟨lead, hlead⟩ : ∃ z, z = aZ other n := ⟨_, rfl⟩
  have hg : other[n]? = some lead := by rw [hlead]; unfold aZ; rw [List.getElem?_eq_getElem (by omega)]; rfl
  have l0 : lead ≠ 0 := by rw [hlead]; exact h0
  have lb : lead.natAbs < 2 ^ W2 := hw2 _ (List.mem_of_getElem? hg)
  refine i9 (fun σ H1 => σ = [some (.ref a), some (.ref b), some (.int lead), none, none, none, none, none, none, none, none] ∧ H = H1) (fun N hN => ?_) ?_
  · subst_eqs
    refine ⟨_, hS', _, aL7 (x := .int lead) (by rw [List.length_map, hl2, List.getElem?_map, Nat.add_sub_cancel, hg]; rfl), hN _ _ ⟨rfl, rfl⟩⟩
  rintro σ H1 ⟨rfl, rfl⟩
  refine i9 (fun σ H1 => σ = [some (.ref a), some (.ref b), some (.int lead), some (.int 1), none, none, none, none, none, none, none] ∧ H = H1) (fun N hN => ?_) ?_
  · subst_eqs
    exact hN _ _ ⟨rfl, rfl⟩
  rintro σ H1 ⟨rfl, rfl⟩
  refine i9 (fun σ H1 => ∃ lq, σ = [some (.ref a), some (.ref b), some (.int lead), some (.int 1), some (.ref lq), none, none, none, none, none, none] ∧ d5 H H1 ∧ H lq = none ∧ H1 lq = some (.lst ((List.replicate (one.length - n) (0 : Int)).map V.int))) (fun N hN => ?_) ?_
  · subst_eqs
    refine ⟨by decide, fun p hp => ?_⟩
    have Sp := d5.new hp (.lst [.int 0])
    have ez : (if (((one.map V.int).length : Nat) : Int) - (((other.map V.int).length : Nat) : Int) + 1 > 0 then (((one.map V.int).length : Nat) : Int) - (((other.map V.int).length : Nat) : Int) + 1 else 0) = ((one.length - n : Nat) : Int) := by
      rw [List.length_map, List.length_map, hl2]
      split <;> omega
    refine ⟨_, .inl (Sp.seq hS), _, .inl (Sp.seq hS'), _, b8, ?_⟩
    rw [ez]
    refine ⟨by omega, by omega, ?_, fun p1 hp1 => hN _ _ ⟨p1, rfl, Sp.trans (d5.new hp1 _), Sp.free hp1, ?_⟩⟩
    · have : (([V.int 0] : List V).length * ((one.length - n : Nat) : Int).toNat) ≤ 100 := by simp; omega
      exact Nat.le_trans this (by decide)
    · rw [b8, Int.toNat_natCast, List.flatten_replicate_singleton, List.map_replicate]
  rintro σ H1 ⟨lq, rfl, s1, fq, eq⟩
  refine i9 (fun σ H2 => ∃ lr, σ = [some (.ref a), some (.ref b), some (.int lead), some (.int 1), some (.ref lq), some (.ref lr), none, none, none, none, none] ∧ d5 H1 H2 ∧ H1 lr = none ∧ H2 lr = some (.lst (one.map V.int))) (fun N hN => ?_) ?_
  · subst_eqs
    refine ⟨_, .inl (s1.seq hS), fun l hl => hN _ _ ⟨l, rfl, d5.new hl _, hl, b8⟩⟩
  rintro σ H2 ⟨lr, rfl, s2, fr, er⟩
  refine i9 (fun σ H3 => ∃ lq lr many Qz Rz o6 o7 o8 o9 o10, σ = [some (.ref a), some (.ref b), some (.int lead), some (.int many), some (.ref lq), some (.ref lr), o6, o7, o8, o9, o10] ∧ d5 H H3 ∧ H lq = none ∧ H lr = none ∧ lq ≠ lr ∧ H3 lq = some (.lst (Qz.map V.int)) ∧ H3 lr = some (.lst (Rz.map V.int)) ∧ 1 ≤ many ∧ many.natAbs < 2 ^ (S * W2 + 1) ∧ (∀ v ∈ Qz, Int.natAbs v < 2 ^ (W1 + S * (W2 + 1))) ∧ (∀ v ∈ Rz, Int.natAbs v < 2 ^ (W1 + S * (W2 + 1))) ∧ Rz.length ≤ n ∧ B7 Rz Rz.length ∧ Qz.length = one.length - n ∧ B7 Qz Qz.length ∧ Dv one other Qz Rz many ∧ (ExZ one other → many = 1)) (fun N hN => ?_) ?_
  · have w2p : 1 ≤ W2 := by
      rcases Nat.eq_zero_or_pos W2 with z | z
      · rw [z] at lb; omega
      · exact z
    refine Z0 (fun σ H3 => ∃ kst lq lr many Qz Rz o6 o7 o8 o9 o10, σ = [some (.ref a), some (.ref b), some (.int lead), some (.int many), some (.ref lq), some (.ref lr), o6, o7, o8, o9, o10] ∧ WDD H one other n W1 W2 kst lq lr many Qz Rz H3) (ar9 5) ⟨0, lq, lr, 1, _, one, _, _, _, _, _, rfl, ⟨s1.trans s2, fq, s1.free fr, g6 eq fr, s2 _ _ eq, er, by decide, by simp, fun v hv => ?_, fun v hv => ?_, by omega, .inl rfl, fun _ => rfl, ht1, by rw [List.length_replicate], fun i _ => ?_, fun z => absurd rfl z, fun k => ?_, fun _ => rfl⟩⟩ ?_
    · rw [(List.mem_replicate.mp hv).2]; exact Nat.two_pow_pos _
    · have := hw1 v hv
      simpa using this
    · unfold aZ
      rw [List.getElem?_replicate]
      split <;> rfl
    · have : cv (zc (List.replicate (one.length - n) (0 : Int))) (zc other) k = 0 := M3 _ fun i _ => by
        have : zc (List.replicate (one.length - n) (0 : Int)) i = 0 := by
          unfold zc aZ
          rw [List.getElem?_replicate]
          split <;> rfl
        rw [this]; grind
      rw [this]
      show (1 : Rat) * _ = _
      grind
    clear eq er fq fr s1 s2 lq lr
    rintro σ H3 ⟨kst, lq, lr, many, Qz, Rz, o6, o7, o8, o9, o10, rfl, D⟩
    have hSb := D.same.seq hS'
    simp only [ao7, tOp, tCB, W0, ao9, S9, rI0]
    refine ⟨_, rfl, lr, _, rfl, .inl (SqL.of D.er), _, rfl, b, _, rfl, .inl hSb, _, _, rfl, rfl, _, rfl, ?_⟩
    rw [List.length_map, List.length_map, hl2]
    refine v7 (fun hge => WhB.mk ?_) (fun hlt => ?_)
    · have hge' : n + 1 ≤ Rz.length := by
        have : ((n + 1 : Nat) : Int) ≤ (Rz.length : Int) := by simpa using hge
        omega
      obtain ⟨t, ht⟩ : ∃ t, Rz.length = n + 1 + t := ⟨Rz.length - (n + 1), by omega⟩
      have htq : t < Qz.length := by rw [D.ql]; have := D.kl; omega
      obtain ⟨y, hy⟩ : ∃ y, Rz[Rz.length - 1]? = some y := ⟨_, List.getElem?_eq_getElem (by omega)⟩
      have y0 : y ≠ 0 := D.rt.last (by omega) y hy
      have yb := D.rb y (List.mem_of_getElem? hy)
      refine i9 (fun σ H4 => σ = [some (.ref a), some (.ref b), some (.int lead), some (.int many), some (.ref lq), some (.ref lr), some (.int y), o7, o8, o9, o10] ∧ H3 = H4) (fun N hN => ?_) ?_
      · subst_eqs
        exact ⟨_, SqL.of D.er, _, aL7 (x := .int y) (by rw [List.length_map, List.getElem?_map, hy]; rfl), hN _ _ ⟨rfl, rfl⟩⟩
      rintro σ H4 ⟨rfl, rfl⟩
      refine i9 (fun σ H4 => σ = [some (.ref a), some (.ref b), some (.int lead), some (.int many), some (.ref lq), some (.ref lr), some (.int y), some (.int (t : Int)), o8, o9, o10] ∧ H3 = H4) (fun N hN => ?_) ?_
      · subst_eqs
        refine ⟨_, .inl (SqL.of D.er), _, .inl hSb, hN _ _ ⟨?_, rfl⟩⟩
        rw [List.length_map, List.length_map, hl2, ht, show (((n + 1 + t : Nat) : Int) - ((n + 1 : Nat) : Int)) = (t : Int) by omega]
      rintro σ H4 ⟨rfl, rfl⟩
      refine i9 (fun σ H4 => ∃ lq1 lr1 c d o8, σ = [some (.ref a), some (.ref b), some (.int lead), some (.int (many * c)), some (.ref lq1), some (.ref lr1), some (.int d), some (.int (t : Int)), o8, o9, o10] ∧ d5 H3 H4 ∧ H lq1 = none ∧ H lr1 = none ∧ lq1 ≠ lr1 ∧ H4 lq1 = some (.lst ((Qz.map (c * ·)).map V.int)) ∧ H4 lr1 = some (.lst ((Rz.map (c * ·)).map V.int)) ∧ c * y = d * lead ∧ 1 ≤ c ∧ c.natAbs < 2 ^ W2 ∧ d.natAbs ≤ y.natAbs ∧ d ≠ 0 ∧ (lead ∣ y → c = 1)) (fun N hN => ?_) ?_
      · subst_eqs
        have hks : kst ≤ S := by rcases D.ks with z | z <;> omega
        have hkm := Nat.mul_le_mul_right (W2 + 1) hks
        have hkm2 : kst * W2 ≤ kst * (W2 + 1) := Nat.mul_le_mul_left _ (by omega)
        have one2 : (1 : Nat) < 2 ^ W2 := Nat.lt_of_lt_of_le (show 1 < 2 ^ 1 by decide) (d7 w2p)
        refine ⟨l0, rfl, v7 (fun hd => ?_) (fun hd => ?_)⟩
        · refine ⟨R0 l0 (N4 lb (by omega)), hN _ _ ⟨lq, lr, 1, y.fdiv lead, o8, by rw [Int.mul_one], d5.refl _, D.fq, D.fr, D.nqr, ?_, ?_, ?_, by decide, one2, ?_, ?_, fun _ => rfl⟩⟩
          · have : Qz.map ((1 : Int) * ·) = Qz := by conv => rhs; rw [← List.map_id Qz]
                                                     exact List.map_congr_left fun v _ => Int.one_mul v
            rw [this]; exact D.eq
          · have : Rz.map ((1 : Int) * ·) = Rz := by conv => rhs; rw [← List.map_id Rz]
                                                     exact List.map_congr_left fun v _ => Int.one_mul v
            rw [this]; exact D.er
          · have := Int.fmod_add_mul_fdiv y lead
            rw [hd] at this
            rw [Int.one_mul, Int.mul_comm]; omega
          · have := Int.fmod_add_mul_fdiv y lead
            rw [hd, Int.zero_add] at this
            conv => rhs; rw [← this]
            rw [Int.natAbs_mul]
            exact Nat.le_mul_of_pos_left _ (by omega)
          · intro z
            have := Int.fmod_add_mul_fdiv y lead
            rw [hd, z] at this
            simp at this
            exact y0 this.symm
        · have hnd : ¬ lead ∣ y := fun z => hd (by simpa using Int.fmod_eq_zero_of_dvd z)
          have fin : ∀ d : Int, (if lead < 0 then -lead else lead) * y = d * lead → d.natAbs = y.natAbs → IntMulOk many (if lead < 0 then -lead else lead) ∧ (∃ xs, SqL K H3 lq xs) ∧ ∀ (D : Addr), H3 D = none → al7 (Itl K lq) D [some (V.int (if lead < 0 then -lead else lead)), none] (upd H3 D (HO.lst [])) (j9 1) (tOp (rI IntMulOk fun i j => V.int (i * j)) (S9 0) (S9 1)) fun x H1 => (∃ xs, SqL K H1 lr xs) ∧ ∀ (D : Addr), H1 D = none → al7 (Itl K lr) D [some (V.int (if lead < 0 then -lead else lead)), none] (upd H1 D (HO.lst [])) (j9 1) (tOp (rI IntMulOk fun i j => V.int (i * j)) (S9 0) (S9 1)) fun x_1 H1 => N [some (V.ref a), some (V.ref b), some (V.int lead), some (V.int (many * if lead < 0 then -lead else lead)), some x, some x_1, some (V.int d), some (V.int ↑t), some (V.int (if lead < 0 then -lead else lead)), o9, o10] H1 := fun d hd1 hd2 => by
            have ab : ((if lead < 0 then -lead else lead) : Int).natAbs = lead.natAbs := by split <;> omega
            have ab1 : (1 : Int) ≤ (if lead < 0 then -lead else lead) := by split <;> omega
            generalize (if lead < 0 then -lead else lead) = c at ab ab1 hd1 ⊢
            have cb : c.natAbs < 2 ^ W2 := by omega
            have hml := D.kl
            refine ⟨Q8 D.mb cb (by omega), ⟨_, SqL.of D.eq⟩, fun D1 hD1 => aX1 D.eq hD1 (by rw [D.ql]; omega) cb D.qb (by omega) fun H4 s4 e4 => ?_⟩
            refine ⟨⟨_, SqL.of (s4 _ _ D.er)⟩, fun D2 hD2 => aX1 (s4 _ _ D.er) hD2 (by omega) cb D.rb (by omega) fun H5 s5 e5 => ?_⟩
            exact hN _ _ ⟨D1, D2, c, d, _, rfl, s4.trans s5, D.same.free hD1, D.same.free (s4.free hD2), g6 e4 hD2, s5 _ _ e4, e5, hd1, ab1, cb, by omega, fun z => y0 (by omega), fun z => absurd z hnd⟩
          refine v7 (fun hp => fin y ?_ rfl) (fun hp => fin (-y) ?_ (by omega))
          · rw [if_neg (by omega)]; exact Int.mul_comm _ _
          · rw [if_pos (by omega), Int.neg_mul, Int.neg_mul, Int.mul_comm]
      rintro σ H4 ⟨lq1, lr1, c, d, o8, rfl, s4, fq1, fr1, nqr1, eq1, er1, hcd, c1, cb, db, d0, cl1⟩
      refine i9 (fun σ H5 => σ = [some (.ref a), some (.ref b), some (.int lead), some (.int (many * c)), some (.ref lq1), some (.ref lr1), some (.int d), some (.int (t : Int)), o8, o9, o10] ∧ d5 H H5 ∧ H5 lq1 = some (.lst (((Qz.map (c * ·)).set t d).map V.int)) ∧ H5 lr1 = some (.lst ((Rz.map (c * ·)).map V.int))) (fun N hN => ?_) ?_
      · subst_eqs
        refine ⟨_, eq1, t, ag5 (by rw [List.length_map, List.length_map]; exact htq), hN _ _ ⟨rfl, (D.same.trans s4).over fq1 _, ?_, ?_⟩⟩
        · rw [b8, List.map_set]
        · rw [i5 nqr1.symm]; exact er1
      rintro σ H5 ⟨rfl, s5, eq5, er5⟩
      refine i9 (fun σ H6 => ∃ o9 o10, σ = [some (.ref a), some (.ref b), some (.int lead), some (.int (many * c)), some (.ref lq1), some (.ref lr1), some (.int d), some (.int (t : Int)), o8, o9, o10] ∧ d5 H H6 ∧ H6 lq1 = some (.lst (((Qz.map (c * ·)).set t d).map V.int)) ∧ H6 lr1 = some (.lst ((p5 0 (Rz.map (c * ·)) t (-d) other other.length).map V.int))) (fun N hN => ?_) ?_
      · refine ⟨_, rfl, b, rfl, ⟨_, s5.seq hS'⟩, W7 (other.map V.int) (fun j σ H6 => ∃ o9 o10, σ = [some (.ref a), some (.ref b), some (.int lead), some (.int (many * c)), some (.ref lq1), some (.ref lr1), some (.int d), some (.int (t : Int)), o8, o9, o10] ∧ d5 H H6 ∧ H6 lq1 = some (.lst (((Qz.map (c * ·)).set t d).map V.int)) ∧ H6 lr1 = some (.lst ((p5 0 (Rz.map (c * ·)) t (-d) other j).map V.int))) ⟨_, _, rfl, s5, eq5, er5⟩ (by rintro j σ H6 ⟨_, _, _, s6, _⟩; exact s6.seq hS') ?_ (by rintro σ H6 ⟨o9, o10, rfl, s6, eq6, er6⟩; rw [List.length_map] at er6; exact hN _ _ ⟨o9, o10, rfl, s6, eq6, er6⟩)⟩
        rintro j x σ H6 p hx ⟨o9, o10, rfl, s6, eq6, er6⟩ hp
        obtain ⟨v, hv, rfl⟩ := K8 hx
        have hj := (List.getElem?_eq_some_iff.mp hv).1
        have Sp := d5.new hp (.tup [.int j, .int v])
        have er7 := Sp _ _ er6
        have il : (p5 0 (Rz.map (c * ·)) t (-d) other j).length = Rz.length := by rw [S7, List.length_map]
        have hk : t + j < (p5 0 (Rz.map (c * ·)) t (-d) other j).length := by omega
        have hgk := List.getElem?_eq_getElem hk
        generalize hz : (p5 0 (Rz.map (c * ·)) t (-d) other j)[t + j] = z at hgk
        have ej : (t : Int) + (j : Int) = ((t + j : Nat) : Int) := by omega
        have dbw : d.natAbs < 2 ^ (W1 + kst * (W2 + 1)) := by omega
        have hks : kst ≤ S := by rcases D.ks with z | z <;> omega
        have hkm := Nat.mul_le_mul_right (W2 + 1) hks
        subst_eqs
        refine ⟨_, SqT.of b8, rfl, _, _, rfl, _, _, rfl, rfl, _, rfl, _, SqL.of er7, .int z, by rw [ej]; exact P9 (by rw [List.getElem?_map, hgk]; rfl), v, rfl, Q8 dbw (hw2 v (List.mem_of_getElem? hv)) (by omega), z, rfl, _, er7, t + j, by rw [ej]; exact ag5 (by rw [List.length_map]; exact hk), (s6.trans Sp).over fr1 _, ?_, ?_⟩
        · rw [i5 nqr1]; exact Sp _ _ eq6
        · rw [b8, p5, hv, Option.getD_some, ← X3 _ _ _ _ hgk, List.map_set, Int.neg_mul]
          rfl
      rintro σ H6 ⟨o9, o10, rfl, s6, eq6, er6⟩
      subst_eqs
      obtain ⟨R2, hR2⟩ : ∃ R2, R2 = p5 0 (Rz.map (c * ·)) t (-d) other other.length := ⟨_, rfl⟩
      rw [← hR2] at er6
      have l2 : R2.length = Rz.length := by rw [hR2, S7, List.length_map]
      have hRk : ∀ k, aZ R2 k = c * aZ Rz k - if t ≤ k then d * aZ other (k - t) else 0 := fun k => by
        by_cases hk : k < Rz.length
        · have hy1 : (Rz.map (c * ·))[k]? = some (c * aZ Rz k) := by
            rw [List.getElem?_map]; unfold aZ
            rw [List.getElem?_eq_getElem hk]; rfl
          have := as4 (Rz.map (c * ·)) t (-d) other _ hy1 other.length
          rw [← hR2] at this
          conv => lhs; unfold aZ
          rw [this, Option.getD_some]
          by_cases h1 : t ≤ k
          · rw [if_pos ⟨h1, by omega⟩, if_pos h1, Int.neg_mul]; rfl
          · rw [if_neg (fun z => h1 z.1), if_neg h1]; omega
        · have e1 : aZ R2 k = 0 := by unfold aZ; rw [List.getElem?_eq_none (by omega)]; rfl
          have e2 : aZ Rz k = 0 := by unfold aZ; rw [List.getElem?_eq_none (by omega)]; rfl
          have e3 : aZ other (k - t) = 0 := by unfold aZ; rw [List.getElem?_eq_none (by omega)]; rfl
          rw [e1, e2, e3]; simp
      have last0 : aZ R2 (Rz.length - 1) = 0 := by
        rw [hRk, if_pos (by omega), show Rz.length - 1 - t = n by omega, ← hlead]
        have : aZ Rz (Rz.length - 1) = y := by unfold aZ; rw [hy]; rfl
        rw [this, hcd]; omega
      have hkl := D.kl
      refine ⟨lr1, R2, rfl, SqL.of er6, by omega, fun m r tm hr' => ?_⟩
      have hmlt : m < Rz.length := by
        rcases Nat.lt_or_ge m Rz.length with z | z
        · exact z
        · have hm := tm.le
          have hm' : m = Rz.length := by omega
          have hg2 : R2[m - 1]? = some R2[m - 1] := List.getElem?_eq_getElem (by omega)
          refine absurd ?_ (tm.last (by omega) _ hg2)
          unfold aZ at last0
          rw [← hm', hg2] at last0
          exact last0
      have bits : ∀ v ∈ R2, Int.natAbs v < 2 ^ (W1 + (kst + 1) * (W2 + 1)) := fun v hv => by
        obtain ⟨k, hk⟩ := List.mem_iff_getElem?.mp hv
        have ev : v = aZ R2 k := by unfold aZ; rw [hk]; rfl
        rw [ev, hRk]
        have b1 : (c * aZ Rz k).natAbs < 2 ^ (W1 + kst * (W2 + 1) + W2) := by
          rw [Int.natAbs_mul, Nat.mul_comm, Nat.pow_add]
          exact Nat.mul_lt_mul'' (au0 D.rb k) cb
        have b2 : (if t ≤ k then d * aZ other (k - t) else 0).natAbs < 2 ^ (W1 + kst * (W2 + 1) + W2) := by
          split
          · rw [Int.natAbs_mul, Nat.pow_add]
            exact Nat.mul_lt_mul'' (by omega) (au0 hw2 _)
          · exact Nat.two_pow_pos _
        have e : W1 + (kst + 1) * (W2 + 1) = W1 + kst * (W2 + 1) + W2 + 1 := by rw [Nat.succ_mul]; omega
        rw [e, Nat.pow_succ]
        omega
      have Sr := d5.new hr' (.lst ((R2.take m).map V.int))
      have tml : (R2.take m).length = m := by rw [List.length_take]; have := tm.le; omega
      have bq : ∀ v ∈ (Qz.map (c * ·)).set t d, Int.natAbs v < 2 ^ (W1 + (kst + 1) * (W2 + 1)) := fun v hv => by
        have e : W1 + (kst + 1) * (W2 + 1) = W1 + kst * (W2 + 1) + (W2 + 1) := by rw [Nat.succ_mul]; omega
        rcases List.mem_or_eq_of_mem_set hv with h | h
        · obtain ⟨u, hu, rfl⟩ := List.mem_map.mp h
          rw [Int.natAbs_mul, Nat.mul_comm, e, Nat.pow_add]
          exact Nat.mul_lt_mul'' (D.qb u hu) (N4 cb (by omega))
        · rw [h]
          exact Nat.lt_of_le_of_lt db (N4 yb (by omega))
      refine WhN.mk ⟨kst + 1, lq1, r, many * c, _, R2.take m, _, _, _, _, _, rfl, ⟨s6.trans Sr, fq1, s6.free hr', g6 eq6 hr', Sr _ _ eq6, b8, ?_, ?_, bq, fun v hv => bits v (List.mem_of_mem_take hv), by omega, .inr (by omega), fun z => absurd z (by omega), tm.self, by rw [List.length_set, List.length_map]; exact D.ql, fun i hi => ?_, fun _ v hv => ?_, ?_, fun hx => ?_⟩⟩ ?_
      · exact Int.le_trans (show (1 : Int) ≤ 1 * 1 by decide) (Int.mul_le_mul D.m1 c1 (by decide) (by have := D.m1; omega))
      · rw [Int.natAbs_mul, show (kst + 1) * W2 + 1 = (kst * W2 + 1) + W2 by rw [Nat.succ_mul]; omega, Nat.pow_add]
        exact Nat.mul_lt_mul'' D.mb cb
      · rw [tml] at hi
        unfold aZ
        rw [List.getElem?_set, if_neg (by omega), List.getElem?_map]
        have := D.qz i (by omega)
        unfold aZ at this
        cases g : Qz[i]? with
        | none => rfl
        | some u =>
          rw [g] at this
          simp only [Option.getD_some] at this
          simp [this]
      · rw [List.length_set, List.length_map, List.getElem?_set] at hv
        by_cases z : t = Qz.length - 1
        · rw [if_pos z, if_pos (by rw [List.length_map]; omega)] at hv
          cases hv; exact d0
        · rw [if_neg z, List.getElem?_map] at hv
          have hk0 : kst ≠ 0 := fun w => by
            have := D.k0 w
            have := D.ql
            omega
          cases g : Qz[Qz.length - 1]? with
          | none => rw [g] at hv; cases hv
          | some u =>
            rw [g] at hv
            cases hv
            exact Int.mul_ne_zero (by omega) (D.qlast hk0 u g)
      · refine bh7 D.dv htq (D.qz t (by omega)) fun k => ?_
        rw [aE2 tm]; exact hRk k
      · have mm := D.ex hx
        have dv1 := D.dv
        rw [mm] at dv1
        have ey : y = aZ Rz (t + n) := by
          unfold aZ
          rw [show t + n = Rz.length - 1 by omega, hy]; rfl
        have cc := cl1 (by rw [hlead, ey]; exact bb5 hx dv1 hl2 h0 ht)
        rw [mm, cc]; rfl
      · rw [aI1 (r := r) rfl b8, aI1 (r := lr) rfl D.er, List.length_map, List.length_map, tml]
        exact hmlt
    · have hlt' : Rz.length ≤ n := by
        have : ¬ ((n + 1 : Nat) : Int) ≤ (Rz.length : Int) := by simpa using hlt
        omega
      have hkS : kst ≤ S := by rcases D.ks with z | z <;> omega
      refine hN _ _ ⟨lq, lr, many, Qz, Rz, o6, o7, o8, o9, o10, rfl, D.same, D.fq, D.fr, D.nqr, D.eq, D.er, D.m1, Nat.lt_of_lt_of_le D.mb (d7 (by have := Nat.mul_le_mul_right W2 hkS; omega)), fun v hv => Nat.lt_of_lt_of_le (D.qb v hv) (d7 (by have := Nat.mul_le_mul_right (W2 + 1) hkS; omega)), fun v hv => Nat.lt_of_lt_of_le (D.rb v hv) (d7 (by have := Nat.mul_le_mul_right (W2 + 1) hkS; omega)), hlt', D.rt, D.ql, ?_, D.dv, D.ex⟩
      refine ⟨Nat.le_refl _, (fun i v hi h => by rw [List.getElem?_eq_none hi] at h; cases h), fun hq v hv => ?_⟩
      by_cases z : kst = 0
      · have := D.k0 z
        rw [D.ql] at hq; omega
      · exact D.qlast z v hv
  rintro σ H3 ⟨lq, lr, many, Qz, Rz, o6, o7, o8, o9, o10, rfl, s3, fq, fr, nqr, eq, er, m1, mb, qb, rb, rl, rt, ql, qt, dv, ex⟩
  subst_eqs
  refine ⟨be8, fun p hp => ?_⟩
  have Sp := d5.new hp (.tup [.int many, .ref lq, .ref lr])
  exact k p lq lr many Qz Rz _ (s3.trans Sp) fq fr nqr b8 (Sp _ _ eq) (Sp _ _ er) m1 mb qb rb rl rt ql qt dv ex
theorem ai7 {f f1 : Addr} (d : Df K mg "whole_divided" q8 ["one", "other"] f) (G_trimmed : Def P w K mg base CX0 1 "trimmed" f1 ["wholes"] (ae6 K)) (n_len : mg "len" = none) (n_max : mg "max" = none) (n_list : mg "list" = none) (n_abs : mg "abs" = none) (n_enumerate : mg "enumerate" = none) : Def P w K mg base CX0 2 "whole_divided" f ["one", "other"] (bq1 K) :=
  (ag2 d G_trimmed n_len n_max n_list n_abs n_enumerate).imp (by
    rintro vs H Q E ⟨a, b, one, other, n, S, W1, W2, h1, h2, h3, h4, h5, h6, h7, h8, h9, h10, h11, h12, h13, k⟩
    exact ⟨a, b, one, other, n, S, W1, W2, h1, h2, h3, h4, h5, h6, h7, h8, h9, h10, h11, h12, h13, fun r lq lr many Qz Rz H' x1 x2 x3 x4 x5 x6 x7 x8 x9 x10 x11 x12 x13 x14 x15 x16 _ => k r lq lr many Qz Rz H' x1 x2 x3 x4 x5 x6 x7 x8 x9 x10 x11 x12 x13 x14 x15 x16⟩)
end
theorem bc3 {q : Rat} {n : Nat} (h : q ≠ 0) (b : BdN n q) : BdN n q⁻¹ := by
  obtain ⟨e1, e2⟩ := aj1 q (fun z => h (W4.mp z))
  constructor
  · rw [e1]
    split
    · rw [Int.natAbs_neg, Int.natAbs_natCast]; exact b.d
    · rw [Int.natAbs_natCast]; exact b.d
  · have : (q⁻¹).den = q.num.natAbs := by split at e2 <;> omega
    rw [this]; exact b.n
theorem aM1 {v : Int} {n : Nat} (h : v.natAbs < 2 ^ n) (hn : 1 ≤ n) : BdN n ((v : Int) : Rat) := ⟨by rw [Rat.num_intCast]; exact h, by rw [Rat.den_intCast]; exact Nat.lt_of_lt_of_le (show 1 < 2 ^ 1 by decide) (d7 hn)⟩
theorem ba3 {n : Nat} (hn : 1 ≤ n) : BdN n (1 : Rat) := ⟨Nat.lt_of_lt_of_le (show 1 < 2 ^ 1 by decide) (d7 hn), Nat.lt_of_lt_of_le (show 1 < 2 ^ 1 by decide) (d7 hn)⟩
theorem bp4 {ws : List Int} (t : B7 ws ws.length) (h : ws ≠ []) : ∃ v ∈ ws, v ≠ 0 := by
  have hp : 0 < ws.length := List.length_pos_iff.mpr h
  have hg := List.getElem?_eq_getElem (l := ws) (show ws.length - 1 < ws.length by omega)
  exact ⟨_, List.mem_of_getElem? hg, t.last (by omega) _ hg⟩
section
variable {P : Program} {w : World} {K : PySem.W.Frag} {mg : Str → Option Value} {base : Heap}
def ai1 (K : PySem.W.Frag) : Sp := fun vs H Q _ => ∃ (x : V) (s : Rat) (a : Addr) (ws : List Int) (W b : Nat), vs = [x, .ref a] ∧ Num K H x s ∧ BdN b s ∧ s ≠ 0 ∧ SqL K H a (ws.map V.int) ∧ (∀ v ∈ ws, Int.natAbs v < 2 ^ W) ∧ 1 ≤ W ∧ b + W ≤ 5999 ∧ ws.length ≤ 100 ∧ B7 ws ws.length ∧
  ∀ r rs l s' ws' H', d5 H H' → H l = none → H' r = some (.tup [.ref rs, .ref l]) → SqT K H' rs (w9 s') → H' l = some (.lst (ws'.map V.int)) → BdN (b + W + 1) s' → s' ≠ 0 → (∀ v ∈ ws', Int.natAbs v < 2 ^ W) → ws'.length = ws.length → scl s' ws' = scl s ws → (ws' ≠ [] → t7 ws' = 1) → Q (.ref r) H'
abbrev Q7 : Stmt := top 42
theorem ax3 : i3 ["scale", "wholes", "content"] ["scale", "wholes"] (b9 Q7) := by clean_wf
set_option maxHeartbeats 0 in
theorem aL3 {f f1 f2 : Addr} (d : Df K mg "formed" Q7 ["scale", "wholes"] f) (G_content_of : Def P w K mg base CX0 2 "content_of" f1 ["wholes"] (ai2 K)) (G_times : Def P w K mg base CX0 2 "times" f2 ["one", "other"] (aO0 K (· * ·))) {aN : Addr} (c_ONE : mg "ONE" = some (.ref aN)) (tN : ∀ H, SqT K H aN (w9 1)) : Def P w K mg base CX0 3 "formed" f ["scale", "wholes"] (ai1 K) := by
  refine d.ok (N := ["scale", "wholes", "content"]) ax3 (by rintro vs H Q E ⟨_, _, _, _, _, _, h, _⟩; rw [h]; rfl) (fun cdv A outer s H vs Q E hr h => ?_)
  obtain ⟨x, sc, a, ws, W, b, rfl, hx, bs, s0, hS, hW, hW1, hbW, hl, ht, k⟩ := h
  refine ⟨_, (d3 (z9 (B3 (B4 (pv 1) (fun _ => rfl))) (d6 (g7 (u0 (b6 (p8 (v := .ref _) rfl c_ONE rfl) (b6 (w8 b7) b7))))) m6)
      (d3 (i7 (i := 2) ax3.nd rfl (Or.inr rfl) (d9 G_content_of hr (b6 (pv 1) b7) i0))
      (d6 (g7 (u0 (b6 (d9 G_times hr (b6 (pv 0) (b6 (u0 (b6 (pv 2) (b6 d4 b7))) b7)) i0) (b6 (M0 (Nc := ["content", "whole"]) (caps := [some 2, none]) rfl (V9.of (osc := b9 Q7) (N := ["scale", "wholes", "content"]) (ks := ["content"]) rfl rfl rfl rfl (Q3 rfl C5) (by decide +kernel)) (B2 (pv 1)) (fun C s₂ H₂ fp pins => (e8 (i := 1) (show List.Nodup (["content", "whole"] : List Str) by decide +kernel) rfl (Or.inl rfl) (Or.inr rfl))) (fun C s₂ H₂ fp pins => (e9 B5 (pv 1) (pv 0)))) b7))))))), ?_⟩
  rw [show start ["scale", "wholes", "content"] [x, .ref a] = [some (x), some (.ref a), none] from rfl]
  simp! [Y9]
  refine ⟨_, .inl ⟨_, hS, rfl⟩, v7 (fun h0 => ?_) (fun h0 => ?_)⟩
  · have hw0 : ws = [] := by
      cases ws with
      | nil => rfl
      | cons a l => simp at h0
    subst hw0
    refine ⟨by decide, fun p hp => ⟨v8, fun p1 hp1 => ?_⟩⟩
    have S1 := d5.new hp (.lst [])
    have S2 := d5.new hp1 (.tup [.ref aN, .ref p])
    exact k p1 aN p 1 [] _ (S1.trans S2) hp b8 (tN _) (S2 _ _ b8) (ba3 (by omega)) (by decide) (by simp) rfl rfl (fun z => absurd rfl z)
  have hne' : ws ≠ [] := fun z => h0 (by rw [z]; rfl)
  obtain ⟨v0, hv0, hne⟩ := bp4 ht hne'
  have hc : t7 ws ≠ 0 := aP1 hv0 hne
  have cpos : (0 : Int) < (t7 ws : Nat) := by omega
  have cle : t7 ws < 2 ^ W := by
    obtain ⟨e, he⟩ := K9 hv0
    have w1 := hW _ hv0
    rw [he, Int.natAbs_mul, Int.natAbs_natCast] at w1
    have e0 : e.natAbs ≠ 0 := fun z => hne (by rw [he, show e = 0 by omega, Int.mul_zero])
    exact Nat.lt_of_le_of_lt (Nat.le_mul_of_pos_right _ (by omega)) w1
  have bc : BdN (W + 1) (((t7 ws : Nat) : Int) : Rat) := aM1 (by rw [Int.natAbs_natCast]; exact N4 cle (by omega)) (by omega)
  refine ⟨a, ws, rfl, hS, fun v hv => N4 (hW v hv) (by omega), v8, fun p hp => ?_⟩
  have S1 := d5.new hp (.tup [.int (t7 ws : Nat), .int 1])
  have e1 : (upd H p (.tup [.int (t7 ws : Nat), .int 1])) p = some (.tup (w9 (((t7 ws : Nat) : Int) : Rat))) := by
    rw [b8]; unfold w9; rw [Rat.num_intCast, Rat.den_intCast]; rfl
  refine ⟨_, _, _, _, rfl, hx.same S1, ⟨p, rfl, SqT.of e1⟩, bs.bd6 (by omega), bc.bd6 (by omega), fun rs H2 s2 e2 => ?_⟩
  have S2 := S1.trans s2
  refine ⟨⟨_, S2.seq hS⟩, fun D hD => ?_⟩
  refine K6 (ws.map V.int) (fun i σ H3 => ∃ o, σ = [some (.int (t7 ws : Nat)), o] ∧ d5 H2 H3 ∧ H3 D = some (.lst (((ws.take i).map fun v => v.fdiv (t7 ws : Nat)).map V.int))) ⟨_, rfl, d5.new hD _, b8⟩ (fun i σ H3 _ ⟨_, _, s3, _⟩ => (S2.trans s3).seq hS) ?_ ?_
  · rintro i y σ H3 hy ⟨o, rfl, s3, e3⟩
    have hi := (List.getElem?_eq_some_iff.mp hy).1
    obtain ⟨v, hv, rfl⟩ := K8 hy
    subst_eqs
    refine ⟨R0 (by omega) (by rw [Int.natAbs_natCast]; exact N4 cle (by omega)), N5.mk hi e3 ?_ ⟨_, rfl, s3.over hD _, ?_⟩⟩
    · simp only [List.length_map, List.length_take]
      exact Nat.lt_of_le_of_lt (show _ ≤ 100 by omega) (by decide)
    · rw [b8, List.take_succ, hv]
      simp
  · rintro σ H3 ⟨o, rfl, s3, e3⟩
    rw [List.length_map, List.take_length] at e3
    refine ⟨v8, fun r hr' => ?_⟩
    have S4 := d5.new hr' (.tup [.ref rs, .ref D])
    refine k r rs D (sc * (((t7 ws : Nat) : Int) : Rat)) (ws.map fun v => v.fdiv (t7 ws : Nat)) _ (S2.trans (s3.trans S4)) (S2.free hD) b8 (SqT.of (S4 _ _ (s3 _ _ e2))) (S4 _ _ e3) ((bs.mul bc).mono (by omega)) ?_ ?_ (by simp) ?_ (fun _ => ay4 hc)
    · intro z
      have hz : (((t7 ws : Nat) : Int) : Rat) ≠ 0 := fun w => hc (by
        have := congrArg Rat.num w
        rw [Rat.num_intCast] at this
        have h00 : (0 : Rat).num = 0 := rfl
        omega)
      have := Rat.mul_inv_cancel _ hz
      generalize (((t7 ws : Nat) : Int) : Rat)⁻¹ = u at this
      generalize (((t7 ws : Nat) : Int) : Rat) = y at *
      exact s0 (by grind)
    · intro v hv
      obtain ⟨v', hv', rfl⟩ := List.mem_map.mp hv
      exact ad9 cpos (K9 hv') (hW v' hv')
    · unfold scl
      rw [List.map_map]
      refine List.map_congr_left fun v hv => ?_
      obtain ⟨e, he⟩ := K9 hv
      have e1 : v.fdiv ((t7 ws : Nat) : Int) = e := by
        conv => lhs; arg 1; rw [he]
        exact j2 (by omega)
      show sc * (((t7 ws : Nat) : Int) : Rat) * ((v.fdiv ((t7 ws : Nat) : Int) : Int) : Rat) = sc * (v : Rat)
      rw [e1]
      conv => rhs; rw [he]
      rw [Rat.intCast_mul, Rat.mul_assoc]
def br8 (K : PySem.W.Frag) (H : Hp) (r : Addr) (s : Rat) (ws : List Int) : Prop := ∃ rs l, SqT K H r [.ref rs, .ref l] ∧ SqT K H rs (w9 s) ∧ SqL K H l (ws.map V.int)
abbrev C3 : Stmt := top 45
theorem F6 : i3 ["one", "other", "scale", "many", "quotient", "rest"] ["one", "other"] (b9 C3) := by clean_wf
end
section
variable {P : Program} {w : World} {K : PySem.W.Frag} {mg : Str → Option Value} {base : Heap}
def bp9 (K : PySem.W.Frag) : Sp := fun vs H Q _ => ∃ (a b : Addr) (ps qs : List Int) (W1 W2 : Nat), vs = [.ref a, .ref b] ∧ SqL K H a (ps.map V.int) ∧ SqL K H b (qs.map V.int) ∧ ps.length ≤ 20 ∧ qs.length ≤ 20 ∧ (∀ v ∈ ps, Int.natAbs v < 2 ^ W1) ∧ (∀ v ∈ qs, Int.natAbs v < 2 ^ W2) ∧ W1 + W2 ≤ 20000 ∧
  ∀ r H', d5 H H' → H r = none → H' r = some (.lst ((W5 ps qs).map V.int)) → Q (.ref r) H'
abbrev C9 : Stmt := top 40
theorem D9 : i3 ["one", "other", "product", "place", "whole", "further", "factor"] ["one", "other"] (b9 C9) := by clean_wf
set_option maxHeartbeats 0 in
theorem ar2 {f : Addr} (d : Df K mg "whole_times" C9 ["one", "other"] f) (n_len : mg "len" = none) (n_enumerate : mg "enumerate" = none) : Def P w K mg base CX0 1 "whole_times" f ["one", "other"] (bp9 K) := by
  refine d.ok (N := ["one", "other", "product", "place", "whole", "further", "factor"]) D9 (fun vs H Q E ⟨a, b, c, e, _, _, h, _⟩ => by rw [h]; rfl) (fun cdv A outer s H vs Q E hr h => ?_)
  obtain ⟨a, b, ps, qs, W1, W2, rfl, hS, hS', hl, hl', hp, hq, hW, k⟩ := h
  refine ⟨_, (d3 (z9 (PW.pt (T9 (B3 (B4 (pv 0) (fun _ => rfl))) (V6 (B3 (B4 (pv 1) (fun _ => rfl)))))) (d6 (g7 (w8 b7))) m6)
      (d3 (i7 (i := 2) D9.nd rfl (Or.inl rfl) (e9 aB6 (w8 (b6 d4 b7)) (e9 M9 (e9 E1 (d8 i6 rfl n_len (by decide +kernel) (b6 (pv 0) b7)) (d8 i6 rfl n_len (by decide +kernel) (b6 (pv 1) b7))) d4)))
      (d3 (J4 PassesOwn.never rfl (V4 rfl n_enumerate (b6 (pv 0) b7)) (show PG _ _ (N6 K 2 (n8 (j9 3) (n8 (j9 4) N7))) from by (refine B9 (n := 2) ?_ ?_ ?_ ?_; rfl; (refine g8 ?_ ?_ ?_; (exact (e8 (i := 3) D9.nd rfl (Or.inl rfl))); (refine g8 ?_ ?_ ?_; (exact (e8 (i := 4) D9.nd rfl (Or.inl rfl))); (exact w4); rfl); rfl); rfl; rfl)) (d6 (J4 PassesOwn.never rfl (V4 rfl n_enumerate (b6 (pv 1) b7)) (show PG _ _ (N6 K 2 (n8 (j9 5) (n8 (j9 6) N7))) from by (refine B9 (n := 2) ?_ ?_ ?_ ?_; rfl; (refine g8 ?_ ?_ ?_; (exact (e8 (i := 5) D9.nd rfl (Or.inl rfl))); (refine g8 ?_ ?_ ?_; (exact (e8 (i := 6) D9.nd rfl (Or.inl rfl))); (exact w4); rfl); rfl); rfl; rfl)) (d6 (aB3 (pv 2) (e9 E1 (pv 3) (pv 5)) as5 (e9 w5 (pv 4) (pv 6)) bc1 O1)))))
      (d6 (g7 (pv 2)))))), ?_⟩
  rw [show start ["one", "other", "product", "place", "whole", "further", "factor"] [.ref a, .ref b] = [some (.ref a), some (.ref b), none, none, none, none, none] from rfl]
  simp! [Y9]
  refine ⟨_, .inl ⟨_, hS, rfl⟩, v7 (fun h0 => ⟨by decide, fun p hp => k p _ (d5.new hp _) hp ?_⟩) (fun h0 => ?_)⟩
  · have : ps = [] := by cases ps <;> simp_all
    rw [b8, this]; simp [W5]
  refine ⟨_, .inl ⟨_, hS', rfl⟩, v7 (fun h1 => ⟨by decide, fun p hp => k p _ (d5.new hp _) hp ?_⟩) (fun h1 => ?_)⟩
  · have : qs = [] := by cases qs <;> simp_all
    rw [b8, this]; simp [W5]
  have np : ps ≠ [] := fun z => h0 (by rw [z]; rfl)
  have nq : qs ≠ [] := fun z => h1 (by rw [z]; rfl)
  refine ⟨ap5, fun p hp0 => ⟨_, .inl ((d5.new hp0 _).seq hS), _, .inl ((d5.new hp0 _).seq hS'), _, b8, ?_, ?_, ?_, fun p1 hp1 => ?_⟩⟩
  · simp only [List.length_map]; omega
  · simp only [List.length_map]; omega
  · simp only [List.length_map, List.length_cons, List.length_nil]
    exact Nat.le_trans (show _ ≤ 40 by omega) (by decide)
  have hz : (List.replicate (((ps.map V.int).length : Int) + ((qs.map V.int).length : Int) - 1).toNat [V.int 0]).flatten = (List.replicate (ps.length + qs.length - 1) (0 : Int)).map V.int := by
    have e : (((ps.map V.int).length : Int) + ((qs.map V.int).length : Int) - 1).toNat = ps.length + qs.length - 1 := by simp only [List.length_map]; omega
    rw [e, List.map_replicate, List.flatten_replicate_singleton]
  rw [hz]
  have hp1' : H p1 = none := aH9 hp1
  have S0 : d5 H (upd (upd H p (.lst [.int 0])) p1 (.lst ((List.replicate (ps.length + qs.length - 1) (0 : Int)).map V.int))) := (d5.new hp0 _).trans (d5.new hp1 _)
  refine ⟨_, rfl, a, rfl, ⟨_, S0.seq hS⟩, W7 (ps.map V.int) (fun i σ H2 => ∃ o3 o4 o5 o6, σ = [some (.ref a), some (.ref b), some (.ref p1), o3, o4, o5, o6] ∧ d5 H H2 ∧ H2 p1 = some (.lst ((u8 0 (List.replicate (ps.length + qs.length - 1) (0 : Int)) ps qs i).map V.int)))
    ⟨_, _, _, _, rfl, S0, b8⟩ (fun i σ H2 ⟨_, _, _, _, _, s2, _⟩ => s2.seq hS) ?_ ?_⟩
  · rintro i x σ H2 r hx ⟨o3, o4, o5, o6, rfl, s2, e2⟩ hr
    obtain ⟨v, hv, rfl⟩ := K8 hx
    have hi := (List.getElem?_eq_some_iff.mp hv).1
    have S3 := s2.trans (d5.new hr (.tup [.int i, .int v]))
    have e3 := d5.new hr (.tup [.int i, .int v]) _ _ e2
    refine ⟨_, _, rfl, SqT.of b8, rfl, _, _, rfl, _, _, rfl, rfl, ?_⟩
    refine ⟨_, rfl, b, rfl, ⟨_, S3.seq hS'⟩, W7 (qs.map V.int) (fun j σ H4 => ∃ o5 o6, σ = [some (.ref a), some (.ref b), some (.ref p1), some (.int i), some (.int v), o5, o6] ∧ d5 H H4 ∧ H4 p1 = some (.lst ((p5 0 (u8 0 (List.replicate (ps.length + qs.length - 1) (0 : Int)) ps qs i) i v qs j).map V.int)))
      ⟨_, _, rfl, S3, e3⟩ (fun i σ H2 ⟨_, _, _, s2, _⟩ => s2.seq hS') ?_ ?_⟩
    · rintro j y σ H4 t hy ⟨o5, o6, rfl, s4, e4⟩ ht
      obtain ⟨u, hu, rfl⟩ := K8 hy
      have hj := (List.getElem?_eq_some_iff.mp hu).1
      have e5 := d5.new ht (.tup [.int j, .int u]) _ _ e4
      subst_eqs
      have hF : i + j < (p5 0 (u8 0 (List.replicate (ps.length + qs.length - 1) (0 : Int)) ps qs i) i v qs j).length := by
        rw [S7, R9, List.length_replicate]; omega
      have ec : (i : Int) + (j : Int) = ((i + j : Nat) : Int) := by omega
      have eg := List.getElem?_eq_getElem hF
      refine ⟨_, SqT.of b8, rfl, _, _, rfl, _, _, rfl, rfl, _, rfl, _, SqL.of e5, _, (by rw [ec]; exact P9 (by rw [List.getElem?_map, eg]; rfl)), _, rfl, Q8 (hp v (List.mem_of_getElem? hv)) (hq u (List.mem_of_getElem? hu)) (by omega), _, rfl, _, e5, i + j, ?_, (s4.trans (d5.new ht _)).over hp1' _, ?_⟩
      · rw [ec, List.length_map]
        unfold ixN
        rw [if_pos (by omega), if_pos (by omega)]
        rfl
      · rw [b8, ← List.map_set, X3 _ _ _ _ eg, p5, hu]
        rfl
    · rintro σ H4 ⟨o5, o6, rfl, s4, e4⟩
      refine ⟨_, _, _, _, rfl, s4, ?_⟩
      rw [List.length_map] at e4
      rw [e4, u8, hv]
      rfl
  · rintro σ H2 ⟨o3, o4, o5, o6, rfl, s2, e2⟩
    refine ⟨_, rfl, k p1 H2 s2 hp1' ?_⟩
    rw [List.length_map] at e2
    rw [e2, W5, if_neg (by simp [np, nq])]
end
section
variable {P : Program} {w : World} {K : PySem.W.Frag} {mg : Str → Option Value} {base : Heap}
def aw7 (K : PySem.W.Frag) : Sp := fun vs H Q _ => ∃ (c : Int) (a : Addr) (ws : List Int) (m m2 : Nat), vs = [.int c, .ref a] ∧ SqL K H a (ws.map V.int) ∧ ws.length ≤ 40 ∧ c.natAbs < 2 ^ m2 ∧ (∀ v ∈ ws, Int.natAbs v < 2 ^ m) ∧ m + m2 ≤ 20000 ∧
  ∀ r zs H', d5 H H' → H r = none → H' r = some (.lst (zs.map V.int)) → B7 zs zs.length → zs.length ≤ ws.length → (∀ k, aZ zs k = c * aZ ws k) → Q (.ref r) H'
abbrev A8 : Stmt := top 39
theorem al8 : i3 ["factor", "wholes"] ["factor", "wholes"] (b9 A8) := by clean_wf
set_option maxHeartbeats 0 in
theorem am0 {f f1 : Addr} (d : Df K mg "whole_scaled" A8 ["factor", "wholes"] f) (G_trimmed : Def P w K mg base CX0 1 "trimmed" f1 ["wholes"] (ae6 K)) : Def P w K mg base CX0 2 "whole_scaled" f ["factor", "wholes"] (aw7 K) := by
  refine d.ok (N := ["factor", "wholes"]) al8 (by rintro vs H Q E ⟨_, _, _, _, _, h, _⟩; rw [h]; rfl) (fun cdv A outer s H vs Q E hr h => ?_)
  obtain ⟨c, a, ws, m, m2, rfl, hS, hl, hc, hw, hm, k⟩ := h
  refine ⟨_, (d6 (g7 (d9 G_trimmed hr (b6 (M0 (Nc := ["factor", "whole"]) (caps := [some 0, none]) rfl (V9.of (osc := b9 A8) (N := ["factor", "wholes"]) (ks := ["factor"]) rfl rfl rfl rfl (Q3 rfl C5) (by decide +kernel)) (B2 (pv 1)) (fun C s₂ H₂ fp pins => (e8 (i := 1) (show List.Nodup (["factor", "whole"] : List Str) by decide +kernel) rfl (Or.inl rfl) (Or.inr rfl))) (fun C s₂ H₂ fp pins => (e9 w5 (pv 0) (pv 1)))) b7) i0))), ?_⟩
  rw [show start ["factor", "wholes"] [.int c, .ref a] = [some (.int c), some (.ref a)] from rfl]
  subst_eqs
  refine ⟨⟨_, hS⟩, fun D hD => ?_⟩
  refine K6 (ws.map V.int) (fun i σ H3 => ∃ o, σ = [some (.int c), o] ∧ d5 H H3 ∧ H3 D = some (.lst (((ws.take i).map (c * ·)).map V.int))) ⟨_, rfl, d5.new hD _, b8⟩ (fun i σ H3 _ ⟨_, _, s3, _⟩ => s3.seq hS) ?_ ?_
  · rintro i y σ H3 hy ⟨o, rfl, s3, e3⟩
    have hi := (List.getElem?_eq_some_iff.mp hy).1
    obtain ⟨v, hv, rfl⟩ := K8 hy
    subst_eqs
    refine ⟨Q8 hc (hw v (List.mem_of_getElem? hv)) (by omega), N5.mk hi e3 ?_ ⟨_, rfl, s3.over hD _, ?_⟩⟩
    · simp only [List.length_map, List.length_take]
      exact Nat.lt_of_le_of_lt (show _ ≤ 100 by omega) (by decide)
    · rw [b8, List.take_succ, hv]
      simp
  · rintro σ H3 ⟨o, rfl, s3, e3⟩
    rw [List.length_map, List.take_length] at e3
    refine ⟨D, ws.map (c * ·), rfl, SqL.of e3, by rw [List.length_map]; omega, fun n r tn hr' => ?_⟩
    refine k r ((ws.map (c * ·)).take n) _ (s3.trans (d5.new hr' _)) (s3.free hr') b8 tn.self (by rw [List.length_take, List.length_map]; omega) fun k => ?_
    rw [aE2 tn]
    unfold aZ
    rw [List.getElem?_map]
    cases ws[k]? with
    | none => simp
    | some v => simp
def aW5 (K : PySem.W.Frag) : Sp := fun vs H Q _ => ∃ (a b : Addr) (ps qs : List Int), vs = [.ref a, .ref b] ∧ SqL K H a (ps.map V.int) ∧ SqL K H b (qs.map V.int) ∧ ps.length ≤ 40 ∧ qs.length ≤ 40 ∧
  ∀ r zs H', d5 H H' → H r = none → H' r = some (.lst (zs.map V.int)) → B7 zs zs.length → zs.length ≤ max ps.length qs.length → (∀ k, aZ zs k = aZ ps k + aZ qs k) → Q (.ref r) H'
def am5 (f : List Int) (q : List Int) : Nat → List Int
  | 0 => f
  | j + 1 => L8 (am5 f q j) j (aZ q j)
theorem aa5 (f q : List Int) : ∀ j, (am5 f q j).length = f.length
  | 0 => rfl
  | j + 1 => by rw [am5, aj6, aa5 f q j]
theorem aJ6 (f q : List Int) {k : Nat} (y : Int) (hy : f[k]? = some y) : ∀ j, (am5 f q j)[k]? = some (y + if k < j then aZ q k else 0)
  | 0 => by rw [am5, hy, if_neg (by omega)]; congr 1; omega
  | j + 1 => by
    have ih := aJ6 f q y hy j
    rw [am5]
    by_cases e : k = j
    · subst e
      rw [U7 _ _ _ _ ih, if_neg (by omega), if_pos (by omega)]
      congr 1; omega
    · rw [Q9 _ _ _ _ e, ih]
      by_cases h : k < j
      · rw [if_pos h, if_pos (by omega)]
      · rw [if_neg h, if_neg (by omega)]
theorem bi5 {f q : List Int} (h : q.length ≤ f.length) (k : Nat) : aZ (am5 f q q.length) k = aZ f k + aZ q k := by
  by_cases hk : k < f.length
  · have hg := List.getElem?_eq_getElem hk
    have := aJ6 f q _ hg q.length
    unfold aZ
    rw [this, hg]
    simp only [Option.getD_some]
    by_cases h2 : k < q.length
    · rw [if_pos h2]; rfl
    · rw [if_neg h2, List.getElem?_eq_none (by omega)]; rfl
  · unfold aZ
    rw [List.getElem?_eq_none (by rw [aa5]; omega), List.getElem?_eq_none (by omega), List.getElem?_eq_none (by omega)]; rfl
abbrev G4 : Stmt := top 38
theorem O2 : i3 ["one", "other", "total", "place", "whole"] ["one", "other"] (b9 G4) := by clean_wf
set_option maxHeartbeats 0 in
theorem aB7 {f f1 : Addr} (d : Df K mg "whole_sum" G4 ["one", "other"] f) (G_trimmed : Def P w K mg base CX0 1 "trimmed" f1 ["wholes"] (ae6 K)) (n_len : mg "len" = none) (n_list : mg "list" = none) (n_enumerate : mg "enumerate" = none) : Def P w K mg base CX0 2 "whole_sum" f ["one", "other"] (aW5 K) := by
  refine d.ok (N := ["one", "other", "total", "place", "whole"]) O2 (by rintro vs H Q E ⟨_, _, _, _, h, _⟩; rw [h]; rfl) (fun cdv A outer s H vs Q E hr h => ?_)
  obtain ⟨a0, b0, ps0, qs0, rfl, hS0, hS0', hl0, hl0', k0⟩ := h
  refine ⟨_, (d3 (z9 (j6 ak5 (d8 i6 rfl n_len (by decide +kernel) (b6 (pv 0) b7)) (d8 i6 rfl n_len (by decide +kernel) (b6 (pv 1) b7)) (j8 _)) (d6 (X9 (i := 0) (j := 1) rfl O2.nd rfl rfl (by decide) rfl rfl (b6 (pv 1) (b6 (pv 0) b7)) rfl)) m6)
      (d3 (i7 (i := 2) O2.nd rfl (Or.inl rfl) (K2 C8 rfl n_list (by decide +kernel) (b6 (pv 0) b7)))
      (d3 (J4 PassesOwn.never rfl (V4 rfl n_enumerate (b6 (pv 1) b7)) (show PG _ _ (N6 K 2 (n8 (j9 3) (n8 (j9 4) N7))) from by (refine B9 (n := 2) ?_ ?_ ?_ ?_; rfl; (refine g8 ?_ ?_ ?_; (exact (e8 (i := 3) O2.nd rfl (Or.inl rfl))); (refine g8 ?_ ?_ ?_; (exact (e8 (i := 4) O2.nd rfl (Or.inl rfl))); (exact w4); rfl); rfl); rfl; rfl)) (d6 (aB3 (pv 2) (pv 3) as5 (pv 4) bc1 O1)))
      (d6 (g7 (d9 G_trimmed hr (b6 (pv 2) b7) i0)))))), ?_⟩
  rw [show start ["one", "other", "total", "place", "whole"] [.ref a0, .ref b0] = [some (.ref a0), some (.ref b0), none, none, none] from rfl]
  refine i9 (fun σ H1 => ∃ a b ps qs, σ = [some (.ref a), some (.ref b), none, none, none] ∧ H = H1 ∧ SqL K H a (ps.map V.int) ∧ SqL K H b (qs.map V.int) ∧ ps.length ≤ 40 ∧ qs.length ≤ ps.length ∧ ps.length ≤ max ps0.length qs0.length ∧ (∀ k, aZ ps k + aZ qs k = aZ ps0 k + aZ qs0 k)) (fun N hN => ?_) ?_
  · subst_eqs
    refine ⟨_, .inl hS0, _, .inl hS0', v7 (fun h => ?_) (fun h => ?_)⟩
    · rw [List.length_map, List.length_map] at h
      exact hN _ _ ⟨b0, a0, qs0, ps0, rfl, rfl, hS0', hS0, hl0', by omega, by omega, fun k => Int.add_comm _ _⟩
    · rw [List.length_map, List.length_map] at h
      exact hN _ _ ⟨a0, b0, ps0, qs0, rfl, rfl, hS0, hS0', hl0, by omega, by omega, fun k => rfl⟩
  rintro σ H1 ⟨a, b, ps, qs, rfl, rfl, hS, hS', hl, hle, hmx, hsum⟩
  refine i9 (fun σ H1 => ∃ l, σ = [some (.ref a), some (.ref b), some (.ref l), none, none] ∧ d5 H H1 ∧ H l = none ∧ H1 l = some (.lst (ps.map V.int))) (fun N hN => ?_) ?_
  · subst_eqs
    exact ⟨_, .inl hS, fun l hl => hN _ _ ⟨l, rfl, d5.new hl _, hl, b8⟩⟩
  rintro σ H1 ⟨l, rfl, s1, fl, el⟩
  refine i9 (fun σ H2 => ∃ o3 o4, σ = [some (.ref a), some (.ref b), some (.ref l), o3, o4] ∧ d5 H H2 ∧ H2 l = some (.lst ((am5 ps qs qs.length).map V.int))) (fun N hN => ?_) ?_
  · refine ⟨_, rfl, b, rfl, ⟨_, s1.seq hS'⟩, W7 (qs.map V.int) (fun j σ H2 => ∃ o3 o4, σ = [some (.ref a), some (.ref b), some (.ref l), o3, o4] ∧ d5 H H2 ∧ H2 l = some (.lst ((am5 ps qs j).map V.int))) ⟨_, _, rfl, s1, el⟩ (by rintro j σ H2 ⟨_, _, _, s2, _⟩; exact s2.seq hS') ?_ (by rintro σ H2 ⟨o3, o4, rfl, s2, e2⟩; rw [List.length_map] at e2; exact hN _ _ ⟨o3, o4, rfl, s2, e2⟩)⟩
    rintro j x σ H2 p hx ⟨o3, o4, rfl, s2, e2⟩ hp
    obtain ⟨v, hv, rfl⟩ := K8 hx
    have hj := (List.getElem?_eq_some_iff.mp hv).1
    have Sp := d5.new hp (.tup [.int j, .int v])
    have e3 := Sp _ _ e2
    have hk : j < (am5 ps qs j).length := by rw [aa5]; omega
    have hg := List.getElem?_eq_getElem hk
    generalize (am5 ps qs j)[j] = z at hg
    subst_eqs
    refine ⟨_, SqT.of b8, rfl, _, _, rfl, _, _, rfl, rfl, _, _, rfl, SqL.of e3, .int z, P9 (by rw [List.getElem?_map, hg]; rfl), z, rfl, v, rfl, _, _, rfl, e3, j, ag5 (by rw [List.length_map]; exact hk), (s2.trans Sp).over fl _, ?_⟩
    have hv' : aZ qs j = v := by unfold aZ; rw [hv]; rfl
    rw [b8, am5, hv', ← X3 _ _ _ _ hg, List.map_set]
  rintro σ H2 ⟨o3, o4, rfl, s2, e2⟩
  subst_eqs
  refine ⟨l, _, rfl, SqL.of e2, by rw [aa5]; omega, fun m r tm hr' => ?_⟩
  refine k0 r _ _ (s2.trans (d5.new hr' _)) (s2.free hr') b8 tm.self (by rw [List.length_take, aa5]; omega) fun k => ?_
  rw [aE2 tm, bi5 hle, hsum]
end
theorem aU7 (a b : List Int) : zp (W5 a b) = zp a * zp b := Pf.ext fun k => by
  show zc (W5 a b) k = cv (zc a) (zc b) k
  rw [aU8 (W5 a b), aU8 a, aU8 b, ← aQ1, ← aO2]
  have : (1 : Rat) * 1 = 1 := by decide +kernel
  rw [this]
theorem aO3 {f : Nat → Int} {n C : Nat} (h : ∀ i, n ≤ i → f i = 0) (hc : ∀ i, (f i).natAbs ≤ C) : ∀ m, (sZ f m).natAbs ≤ n * C
  | 0 => by simp [sZ]
  | m + 1 => by
    by_cases z : m + 1 ≤ n
    · exact Nat.le_trans (bk2 (n := m + 1) fun i _ => hc i) (Nat.mul_le_mul_right _ z)
    · rw [sZ, h m (by omega), Int.add_zero]
      exact aO3 h hc m
theorem bi2 (f g : Nat → Int) (k : Nat) : cv (fun i => (f i : Rat)) (fun i => (g i : Rat)) k = ((sZ (fun i => f i * g (k - i)) (k + 1) : Int) : Rat) := by
  unfold cv
  rw [aQ0]
  exact v3 fun i _ => by rw [Rat.intCast_mul]
theorem bo3 {f g : Nat → Int} {n a b : Nat} (hn : n ≤ 32) (hf : ∀ i, n ≤ i → f i = 0) (ha : ∀ i, (f i).natAbs < 2 ^ a) (hb : ∀ i, (g i).natAbs < 2 ^ b) (k m : Nat) : (sZ (fun i => f i * g (k - i)) m).natAbs < 2 ^ (a + b + 5) := by
  have h1 := aO3 (f := fun i => f i * g (k - i)) (n := n) (C := 2 ^ a * 2 ^ b - 1) (fun i hi => by
    show f i * g (k - i) = 0
    rw [hf i hi, Int.zero_mul]) (fun i => by
      show (f i * g (k - i)).natAbs ≤ _
      rw [Int.natAbs_mul]
      have := Nat.mul_lt_mul'' (ha i) (hb (k - i))
      omega) m
  have p : 0 < 2 ^ a * 2 ^ b := Nat.mul_pos (Nat.two_pow_pos _) (Nat.two_pow_pos _)
  have h2 : n * (2 ^ a * 2 ^ b - 1) ≤ 32 * (2 ^ a * 2 ^ b - 1) := Nat.mul_le_mul_right _ hn
  rw [Nat.pow_add, Nat.pow_add]
  have e : (2 : Nat) ^ 5 = 32 := by decide
  rw [e]
  omega
theorem bg7 {p q : List Int} {a b : Nat} (hl : p.length ≤ 32) (hp : ∀ k, (aZ p k).natAbs < 2 ^ a) (hq : ∀ k, (aZ q k).natAbs < 2 ^ b) (k : Nat) : (aZ (W5 p q) k).natAbs < 2 ^ (a + b + 5) := by
  have h : aZ (W5 p q) k = sZ (fun i => aZ p i * aZ q (k - i)) (k + 1) := Rat.intCast_inj.mp (by
    rw [← bi2]
    exact congrArg (fun z => Pf.f z k) (aU7 p q))
  rw [h]
  exact bo3 hl (fun i hi => by unfold aZ; rw [List.getElem?_eq_none hi]; rfl) hp hq k _
theorem aS4 {p q : List Int} : (W5 p q).length ≤ p.length + q.length := by
  unfold W5
  split
  · simp
  · rw [R9, List.length_replicate]; omega
def fz (v : Nat → Int) : Pf := ⟨fun k => (v k : Rat)⟩
theorem ab2 {z : Int} (h : z ≠ 0) : (z : Rat) ≠ 0 := fun w => h (Rat.intCast_inj.mp (by rw [w, Rat.intCast_zero]))
def wL (c L la : Nat) : Nat := c * (2 * (L + 1 - la))
structure LC (P0 Q0 : List Int) (K c L : Nat) : Prop where
  tP : B7 P0 P0.length
  tQ : B7 Q0 Q0.length
  lp : P0.length ≤ L
  lq : Q0.length ≤ L
  kP : ∀ k, (aZ P0 k).natAbs ≤ K
  kQ : ∀ k, (aZ Q0 k).natAbs ≤ K
  k1 : 1 ≤ K
  l1 : 1 ≤ L
  hc : 4 * L * K ≤ 2 ^ c
structure LS (P0 Q0 : List Int) (c L w : Nat) (A Fa B Fb : List Int) (ha hb : Pf) : Prop where
  ev : Ev (zp P0) (zp Q0) (zp A) (zp B) (zp Fa) ha (zp Fb) hb P0.length Q0.length A.length B.length
  tA : B7 A A.length
  tB : B7 B B.length
  lA : A.length ≤ L
  lB : B.length ≤ L
  st : (A = P0 ∧ B = Q0 ∧ Fa = [1] ∧ Fb = [] ∧ ha = 0 ∧ hb = 1 ∧ w = c) ∨ (B.length < A.length ∧ A.length ≤ Q0.length ∧ w = wL c L A.length)
  bA : ∀ k, (aZ A k).natAbs < 2 ^ w
  bFa : ∀ k, (aZ Fa k).natAbs < 2 ^ w
  bB : B ≠ [] → ∀ k, (aZ B k).natAbs < 2 ^ w
  bFb : B ≠ [] → ∀ k, (aZ Fb k).natAbs < 2 ^ w
  hA : ∀ k (z : Int), ha.f k = (z : Rat) → z.natAbs < 2 ^ w
  hB : B ≠ [] → ∀ k (z : Int), hb.f k = (z : Rat) → z.natAbs < 2 ^ w
  dA : ∃ n, Dg ha.f n
  dB : ∃ n, Dg hb.f n
  lFa : Fa.length ≤ max 1 (Q0.length + 1 - A.length)
  lFb : Fb.length ≤ Q0.length + 1 - A.length
  tFa : B7 Fa Fa.length
  tFb : B7 Fb Fb.length
theorem bl3 : B7 [] ([] : List Int).length := ⟨Nat.le_refl _, (fun i v hi e => by cases e), fun h => absurd rfl h⟩
structure LRes (P0 Q0 A F : List Int) (w L c : Nat) : Prop where
  tA : B7 A A.length
  nA : A ≠ []
  lA : A.length ≤ L
  lF : F.length ≤ L
  lF2 : F.length ≤ max 1 (Q0.length + 1 - A.length)
  tF : B7 F F.length
  bA : ∀ k, (aZ A k).natAbs < 2 ^ w
  bF : ∀ k, (aZ F k).natAbs < 2 ^ w
  bA2 : ∀ k, (aZ A k).natAbs < 2 ^ wL c L A.length
  idA : ∃ h : Pf, (∃ n, Dg h.f n) ∧ zp A = zp F * zp P0 + h * zp Q0 ∧ ∀ k (z : Int), h.f k = (z : Rat) → z.natAbs < 2 ^ w
  p1 : ∃ (κ : Rat) (v : Nat → Int), (∃ n, ∀ k, n ≤ k → v k = 0) ∧ zp P0 = v6 κ * (fz v * zp A) ∧ (∀ k, (v k).natAbs < 2 ^ wL c L A.length) ∧ κ.num.natAbs < 2 ^ c ∧ κ.den < 2 ^ (wL c L A.length + wL c L A.length)
  q1 : ∃ (κ : Rat) (v : Nat → Int), (∃ n, ∀ k, n ≤ k → v k = 0) ∧ zp Q0 = v6 κ * (fz v * zp A) ∧ (∀ k, (v k).natAbs < 2 ^ wL c L A.length) ∧ κ.num.natAbs < 2 ^ c ∧ κ.den < 2 ^ (wL c L A.length + wL c L A.length)
  q0 : Q0 = [] → A = P0 ∧ F = [1]
theorem ax7 {qs : List Rat} {s : Rat} {ws : List Int} {W : Nat} (e : qs = scl s ws) (hg : t7 ws = 1) (s0 : s ≠ 0) (c : ClN W qs) : BdN W s ∧ ∀ v ∈ ws, Int.natAbs v < 2 ^ W := by
  obtain ⟨D, hD⟩ : ∃ D, D = j3 qs := ⟨_, rfl⟩
  have Dp : 0 < D := by rw [hD]; exact B1 qs
  have DR : ((D : Int) : Rat) ≠ 0 := ab2 (by omega)
  have eZ : ∀ k, ((aZ (i8 D qs) k : Int) : Rat) = (((D : Int) : Rat) * s) * zc ws k := fun k => by
    have h1 := bf1 qs
    rw [← hD] at h1
    have h2 := congrArg (fun l => aQ l k) (h1.trans e)
    have h3 : aQ (scl (Rat.divInt 1 D) (i8 D qs)) k = aQ (scl s ws) k := h2
    rw [aj7, aj7] at h3
    have h4 : Rat.divInt 1 (D : Int) * ((D : Int) : Rat) = 1 := by
      rw [Rat.divInt_eq_div, Rat.div_def, show ((1 : Int) : Rat) = 1 from rfl]
      have := Rat.mul_inv_cancel _ DR
      generalize ((D : Int) : Rat)⁻¹ = y at *
      grind
    have h5 : Rat.divInt 1 (D : Int) * (aZ (i8 D qs) k : Rat) = s * (aZ ws k : Rat) := h3
    unfold zc
    generalize Rat.divInt 1 (D : Int) = y at *
    generalize ((D : Int) : Rat) = d at *
    grind
  obtain ⟨g, hgz⟩ := aZ0 hg eZ
  have gR : (g : Rat) ≠ 0 := fun z => by
    rw [← hgz] at z
    rcases Rat.mul_eq_zero.mp z with z | z
    · exact DR z
    · exact s0 z
  have bw : ∀ k, (aZ (i8 D qs) k).natAbs < 2 ^ W := au0 (by rw [hD]; exact c.w)
  have small : ∀ k, (aZ ws k).natAbs ≤ (aZ (i8 D qs) k).natAbs := fun k => bn9 gR (by rw [eZ k, hgz]; rfl)
  refine ⟨?_, aN0 fun k => Nat.lt_of_le_of_lt (small k) (bw k)⟩
  have es : s = Rat.divInt g D := by
    rw [Rat.divInt_eq_div, Rat.div_def, ← hgz]
    have := Rat.mul_inv_cancel _ DR
    generalize ((D : Int) : Rat)⁻¹ = y at *
    generalize ((D : Int) : Rat) = d at *
    grind
  have le := K5 (t := g) (b := (D : Int)) (by omega)
  rw [← es, Int.natAbs_natCast] at le
  refine ⟨Nat.lt_of_le_of_lt le.1 ?_, Nat.lt_of_le_of_lt le.2 (by rw [hD]; exact c.l)⟩
  obtain ⟨k, hk⟩ : ∃ k, aZ ws k ≠ 0 := by
    refine Classical.byContradiction fun z => ?_
    have all : ∀ v ∈ ws, v = 0 := fun v hv => by
      obtain ⟨k, hk, ek⟩ := List.getElem_of_mem hv
      refine Classical.byContradiction fun h => z ⟨k, ?_⟩
      unfold aZ; rw [List.getElem?_eq_getElem hk, ek]; exact h
    have : 0 ∣ t7 ws := at3 _ 0 (Nat.dvd_zero _) fun v hv => by rw [all v hv]; exact Int.dvd_zero _
    rw [hg] at this
    exact absurd (Nat.eq_zero_of_zero_dvd this) (by decide)
  have e2 : aZ (i8 D qs) k = g * aZ ws k := Rat.intCast_inj.mp (by rw [eZ k, hgz, Rat.intCast_mul]; rfl)
  have := bw k
  rw [e2, Int.natAbs_mul] at this
  exact Nat.lt_of_le_of_lt (Nat.le_mul_of_pos_right _ (by omega)) this
def OvP (B W : Nat) (p : Pf) : Prop := ∀ k, OvB B W (p.f k)
theorem OvP.mono {B V W : Nat} {p : Pf} (h : OvP B V p) (l : V ≤ W) : OvP B W p := fun k => (h k).mono l
theorem OvP.mul {B C V W n : Nat} (hB : 0 < B) (hC : 0 < C) {p q : Pf} (hp : OvP B V p) (hq : OvP C W q) (dp : Dg p.f n) : OvP (B * C) (V + W + n) (p * q) := fun k => by
  have e : (p * q).f k = j5 (fun i => p.f i * if i ≤ k then q.f (k - i) else 0) n := bi1 dp q.f k
  rw [e]
  refine aO7 (Nat.mul_pos hB hC) (fun i => ?_) n
  split
  · exact (hp i).mul (hq _)
  · have : p.f i * 0 = 0 := by grind
    rw [this]; exact OvB.zero _ _
theorem OvP.add {B W : Nat} (hB : 0 < B) {p q : Pf} (hp : OvP B W p) (hq : OvP B W q) : OvP B (W + 1) (p + q) := fun k => (hp k).add hB (hq k)
theorem OvP.up {B W : Nat} {p : Pf} (h : OvP B W p) (hB : 0 < B) {C c : Nat} (hC : 0 < C) (hc : C < 2 ^ c) : OvP (B * C) (W + c) p := fun k => (h k).up hB hC hc
def qp (l : List Rat) : Pf := ⟨aQ l⟩
theorem P2 (s : Rat) (ws : List Int) : qp (scl s ws) = v6 s * zp ws := Pf.ext fun k => by
  rw [au9]
  show aQ (scl s ws) k = s * zc ws k
  rw [aj7]; rfl
theorem bm1 (p q : List Rat) : qp (O6 p q) = qp p * qp q := Pf.ext fun k => aQ1 p q k
theorem aY7 (p q : List Rat) : qp (Y8 p q) = qp p + qp q := Pf.ext fun k => bi7 p q k
theorem aG9 (l : List Rat) : Dg (qp l).f l.length := fun k hk => by
  show aQ l k = 0
  unfold aQ; rw [List.getElem?_eq_none hk]; rfl
theorem bm0 : qp [] = 0 := Pf.ext fun k => by rw [Y0]; rfl
theorem aY6 {B W : Nat} {l : List Rat} (h : ∀ x ∈ l, OvB B W x) : OvP B W (qp l) := fun k => by
  show OvB B W (aQ l k)
  unfold aQ
  cases hk : l[k]? with
  | none => exact OvB.zero _ _
  | some x => exact h x (List.mem_of_getElem? hk)
theorem V7 {B W : Nat} {l : List Rat} (h : OvP B W (qp l)) : ∀ x ∈ l, OvB B W x := fun x hx => by
  obtain ⟨k, hk, e⟩ := List.getElem_of_mem hx
  have := h k
  have e2 : (qp l).f k = x := by
    show aQ l k = x
    unfold aQ; rw [List.getElem?_eq_getElem hk, e]; rfl
  rw [e2] at this; exact this
def fld (M : List (List Rat)) (last : List Rat) : Nat → Pf × Pf
  | 0 => (qp last, 0)
  | n + 1 => (qp ((M[M.length - 1 - n]?).getD []) * (fld M last n).1 + (fld M last n).2, (fld M last n).1)
def Fm (K : PySem.W.Frag) (H : Hp) (v : V) (s : Rat) (ws : List Int) : Prop := ∃ r rs l, v = .ref r ∧ SqT K H r [.ref rs, .ref l] ∧ SqT K H rs (w9 s) ∧ SqL K H l (ws.map V.int)
theorem Fm.same {K : PySem.W.Frag} {H H' : Hp} {v : V} {s : Rat} {ws : List Int} (e : d5 H H') : Fm K H v s ws → Fm K H' v s ws
  | ⟨r, rs, l, h0, h1, h2, h3⟩ => ⟨r, rs, l, h0, e.tup h1, e.tup h2, e.seq h3⟩
section
variable {P : Program} {w : World} {K : PySem.W.Frag} {mg : Str → Option Value} {base : Heap}
def aG1 (K : PySem.W.Frag) : Sp := fun vs H Q _ => ∃ (x y : V) (s t : Rat) (ps qs : List Int) (W : Nat), vs = [x, y] ∧ Fm K H x s ps ∧ Fm K H y t qs ∧ BdN W s ∧ BdN W t ∧ (∀ v ∈ ps, Int.natAbs v < 2 ^ W) ∧ (∀ v ∈ qs, Int.natAbs v < 2 ^ W) ∧ W ≤ 2000 ∧ ps.length ≤ 20 ∧ qs.length ≤ 20 ∧
  ∀ r H', d5 H H' → Fm K H' (.ref r) (s * t) (W5 ps qs) → Q (.ref r) H'
abbrev E5 : Stmt := top 44
theorem au6 : i3 ["one", "other"] ["one", "other"] (b9 E5) := by clean_wf
set_option maxHeartbeats 0 in
theorem av0 {f ft fw : Addr} (d : Df K mg "form_times" E5 ["one", "other"] f) (G_times : Def P w K mg base CX0 2 "times" ft ["one", "other"] (aO0 K (· * ·))) (G_whole_times : Def P w K mg base CX0 1 "whole_times" fw ["one", "other"] (bp9 K)) : Def P w K mg base CX0 3 "form_times" f ["one", "other"] (aG1 K) := by
  refine d.ok (N := ["one", "other"]) au6 (by rintro vs H Q E ⟨_, _, _, _, _, _, _, h, _⟩; rw [h]; rfl) (fun cdv A outer s H vs Q E hr h => ?_)
  obtain ⟨x, y, s', t', ps, qs, W, rfl, ⟨r1, a1, l1, rfl, hr1, ha1, hl1⟩, ⟨r2, a2, l2, rfl, hr2, ha2, hl2⟩, bs, bt, b1, b2, hW, n1, n2, k⟩ := h
  refine ⟨_, (d6 (g7 (u0 (b6 (d9 G_times hr (b6 (n5 o0 (pv 0) d4 (fun _ _ => rfl)) (b6 (n5 o0 (pv 1) d4 (fun _ _ => rfl)) b7)) i0) (b6 (d9 G_whole_times hr (b6 (n5 o0 (pv 0) d4 (fun _ _ => rfl)) (b6 (n5 o0 (pv 1) d4 (fun _ _ => rfl)) b7)) i0) b7))))), ?_⟩
  rw [show start ["one", "other"] [.ref r1, .ref r2] = [some (.ref r1), some (.ref r2)] from rfl]
  subst_eqs
  refine ⟨_, hr1, _, rfl, _, hr2, _, rfl, _, _, s', t', rfl, ⟨_, rfl, ha1⟩, ⟨_, rfl, ha2⟩, bs.bd6 (by omega), bt.bd6 (by omega), fun rs H1 sm1 e1 => ?_⟩
  refine ⟨_, sm1.tup hr1, _, rfl, _, sm1.tup hr2, _, rfl, l1, l2, ps, qs, W, W, rfl, sm1.seq hl1, sm1.seq hl2, n1, n2, b1, b2, by omega, fun l H2 sm2 hl e2 => ⟨v8, fun r hr' => ?_⟩⟩
  have T := d5.new hr' (.tup [.ref rs, .ref l])
  exact k r _ (sm1.trans (sm2.trans T)) ⟨r, rs, l, rfl, SqT.of b8, SqT.of (T _ _ (sm2 _ _ e1)), SqL.of (T _ _ e2)⟩
def aW8 (K : PySem.W.Frag) : Sp := fun vs H Q _ => ∃ (x y : V) (s t : Rat) (ps qs : List Int) (W : Nat), vs = [x, y] ∧ Fm K H x s ps ∧ Fm K H y t qs ∧ BdN W s ∧ BdN W t ∧ s ≠ 0 ∧ t ≠ 0 ∧ (∀ v ∈ ps, Int.natAbs v < 2 ^ W) ∧ (∀ v ∈ qs, Int.natAbs v < 2 ^ W) ∧ 1 ≤ W ∧ W ≤ 900 ∧ ps.length ≤ 40 ∧ qs.length ≤ 40 ∧ B7 ps ps.length ∧ B7 qs qs.length ∧
  ∀ v s' ws' H', d5 H H' → Fm K H' v s' ws' → s' ≠ 0 → B7 ws' ws'.length → v6 s' * zp ws' = v6 s * zp ps + v6 t * zp qs → ((s' = s ∧ ws' = ps) ∨ (s' = t ∧ ws' = qs) ∨ ((ws' ≠ [] → t7 ws' = 1) ∧ BdN (10 * W) s')) → Q v H'
abbrev M6 : Stmt := top 43
theorem V0 : i3 ["one", "other", "wholes", "top", "bottom"] ["one", "other"] (b9 M6) := by clean_wf
set_option maxHeartbeats 0 in
theorem aH3 {f f1 f2 f3 f4 : Addr} (d : Df K mg "form_sum" M6 ["one", "other"] f) (G_over : Def P w K mg base CX0 3 "over" f1 ["one", "other"] (aK0 K)) (G_whole_sum : Def P w K mg base CX0 2 "whole_sum" f2 ["one", "other"] (aW5 K)) (G_whole_scaled : Def P w K mg base CX0 2 "whole_scaled" f3 ["factor", "wholes"] (aw7 K)) (GD_formed : Def P w K mg base CX0 3 "formed" f4 ["scale", "wholes"] (ai1 K)) : Def P w K mg base CX0 4 "form_sum" f ["one", "other"] (aW8 K) := by
  have G_formed := GD_formed
  refine d.ok (N := ["one", "other", "wholes", "top", "bottom"]) V0 (by rintro vs H Q E ⟨_, _, _, _, _, _, _, h, _⟩; rw [h]; rfl) (fun cdv A outer s H vs Q E hr h => ?_)
  obtain ⟨x, y, s', t', ps, qs, W, rfl, F1, F2, bs, bt, s0, t0, b1, b2, hW1, hW, n1, n2, tp, tq, k⟩ := h
  obtain ⟨r1, a1, l1, rfl, hr1, ha1, hl1⟩ := F1
  obtain ⟨r2, a2, l2, rfl, hr2, ha2, hl2⟩ := F2
  refine ⟨_, (d3 (z9 (PW.pt (T9 (B3 (B4 (n5 o0 (pv 0) d4 (fun _ _ => rfl)) (fun _ => rfl))) (V6 (B3 (B4 (n5 o0 (pv 1) d4 (fun _ _ => rfl)) (fun _ => rfl)))))) (d6 (g7 (U2 (B4 (n5 o0 (pv 0) d4 (fun _ _ => rfl)) (fun _ => rfl)) (pv 0) (pv 1)))) m6)
      (d3 (F5 (d9 G_over hr (b6 (n5 o0 (pv 1) d4 (fun _ _ => rfl)) (b6 (n5 o0 (pv 0) d4 (fun _ _ => rfl)) b7)) i0) (show PG _ _ (N6 K 2 (n8 (j9 3) (n8 (j9 4) N7))) from by (refine B9 (n := 2) ?_ ?_ ?_ ?_; rfl; (refine g8 ?_ ?_ ?_; (exact (e8 (i := 3) V0.nd rfl (Or.inl rfl))); (refine g8 ?_ ?_ ?_; (exact (e8 (i := 4) V0.nd rfl (Or.inl rfl))); (exact w4); rfl); rfl); rfl; rfl)))
      (d3 (i7 (i := 2) V0.nd rfl (Or.inl rfl) (d9 G_whole_sum hr (b6 (d9 G_whole_scaled hr (b6 (pv 4) (b6 (n5 o0 (pv 0) d4 (fun _ _ => rfl)) b7)) i0) (b6 (d9 G_whole_scaled hr (b6 (pv 3) (b6 (n5 o0 (pv 1) d4 (fun _ _ => rfl)) b7)) i0) b7)) i0))
      (d6 (g7 (d9 G_formed hr (b6 (d9 G_over hr (b6 (n5 o0 (pv 0) d4 (fun _ _ => rfl)) (b6 (u0 (b6 (pv 4) (b6 d4 b7))) b7)) i0) (b6 (pv 2) b7)) i0)))))), ?_⟩
  rw [show start ["one", "other", "wholes", "top", "bottom"] [.ref r1, .ref r2] = [some (.ref r1), some (.ref r2), none, none, none] from rfl]
  refine i9 (fun σ H1 => σ = [some (.ref r1), some (.ref r2), none, none, none] ∧ H = H1 ∧ ps ≠ [] ∧ qs ≠ []) (fun N hN => ?_) ?_
  · subst_eqs
    have tr1 : ∀ {ws : List Int} {l : Addr}, SqL K H l (ws.map V.int) → Y9 K (.ref l) H (!(ws.map V.int).isEmpty) := fun {ws l} h => .inl ⟨_, h, rfl⟩
    have one : ∀ {ws : List Int}, (!(ws.map V.int).isEmpty) = false → ws = [] := fun {ws} h => by cases ws <;> simp_all
    have two : ∀ {ws : List Int}, (!(ws.map V.int).isEmpty) = true → ws ≠ [] := fun {ws} h z => by rw [z] at h; simp at h
    refine ⟨_, hr1, _, rfl, _, tr1 hl1, v7 (fun h1 => ?_) (fun h1 => ?_)⟩
    · have pz := one h1
      refine ⟨_, hr1, _, rfl, _, tr1 hl1, v7 (fun h2 => absurd pz (two h2)) (fun _ => ?_)⟩
      refine k _ t' qs H (d5.refl _) ⟨r2, a2, l2, rfl, hr2, ha2, hl2⟩ t0 tq ?_ (.inr (.inl ⟨rfl, rfl⟩))
      rw [pz, az9]; grind
    · have pn : ps ≠ [] := two (by simpa using h1)
      refine ⟨_, hr2, _, rfl, _, tr1 hl2, v7 (fun h2 => ?_) (fun h2 => hN _ _ ⟨rfl, rfl, pn, two (by simpa using h2)⟩)⟩
      have qz := one h2
      refine ⟨_, hr1, _, rfl, _, tr1 hl1, v7 (fun _ => ?_) (fun h3 => absurd (one (by simpa using h3)) pn)⟩
      refine k _ s' ps H (d5.refl _) ⟨r1, a1, l1, rfl, hr1, ha1, hl1⟩ s0 tp ?_ (.inl ⟨rfl, rfl⟩)
      rw [qz, az9]; grind
  rintro σ H1 ⟨rfl, rfl, pn, qn⟩
  obtain ⟨ρ, hρ⟩ : ∃ ρ, ρ = t' / s' := ⟨_, rfl⟩
  have bρ : BdN (W + W) ρ := by
    have hb : (t'.den : Int) * s'.num ≠ 0 := Int.mul_ne_zero (by have := t'.den_nz; omega) (fun z => s0 (W4.mp z))
    have le := K5 (t := t'.num * s'.den) hb
    rw [← aM6, ← hρ, Int.natAbs_mul, Int.natAbs_mul, Int.natAbs_natCast, Int.natAbs_natCast] at le
    exact ⟨Nat.lt_of_le_of_lt le.1 (by rw [Nat.pow_add]; exact Nat.mul_lt_mul'' bt.n bs.d), Nat.lt_of_le_of_lt le.2 (by rw [Nat.pow_add]; exact Nat.mul_lt_mul'' bt.d bs.n)⟩
  have ρd : (ρ.den : Int).natAbs < 2 ^ (W + W) := by rw [Int.natAbs_natCast]; exact bρ.d
  have dz : (ρ.den : Int) ≠ 0 := by have := ρ.den_nz; omega
  have dR : ((ρ.den : Int) : Rat) ≠ 0 := ab2 dz
  have eρ : ρ * ((ρ.den : Int) : Rat) = (ρ.num : Rat) := by
    have h4 := Rat.num_divInt_den ρ
    rw [Rat.divInt_eq_div, Rat.div_def] at h4
    have := Rat.mul_inv_cancel _ dR
    conv => lhs; lhs; rw [← h4]
    generalize ((ρ.den : Int) : Rat)⁻¹ = y at *
    generalize ((ρ.den : Int) : Rat) = d at *
    grind
  refine i9 (fun σ H2 => σ = [some (.ref r1), some (.ref r2), none, some (.int ρ.num), some (.int (ρ.den : Int))] ∧ d5 H H2) (fun N hN => ?_) ?_
  · subst_eqs
    refine ⟨_, hr2, _, rfl, _, hr1, _, rfl, _, _, t', s', rfl, ⟨_, rfl, ha2⟩, ⟨_, rfl, ha1⟩, bt.bd6 (by omega), bs.bd6 (by omega), s0, ?_⟩
    intro rr H2 s2 e2
    rw [← hρ] at e2
    exact ⟨rr, rfl, _, SqT.of e2, rfl, _, _, rfl, _, _, rfl, rfl, hN _ _ ⟨rfl, s2⟩⟩
  rintro σ H2 ⟨rfl, s2⟩
  refine i9 (fun σ H3 => ∃ (lw : Addr) (Z : List Int), σ = [some (.ref r1), some (.ref r2), some (.ref lw), some (.int ρ.num), some (.int (ρ.den : Int))] ∧ d5 H H3 ∧ H3 lw = some (.lst (Z.map V.int)) ∧ B7 Z Z.length ∧ Z.length ≤ 40 ∧ (∀ k, aZ Z k = (ρ.den : Int) * aZ ps k + ρ.num * aZ qs k)) (fun N hN => ?_) ?_
  · subst_eqs
    refine ⟨_, s2.tup hr1, _, rfl, (ρ.den : Int), l1, ps, W, W + W, rfl, s2.seq hl1, n1, ρd, b1, by omega, fun x1 z1 H3 s3 f3 e3 t3 l3 h3 => ?_⟩
    have S3 := s2.trans s3
    refine ⟨_, S3.tup hr2, _, rfl, ρ.num, l2, qs, W, W + W, rfl, S3.seq hl2, n2, bρ.n, b2, by omega, fun x2 z2 H4 s4 f4 e4 t4 l4 h4 => ?_⟩
    refine ⟨x1, x2, z1, z2, rfl, SqL.of (s4 _ _ e3), SqL.of e4, by omega, by omega, fun x3 z3 H5 s5 f5 e5 t5 l5 h5 => ?_⟩
    exact hN _ _ ⟨x3, z3, rfl, S3.trans (s4.trans s5), e5, t5, by omega, fun k => by rw [h5, h3, h4]⟩
  rintro σ H3 ⟨lw, Z, rfl, s3, ew, tZ, lZ, hZ⟩
  have bZ : ∀ v ∈ Z, Int.natAbs v < 2 ^ (W + W + W + 1) := aN0 fun k => by
    rw [hZ]
    have x1 : ((ρ.den : Int) * aZ ps k).natAbs < 2 ^ (W + W + W) := by rw [Int.natAbs_mul, Nat.pow_add 2 (W + W)]; exact Nat.mul_lt_mul'' ρd (au0 b1 k)
    have x2 : (ρ.num * aZ qs k).natAbs < 2 ^ (W + W + W) := by rw [Int.natAbs_mul, Nat.pow_add 2 (W + W)]; exact Nat.mul_lt_mul'' bρ.n (au0 b2 k)
    rw [Nat.pow_succ]
    omega
  subst_eqs
  refine ⟨_, s3.tup hr1, _, rfl, v8, fun p hp => ?_⟩
  have T := d5.new hp (.tup [.int (ρ.den : Int), .int 1])
  have ep : (upd H3 p (.tup [.int (ρ.den : Int), .int 1])) p = some (.tup (w9 (((ρ.den : Int)) : Rat))) := by
    rw [b8]; unfold w9; rw [Rat.num_intCast, Rat.den_intCast]; rfl
  have bd : BdN (W + W) (((ρ.den : Int)) : Rat) := aM1 ρd (by omega)
  refine ⟨_, _, s', (((ρ.den : Int)) : Rat), rfl, ⟨_, rfl, (s3.trans T).tup ha1⟩, ⟨p, rfl, SqT.of ep⟩, bs.bd6 (by omega), bd.bd6 (by omega), dR, ?_⟩
  intro rv H4 s4 e4
  have sn0 : s' / (((ρ.den : Int)) : Rat) ≠ 0 := fun z => by
    rw [Rat.div_def] at z
    have := Rat.mul_inv_cancel _ dR
    generalize (((ρ.den : Int)) : Rat)⁻¹ = y at *
    exact s0 (by grind)
  have bv : BdN (W + (W + W)) (s' / (((ρ.den : Int)) : Rat)) := by
    rw [Rat.div_def]
    have hi := bc3 dR bd
    have hb : (s'.den : Int) * ((((ρ.den : Int)) : Rat)⁻¹).den ≠ 0 := Int.mul_ne_zero (by have := s'.den_nz; omega) (by have := ((((ρ.den : Int)) : Rat)⁻¹).den_nz; omega)
    rw [U5]
    have le := K5 (t := s'.num * ((((ρ.den : Int)) : Rat)⁻¹).num) hb
    rw [Int.natAbs_mul, Int.natAbs_mul, Int.natAbs_natCast, Int.natAbs_natCast] at le
    exact ⟨Nat.lt_of_le_of_lt le.1 (by rw [Nat.pow_add]; exact Nat.mul_lt_mul'' bs.n hi.n), Nat.lt_of_le_of_lt le.2 (by rw [Nat.pow_add]; exact Nat.mul_lt_mul'' bs.d hi.d)⟩
  refine ⟨_, _, lw, Z, W + W + W + 1, W + (W + W), rfl, ⟨rv, rfl, SqT.of e4⟩, bv, sn0, SqL.of ((T.trans s4) _ _ ew), bZ, by omega, by omega, by omega, tZ, fun r rs l s2' ws' H5 s5 fl er ers el bs5 s50 wb5 wl5 e5 g5 => ?_⟩
  have tz5 : B7 ws' ws'.length := by
    refine ⟨Nat.le_refl _, (fun i v hi h => by rw [List.getElem?_eq_none hi] at h; cases h), fun hn v h z => ?_⟩
    have zl := aA1 tZ (by omega)
    have h6 := congrArg (fun l => aQ l (Z.length - 1)) e5
    have h7 : aQ (scl s2' ws') (Z.length - 1) = aQ (scl (s' / (((ρ.den : Int)) : Rat)) Z) (Z.length - 1) := h6
    rw [aj7, aj7] at h7
    have h8 : aZ ws' (Z.length - 1) = v := by unfold aZ; rw [← wl5, h]; rfl
    have h9 : s2' * (aZ ws' (Z.length - 1) : Rat) = s' / (((ρ.den : Int)) : Rat) * (aZ Z (Z.length - 1) : Rat) := h7
    rw [h8, z, Rat.intCast_zero] at h9
    have h10 : s' / (((ρ.den : Int)) : Rat) * (aZ Z (Z.length - 1) : Rat) = 0 := by rw [← h9]; grind
    rcases Rat.mul_eq_zero.mp h10 with y | y
    · exact sn0 y
    · exact ab2 zl y
  refine k _ s2' ws' H5 (s3.trans (T.trans (s4.trans s5))) ⟨r, rs, l, rfl, SqT.of er, ers, SqL.of el⟩ s50 tz5 ?_ (.inr (.inr ⟨g5, bs5.mono (by omega)⟩))
  rw [← P2, e5, P2]
  have eZ : zp Z = v6 ((ρ.den : Int) : Rat) * zp ps + v6 (ρ.num : Rat) * zp qs := Pf.ext fun k => by
    rw [Y1, au9, au9]
    show zc Z k = _ * zc ps k + _ * zc qs k
    unfold zc
    rw [hZ, Rat.intCast_add, Rat.intCast_mul, Rat.intCast_mul]
  have c1 : v6 (s' / (((ρ.den : Int)) : Rat)) * v6 (((ρ.den : Int)) : Rat) = v6 s' := by
    rw [← ai6, Rat.div_def]
    have := Rat.mul_inv_cancel _ dR
    congr 1
    generalize (((ρ.den : Int)) : Rat)⁻¹ = y at *
    grind
  have c2 : v6 (s' / (((ρ.den : Int)) : Rat)) * v6 (ρ.num : Rat) = v6 t' := by
    rw [← eρ, ai6]
    have : v6 ρ * v6 s' = v6 t' := by
      rw [← ai6, hρ, Rat.div_def]
      have := Rat.mul_inv_cancel _ s0
      congr 1
      generalize s'⁻¹ = y at *
      grind
    rw [← this, ← c1]; grind
  rw [eZ]
  generalize v6 (s' / (((ρ.den : Int)) : Rat)) = y0 at *
  generalize v6 (((ρ.den : Int)) : Rat) = y1 at *
  generalize v6 (ρ.num : Rat) = y2 at *
  generalize v6 s' = y3 at *
  generalize v6 t' = y4 at *
  grind
end
mutual
inductive HD (H : Hp) : V → D → Prop where
  | v {x : V} (f : U6 x = true) : HD H x (.v x)
  | tup {p : Addr} {xs : List V} {ds : List D} (h : H p = some (.tup xs)) (t : HDs H xs ds) : HD H (.ref p) (.tup ds)
  | lst {p : Addr} {xs : List V} {ds : List D} (h : H p = some (.lst xs)) (t : HDs H xs ds) : HD H (.ref p) (.lst ds)
inductive HDs (H : Hp) : List V → List D → Prop where
  | nil : HDs H [] []
  | cons {x : V} {xs : List V} {d : D} {ds : List D} (h : HD H x d) (t : HDs H xs ds) : HDs H (x :: xs) (d :: ds)
end
mutual
theorem HD.isD {K : PySem.W.Frag} {H : Hp} : ∀ {v : V} {d : D}, HD H v d → IsD K H v d
  | _, _, .v f => .v f
  | _, _, .tup h t => .tup (SqT.of h) t.isDs
  | _, _, .lst h t => .lst (SqL.of h) t.isDs
theorem HDs.isDs {K : PySem.W.Frag} {H : Hp} : ∀ {vs : List V} {ds : List D}, HDs H vs ds → O7 K H vs ds
  | _, _, .nil => .nil
  | _, _, .cons h t => .cons h.isD t.isDs
end
mutual
theorem HD.same {H H' : Hp} (s : d5 H H') : ∀ {v : V} {d : D}, HD H v d → HD H' v d
  | _, _, .v f => .v f
  | _, _, .tup h t => .tup (s _ _ h) (HDs.same s t)
  | _, _, .lst h t => .lst (s _ _ h) (HDs.same s t)
theorem HDs.same {H H' : Hp} (s : d5 H H') : ∀ {vs : List V} {ds : List D}, HDs H vs ds → HDs H' vs ds
  | _, _, .nil => .nil
  | _, _, .cons h t => .cons (HD.same s h) (HDs.same s t)
end
theorem HDs.length {H : Hp} : ∀ {xs : List V} {ds : List D}, HDs H xs ds → xs.length = ds.length
  | _, _, .nil => rfl
  | _, _, .cons _ t => congrArg (· + 1) t.length
theorem HDs.get {H : Hp} : ∀ {vs : List V} {ds : List D} {i : Nat} {v : V}, HDs H vs ds → vs[i]? = some v → ∃ d, ds[i]? = some d ∧ HD H v d
  | _, _, _, _, .nil, e => by simp at e
  | _, _, 0, _, .cons h _, e => by cases e; exact ⟨_, rfl, h⟩
  | _, _, i + 1, _, .cons _ t, e => t.get (i := i) (by simpa using e)
theorem HDs.append {H : Hp} : ∀ {vs ws : List V} {ds es : List D}, HDs H vs ds → HDs H ws es → HDs H (vs ++ ws) (ds ++ es)
  | _, _, _, _, .nil, k => k
  | _, _, _, _, .cons h t, k => .cons h (t.append k)
theorem bo1 {H : Hp} {a : Addr} {q : Rat} (h : H a = some (.tup (w9 q))) : HD H (.ref a) (A7 q) := .tup h (.cons (.v rfl) (.cons (.v rfl) .nil))
theorem Z7 : ∀ {ds : List D}, ds.all U4 = true → ∃ qs : List Rat, ds = qs.map A7
  | [], _ => ⟨[], rfl⟩
  | d :: ds, h => by
    rw [List.all_cons, Bool.and_eq_true] at h
    obtain ⟨q, rfl⟩ := bg5 h.1
    obtain ⟨qs, rfl⟩ := Z7 h.2
    exact ⟨q :: qs, rfl⟩
theorem aJ5 : ∀ qs : List Rat, (qs.map A7).all U4 = true
  | [] => rfl
  | q :: qs => by rw [List.map_cons, List.all_cons, ba7, aJ5 qs]; rfl
def ad7 (ds : List D) : Bool := match ds[ds.length - 1]? with
  | none => true
  | some d => decide (aX5 d ≠ 0)
def ax8 : D → Bool
  | .lst ds => ds.all U4 && ad7 ds
  | _ => false
theorem ak9 (qs : List Rat) : ad7 (qs.map A7) = true ↔ v9 qs qs.length := by
  unfold ad7
  rw [List.length_map, List.getElem?_map]
  cases h : qs[qs.length - 1]? with
  | none =>
    have : qs.length ≤ qs.length - 1 := List.getElem?_eq_none_iff.mp h
    have z : qs = [] := List.length_eq_zero_iff.mp (by omega)
    subst z
    exact ⟨fun _ => aV5, fun _ => rfl⟩
  | some q =>
    show decide (aX5 (A7 q) ≠ 0) = true ↔ _
    rw [aG7, decide_eq_true_eq]
    constructor
    · intro hq
      exact S8 fun x hx => by rw [h] at hx; cases hx; exact hq
    · intro t
      have := (List.getElem?_eq_some_iff.mp h).1
      exact t.last (by omega) _ h
theorem aZ2 {d : D} (h : ax8 d = true) : ∃ qs, d = j7 qs ∧ v9 qs qs.length := by
  cases d with
  | v x => cases h
  | tup l => cases h
  | lst ds =>
    unfold ax8 at h
    rw [Bool.and_eq_true] at h
    obtain ⟨qs, rfl⟩ := Z7 h.1
    exact ⟨qs, rfl, (ak9 qs).mp h.2⟩
theorem aZ1 {qs : List Rat} (t : v9 qs qs.length) : ax8 (j7 qs) = true := by
  show ((qs.map A7).all U4 && ad7 (qs.map A7)) = true
  rw [aJ5, (ak9 qs).mpr t]; rfl
def evZ (qs : List Rat) : Bool := (evs qs).all fun q => decide (q = 0)
def odZ (qs : List Rat) : Bool := (ods qs).all fun q => decide (q = 0)
def QOk (d : D) : Prop := ∃ L, d = j7 L ∧ v9 L L.length ∧ L ≠ [] ∧ evZ L = true
def LOk (d : D) : Prop := ∃ L, d = j7 L ∧ v9 L L.length ∧ L ≠ [] ∧ (evZ L = true ∨ odZ L = true)
def av6 : D → Nat
  | .lst ds => ds.length
  | _ => 0
def az8 (dq dl : D) : Prop := ∃ ds, dq = .lst ds ∧ (∀ d ∈ ds, QOk d) ∧ LOk dl ∧ (ds.map fun d => av6 d - 1).sum + (av6 dl - 1) ≤ 14
theorem P3 (qs : List Rat) : av6 (j7 qs) = qs.length := by show (qs.map A7).length = _; rw [List.length_map]
theorem ab3 {a b : List Rat} (h : j7 a = j7 b) : a = b := by
  have h1 := F8 a b
  rw [h, F8] at h1
  simpa using h1
theorem ag9 {α : Type} : ∀ (xs : List α) (k : Nat), (evs xs)[k]? = xs[2 * k]?
  | [], k => by simp [evs]
  | [x], 0 => rfl
  | [x], k + 1 => by
    show ([x] : List α)[k + 1]? = [x][2 * (k + 1)]?
    rw [List.getElem?_eq_none (by simp), List.getElem?_eq_none (by simp; omega)]
  | x :: y :: r, 0 => rfl
  | x :: y :: r, k + 1 => by
    show (x :: evs r)[k + 1]? = _
    rw [List.getElem?_cons_succ, ag9 r k, show 2 * (k + 1) = 2 * k + 1 + 1 by omega, List.getElem?_cons_succ, List.getElem?_cons_succ]
def cOk (c T : Nat) : Prop := (c = 10 ∧ T ≤ 14) ∨ (c = 40 ∧ T ≤ 5)
def Ub (c D : Nat) : Nat := 1 + 2 * c + (3 * c + 4) * D
theorem bp3 {c T D : Nat} (h : cOk c T) (l : D ≤ T) : Ub c D ≤ 701 := by
  unfold Ub
  rcases h with ⟨rfl, h⟩ | ⟨rfl, h⟩ <;> omega
theorem Z2 (c D : Nat) : 1 ≤ Ub c D := by unfold Ub; omega
theorem bl2 {c T D d : Nat} (h : cOk c T) (l : D + d ≤ T) : Ub c (D + d) + (d + 1) * (Ub c D + 1) + Ub c D ≤ 2900 := by
  unfold Ub
  rcases h with ⟨rfl, h⟩ | ⟨rfl, h⟩
  · have hd : d ≤ 14 := by omega
    have h2 : d = 0 ∨ d = 1 ∨ d = 2 ∨ d = 3 ∨ d = 4 ∨ d = 5 ∨ d = 6 ∨ d = 7 ∨ d = 8 ∨ d = 9 ∨ d = 10 ∨ d = 11 ∨ d = 12 ∨ d = 13 ∨ d = 14 := by omega
    rcases h2 with rfl | rfl | rfl | rfl | rfl | rfl | rfl | rfl | rfl | rfl | rfl | rfl | rfl | rfl | rfl <;> omega
  · have h2 : d = 0 ∨ d = 1 ∨ d = 2 ∨ d = 3 ∨ d = 4 ∨ d = 5 := by omega
    rcases h2 with rfl | rfl | rfl | rfl | rfl | rfl <;> omega
theorem aA0 {c D d : Nat} (hd : 1 ≤ d) : Ub c D + (1 + c * (d + 1) + c) + (d + 1) + 1 ≤ Ub c (D + d) := by
  unfold Ub
  have e1 : (3 * c + 4) * (D + d) = (3 * c + 4) * D + (3 * c + 4) * d := Nat.mul_add _ _ _
  have e2 : (3 * c + 4) * d = 3 * (c * d) + 4 * d := by rw [Nat.add_mul, Nat.mul_assoc]
  have e3 : c * (d + 1) = c * d + c := Nat.mul_succ _ _
  have e4 : c ≤ c * d := Nat.le_mul_of_pos_right _ hd
  omega
structure K7 (c : Nat) (M : List (List Rat)) (last : List Rat) : Prop where
  m : ∀ L ∈ M, v9 L L.length ∧ 2 ≤ L.length ∧ evZ L = true ∧ ∀ x ∈ L, BdN c x
  t : v9 last last.length
  n : last ≠ []
  p : evZ last = true ∨ odZ last = true
  o : ∀ x ∈ last, BdN c x
  z : cOk c (last.length - 1 + (M.map fun L => L.length - 1).sum)
theorem K7.s {c : Nat} {M : List (List Rat)} {last : List Rat} (R : K7 c M last) : last.length + (M.map fun L => L.length - 1).sum ≤ 15 := by
  have := List.length_pos_iff.mpr R.n
  rcases R.z with ⟨_, h⟩ | ⟨_, h⟩ <;> omega
theorem K7.c1 {c : Nat} {M : List (List Rat)} {last : List Rat} (R : K7 c M last) : 10 ≤ c ∧ c ≤ 40 := by
  rcases R.z with ⟨h, _⟩ | ⟨h, _⟩ <;> omega
def av9 (M : List (List Rat)) : Nat → Nat
  | 0 => 0
  | n + 1 => av9 M n + (((M[M.length - 1 - n]?).getD []).length - 1)
theorem aF4 (M : List (List Rat)) : ∀ n, n ≤ M.length → av9 M n = ((M.drop (M.length - n)).map fun L => L.length - 1).sum
  | 0, _ => by rw [Nat.sub_zero, List.drop_length]; rfl
  | n + 1, h => by
    rw [av9, aF4 M n (by omega)]
    have e : M.drop (M.length - (n + 1)) = (M[M.length - 1 - n]'(by omega)) :: M.drop (M.length - n) := by
      rw [show M.length - (n + 1) = M.length - 1 - n by omega, List.drop_eq_getElem_cons (by omega), show M.length - 1 - n + 1 = M.length - n by omega]
    rw [e, List.map_cons, List.sum_cons, List.getElem?_eq_getElem (by omega), Option.getD_some]
    omega
theorem aD5 {M : List (List Rat)} {n : Nat} (h : n ≤ M.length) : av9 M n ≤ (M.map fun L => L.length - 1).sum := by
  have h2 := aF4 M n h
  have h3 : ((M.drop (M.length - n)).map fun L => L.length - 1).sum ≤ (M.map fun L => L.length - 1).sum := by
    conv => rhs; rw [← List.take_append_drop (M.length - n) M]
    rw [List.map_append, List.sum_append]
    omega
  omega
theorem K7.sum {c : Nat} {M : List (List Rat)} {last : List Rat} (R : K7 c M last) {n : Nat} (h : n ≤ M.length) : last.length + av9 M n ≤ 15 := by
  have := R.s
  have := aD5 h
  omega
def dn (M : List (List Rat)) (last : List Rat) (n : Nat) : Nat := last.length - 1 + av9 M n
theorem K7.ub {c : Nat} {M : List (List Rat)} {last : List Rat} (R : K7 c M last) {n : Nat} (h : n ≤ M.length) : Ub c (dn M last n) ≤ 701 := bp3 R.z (by
  have := aD5 h
  unfold dn
  omega)
theorem K7.len {c : Nat} {M : List (List Rat)} {last : List Rat} (R : K7 c M last) : M.length ≤ 14 := by
  have key : ∀ (N : List (List Rat)), (∀ L ∈ N, 2 ≤ L.length) → N.length ≤ (N.map fun L => L.length - 1).sum := by
    intro N
    induction N with
    | nil => intro _; simp
    | cons L N ih =>
      intro h
      have h1 := h L List.mem_cons_self
      have h2 := ih fun L hL => h L (List.mem_cons_of_mem _ hL)
      rw [List.map_cons, List.sum_cons, List.length_cons]
      omega
  have h1 := key M fun L hL => (R.m L hL).2.1
  have h2 := R.s
  have h3 := List.length_pos_iff.mpr R.n
  omega
theorem K7.at {c : Nat} {M : List (List Rat)} {last : List Rat} (R : K7 c M last) {n : Nat} (h : n < M.length) : ∃ L, M[M.length - 1 - n]? = some L ∧ L ∈ M ∧ dn M last (n + 1) = dn M last n + (L.length - 1) ∧ (fld M last (n + 1)).1 = qp L * (fld M last n).1 + (fld M last n).2 ∧ (fld M last (n + 1)).2 = (fld M last n).1 := by
  have hg : M[M.length - 1 - n]? = some (M[M.length - 1 - n]'(by omega)) := List.getElem?_eq_getElem (by omega)
  refine ⟨_, hg, List.mem_of_getElem? hg, ?_, ?_, rfl⟩
  · unfold dn
    rw [av9, hg, Option.getD_some]
    omega
  · show qp ((M[M.length - 1 - n]?).getD []) * (fld M last n).1 + (fld M last n).2 = _
    rw [hg]; rfl
theorem K7.l15 {c : Nat} {M : List (List Rat)} {last : List Rat} (R : K7 c M last) {L : List Rat} (h : L ∈ M) : L.length ≤ 15 := by
  have key : ∀ (N : List (List Rat)), L ∈ N → L.length - 1 ≤ (N.map fun L => L.length - 1).sum := by
    intro N
    induction N with
    | nil => intro h; cases h
    | cons L' N ih =>
      intro h
      rw [List.map_cons, List.sum_cons]
      rcases List.mem_cons.mp h with z | z
      · rw [z]; omega
      · have := ih z; omega
  have := key M h
  have := R.s
  have := List.length_pos_iff.mpr R.n
  omega
theorem ag8 {c : Nat} {M : List (List Rat)} {last : List Rat} (R : K7 c M last) : ∀ n, n ≤ M.length → ∃ B, 0 < B ∧ B < 2 ^ Ub c (dn M last n) ∧ OvP B (Ub c (dn M last n)) (fld M last n).1 ∧ OvP B (Ub c (dn M last n)) (fld M last n).2
  | 0, _ => by
    have cl := ah4 R.o
    have hp := List.length_pos_iff.mpr R.n
    have le : 1 + c * last.length + c ≤ Ub c (dn M last 0) := by
      unfold Ub dn
      rw [av9]
      obtain ⟨e, he⟩ : ∃ e, last.length = e + 1 := ⟨last.length - 1, by omega⟩
      rw [he, Nat.mul_succ, Nat.add_sub_cancel, Nat.add_zero, Nat.add_mul, Nat.mul_assoc, Nat.add_zero]
      omega
    have cl := cl.mono le
    exact ⟨j3 last, B1 _, cl.l, aY6 fun x hx => aK7 cl hx, fun k => by rw [show (fld M last 0).2 = 0 from rfl, Y0]; exact OvB.zero _ _⟩
  | n + 1, h => by
    obtain ⟨B, B0, hB, h1, h2⟩ := ag8 R n (by omega)
    obtain ⟨L, hg, hL, hd, e1, e2⟩ := R.at (n := n) (by omega)
    obtain ⟨tL, l2, _, bL⟩ := R.m L hL
    have cl := ah4 bL
    obtain ⟨d, hd'⟩ : ∃ d, L.length = d + 1 := ⟨L.length - 1, by omega⟩
    rw [hd'] at cl hd l2
    rw [Nat.add_sub_cancel] at hd
    have st := aA0 (c := c) (D := dn M last n) (d := d) (by omega)
    rw [← hd] at st
    generalize 1 + c * (d + 1) + c = v at *
    have m1 : OvP (j3 L * B) (v + Ub c (dn M last n) + (d + 1)) (qp L * (fld M last n).1) := OvP.mul (B1 _) B0 (aY6 fun x hx => aK7 cl hx) h1 (by rw [← hd']; exact aG9 L)
    have m2 : OvP (B * j3 L) (Ub c (dn M last n) + v) (fld M last n).2 := h2.up B0 (B1 _) cl.l
    have u1 : OvP (B * j3 L) (Ub c (dn M last n) + v) (fld M last n).1 := h1.up B0 (B1 _) cl.l
    rw [Nat.mul_comm] at m1
    have Bp : 0 < B * j3 L := Nat.mul_pos B0 (B1 _)
    refine ⟨B * j3 L, Bp, ?_, ?_, ?_⟩
    · have : B * j3 L < 2 ^ (Ub c (dn M last n)) * 2 ^ v := Nat.mul_lt_mul'' hB cl.l
      rw [← Nat.pow_add] at this
      exact Nat.lt_of_lt_of_le this (d7 (by omega))
    · rw [e1]
      exact (OvP.add Bp (m1.mono (show _ ≤ Ub c (dn M last n) + v + (d + 1) by omega)) (m2.mono (by omega))).mono (by omega)
    · rw [e2]
      exact u1.mono (by omega)
theorem Y5 {c : Nat} {M : List (List Rat)} {last : List Rat} (R : K7 c M last) : ∀ n, n ≤ M.length → Dg (fld M last n).1.f (dn M last n + 1) ∧ Dg (fld M last n).2.f (dn M last n)
  | 0, _ => by
    have hp := List.length_pos_iff.mpr R.n
    refine ⟨?_, fun k _ => by rw [show (fld M last 0).2 = 0 from rfl]; exact Y0 k⟩
    have e : dn M last 0 + 1 = last.length := by unfold dn; rw [av9]; omega
    rw [e]; exact aG9 last
  | n + 1, h => by
    obtain ⟨h1, h2⟩ := Y5 R n (by omega)
    obtain ⟨L, hg, hL, hd, e1, e2⟩ := R.at (n := n) (by omega)
    obtain ⟨tL, l2, _, bL⟩ := R.m L hL
    rw [e1, e2, hd]
    refine ⟨fun k hk => ?_, fun k hk => h1 k (by omega)⟩
    rw [Y1, h2 k (by omega)]
    have : (qp L * (fld M last n).1).f k = 0 := Dg.cv (aG9 L) h1 k (by omega)
    rw [this]; grind
theorem aO6 {L : List Rat} (t : v9 L L.length) (h : 1 ≤ L.length) : (qp L).f (L.length - 1) ≠ 0 := by
  have hq := List.getElem?_eq_getElem (l := L) (show L.length - 1 < L.length by omega)
  have := t.last (by omega) _ hq
  show aQ L (L.length - 1) ≠ 0
  unfold aQ
  rw [hq]; exact this
theorem F7 {c : Nat} {M : List (List Rat)} {last : List Rat} (R : K7 c M last) : ∀ n, n ≤ M.length → (fld M last n).1.f (dn M last n) ≠ 0
  | 0, _ => by
    have hp := List.length_pos_iff.mpr R.n
    have e : dn M last 0 = last.length - 1 := by unfold dn; rw [av9]; omega
    rw [e]
    exact aO6 R.t (by omega)
  | n + 1, h => by
    have h1 := F7 R n (by omega)
    obtain ⟨d1, d2⟩ := Y5 R n (by omega)
    obtain ⟨L, hg, hL, hd, e1, e2⟩ := R.at (n := n) (by omega)
    obtain ⟨tL, l2, _, bL⟩ := R.m L hL
    have lL := aO6 tL (by omega)
    rw [e1, hd, Y1, d2 _ (by omega)]
    have top := bd7 (f := (qp L).f) (g := (fld M last n).1.f) (a := L.length - 1) (b := dn M last n) (by rw [Nat.sub_add_cancel (by omega)]; exact aG9 L) d1
    rw [Nat.add_comm (dn M last n)]
    have e : (qp L * (fld M last n).1).f (L.length - 1 + dn M last n) = (qp L).f (L.length - 1) * (fld M last n).1.f (dn M last n) := top
    rw [e]
    intro z
    have z' : (qp L).f (L.length - 1) * (fld M last n).1.f (dn M last n) = 0 := by rw [← z]; grind
    rcases Rat.mul_eq_zero.mp z' with y | y
    · exact lL y
    · exact h1 y
def Par (b : Nat) (p : Pf) : Prop := ∀ k, k % 2 ≠ b % 2 → p.f k = 0
theorem Par.add {b : Nat} {p q : Pf} (hp : Par b p) (hq : Par b q) : Par b (p + q) := fun k hk => by rw [Y1, hp k hk, hq k hk]; grind
theorem Par.mul {a b : Nat} {p q : Pf} (hp : Par a p) (hq : Par b q) : Par (a + b) (p * q) := fun k hk => by
  show cv p.f q.f k = 0
  refine M3 _ fun i hi => ?_
  by_cases z : i % 2 = a % 2
  · rw [hq (k - i) (by omega)]; grind
  · rw [hp i z]; grind
theorem Par.cong {a b : Nat} {p : Pf} (h : Par a p) (e : a % 2 = b % 2) : Par b p := fun k hk => h k (by omega)
theorem aZ9 (b : Nat) : Par b 0 := fun k _ => Y0 k
theorem ba6 {α : Type} (xs : List α) (k : Nat) : (ods xs)[k]? = xs[2 * k + 1]? := by
  unfold ods
  rw [ag9, List.getElem?_tail]
theorem ba0 {L : List Rat} (h : evZ L = true) : Par 1 (qp L) := fun k hk => by
  show aQ L k = 0
  unfold aQ
  cases e : L[k]? with
  | none => rfl
  | some q =>
    have : q ∈ evs L := List.mem_iff_getElem?.mpr ⟨k / 2, by rw [ag9, show 2 * (k / 2) = k by omega]; exact e⟩
    exact of_decide_eq_true (List.all_eq_true.mp h q this)
theorem bm6 {L : List Rat} (h : odZ L = true) : Par 0 (qp L) := fun k hk => by
  show aQ L k = 0
  unfold aQ
  cases e : L[k]? with
  | none => rfl
  | some q =>
    have : q ∈ ods L := List.mem_iff_getElem?.mpr ⟨k / 2, by rw [ba6, show 2 * (k / 2) + 1 = k by omega]; exact e⟩
    exact of_decide_eq_true (List.all_eq_true.mp h q this)
theorem aP3 {c : Nat} {M : List (List Rat)} {last : List Rat} (R : K7 c M last) {b : Nat} (hb : Par b (qp last)) : ∀ n, n ≤ M.length → Par (b + n) (fld M last n).1 ∧ Par (b + n + 1) (fld M last n).2
  | 0, _ => ⟨hb, aZ9 _⟩
  | n + 1, h => by
    obtain ⟨h1, h2⟩ := aP3 R hb n (by omega)
    obtain ⟨L, hg, hL, hd, e1, e2⟩ := R.at (n := n) (by omega)
    rw [e1, e2]
    exact ⟨(((ba0 (R.m L hL).2.2.1).mul h1).cong (by omega)).add (h2.cong (by omega)), h1.cong (by omega)⟩
theorem aT3 {c : Nat} {M : List (List Rat)} {last : List Rat} (R : K7 c M last) {n : Nat} (h : n ≤ M.length) : Par (dn M last n) (fld M last n).1 ∧ Par (dn M last n + 1) (fld M last n).2 := by
  obtain ⟨b, hb⟩ : ∃ b, Par b (qp last) := by
    rcases R.p with z | z
    · exact ⟨1, ba0 z⟩
    · exact ⟨0, bm6 z⟩
  obtain ⟨h1, h2⟩ := aP3 R hb n h
  have h3 := F7 R n h
  have h4 : dn M last n % 2 = (b + n) % 2 := Classical.byContradiction fun z => h3 (h1 _ z)
  exact ⟨h1.cong h4.symm, h2.cong (by omega)⟩
theorem tzB {s : Rat} (hs : s ≠ 0) {qs : List Rat} {ws : List Int} (e : qs = scl s ws) (t : v9 qs qs.length) : B7 ws ws.length := by
  refine ⟨Nat.le_refl _, (fun i v hi h => by rw [List.getElem?_eq_none hi] at h; cases h), fun hn v h z => ?_⟩
  subst e
  rw [U9] at t
  refine t.last hn _ (show (scl s ws)[ws.length - 1]? = some (s * (v : Rat)) by unfold scl; rw [List.getElem?_map, h]; rfl) ?_
  rw [z, Rat.intCast_zero]; grind
theorem tlB {s : Rat} (hs : s ≠ 0) {ws : List Int} (t : B7 ws ws.length) : v9 (scl s ws) (scl s ws).length := S8 fun x hx => by
  rw [U9] at hx
  unfold scl at hx
  rw [List.getElem?_map] at hx
  cases g : ws[ws.length - 1]? with
  | none => rw [g] at hx; cases hx
  | some v =>
    rw [g] at hx
    cases hx
    have hp := (List.getElem?_eq_some_iff.mp g).1
    have hv := t.last (by omega) v g
    exact fun z => by
      rcases Rat.mul_eq_zero.mp z with z | z
      · exact hs z
      · exact ab2 hv z
theorem ao1 {s : Rat} {ws : List Int} {p : Pf} {k : Nat} (e : v6 s * zp ws = p) (h : p.f k ≠ 0) : ws ≠ [] := fun z => h (by
  rw [← e, z, az9, au9, Y0]; grind)
theorem aj9 {s : Rat} {ws : List Int} {p : Pf} {n : Nat} (hs : s ≠ 0) (t : B7 ws ws.length) (e : v6 s * zp ws = p) (d : Dg p.f n) : ws.length ≤ n := by
  rcases Nat.lt_or_ge n ws.length with z | z
  · have h1 := aA1 t (by omega)
    have h2 := d (ws.length - 1) (by omega)
    rw [← e, au9] at h2
    rcases Rat.mul_eq_zero.mp h2 with y | y
    · exact absurd y hs
    · exact absurd y (bj3 h1)
  · exact z
structure FS (K : PySem.W.Frag) (H : Hp) (v : V) (p : Pf) (b : Nat) (s : Rat) (ws : List Int) : Prop where
  fm : Fm K H v s ws
  s0 : s ≠ 0
  tz : B7 ws ws.length
  e : v6 s * zp ws = p
  bs : BdN b s
  bw : ∀ v ∈ ws, Int.natAbs v < 2 ^ b
theorem FS.of {K : PySem.W.Frag} {H : Hp} {v : V} {p : Pf} {b B W : Nat} {s : Rat} {ws : List Int} (fm : Fm K H v s ws) (s0 : s ≠ 0) (tz : B7 ws ws.length) (e : v6 s * zp ws = p) (B0 : 0 < B) (hB : B < 2 ^ W) (hp : OvP B W p) (hb : W ≤ b) (g : ws ≠ [] → t7 ws = 1) (z : ws ≠ []) : FS K H v p b s ws := by
    have c : ClN W (scl s ws) := W9 B0 hB (V7 (by rw [P2, e]; exact hp))
    obtain ⟨x1, x2⟩ := ax7 rfl (g z) s0 c
    exact ⟨fm, s0, tz, e, x1.mono hb, fun v hv => Nat.lt_of_lt_of_le (x2 v hv) (d7 hb)⟩
section
variable {P : Program} {w : World} {K : PySem.W.Frag} {mg : Str → Option Value} {base : Heap}
def bj9 (K : PySem.W.Frag) : Sp := fun vs H Q _ => ∃ (a b : Addr) (ts : List Addr) (xs : List V) (c : Nat) (M : List (List Rat)) (last : List Rat), vs = [.ref a, .ref b] ∧ SqL K H a (ts.map V.ref) ∧ Rws H ts M ∧ SqL K H b xs ∧ p7 H xs last ∧ K7 c M last ∧
  ∀ r zs ps H', d5 H H' → H r = none → H' r = some (.lst zs) → p7 H' zs ps → v9 ps ps.length → qp ps = (fld M last M.length).1 + (fld M last M.length).2 → Q (.ref r) H'
abbrev C2 : Stmt := top 56
theorem C4 : i3 ["quotients", "last", "quotient", "one", "other", "scale", "wholes"] ["quotients", "last"] (b9 C2) := by clean_wf
set_option maxHeartbeats 0 in
theorem am1 {f f1 f2 f3 f4 aN : Addr} (d : Df K mg "put_together" C2 ["quotients", "last"] f) (GD_lifted : Def P w K mg base CX0 3 "lifted" f1 ["p"] (ai0 K)) (G_form_sum : Def P w K mg base CX0 4 "form_sum" f2 ["one", "other"] (aW8 K)) (G_form_times : Def P w K mg base CX0 3 "form_times" f3 ["one", "other"] (aG1 K)) (G_lowered : Def P w K mg base CX0 3 "lowered" f4 ["scale", "wholes"] (ah9 K)) (c_ONE : mg "ONE" = some (.ref aN)) (tN : ∀ H, SqT K H aN (w9 1)) (n_reversed : mg "reversed" = none) : Def P w K mg base CX0 5 "put_together" f ["quotients", "last"] (bj9 K) := by
  have G_lifted := GD_lifted
  refine d.ok (N := ["quotients", "last", "quotient", "one", "other", "scale", "wholes"]) C4 (by rintro vs H Q E ⟨_, _, _, _, _, _, _, h, _⟩; rw [h]; rfl) (fun cdv A outer s H vs Q E hr h => ?_)
  obtain ⟨a, b, ts, xs, c, M, last, rfl, hS, hR, hSb, hNb, R, k⟩ := h
  refine ⟨_, (d3 (X9 (i := 3) (j := 4) rfl C4.nd rfl rfl (by decide) rfl rfl (b6 (d9 G_lifted hr (b6 (pv 1) b7) i0) (b6 (u0 (b6 (p8 (v := .ref _) rfl c_ONE rfl) (b6 (w8 b7) b7))) b7)) rfl)
      (d3 (J4 PassesOwn.never rfl (aZ5 rfl n_reversed (b6 (pv 0) b7)) (e8 (i := 2) C4.nd rfl (Or.inl rfl)) (d6 (X9 (i := 3) (j := 4) rfl C4.nd rfl rfl (by decide) rfl rfl (b6 (d9 G_form_sum hr (b6 (d9 G_form_times hr (b6 (d9 G_lifted hr (b6 (pv 2) b7) i0) (b6 (pv 3) b7)) i0) (b6 (pv 4) b7)) i0) (b6 (pv 3) b7)) rfl)))
      (d3 (F5 (d9 G_form_sum hr (b6 (pv 3) (b6 (pv 4) b7)) i0) (show PG _ _ (N6 K 2 (n8 (j9 5) (n8 (j9 6) N7))) from by (refine B9 (n := 2) ?_ ?_ ?_ ?_; rfl; (refine g8 ?_ ?_ ?_; (exact (e8 (i := 5) C4.nd rfl (Or.inl rfl))); (refine g8 ?_ ?_ ?_; (exact (e8 (i := 6) C4.nd rfl (Or.inl rfl))); (exact w4); rfl); rfl); rfl; rfl)))
      (d6 (g7 (d9 G_lowered hr (b6 (pv 5) (b6 (pv 6) b7)) i0)))))), ?_⟩
  rw [show start ["quotients", "last", "quotient", "one", "other", "scale", "wholes"] [.ref a, .ref b] = [some (.ref a), some (.ref b), none, none, none, none, none] from rfl]
  have ll : last.length ≤ 15 := by have := R.s; omega
  have lM := R.len
  have lts := hR.length
  have ov := ag8 R
  obtain ⟨c10, c40⟩ := R.c1
  have ub0 := R.ub (n := 0) (Nat.zero_le _)
  refine i9 (fun σ H1 => ∃ v1 v2 s1 s2 w1 w2, σ = [some (.ref a), some (.ref b), none, some v1, some v2, none, none] ∧ d5 H H1 ∧ FS K H1 v1 (fld M last 0).1 (Ub c (dn M last 0) + 5 * 0) s1 w1 ∧ FS K H1 v2 (fld M last 0).2 (Ub c (dn M last 0) + 5 * 0) s2 w2) (fun N hN => ?_) ?_
  · subst_eqs
    have cl : ClN (Ub c (dn M last 0) + 5 * 0) last := by
      obtain ⟨B, B0, hB, h1, _⟩ := ov 0 (Nat.zero_le _)
      exact W9 B0 hB (V7 h1)
    refine ⟨b, xs, last, rfl, hSb, hNb, _, cl, by omega, Z2 _ _, by omega, R.t, fun r rs l s' ws H1 s1 fl er ers el bs s0 wb wl e g => ⟨by decide, fun p1 hp1 => ⟨v8, fun p2 hp2 => ?_⟩⟩⟩
    have T1 := d5.new hp1 (.lst [])
    have T2 := d5.new hp2 (.tup [.ref aN, .ref p1])
    have T := T1.trans T2
    refine hN _ _ ⟨_, _, s', 1, ws, [], rfl, s1.trans T, ⟨⟨r, rs, l, rfl, SqT.of (T _ _ er), T.tup ers, SqL.of (T _ _ el)⟩, s0, tzB s0 e R.t, ?_, bs, wb⟩, ⟨⟨p2, aN, p1, rfl, SqT.of b8, tN _, SqL.of (T2 _ _ b8)⟩, by decide, bl3, ?_, ba3 (Z2 _ _), by simp⟩⟩
    · show v6 s' * zp ws = qp last
      rw [e, P2]
    · show v6 1 * zp [] = 0
      rw [az9]; grind
  rintro σ H1 ⟨v1, v2, s1, s2, w1, w2, rfl, S1, F1, F2⟩
  refine i9 (fun σ H2 => ∃ o2 v1 v2 s1 s2 w1 w2, σ = [some (.ref a), some (.ref b), o2, some v1, some v2, none, none] ∧ d5 H H2 ∧ FS K H2 v1 (fld M last M.length).1 (Ub c (dn M last M.length) + 5 * M.length) s1 w1 ∧ FS K H2 v2 (fld M last M.length).2 (Ub c (dn M last M.length) + 5 * M.length) s2 w2) (fun N hN => ?_) ?_
  · refine ⟨_, rfl, a, _, rfl, S1.seq hS, aP2 (xs := ts.map V.ref) (fun i σ H2 => ∃ o2 v1 v2 s1 s2 w1 w2, σ = [some (.ref a), some (.ref b), o2, some v1, some v2, none, none] ∧ d5 H H2 ∧ FS K H2 v1 (fld M last i).1 (Ub c (dn M last i) + 5 * i) s1 w1 ∧ FS K H2 v2 (fld M last i).2 (Ub c (dn M last i) + 5 * i) s2 w2) ⟨_, v1, v2, s1, s2, w1, w2, rfl, S1, F1, F2⟩ (by rintro i σ H2 _ ⟨_, _, _, _, _, _, _, _, s2', _⟩; exact s2'.seq hS) ?_ (by rintro σ H2 ⟨o2, v1, v2, s1, s2, w1, w2, rfl, s2', G1, G2⟩; rw [List.length_map, lts] at G1 G2; exact hN _ _ ⟨_, v1, v2, s1, s2, w1, w2, rfl, s2', G1, G2⟩)⟩
    rintro i x σ H2 hi hx ⟨o2, v1, v2, s1, s2, w1, w2, rfl, s2', G1, G2⟩
    rw [List.length_map] at hi hx
    have him : i < M.length := by omega
    obtain ⟨L, hg, hLM, hdn, ei, _⟩ := R.at him
    obtain ⟨pL, hpL, rfl⟩ := ap8 hx
    obtain ⟨ys, L', hL', eL, nL⟩ := hR.get hpL
    rw [show ts.length - 1 - i = M.length - 1 - i by omega, hg] at hL'
    cases hL'
    obtain ⟨tL, l2, _, oL⟩ := R.m L hLM
    have l15 := R.l15 hLM
    have cl := ah4 oL
    have st := aA0 (c := c) (D := dn M last i) (d := L.length - 1) (by omega)
    rw [← hdn, Nat.sub_add_cancel (by omega)] at st
    have v1 : 1 ≤ 1 + c * L.length + c := by omega
    generalize 1 + c * L.length + c = vb at cl st v1
    obtain ⟨bb, hbb⟩ : ∃ bb, bb = Ub c (dn M last i) + 5 * i := ⟨_, rfl⟩
    rw [← hbb] at G1 G2
    have ubi := R.ub (n := i + 1) (by omega)
    have sm := R.sum (n := i) (by omega)
    have edn : dn M last i + 1 ≤ 15 := by
      have := List.length_pos_iff.mpr R.n
      unfold dn; omega
    obtain ⟨dg1, dg2⟩ := Y5 R i (by omega)
    have lw1 := aj9 G1.s0 G1.tz G1.e dg1
    have lw2 := aj9 G2.s0 G2.tz G2.e dg2
    have lead1 := F7 R (i + 1) (by omega)
    subst_eqs
    refine ⟨pL, ys, L, rfl, SqL.of (s2' _ _ eL), nL.mono s2'.tups, vb, cl, by omega, v1, by omega, tL, fun r rs l sq wq H3 s3 fl er ers el bsq sq0 wbq wlq eq gq => ?_⟩
    have tq := tzB sq0 eq tL
    refine ⟨_, _, sq, s1, wq, w1, bb + vb, rfl, ⟨r, rs, l, rfl, SqT.of er, ers, SqL.of el⟩, G1.fm.same s3, bsq.mono (by omega), G1.bs.mono (by omega), fun v hv => Nat.lt_of_lt_of_le (wbq v hv) (d7 (by omega)), fun v hv => Nat.lt_of_lt_of_le (G1.bw v hv) (d7 (by omega)), by omega, by omega, by omega, fun rp H4 s4 fp => ?_⟩
    have bprod : BdN (bb + vb) (sq * s1) := by
      rw [U5]
      have hb : (sq.den : Int) * s1.den ≠ 0 := Int.mul_ne_zero (by have := sq.den_nz; omega) (by have := s1.den_nz; omega)
      have le := K5 (t := sq.num * s1.num) hb
      rw [Int.natAbs_mul, Int.natAbs_mul, Int.natAbs_natCast, Int.natAbs_natCast] at le
      exact ⟨Nat.lt_of_le_of_lt le.1 (by rw [Nat.add_comm, Nat.pow_add]; exact Nat.mul_lt_mul'' bsq.n G1.bs.n), Nat.lt_of_le_of_lt le.2 (by rw [Nat.add_comm, Nat.pow_add]; exact Nat.mul_lt_mul'' bsq.d G1.bs.d)⟩
    have bmul : ∀ v ∈ W5 wq w1, Int.natAbs v < 2 ^ (bb + vb + 5) := aN0 fun k => Nat.lt_of_lt_of_le (bg7 (a := vb) (b := bb) (by omega) (au0 wbq) (au0 G1.bw) k) (d7 (by omega))
    have sp0 : sq * s1 ≠ 0 := fun z => by
      rcases Rat.mul_eq_zero.mp z with y | y
      · exact sq0 y
      · exact G1.s0 y
    have w1n : w1 ≠ [] := ao1 G1.e (F7 R i (by omega))
    have wqn : wq ≠ [] := fun z => by rw [z] at wlq; simp at wlq; omega
    have tprod : B7 (W5 wq w1) (W5 wq w1).length := by
      have h1 : scl (sq * s1) (W5 wq w1) = O6 (scl sq wq) (scl s1 w1) := aO2 sq s1 wq w1
      have q1 : scl sq wq ≠ [] := fun z => wqn (by have := congrArg List.length z; rw [U9] at this; exact List.length_eq_zero_iff.mp this)
      have q2 : scl s1 w1 ≠ [] := fun z => w1n (by have := congrArg List.length z; rw [U9] at this; exact List.length_eq_zero_iff.mp this)
      have t1 := tlB sq0 tq
      have t2 := tlB G1.s0 G1.tz
      have p1 := List.length_pos_iff.mpr q1
      have p2 := List.length_pos_iff.mpr q2
      have g1 := List.getElem?_eq_getElem (l := scl sq wq) (show (scl sq wq).length - 1 < (scl sq wq).length by omega)
      have g2 := List.getElem?_eq_getElem (l := scl s1 w1) (show (scl s1 w1).length - 1 < (scl s1 w1).length by omega)
      have lastm := aS5 q1 q2 g1 g2
      refine tzB sp0 rfl ?_
      rw [h1]
      exact S8 fun x hx => by
        rw [lastm] at hx
        cases hx
        intro z
        rcases Rat.mul_eq_zero.mp z with y | y
        · exact t1.last (by omega) _ g1 y
        · exact t2.last (by omega) _ g2 y
    have lprod : (W5 wq w1).length ≤ 40 := by have := aS4 (p := wq) (q := w1); omega
    refine ⟨_, _, sq * s1, s2, W5 wq w1, w2, bb + vb + 5, rfl, fp, G2.fm.same (s3.trans s4), bprod.mono (by omega), G2.bs.mono (by omega), sp0, G2.s0, fun v hv => Nat.lt_of_lt_of_le (bmul v hv) (d7 (by omega)), fun v hv => Nat.lt_of_lt_of_le (G2.bw v hv) (d7 (by omega)), by omega, by omega, lprod, by omega, tprod, G2.tz, fun v s' ws' H5 s5 fm5 s50 tz5 e5 alt => ?_⟩
    have ev : v6 s' * zp ws' = (fld M last (i + 1)).1 := by
      rw [e5, ei, ← G1.e, ← G2.e, eq, P2, aU7, ai6]; grind
    have ss := s3.trans (s4.trans s5)
    refine ⟨s2'.trans ss, s', s1, ws', ?_, w1, ⟨G1.fm.same ss, G1.s0, G1.tz, G1.e, G1.bs.mono (by omega), fun v hv => Nat.lt_of_lt_of_le (G1.bw v hv) (d7 (by omega))⟩⟩
    rcases alt with ⟨a1, a2⟩ | ⟨a1, a2⟩ | ⟨g5, _⟩
    · exact ⟨fm5, s50, tz5, ev, by rw [a1]; exact bprod.mono (by omega), by rw [a2]; exact fun v hv => Nat.lt_of_lt_of_le (bmul v hv) (d7 (by omega))⟩
    · exact ⟨fm5, s50, tz5, ev, by rw [a1]; exact G2.bs.mono (by omega), by rw [a2]; exact fun v hv => Nat.lt_of_lt_of_le (G2.bw v hv) (d7 (by omega))⟩
    · obtain ⟨B, B0, hB, ov1, _⟩ := ov (i + 1) (by omega)
      exact FS.of fm5 s50 tz5 ev B0 hB ov1 (by omega) g5 (ao1 ev lead1)
  rintro σ H2 ⟨o2, v1, v2, s1, s2, w1, w2, rfl, S2, G1, G2⟩
  subst_eqs
  have sm := R.sum (n := M.length) (Nat.le_refl _)
  obtain ⟨dg1, dg2⟩ := Y5 R M.length (Nat.le_refl _)
  have lw1 := aj9 G1.s0 G1.tz G1.e dg1
  have lw2 := aj9 G2.s0 G2.tz G2.e dg2
  have lead1 := F7 R M.length (Nat.le_refl _)
  have edn : dn M last M.length + 1 ≤ 15 := by
    have := List.length_pos_iff.mpr R.n
    unfold dn; omega
  have ubm := R.ub (n := M.length) (Nat.le_refl _)
  have upm := Z2 c (dn M last M.length)
  refine ⟨_, _, s1, s2, w1, w2, Ub c (dn M last M.length) + 5 * M.length, rfl, G1.fm, G2.fm, G1.bs, G2.bs, G1.s0, G2.s0, G1.bw, G2.bw, by omega, by omega, by omega, by omega, G1.tz, G2.tz, fun v s' ws' H3 s3 fm3 s30 tz3 e3 alt => ?_⟩
  have ev : v6 s' * zp ws' = (fld M last M.length).1 + (fld M last M.length).2 := by rw [e3, G1.e, G2.e]
  have F3 : FS K H3 v ((fld M last M.length).1 + (fld M last M.length).2) 1000 s' ws' := by
    rcases alt with ⟨a1, a2⟩ | ⟨a1, a2⟩ | ⟨g3, _⟩
    · exact ⟨fm3, s30, tz3, ev, by rw [a1]; exact G1.bs.mono (by omega), by rw [a2]; exact fun v hv => Nat.lt_of_lt_of_le (G1.bw v hv) (d7 (by omega))⟩
    · exact ⟨fm3, s30, tz3, ev, by rw [a1]; exact G2.bs.mono (by omega), by rw [a2]; exact fun v hv => Nat.lt_of_lt_of_le (G2.bw v hv) (d7 (by omega))⟩
    · obtain ⟨B, B0, hB, ov1, ov2⟩ := ov M.length (Nat.le_refl _)
      refine FS.of fm3 s30 tz3 ev B0 (Nat.lt_of_lt_of_le hB (d7 (Nat.le_succ _))) (OvP.add B0 ov1 ov2) (by omega) g3 (ao1 (k := dn M last M.length) ev ?_)
      rw [Y1, dg2 _ (Nat.le_refl _)]
      intro z
      exact lead1 (by rw [← z]; grind)
  obtain ⟨r, rs, l, rfl, hr', hrs, hl⟩ := F3.fm
  have lw3 := aj9 F3.s0 F3.tz F3.e (n := 15) fun k hk => by rw [Y1, dg1 k (by omega), dg2 k (by omega)]; grind
  refine ⟨r, rfl, _, hr', rfl, _, _, rfl, _, _, rfl, rfl, ?_⟩
  refine ⟨_, s', l, ws', rfl, ⟨rs, rfl, hrs⟩, hl, Nat.lt_of_lt_of_le F3.bs.d (d7 (by decide)), Nat.lt_of_lt_of_le F3.bs.n (d7 (by decide)), fun v hv => Nat.lt_of_lt_of_le (F3.bw v hv) (d7 (by decide)), by omega, fun r4 zs H4 s4 f4 e4 n4 => ?_⟩
  exact k r4 zs _ H4 (S2.trans (s3.trans s4)) ((S2.trans s3).free f4) e4 n4 (tlB F3.s0 F3.tz) (by rw [P2, F3.e])
end
section
variable {P : Program} {w : World} {K : PySem.W.Frag} {mg : Str → Option Value} {base : Heap}
def bk0 (K : PySem.W.Frag) : Sp := fun vs H Q _ => ∃ (a b : Addr) (s1 s2 : Rat) (one other : List Int) (n S W1 W2 : Nat), vs = [.ref a, .ref b] ∧ br8 K H a s1 one ∧ br8 K H b s2 other ∧ one.length ≤ 30 ∧ other.length = n + 1 ∧ n ≤ 30 ∧ aZ other n ≠ 0 ∧ B7 one one.length ∧ one.length ≤ n + S ∧ (∀ v ∈ one, Int.natAbs v < 2 ^ W1) ∧ (∀ v ∈ other, Int.natAbs v < 2 ^ W2) ∧ 1 ≤ W1 ∧ 1 ≤ W2 ∧ W1 + S * (W2 + 1) + W2 ≤ 2900 ∧ BdN W1 s1 ∧ s1 ≠ 0 ∧ BdN W2 s2 ∧ s2 ≠ 0 ∧
  ∀ r t1 t2 r1 r2 lq lr s3 s4 Qz Rz H', d5 H H' → H lq = none → H lr = none → H' r = some (.tup [.ref t1, .ref t2]) → H' t1 = some (.tup [.ref r1, .ref lq]) → H' t2 = some (.tup [.ref r2, .ref lr]) → SqT K H' r1 (w9 s3) → SqT K H' r2 (w9 s4) → H' lq = some (.lst (Qz.map V.int)) → H' lr = some (.lst (Rz.map V.int)) →
    s3 ≠ 0 → s4 ≠ 0 → BdN 2901 s3 → (∀ v ∈ Qz, Int.natAbs v < 2 ^ 2900) → Rz.length ≤ n → B7 Rz Rz.length → B7 Qz Qz.length → Qz.length ≤ one.length → (Rz ≠ [] → t7 Rz = 1) → v6 s1 * zp one = v6 s3 * zp Qz * (v6 s2 * zp other) + v6 s4 * zp Rz → Q (.ref r) H'
set_option maxHeartbeats 0 in
theorem aj0 {f f1 f2 f3 : Addr} (d : Df K mg "form_divided" C3 ["one", "other"] f) (G_whole_divided : Def P w K mg base CX0 2 "whole_divided" f1 ["one", "other"] (bq1 K)) (G_over : Def P w K mg base CX0 3 "over" f2 ["one", "other"] (aK0 K)) (GD_formed : Def P w K mg base CX0 3 "formed" f3 ["scale", "wholes"] (ai1 K)) : Def P w K mg base CX0 4 "form_divided" f ["one", "other"] (bk0 K) := by
  have G_formed := GD_formed
  refine d.ok (N := ["one", "other", "scale", "many", "quotient", "rest"]) F6 (by rintro vs H Q E ⟨_, _, _, _, _, _, _, _, _, _, h, _⟩; rw [h]; rfl) (fun cdv A outer s H vs Q E hr h => ?_)
  obtain ⟨a, b, s1, s2, one, other, n, S, W1, W2, rfl, ⟨ra, la, ta, tsa, tla⟩, ⟨ab, lb, tb, tsb, tlb⟩, hl1, hl2, hn, h0, ht1, hS1, hw1, hw2, w11, w21, hT, bs1, s10, bs2, s20, k⟩ := h
  refine ⟨_, (d3 (F5 (d9 G_whole_divided hr (b6 (n5 o0 (pv 0) d4 (fun _ _ => rfl)) (b6 (n5 o0 (pv 1) d4 (fun _ _ => rfl)) b7)) i0) (show PG _ _ (N6 K 3 (n8 (j9 3) (n8 (j9 4) (n8 (j9 5) N7)))) from by (refine B9 (n := 3) ?_ ?_ ?_ ?_; rfl; (refine g8 ?_ ?_ ?_; (exact (e8 (i := 3) F6.nd rfl (Or.inl rfl))); (refine g8 ?_ ?_ ?_; (exact (e8 (i := 4) F6.nd rfl (Or.inl rfl))); (refine g8 ?_ ?_ ?_; (exact (e8 (i := 5) F6.nd rfl (Or.inl rfl))); (exact w4); rfl); rfl); rfl); rfl; rfl)))
      (d3 (i7 (i := 2) F6.nd rfl (Or.inl rfl) (d9 G_over hr (b6 (n5 o0 (pv 0) d4 (fun _ _ => rfl)) (b6 (u0 (b6 (pv 3) (b6 d4 b7))) b7)) i0))
      (d6 (g7 (u0 (b6 (u0 (b6 (d9 G_over hr (b6 (pv 2) (b6 (n5 o0 (pv 1) d4 (fun _ _ => rfl)) b7)) i0) (b6 (pv 4) b7))) (b6 (d9 G_formed hr (b6 (pv 2) (b6 (pv 5) b7)) i0) b7))))))), ?_⟩
  rw [show start ["one", "other", "scale", "many", "quotient", "rest"] [.ref a, .ref b] = [some (.ref a), some (.ref b), none, none, none, none] from rfl]
  have hSW : S * (W2 + 1) = S * W2 + S := by rw [Nat.mul_succ]
  subst_eqs
  refine ⟨_, ta, _, rfl, _, tb, _, rfl, la, lb, one, other, n, S, W1, W2, rfl, tla, tlb, hl1, hl2, hn, h0, ht1, hS1, hw1, hw2, by omega, by omega, fun r lq lr many Qz Rz H1 s1' fq fr nqr er eq elr m1 mb qb rb rl rt ql qt dv => ?_⟩
  refine ⟨r, rfl, _, SqT.of er, rfl, _, _, rfl, _, _, rfl, _, _, rfl, rfl, ?_⟩
  have mq : (many : Rat) ≠ 0 := fun z => by
    have := congrArg Rat.num z
    rw [Rat.num_intCast] at this
    have h00 : (0 : Rat).num = 0 := rfl
    omega
  have bm : BdN (S * W2 + 1) ((many : Int) : Rat) := aM1 mb (by omega)
  refine ⟨_, s1'.tup ta, _, rfl, v8, fun p hp => ?_⟩
  have S1 := d5.new hp (.tup [.int many, .int 1])
  have ep : (upd H1 p (.tup [.int many, .int 1])) p = some (.tup (w9 ((many : Int) : Rat))) := by
    rw [b8]; unfold w9; rw [Rat.num_intCast, Rat.den_intCast]; rfl
  refine ⟨.ref ra, .ref p, s1, _, rfl, ⟨ra, rfl, (s1'.trans S1).tup tsa⟩, ⟨p, rfl, SqT.of ep⟩, bs1.bd6 (by omega), bm.bd6 (by omega), mq, fun p2 H2 s2' e2 => ?_⟩
  have T2 := (s1'.trans S1).trans s2'
  have b3 : BdN (W1 + S * (W2 + 1) + 1) (s1 / ((many : Int) : Rat)) := by
    rw [Rat.div_def]
    exact (bs1.mul (bc3 mq bm)).mono (by omega)
  have z3 : s1 / ((many : Int) : Rat) ≠ 0 := fun z => by
    rw [Rat.div_def] at z
    have := Rat.mul_inv_cancel _ mq
    generalize ((many : Int) : Rat)⁻¹ = u at *
    generalize ((many : Int) : Rat) = y at *
    exact s10 (by grind)
  refine ⟨_, T2.tup tb, _, rfl, .ref p2, .ref ab, _, s2, rfl, ⟨p2, rfl, SqT.of e2⟩, ⟨ab, rfl, T2.tup tsb⟩, b3.bd6 (by omega), bs2.bd6 (by omega), s20, fun p3 H3 s3' e3 => ⟨v8, fun p4 hp4 => ?_⟩⟩
  have b4 : BdN (W1 + S * (W2 + 1) + W2 + 1) (s1 / ((many : Int) : Rat) / s2) := by
    rw [Rat.div_def _ s2]
    exact (b3.mul (bc3 s20 bs2)).mono (by omega)
  have S4 := d5.new hp4 (.tup [.ref p3, .ref lq])
  have T4 := (S1.trans s2').trans (s3'.trans S4)
  refine ⟨.ref p2, _, lr, Rz, W1 + S * (W2 + 1), W1 + S * (W2 + 1) + 1, rfl, ⟨p2, rfl, SqT.of (S4 _ _ (s3' _ _ e2))⟩, b3, z3, SqL.of (T4 _ _ elr), rb, by omega, by omega, by omega, rt, fun r5 rs5 l5 s5 ws5 H5 s5' f5 e5 es5 el5 b5 z5 wb5 wl5 eq5 g5 => ⟨v8, fun p6 hp6 => ?_⟩⟩
  have S6 := d5.new hp6 (.tup [.ref p4, .ref r5])
  have T6 := s5'.trans S6
  have z30 : s1 / ((many : Int) : Rat) / s2 ≠ 0 := fun z => by
    rw [Rat.div_def _ s2] at z
    rcases Rat.mul_eq_zero.mp z with y | y
    · exact z3 y
    · have := Rat.mul_inv_cancel _ s20
      rw [y] at this
      have e0 : s2 * 0 = 0 := by grind
      rw [e0] at this
      exact absurd this (by decide)
  have tz5 : B7 ws5 ws5.length := tzB z5 rfl (by rw [eq5]; exact tlB z3 rt)
  have idt : v6 ((many : Int) : Rat) * zp one = zp Qz * zp other + zp Rz := Pf.ext fun k => by
    rw [au9, Y1, aZ6]
    exact dv k
  have c1 : v6 (s1 / ((many : Int) : Rat)) * v6 ((many : Int) : Rat) = v6 s1 := by
    rw [← ai6, Rat.div_def]
    have := Rat.mul_inv_cancel _ mq
    congr 1
    generalize ((many : Int) : Rat)⁻¹ = y at *
    generalize ((many : Int) : Rat) = m at *
    grind
  have c2 : v6 (s1 / ((many : Int) : Rat) / s2) * v6 s2 = v6 (s1 / ((many : Int) : Rat)) := by
    rw [← ai6, Rat.div_def _ s2]
    have := Rat.mul_inv_cancel _ s20
    congr 1
    generalize s2⁻¹ = y at *
    generalize s1 / ((many : Int) : Rat) = m at *
    grind
  have c3 : v6 s5 * zp ws5 = v6 (s1 / ((many : Int) : Rat)) * zp Rz := by rw [← P2, eq5, P2]
  refine k p6 p4 r5 p3 rs5 lq l5 _ s5 Qz ws5 _ (s1'.trans (T4.trans T6)) fq ((s1'.trans T4).free f5) b8 (T6 _ _ b8) (S6 _ _ e5) (SqT.of (T6 _ _ (S4 _ _ e3))) (S6.tup es5) (T6 _ _ (T4 _ _ eq)) (S6 _ _ el5) z30 z5 (b4.mono (by omega)) (fun v hv => Nat.lt_of_lt_of_le (qb v hv) (d7 (by omega))) (by omega) tz5 qt (by omega) g5 ?_
  rw [c3, ← c1]
  generalize v6 (s1 / ((many : Int) : Rat) / s2) = A at *
  generalize v6 (s1 / ((many : Int) : Rat)) = B at *
  generalize v6 ((many : Int) : Rat) = C at *
  grind
end
section
variable {P : Program} {w : World} {K : PySem.W.Frag} {mg : Str → Option Value} {base : Heap}
def aW6 (K : PySem.W.Frag) : Sp := fun vs H Q _ => ∃ a xs qs, vs = [.ref a] ∧ SqL K H a xs ∧ B6 K H xs qs ∧ ∀ m r, v9 qs m → H r = none → Q (.ref r) (upd H r (.lst (xs.take m)))
abbrev ac9 : Stmt := top 48
theorem aA8 : i3 ["numbers", "many"] ["numbers"] (b9 ac9) := by clean_wf
set_option maxHeartbeats 0 in
theorem bf9 {f aN : Addr} (d : Df K mg "poly" ac9 ["numbers"] f) (c_NOUGHT : mg "NOUGHT" = some (.ref aN)) (tN : ∀ H, SqT K H aN (w9 0)) (n_len : mg "len" = none) : Def P w K mg base CX0 1 "poly" f ["numbers"] (aW6 K) := by
  refine d.ok (N := ["numbers", "many"]) aA8 (fun vs H Q E ⟨a, xs, qs, h, _⟩ => by rw [h]; rfl) (fun cdv A outer s H vs Q E hr h => ?_)
  obtain ⟨a, xs, qs, rfl, hS, hN, k⟩ := h
  have hu := hr.units
  refine ⟨_, (d3 (i7 (i := 1) aA8.nd rfl (Or.inl rfl) (d8 i6 rfl n_len (by decide +kernel) (b6 (pv 0) b7)))
      (d3 (U0 PassesOwn.never (PW.pt (aq2 (B4 (pv 1) (fun _ => rfl)) (af5 (j6 (ad3 hu) (n5 y9 (pv 0) (e9 M9 (pv 1) d4) (fun _ _ => rfl)) (p8 (v := .ref _) rfl c_NOUGHT rfl) (j8 _))))) (d6 (aK5 (i := 1) aA8.nd rfl (Or.inl rfl) d4 aM0)))
      (d6 (g7 (aH1 aO1 (pv 0) aB4 (am9 (pv 1))))))), ?_⟩
  rw [show start ["numbers", "many"] [.ref a] = [some (.ref a), none] from rfl]
  subst_eqs
  refine ⟨_, .inl hS, ?_⟩
  refine Z0 (fun σ H1 => H1 = H ∧ ∃ m : Nat, σ = [some (.ref a), some (.int m)] ∧ m ≤ qs.length ∧ (∀ (i : Nat) (q : Rat), m ≤ i → qs[i]? = some q → q = 0)) (fun σ H1 => match σ with | [_, some (.int y)] => y.toNat | _ => 0)
    ⟨rfl, qs.length, by rw [hN.length], Nat.le_refl _, fun i q hi e => by rw [List.getElem?_eq_none hi] at e; cases e⟩ ?_
  rintro σ H1 ⟨rfl, m, rfl, hm, hz⟩
  simp! [Y9]
  have fin : (m ≠ 0 → ∀ q, qs[m - 1]? = some q → q ≠ 0) → ∀ p, H1 p = none → Q (.ref p) (upd H1 p (.lst (aM8 xs none (some (m : Int))))) := fun hl p hp => by
    rw [aJ2 xs (by rw [hN.length]; exact hm)]
    exact k m p ⟨hm, hz, hl⟩ hp
  refine v7 (fun h0 => ?_) (fun h0 => ?_)
  · have h0' : m ≠ 0 := fun z => by subst z; simp at h0
    have hlt : m - 1 < qs.length := by omega
    obtain ⟨pv, hv, hpv⟩ := hN.get (List.getElem?_eq_getElem hlt)
    have ei : ((m : Int) - 1) = ((m - 1 : Nat) : Int) := by omega
    rw [ei]
    refine ⟨_, hS, _, P9 hv, ?_⟩
    refine ⟨A7 qs[m - 1], A7 0, rfl, Y3 hpv.sqt, Y3 (tN _), ag3 _ _, aD6 _, ?_⟩
    rw [ah0]
    refine ⟨_, rfl, v7 (fun hn => ?_) (fun hn => ?_)⟩
    · have hn' : qs[m - 1] = 0 := by simpa using hn
      refine WhB.mk ?_
      subst_eqs
      refine WhN.mk ⟨rfl, m - 1, by rw [ei], by omega, fun i q hi e => ?_⟩ ?_
      · by_cases hi' : i = m - 1
        · subst hi'
          rw [List.getElem?_eq_getElem hlt] at e
          cases e
          exact hn'
        · exact hz i q (by omega) e
      · show ((m : Int) - 1).toNat < (m : Int).toNat
        omega
    · refine ⟨_, hS, fin fun _ q e => ?_⟩
      rw [List.getElem?_eq_getElem hlt] at e
      cases e
      intro z
      exact hn (by simp [z])
  · have h0' : m = 0 := by
      by_cases z : m = 0
      · exact z
      · exact absurd (by simp [z]) h0
    exact ⟨_, hS, fin fun h => absurd h0' h⟩
end
section
variable {P : Program} {w : World} {K : PySem.W.Frag} {mg : Str → Option Value} {base : Heap}
def D8 (b : Nat) (ps : List Rat) : List Rat := ps.mapIdx fun j q => if (ps.length - 1 + j) % 2 = b then q else 0
theorem ao5 (b : Nat) (ps : List Rat) (i : Nat) : (D8 b ps)[i]? = (ps[i]?).map fun q => if (ps.length - 1 + i) % 2 = b then q else 0 := by
  unfold D8
  rw [List.getElem?_mapIdx]
theorem ae1 (b : Nat) (ps : List Rat) : (D8 b ps).length = ps.length := by unfold D8; rw [List.length_mapIdx]
theorem bj5 {a D aO : Addr} {xs : List V} {ps : List Rat} {H1 : Hp} {Q : VK} {b : Nat} {te : TE} (hS : SqL K H1 a xs) (hN : p7 H1 xs ps) (hD : H1 D = none) (hl : ps.length ≤ 30) (tO : ∀ H, SqT K H aO (w9 0))
    (hte : ∀ (j : Nat) (p : Addr) (H2 : Hp) (Q2 : VK), j < ps.length → ((ps.length - 1 + j) % 2 = b → Q2 (.ref p) H2) → ((ps.length - 1 + j) % 2 ≠ b → Q2 (.ref aO) H2) → te [some (.int ((xs.length : Int) - 1)), some (.int j), some (.ref p)] H2 Q2)
    (k : ∀ ys H2, d5 H1 H2 → H2 D = some (.lst ys) → B6 K H2 ys (D8 b ps) → Q (.ref D) H2) : al7 (Ite K a) D [some (V.int ((xs.length : Int) - 1)), none, none] (upd H1 D (.lst [])) (N6 K 2 (n8 (j9 1) (n8 (j9 2) N7))) te Q := by
  have lx := hN.length
  refine bi0 xs (fun i σ H2 => ∃ o1 o2, σ = [some (.int ((xs.length : Int) - 1)), o1, o2] ∧ d5 H1 H2 ∧ ∃ ys, H2 D = some (.lst ys) ∧ B6 K H2 ys ((D8 b ps).take i)) ⟨_, _, rfl, d5.new hD _, [], b8, .nil⟩ (by rintro i σ H2 ⟨_, _, _, s2, _⟩; exact s2.seq hS) ?_ ?_
  · rintro i x σ H2 p1 hx ⟨o1, o2, rfl, s2, ys, e2, n2⟩ hp1
    obtain ⟨p, q, rfl, hq, hpn⟩ := hN.getV hx
    have hi := (List.getElem?_eq_some_iff.mp hx).1
    have s3 := d5.new hp1 (.tup [.int i, .ref p])
    have hm := ao5 b ps i
    rw [hq] at hm
    subst_eqs
    refine ⟨_, SqT.of b8, rfl, _, _, rfl, _, _, rfl, rfl, ?_⟩
    have fin : ∀ (p2 : Addr) q2, (D8 b ps)[i]? = some q2 → NmC K (upd H2 p1 (.tup [.int i, .ref p])) p2 q2 → N5 D xs.length (fun i σ H2 => ∃ o1 o2, σ = [some (.int ((xs.length : Int) - 1)), o1, o2] ∧ d5 H1 H2 ∧ ∃ ys, H2 D = some (.lst ys) ∧ B6 K H2 ys ((D8 b ps).take i)) i [some (.int ((xs.length : Int) - 1)), some (.int i), some (.ref p)] (.ref p2) (upd H2 p1 (.tup [.int i, .ref p])) := by
      intro p2 q2 hq2 e6
      have eD := s3 _ _ e2
      refine N5.mk hi eD ?_ ⟨_, _, rfl, (s2.trans s3).over hD _, _, b8, ?_⟩
      · rw [n2.length, List.length_take]
        exact Nat.lt_of_le_of_lt (show _ ≤ 100 by omega) (by decide)
      · rw [List.take_succ, hq2]
        exact ((n2.mono s3.tups).append (.cons e6 .nil)).mono (X4.lst eD)
    refine hte i p _ _ (by omega) (fun h => fin p q ?_ (.inl (s3 _ _ (s2 _ _ hpn)))) (fun h => fin aO 0 ?_ (.inr tO))
    · rw [hm]; show some (if _ then q else 0) = _; rw [if_pos h]
    · rw [hm]; show some (if _ then q else 0) = _; rw [if_neg h]
  · rintro σ H2 ⟨o1, o2, rfl, s2, ys, e2, n2⟩
    rw [lx, ← ae1 b ps, List.take_length] at n2
    exact k ys H2 s2 e2 n2
def aN3 (K : PySem.W.Frag) : Sp := fun vs H Q _ => ∃ (a : Addr) (xs : List V) (ps : List Rat), vs = [.ref a] ∧ SqL K H a xs ∧ p7 H xs ps ∧ ps.length ≤ 30 ∧
  ∀ r l1 l2 y1 y2 m H', d5 H H' → H l1 = none → H' r = some (.tup [.ref l1, .ref l2]) → H' l1 = some (.lst y1) → H' l2 = some (.lst y2) → B6 K H' y1 (D8 0 ps) → B6 K H' y2 ((D8 1 ps).take m) → v9 (D8 1 ps) m → Q (.ref r) H'
abbrev E7 : Stmt := top 51
theorem V2 : i3 ["p", "lead", "first", "second"] ["p"] (b9 E7) := by clean_wf
set_option maxHeartbeats 0 in
theorem aH4 {f f1 aO : Addr} (d : Df K mg "by_turns" E7 ["p"] f) (G_poly : Def P w K mg base CX0 1 "poly" f1 ["numbers"] (aW6 K)) (c_NOUGHT : mg "NOUGHT" = some (.ref aO)) (tO : ∀ H, SqT K H aO (w9 0)) (n_len : mg "len" = none) (n_enumerate : mg "enumerate" = none) : Def P w K mg base CX0 2 "by_turns" f ["p"] (aN3 K) := by
  refine d.ok (N := ["p", "lead", "first", "second"]) V2 (by rintro vs H Q E ⟨_, _, _, h, _⟩; rw [h]; rfl) (fun cdv A outer s H vs Q E hr h => ?_)
  obtain ⟨a, xs, ps, rfl, hS, hN, hl, k⟩ := h
  have hu := hr.units
  refine ⟨_, (d3 (i7 (i := 1) V2.nd rfl (Or.inr rfl) (e9 M9 (d8 i6 rfl n_len (by decide +kernel) (b6 (pv 0) b7)) d4))
      (d3 (U1 (i₀ := 2) V2.nd rfl (Or.inl rfl) (Nc := ["lead", "place", "number"]) (caps := [some 1, none, none]) rfl (V9.of (osc := b9 E7) (N := ["p", "lead", "first", "second"]) (ks := ["lead"]) rfl rfl rfl rfl (Q3 rfl C5) (by decide +kernel)) (V4 rfl n_enumerate (b6 (pv 0) b7)) (fun C s₂ H₂ fp pins => (show PG _ _ (N6 K 2 (n8 (j9 1) (n8 (j9 2) N7))) from by (refine B9 (n := 2) ?_ ?_ ?_ ?_; rfl; (refine g8 ?_ ?_ ?_; (exact (e8 (i := 1) (show List.Nodup (["lead", "place", "number"] : List Str) by decide +kernel) rfl (Or.inl rfl) (Or.inr rfl))); (refine g8 ?_ ?_ ?_; (exact (e8 (i := 2) (show List.Nodup (["lead", "place", "number"] : List Str) by decide +kernel) rfl (Or.inl rfl) (Or.inr rfl))); (exact w4); rfl); rfl); rfl; rfl))) (fun C s₂ H₂ fp pins => (U2 (show PT _ _ (ac6 K _) from by exact (ax6 (e9 ba2 (e9 M9 (pv 0) (pv 1)) d4) (fun _ => rfl))) (p8 (v := .ref _) rfl c_NOUGHT rfl) (pv 2))))
      (d3 (U1 (i₀ := 3) V2.nd rfl (Or.inl rfl) (Nc := ["lead", "place", "number"]) (caps := [some 1, none, none]) rfl (V9.of (osc := b9 E7) (N := ["p", "lead", "first", "second"]) (ks := ["lead"]) rfl rfl rfl rfl (Q3 rfl C5) (by decide +kernel)) (V4 rfl n_enumerate (b6 (pv 0) b7)) (fun C s₂ H₂ fp pins => (show PG _ _ (N6 K 2 (n8 (j9 1) (n8 (j9 2) N7))) from by (refine B9 (n := 2) ?_ ?_ ?_ ?_; rfl; (refine g8 ?_ ?_ ?_; (exact (e8 (i := 1) (show List.Nodup (["lead", "place", "number"] : List Str) by decide +kernel) rfl (Or.inl rfl) (Or.inr rfl))); (refine g8 ?_ ?_ ?_; (exact (e8 (i := 2) (show List.Nodup (["lead", "place", "number"] : List Str) by decide +kernel) rfl (Or.inl rfl) (Or.inr rfl))); (exact w4); rfl); rfl); rfl; rfl))) (fun C s₂ H₂ fp pins => (U2 (show PT _ _ (ac6 K _) from by exact (ax6 (e9 ba2 (e9 M9 (pv 0) (pv 1)) d4) (fun _ => rfl))) (pv 2) (p8 (v := .ref _) rfl c_NOUGHT rfl))))
      (d6 (g7 (u0 (b6 (pv 2) (b6 (d9 G_poly hr (b6 (pv 3) b7) i0) b7)))))))), ?_⟩
  rw [show start ["p", "lead", "first", "second"] [.ref a] = [some (.ref a), none, none, none] from rfl]
  subst_eqs
  have lx := hN.length
  have par : ∀ j : Nat, j < ps.length → (((xs.length : Int) - 1 - (j : Int)) % 2 != 0) = decide ((ps.length - 1 + j) % 2 = 1) := fun j hj => by
    rw [lx]
    by_cases z : (ps.length - 1 + j) % 2 = 1
    · rw [decide_eq_true z]
      have : ((ps.length : Int) - 1 - (j : Int)) % 2 ≠ 0 := by omega
      simpa using this
    · rw [decide_eq_false z]
      have : ((ps.length : Int) - 1 - (j : Int)) % 2 = 0 := by omega
      rw [this]; rfl
  refine ⟨xs, .inl hS, ⟨_, hS⟩, fun D hD => bj5 (b := 0) (aO := aO) hS hN hD hl tO (fun j p H2 Q2 hj h0 h1 => ?_) fun y1 H1 s1 e1 n1 => ?_⟩
  · simp! [Y9]
    rw [bitAnd_m1, par j hj]
    refine v7 (fun z => h1 ?_) (fun z => h0 ?_)
    · have := of_decide_eq_true z
      omega
    · have : ¬ (ps.length - 1 + j) % 2 = 1 := fun y => z (decide_eq_true y)
      omega
  refine ⟨⟨_, s1.seq hS⟩, fun D2 hD2 => bj5 (b := 1) (aO := aO) (s1.seq hS) (hN.mono s1.tups) hD2 hl tO (fun j p H2 Q2 hj h0 h1 => ?_) fun y2 H2 s2 e2 n2 => ?_⟩
  · simp! [Y9]
    rw [bitAnd_m1, par j hj]
    refine v7 (fun z => h0 (of_decide_eq_true z)) (fun z => h1 fun y => z (decide_eq_true y))
  refine ⟨D2, y2, D8 1 ps, rfl, SqL.of e2, n2, fun m r tm hr' => ⟨v8, fun p hp => ?_⟩⟩
  have X1 := d5.new hr' (.lst (y2.take m))
  have X2 := d5.new hp (.tup [.ref D, .ref r])
  have X := X1.trans X2
  exact k p D r y1 (y2.take m) m _ (s1.trans (s2.trans X)) hD b8 (X _ _ (s2 _ _ e1)) (X2 _ _ b8) (n1.mono (s2.trans X).tups) ((n2.take m).mono X.tups) tm
end
section
variable {P : Program} {w : World} {K : PySem.W.Frag} {mg : Str → Option Value} {base : Heap}
abbrev M8 : Stmt := top 61
theorem Q5 : i3 ["_law_top", "_law_bottom", "_law_one", "_law_other_here"] ["_law_top", "_law_bottom"] (b9 M8) := by clean_wf
theorem aH6 {f : Addr} (d : Df K mg "_law_low" M8 ["_law_top", "_law_bottom"] f) (n_abs : mg "abs" = none) : Def P w K mg base CX0 1 "_law_low" f ["_law_top", "_law_bottom"] aw8 := by
  refine d.ok (N := ["_law_top", "_law_bottom", "_law_one", "_law_other_here"]) Q5 (fun vs H Q E ⟨a, b, h, _⟩ => by rw [h]; rfl) (fun cdv A outer s H vs Q E hr h => ?_)
  obtain ⟨t, b, rfl, hb0, hb, k⟩ := h
  refine ⟨_, (d3 (i7 (i := 2) Q5.nd rfl (Or.inl rfl) (d8 X0 rfl n_abs (by decide +kernel) (b6 (pv 0) b7)))
      (d3 (i7 (i := 3) Q5.nd rfl (Or.inl rfl) (d8 X0 rfl n_abs (by decide +kernel) (b6 (pv 1) b7)))
      (d3 (U0 PassesOwn.never (j6 ar0 (pv 3) d4 (j8 _)) (d6 (X9 (i := 2) (j := 3) rfl Q5.nd rfl rfl (by decide) rfl rfl (b6 (pv 3) (b6 (e9 M1 (pv 2) (pv 3)) b7)) rfl)))
      (d3 (z9 (j6 ak5 (pv 1) d4 (j8 _)) (d6 (i7 (i := 2) Q5.nd rfl (Or.inl rfl) (e9 M9 d4 (pv 2)))) m6)
      (d6 (g7 (u0 (b6 (e9 B5 (pv 0) (pv 2)) (b6 (e9 B5 (pv 1) (pv 2)) b7))))))))), ?_⟩
  rw [show start ["_law_top", "_law_bottom", "_law_one", "_law_other_here"] [.int t, .int b] = [some (.int t), some (.int b), none, none] from rfl]
  subst_eqs
  refine aE5 (fun σ H1 => H1 = H ∧ ∃ x y : Int, σ = [some (.int t), some (.int b), some (.int x), some (.int y)] ∧ 0 ≤ x ∧ 0 ≤ y ∧ Int.gcd x y = Int.gcd t b) (fun σ _ => match σ with | [_, _, _, some (.int y)] => y.natAbs | _ => 0)
    ⟨rfl, _, _, rfl, by split <;> omega, by split <;> omega, ?_⟩ ?_ ?_
  · have e1 : (if t < 0 then -t else t) = (t.natAbs : Int) := by split <;> omega
    have e2 : (if b < 0 then -b else b) = (b.natAbs : Int) := by split <;> omega
    rw [e1, e2, Int.gcd_eq_natAbs_gcd_natAbs, Int.gcd_eq_natAbs_gcd_natAbs]; simp
  · rintro σ H1 ⟨rfl, x, y, rfl, hx, hy, hg⟩
    subst_eqs
    split
    · rename_i hy0
      exact ⟨by omega, hy, Int.fmod_nonneg_of_pos x hy0, by rw [aI9]; exact hg, Z8 x (by omega)⟩
    · rename_i hy0
      have hy' : y = 0 := by omega
      subst hy'
      have ex : x = (Int.gcd t b : Int) := by
        rw [Int.gcd_zero_right] at hg
        omega
      have gp := K3 (t := t) hb0
      have gl := as6 (a := t) hb0 hb
      by_cases hs : b < 0
      · rw [if_pos hs]
        obtain ⟨e1, e2⟩ := aC8 (t := t) (g := 0 - x) hb0 (by rw [if_pos hs, ex]; omega)
        have dv : ∀ i, au3 i (0 - x) := fun i => R0 (by omega) (by rw [show 0 - x = -x by omega, Int.natAbs_neg, ex]; exact N4 gl)
        refine ⟨dv _, dv _, v8, fun r hr' => ?_⟩
        exact k r _ (d5.new hr' _) (by rw [b8]; unfold w9; rw [e1, e2])
      · rw [if_neg hs]
        obtain ⟨e1, e2⟩ := aC8 (t := t) (g := x) hb0 (by rw [if_neg hs, ex])
        have dv : ∀ i, au3 i x := fun i => R0 (by omega) (by rw [ex]; exact N4 gl)
        refine ⟨dv _, dv _, v8, fun r hr' => ?_⟩
        exact k r _ (d5.new hr' _) (by rw [b8]; unfold w9; rw [e1, e2])
  · intro σ H1 Q1 Q2 hQ h
    simp only [bc4, ipM, ac6, aY1, aX7, aK2, ae3, X5, aF0, aX9, aF2, tSl, aV7, aE7, ae2, aX8, aY0, af4, aI7, R1, List.map_cons, List.map_nil, Option.bind_none, Option.bind_some, Option.join_some, aQ6, aW1, aW4, tOr, aV9, ao7, tB, tOp, tUn, aR0, tBM, S9, tC, tCB, aQ7, aJ9, j9, bc8, N6, n8, N7, W0, ao9, aQ8, aQ5, aW0, tIf, aF3, aV8, aE8, aQ9, ah7, aF1, aE9, ap0, ao8, aW3, ipI, rI, rI0, rU, af3, aK3, aY2, aG8, rEq, rNe, aq1, aq0, ap9, aY3, aY5, aI5, aI6, ah1, cxR, cxX, Cx.nox, Cx.wish, Cx.body, Cx.suite, List.getElem?_cons_zero, List.getElem?_cons_succ, List.set_cons_zero, List.set_cons_succ, Option.some.injEq, V.int.injEq, V.bl.injEq, V.ref.injEq, V.str.injEq, exists_eq_left', exists_eq_left, exists_and_left, true_and, and_true, List.cons.injEq, reduceCtorEq, Bool.false_eq_true, if_false, if_true, exists_const, ↓reduceIte, tyV, List.length_cons, List.length_nil, exists_eq, List.append_nil, List.cons_append, List.nil_append, decide_eq_true_eq, not_true_eq_false, not_false_eq_true, Bool.not_eq_true', decide_eq_false_iff_not, Bool.not_true, Bool.not_false, and_assoc, false_and, false_or, or_false] at h ⊢
    obtain ⟨v, e1, i, e2, e3⟩ := h
    exact ⟨v, e1, i, e2, hQ _ _ e3⟩
abbrev M7 : Stmt := top 59
theorem N1 : i3 ["_law_script", "_law_at", "_law_cell", "_law_prime", "_law_great"] ["_law_script", "_law_at"] (b9 M7) := by clean_wf
set_option maxHeartbeats 0 in
theorem aH5 {f : Addr} (d : Df K mg "_law_urn" M7 ["_law_script", "_law_at"] f) (n_len : mg "len" = none) (n_abs : mg "abs" = none) : Def P w K mg base CX0 1 "_law_urn" f ["_law_script", "_law_at"] (bj8 K) := by
  refine d.ok (N := ["_law_script", "_law_at", "_law_cell", "_law_prime", "_law_great"]) N1 (fun vs H Q E ⟨x, y, p, h, _⟩ => by rw [h]; rfl) (fun cdv A outer s H vs Q E hr h => ?_)
  obtain ⟨a, ns, i, rfl, hS, h0, h64, k⟩ := h
  refine ⟨_, (d3 (i7 (i := 2) N1.nd rfl (Or.inl rfl) d4)
      (d3 (z9 (j6 ak5 (pv 1) (d8 i6 rfl n_len (by decide +kernel) (b6 (pv 0) b7)) (j8 _)) (d6 (i7 (i := 2) N1.nd rfl (Or.inl rfl) (n5 y9 (pv 0) (pv 1) (fun _ _ => rfl)))) m6)
      (d3 (i7 (i := 3) N1.nd rfl (Or.inl rfl) (n5 o0 (u0 (b6 d4 (b6 d4 (b6 d4 (b6 d4 (b6 d4 (b6 d4 (b6 d4 (b6 d4 b7))))))))) (e9 M1 (pv 1) d4) (fun _ _ => rfl)))
      (d3 (i7 (i := 4) N1.nd rfl (Or.inl rfl) d4)
      (d3 (z9 (j6 bk4 (d8 X0 rfl n_abs (by decide +kernel) (b6 (pv 2) b7)) (e9 Z5 d4 d4) (j8 _)) (d6 (i7 (i := 4) N1.nd rfl (Or.inl rfl) (d8 X0 rfl n_abs (by decide +kernel) (b6 (pv 2) b7)))) m6)
      (d6 (g7 (w8 (b6 (pv 4) (b6 (e9 M1 (e9 Z5 (e9 E1 (e9 E1 (e9 M1 (pv 2) (pv 3)) (e9 w5 d4 (pv 1))) d4) d4) (pv 3)) (b6 (pv 3) b7))))))))))), ?_⟩
  rw [show start ["_law_script", "_law_at", "_law_cell", "_law_prime", "_law_great"] [.ref a, .int i] = [some (.ref a), some (.int i), none, none, none] from rfl]
  -- behind the first test: any cell
  have main : ∀ c : Int, ∀ g : Int, 0 ≤ g → ∀ (p : Int), 1899992839 ≤ p → p ≤ 1899999979 → ∀ H1, d5 H H1 → 
      (p ≠ 0 ∧ IntMulOk 65537 i ∧ bj2 (c.fmod p + 65537 * i + 101) 3 ∧ p ≠ 0 ∧ 3 ≤ sizeLine ∧ ∀ r, H1 r = none → Q (.ref r) (upd H1 r (.lst [.int g, .int (((c.fmod p + 65537 * i + 101) ^ (3 : Int).toNat).fmod p), .int p]))) := by
    intro c g hg p p1 p2 H1 s1
    have m0 := Int.fmod_nonneg_of_pos c (show 0 < p by omega)
    have m1 := Int.fmod_lt_of_pos c (show 0 < p by omega)
    refine ⟨by omega, bn1 (by decide), ⟨by decide, by decide, by omega⟩, by omega, by decide, fun r hr' => ?_⟩
    refine k r _ (s1.trans (d5.new hr' _)) (s1.free hr') ⟨g, _, p, b8, hg, Int.fmod_nonneg_of_pos _ (by omega), ?_, by omega, by omega⟩
    have := Int.fmod_lt_of_pos ((c.fmod p + 65537 * i + 101) ^ (3 : Int).toNat) (show 0 < p by omega)
    omega
  subst_eqs
  refine ⟨_, .inl hS, ?_⟩
  obtain ⟨pr, hpr, p1, p2⟩ := aY9 h0
  split
  · rename_i hl
    obtain ⟨c, hc⟩ := aU2 (ns := ns) h0 (by simpa using hl)
    refine ⟨_, hS, _, hc, by decide, fun p hp => ⟨by decide, _, SqT.of b8, _, hpr, _, rfl, ⟨by decide, by decide, by decide⟩, ?_⟩⟩
    refine v7 (fun _ => ?_) (fun _ => ?_)
    · obtain ⟨a1, a2, a3, a4, a5, a6⟩ := main c (if c < 0 then -c else c) (by split <;> omega) pr p1 p2 _ (d5.new hp _)
      exact ⟨_, rfl, _, rfl, _, rfl, a1, a2, a3, _, rfl, a4, a5, a6⟩
    · obtain ⟨a1, a2, a3, a4, a5, a6⟩ := main c 0 (by omega) pr p1 p2 _ (d5.new hp _)
      exact ⟨_, rfl, _, rfl, a1, a2, a3, _, rfl, a4, a5, a6⟩
  · refine ⟨by decide, fun p hp => ⟨by decide, _, SqT.of b8, _, hpr, ⟨by decide, by decide, by decide⟩, ?_⟩⟩
    refine v7 (fun hc => ?_) (fun _ => ?_)
    · exact absurd hc (by decide)
    · obtain ⟨a1, a2, a3, a4, a5, a6⟩ := main 0 0 (by omega) pr p1 p2 _ (d5.new hp _)
      exact ⟨_, rfl, a1, a2, a3, _, rfl, a4, a5, a6⟩
abbrev J2 : Stmt := top 60
theorem af0 : i3 ["_law_urn_here", "_law_many", "_law_drawn"] ["_law_urn_here", "_law_many"] (b9 J2) := by clean_wf
set_option maxHeartbeats 0 in
theorem aC6 {f : Addr} (d : Df K mg "_law_draw" J2 ["_law_urn_here", "_law_many"] f) : Def P w K mg base CX0 1 "_law_draw" f ["_law_urn_here", "_law_many"] O0 := by
  refine d.ok (N := ["_law_urn_here", "_law_many", "_law_drawn"]) af0 (fun vs H Q E ⟨x, y, h, _⟩ => by rw [h]; rfl) (fun cdv A outer s H vs Q E hr h => ?_)
  obtain ⟨u, n, rfl, ⟨g, m, p, hu, g0, m0, m1, p0, p1⟩, n0, n1, k⟩ := h
  refine ⟨_, (d3 (z9 (j6 ar0 (n5 y9 (pv 0) d4 (fun _ _ => rfl)) d4 (j8 _)) (d3 (i7 (i := 2) af0.nd rfl (Or.inl rfl) (e9 M1 (n5 y9 (pv 0) d4 (fun _ _ => rfl)) (pv 1)))
      (d3 (F5 (e9 B5 (n5 y9 (pv 0) d4 (fun _ _ => rfl)) (pv 1)) (ai5 (pv 0) d4 O1))
      (d6 (g7 (pv 2))))) m6)
      (d3 (F5 (e9 M1 (e9 E1 (e9 w5 (n5 y9 (pv 0) d4 (fun _ _ => rfl)) d4) d4) (n5 y9 (pv 0) d4 (fun _ _ => rfl))) (ai5 (pv 0) d4 O1))
      (d6 (g7 (e9 M1 (e9 B5 (e9 M1 (e9 Z5 (e9 B5 (n5 y9 (pv 0) d4 (fun _ _ => rfl)) d4) d4) d4) d4) (pv 1)))))), ?_⟩
  rw [show start ["_law_urn_here", "_law_many", "_law_drawn"] [.ref u, .int n] = [some (.ref u), some (.int n), none] from rfl]
  have L1 : SqL K H u [.int g, .int m, .int p] := SqL.of hu
  have x0 : ∀ g m p : Int, atI [V.int g, .int m, .int p] 0 = some (.int g) := fun _ _ _ => rfl
  have x1 : ∀ g m p : Int, atI [V.int g, .int m, .int p] 1 = some (.int m) := fun _ _ _ => rfl
  have x2 : ∀ g m p : Int, atI [V.int g, .int m, .int p] 2 = some (.int p) := fun _ _ _ => rfl
  subst_eqs
  have dn : ∀ i, au3 i n := fun i => R0 (by omega) (Nat.lt_of_lt_of_le (show n.natAbs < 2 ^ 40 by omega) (d7 (by decide)))
  refine ⟨_, L1, _, x0 g m p, _, rfl, v7 (fun hg => ?_) (fun hg => ?_)⟩
  · refine ⟨_, L1, _, x0 g m p, _, rfl, by omega, _, L1, _, x0 g m p, _, rfl, dn _, _, hu, 0, rfl, ?_⟩
    exact k _ _ (Int.fmod_nonneg_of_pos _ n0) (Int.fmod_lt_of_pos _ n0) (t8.upd _ _ _) ⟨g.fdiv n, m, p, b8, Int.fdiv_nonneg g0 (by omega), m0, m1, p0, p1⟩
  · have q0 := Int.fmod_nonneg_of_pos (m * 60013 + 12289) p0
    have q1 := Int.fmod_lt_of_pos (m * 60013 + 12289) p0
    have z : SqL K (upd H u (.lst [.int g, .int ((m * 60013 + 12289).fmod p), .int p])) u [.int g, .int ((m * 60013 + 12289).fmod p), .int p] := SqL.of b8
    have d16 : 0 ≤ ((m * 60013 + 12289).fmod p).fdiv 16 ∧ ((m * 60013 + 12289).fmod p).fdiv 16 < 2 ^ 40 := by
      rw [Int.fdiv_eq_ediv_of_nonneg _ (by decide)]
      omega
    refine ⟨_, L1, _, x1 g m p, _, rfl, ay1 (by decide), _, L1, _, x2 g m p, _, rfl, by omega, _, hu, 1, rfl, _, z, _, x1 _ _ _, _, rfl, R0 (by decide) (Nat.lt_of_lt_of_le (show (16 : Int).natAbs < 2 ^ 40 by decide) (d7 (by decide))), ⟨by decide, by decide, by omega⟩, by decide, R0 (by decide) (Nat.lt_of_lt_of_le (show (8 : Int).natAbs < 2 ^ 40 by decide) (d7 (by decide))), by omega, ?_⟩
    exact k _ _ (Int.fmod_nonneg_of_pos _ n0) (Int.fmod_lt_of_pos _ n0) (t8.upd _ _ _) ⟨g, _, p, b8, g0, q0, by omega, p0, p1⟩
abbrev J1 : Stmt := top 64
theorem aB2 : i3 ["_law_urn_here"] ["_law_urn_here"] (b9 J1) := by clean_wf
set_option maxHeartbeats 0 in
theorem aC5 {f fd : Addr} (d : Df K mg "_law_kind" J1 ["_law_urn_here"] f) (G__law_draw : Def P w K mg base CX0 1 "_law_draw" fd ["_law_urn_here", "_law_many"] O0) : Def P w K mg base CX0 2 "_law_kind" f ["_law_urn_here"] aK1 := by
  refine d.ok (N := ["_law_urn_here"]) aB2 (fun vs H Q E ⟨u, h, _⟩ => by rw [h]; rfl) (fun cdv A outer s H vs Q E hr h => ?_)
  obtain ⟨u, rfl, hu, k⟩ := h
  refine ⟨_, (d6 (g7 (n5 y9 (w8 (b6 d4 (b6 d4 (b6 d4 (b6 d4 (b6 d4 (b6 d4 (b6 d4 (b6 d4 b7))))))))) (d9 G__law_draw hr (b6 (pv 0) (b6 d4 b7)) i0) (fun _ _ => rfl)))), ?_⟩
  rw [show start ["_law_urn_here"] [.ref u] = [some (.ref u)] from rfl]
  simp! [O0]
  refine ⟨by decide, fun l hl => ⟨L9 hu hl, by decide, by decide, fun r H' r0 r1 sx hu' => ?_⟩⟩
  have e := sx l _ b8 (N8 hu hl)
  have sx' : t8 u H H' := t8.trans (d5.x (d5.new hl _) u) sx
  have h3 : r = 0 ∨ r = 1 ∨ r = 2 ∨ r = 3 ∨ r = 4 ∨ r = 5 ∨ r = 6 ∨ r = 7 := by omega
  rcases h3 with h | h | h | h | h | h | h | h <;> subst h <;> exact ⟨_, SqL.of e, _, rfl, k _ H' (by decide) sx' hu'⟩
abbrev D4 : Stmt := top 65
theorem Z4 : i3 ["_law_urn_here", "_law_kind_here", "_law_top"] ["_law_urn_here", "_law_kind_here"] (b9 D4) := by clean_wf
abbrev E8 : Stmt := top 70
theorem au7 : i3 ["_law_thing"] ["_law_thing"] (b9 E8) := by clean_wf
theorem av2 {f : Addr} (d : Df K mg "_law_whole" E8 ["_law_thing"] f) (n_isinstance : mg "isinstance" = none) (n_int : mg "int" = none) (n_bool : mg "bool" = none) : Def P w K mg base CX0 1 "_law_whole" f ["_law_thing"] ae4 := by
  refine d.ok (N := ["_law_thing"]) au7 (fun vs H Q E ⟨u, h, _⟩ => by rw [h]; rfl) (fun cdv A outer s H vs Q E hr h => ?_)
  obtain ⟨i, rfl, k⟩ := h
  refine ⟨_, (d6 (g7 (aq7 (d8 j0 rfl n_isinstance (by decide +kernel) (b6 (pv 0) (b6 (P6 (v := .ty "int") rfl n_int (by decide +kernel) rfl) b7))) (aq6 (aZ7 (d8 j0 rfl n_isinstance (by decide +kernel) (b6 (pv 0) (b6 (P6 (v := .ty "bool") rfl n_bool (by decide +kernel) rfl) b7)))))))), ?_⟩
  rw [show start ["_law_thing"] [.int i] = [some (.int i)] from rfl]
  subst_eqs
  exact ⟨trivial, _, .of (.int i), _, aI3, bs8 ⟨trivial, _, .of (.int i), _, aC9, k⟩⟩
abbrev A6 : Stmt := top 71
theorem ae9 : i3 ["_law_thing"] ["_law_thing"] (b9 A6) := by clean_wf
set_option maxHeartbeats 0 in
theorem ag1 {f fw fl : Addr} (d : Df K mg "_law_is_number" A6 ["_law_thing"] f) (G__law_whole : Def P w K mg base CX0 1 "_law_whole" fw ["_law_thing"] ae4) (G__law_low : Def P w K mg base CX0 1 "_law_low" fl ["_law_top", "_law_bottom"] aw8) (n_isinstance : mg "isinstance" = none) (n_tuple : mg "tuple" = none) (n_len : mg "len" = none) :
    Def P w K mg base CX0 2 "_law_is_number" f ["_law_thing"] (aN9 K) := by
  refine d.ok (N := ["_law_thing"]) ae9 (fun vs H Q E ⟨u, q, h, _⟩ => by rw [h]; rfl) (fun cdv A outer s H vs Q E hr h => ?_)
  obtain ⟨x, q, rfl, ⟨ap, rfl, hS⟩, hd, k⟩ := h
  have hu := hr.units
  refine ⟨_, (d3 (z9 (PW.pt (T9 (B3 (J3 (d8 j0 rfl n_isinstance (by decide +kernel) (b6 (pv 0) (b6 (P6 (v := .ty "tuple") rfl n_tuple (by decide +kernel) rfl) b7))))) (T9 (j6 ba1 (d8 i6 rfl n_len (by decide +kernel) (b6 (pv 0) b7)) d4 (j8 _)) (T9 (B3 (J3 (d9 G__law_whole hr (b6 (n5 o0 (pv 0) d4 (fun _ _ => rfl)) b7) i0))) (V6 (B3 (J3 (d9 G__law_whole hr (b6 (n5 o0 (pv 0) d4 (fun _ _ => rfl)) b7) i0)))))))) (d6 (g7 U3)) m6)
      (d6 (g7 (aq7 (R7 ar0 (n5 o0 (pv 0) d4 (fun _ _ => rfl)) d4 (j8 _)) (aq6 (R7 (ad3 hu) (d9 G__law_low hr (b6 (n5 o0 (pv 0) d4 (fun _ _ => rfl)) (b6 (n5 o0 (pv 0) d4 (fun _ _ => rfl)) b7)) i0) (pv 0) (j8 _))))))), ?_⟩
  rw [show start ["_law_thing"] [.ref ap] = [some (.ref ap)] from rfl]
  have dq := n9 q
  simp! [ae4, aG5]
  refine ⟨trivial, _, .sqt hS, _, aI2, ?_⟩
  simp! [ae4, aG5]
  refine ⟨_, .inr hS, ?_⟩
  simp! [ae4, aG5, w9]
  refine v7 (fun hh => absurd rfl hh) (fun _ => ?_)
  refine ⟨_, hS, _, at0 q, _, rfl, _, hS, _, at1 q, _, rfl, _, hS, _, at1 q, _, rfl, ?_⟩
  rw [if_pos dq]
  refine ⟨_, hS, _, at0 q, _, hS, _, at1 q, _, _, rfl, by omega, hd, fun r H' sm hr' => ?_⟩
  rw [Rat.num_divInt_den] at hr'
  refine ⟨A7 q, A7 q, rfl, Y3 (SqT.of hr'), Y3 (sm.tup hS), ag3 q q, aD6 q, ?_⟩
  rw [aP5]; exact k H' sm
end
section
variable {P : Program} {w : World} {K : PySem.W.Frag} {mg : Str → Option Value} {base : Heap}
def spOther : Sp := fun vs H Q _ => ∃ u kd, vs = [.ref u, .int kd] ∧ t6 H u ∧ ∀ r q H', Sm q → q ≠ 0 → t8 u H H' → t6 H' u → H' r = some (.tup (w9 q)) → Q (.ref r) H'
abbrev F4 : Stmt := top 66
theorem ab9 : i3 ["_law_urn_here", "_law_kind_here", "_law_found"] ["_law_urn_here", "_law_kind_here"] (b9 F4) := by clean_wf
def aA4 (K : PySem.W.Frag) : Sp := fun vs H Q _ => ∃ a xs qs, vs = [.ref a] ∧ SqL K H a xs ∧ p7 H xs qs ∧ ∀ m r H', v9 qs m → d5 H H' → H r = none → H' r = some (.lst (xs.take m)) → Q (.ref r) H'
abbrev G7 : Stmt := top 67
theorem ae7 : i3 ["_law_numbers", "_law_found"] ["_law_numbers"] (b9 G7) := by clean_wf
theorem bh1 {α : Type} {xs : List α} {x : α} (h : xs[xs.length - 1]? = some x) : atI xs (-1) = some x := by
  have hp : xs.length - 1 < xs.length := (List.getElem?_eq_some_iff.mp h).1
  have e : ixN xs.length (-1) = some (xs.length - 1) := by
    unfold ixN
    rw [if_neg (by decide)]
    rw [if_pos (by omega)]
    congr 1
    omega
  unfold atI
  rw [e]
  exact h
set_option maxHeartbeats 0 in
theorem aC2 {f : Addr} (d : Df K mg "_law_trim" G7 ["_law_numbers"] f) (n_list : mg "list" = none) : Def P w K mg base CX0 1 "_law_trim" f ["_law_numbers"] (aA4 K) := by
  refine d.ok (N := ["_law_numbers", "_law_found"]) ae7 (fun vs H Q E ⟨a, xs, qs, h, _⟩ => by rw [h]; rfl) (fun cdv A outer s H vs Q E hr h => ?_)
  obtain ⟨a, xs, qs, rfl, hS, hN, k⟩ := h
  have hu := hr.units
  refine ⟨_, (d3 (i7 (i := 1) ae7.nd rfl (Or.inl rfl) (K2 C8 rfl n_list (by decide +kernel) (b6 (pv 0) b7)))
      (d3 (U0 PassesOwn.never (PW.pt (aq2 (j6 (ad2 hu) (pv 1) (w8 b7) (j8 _)) (af5 (j6 ac2 (n5 o0 (n5 y9 (pv 1) (ak3 Z1 d4) (fun _ _ => rfl)) d4 (fun _ _ => rfl)) d4 (j8 _))))) (d6 (V3 (ad1 PySem.F.plainAttrs_list PySem.F.slot_list_pop PySem.F.type_list_pop bn2 (pv 1)))))
      (d6 (g7 (pv 1))))), ?_⟩
  rw [show start ["_law_numbers", "_law_found"] [.ref a] = [some (.ref a), none] from rfl]
  subst_eqs
  refine ⟨_, .inl hS, fun l hl => ?_⟩
  refine Z0 (fun σ H1 => σ = [some (.ref a), some (.ref l)] ∧ ∃ m, m ≤ qs.length ∧ (∀ (i : Nat) (q : Rat), m ≤ i → qs[i]? = some q → q = 0) ∧ d5 H H1 ∧ H1 l = some (.lst (xs.take m))) (fun σ H1 => match H1 l with | some (.lst ys) => ys.length | _ => 0)
    ⟨rfl, qs.length, Nat.le_refl _, fun i q hi e => ?_, d5.new hl _, ?_⟩ ?_
  · rw [List.getElem?_eq_none hi] at e; cases e
  · rw [b8, ← hN.length, List.take_length]
  · rintro σ H1 ⟨rfl, m, hm, hz, sm, e1⟩
    have hml : (xs.take m).length = m := by rw [List.length_take, hN.length]; omega
    subst_eqs
    refine ⟨by decide, fun p hp => ?_⟩
    have n1 : p7 H1 (xs.take m) (qs.take m) := (hN.mono sm.tups).take m
    have pl : p ≠ l := (g6 e1 hp).symm
    have e2 : upd H1 p (.lst []) l = some (.lst (xs.take m)) := by rw [i5 pl.symm]; exact e1
    have n2 : p7 (upd H1 p (.lst [])) (xs.take m) (qs.take m) := n1.mono (X4.new hp)
    refine ⟨j7 (qs.take m), j7 [], rfl, K1 (SqL.of e2) n2, K1 (SqL.of b8) .nil, O5 _ _, Nat.le_trans (R8 _) (by decide), ?_⟩
    rw [F8]
    by_cases h0 : m = 0
    · subst h0
      simp only [List.take_zero, decide_true, Bool.not_true, Bool.false_eq_true, if_false]
      refine ⟨false, rfl, v7 (fun h => absurd h (by decide)) fun _ => k 0 l _ ⟨Nat.zero_le _, hz, fun h => absurd rfl h⟩ (sm.trans (d5.new hp _)) hl ?_⟩
      rw [e2]
    · have hlt : m - 1 < qs.length := by omega
      have hne : qs.take m ≠ [] := fun z => by
        have := congrArg List.length z
        rw [List.length_take, List.length_nil] at this
        omega
      simp only [hne, decide_false, Bool.not_false]
      obtain ⟨pv, hv, hpv⟩ := n2.get (i := m - 1) (q := qs[m - 1]) (by rw [List.getElem?_take_of_lt (by omega)]; exact List.getElem?_eq_getElem hlt)
      refine ⟨true, rfl, v7 (fun _ => ?_) (fun h => absurd rfl h)⟩
      refine ⟨_, SqL.of e2, _, bh1 (by rw [hml]; exact hv), _, rfl, _, SqT.of hpv, _, at0 _, rfl, ?_⟩
      refine v7 (fun hn => ?_) (fun hn => ?_)
      · have hn' : qs[m - 1].num = 0 := V.int.inj hn
        refine WhB.mk ?_
        subst_eqs
        refine ⟨.inl ⟨_, SqL.of e2⟩, _, e2, _, by rw [hml]; exact hv, WhN.mk ⟨rfl, m - 1, by omega, fun i q hi e => ?_, (sm.trans (d5.new hp _)).over hl _, ?_⟩ ?_⟩
        · by_cases hi' : i = m - 1
          · subst hi'
            rw [List.getElem?_eq_getElem hlt] at e
            cases e
            exact W4.mp hn'
          · exact hz i q (by omega) e
        · rw [b8, List.dropLast_eq_take, hml, List.take_take, Nat.min_eq_left (by omega)]
        · rw [b8]
          simp only [e1, List.length_dropLast]
          omega
      · have hn' : qs[m - 1] ≠ 0 := fun z => hn (by rw [z]; rfl)
        exact k m l _ ⟨hm, hz, fun _ q e => by rw [List.getElem?_eq_getElem hlt] at e; cases e; exact hn'⟩ (sm.trans (d5.new hp _)) hl e2
end
section
variable {P : Program} {w : World} {K : PySem.W.Frag} {mg : Str → Option Value} {base : Heap}
def aF8 (K : PySem.W.Frag) : Sp := fun vs H Q _ => ∃ a xs qs, vs = [.ref a] ∧ H a = some (.lst xs) ∧ p7 H xs qs ∧ (∀ p ∈ qs, p.den < 2 ^ 6000) ∧ xs.length < 1000 ∧ v9 qs qs.length ∧ ∀ H', d5 H H' → Q (.bl true) H'
abbrev A9 : Stmt := top 72
theorem al9 : i3 ["_law_thing"] ["_law_thing"] (b9 A9) := by clean_wf
set_option maxHeartbeats 0 in
theorem am2 {f fd fn : Addr} (d : Df K mg "_law_is_poly" A9 ["_law_thing"] f) (G__law_is_number : Def P w K mg base CX0 2 "_law_is_number" fd ["_law_thing"] (aN9 K)) (G__law_trim : Def P w K mg base CX0 1 "_law_trim" fn ["_law_numbers"] (aA4 K))
    (n_isinstance : mg "isinstance" = none) (n_list : mg "list" = none) (n_all : mg "all" = none) : Def P w K mg base CX0 3 "_law_is_poly" f ["_law_thing"] (aF8 K) := by
  refine d.ok (N := ["_law_thing"]) al9 (fun vs H Q E ⟨u, kd, mo, h, _⟩ => by rw [h]; rfl) (fun cdv A outer s H vs Q E hr h => ?_)
  obtain ⟨a, xs, qs, rfl, ha, hN, hs, hl, ht, k⟩ := h
  have hu := hr.units
  refine ⟨_, (d6 (g7 (aq7 (d8 j0 rfl n_isinstance (by decide +kernel) (b6 (pv 0) (b6 (P6 (v := .ty "list") rfl n_list (by decide +kernel) rfl) b7))) (aq7 (d8 (ah5 rfl) rfl n_all (by decide +kernel) (b6 (M0 (Nc := ["_law_one"]) (caps := [none]) rfl (V9.of (osc := b9 A9) (N := ["_law_thing"]) (ks := []) rfl rfl rfl rfl C5 (by decide +kernel)) (B2 (pv 0)) (fun C s₂ H₂ fp pins => (e8 (i := 0) (show List.Nodup (["_law_one"] : List Str) by decide +kernel) rfl (Or.inl rfl) (Or.inr rfl))) (fun C s₂ H₂ fp pins => (d9 G__law_is_number hr (b6 (pv 0) b7) i0))) b7)) (aq6 (R7 (ad3 hu) (d9 G__law_trim hr (b6 (pv 0) b7) i0) (pv 0) (j8 _))))))), ?_⟩
  rw [show start ["_law_thing"] [.ref a] = [some (.ref a)] from rfl]
  subst_eqs
  refine ⟨trivial, _, .of (.lst ha), _, av7, v7 (fun _ => ?_) (fun h => absurd rfl h)⟩
  refine ⟨⟨_, SqL.of ha⟩, fun D hD => ?_⟩
  have hDa : a ≠ D := g6 ha hD
  refine K6 xs (fun i σ H2 => ∃ o, σ = [o] ∧ d5 H H2 ∧ H2 D = some (.lst ((List.replicate i true).map V.bl))) ⟨_, rfl, d5.new hD _, b8⟩ (fun i σ H2 _ ⟨o, _, s2, _⟩ => SqL.of (s2 _ _ ha)) ?_ ?_
  · rintro i x σ H2 hx ⟨o, rfl, s2, e2⟩
    have hi : i < xs.length := (List.getElem?_eq_some_iff.mp hx).1
    obtain ⟨p, q, rfl, hq, hp⟩ := hN.getV hx
    subst_eqs
    have sq := hs q (List.mem_of_getElem? hq)
    refine ⟨_, q, rfl, ⟨p, rfl, SqT.of (s2 _ _ hp)⟩, ?_, fun H3 s3 => ?_⟩
    · rw [Int.natAbs_natCast]
      exact sq
    · refine N5.mk hi (s3 _ _ e2) (by simp; exact Nat.lt_of_lt_of_le (show i < 1000 by omega) (by decide)) ⟨_, rfl, (s2.trans s3).over hD _, ?_⟩
      rw [b8, List.replicate_succ', List.map_append]
      rfl
  · rintro σ H2 ⟨o, rfl, s2, e2⟩
    subst_eqs
    refine ⟨_, SqL.of e2, v7 (fun _ => ?_) (fun h => absurd (by simp) h)⟩
    have n2 := hN.mono s2.tups
    refine ⟨a, xs, qs, rfl, SqL.of (s2 _ _ ha), n2, fun m r H3 tl s3 hr' e3 => ?_⟩
    have em := tl.uniq ht
    subst em
    have et : xs.take qs.length = xs := by rw [← hN.length, List.take_length]
    rw [et] at e3
    refine ⟨j7 qs, j7 qs, rfl, K1 (SqL.of e3) (n2.mono s3.tups), K1 (SqL.of (s3 _ _ (s2 _ _ ha))) (n2.mono s3.tups), O5 _ _, Nat.le_trans (R8 _) (by decide), ?_⟩
    rw [F8]
    simp only [decide_true]
    exact k H3 (s2.trans s3)
end
structure BtN (k : Nat) (q : Rat) : Prop where
  n : q.num.natAbs < 2 ^ 20000
  d : q.den < 2 ^ k
theorem BtN.d' {n : Nat} {q : Rat} (b : BtN n q) : (q.den : Int).natAbs < 2 ^ n := by rw [Int.natAbs_natCast]; exact b.d
theorem BtN.zero {n : Nat} (h : 1 ≤ n) : BtN n 0 := ⟨Nat.two_pow_pos _, Nat.lt_of_lt_of_le (show 1 < 2 ^ 1 by decide) (d7 h)⟩
theorem p7.set {H : Hp} : ∀ {vs : List V} {qs : List Rat} (k : Nat) {p : Addr} {q : Rat}, p7 H vs qs → H p = some (.tup (w9 q)) → p7 H (vs.set k (.ref p)) (qs.set k q)
  | _, _, _, _, _, .nil, _ => .nil
  | _, _, 0, _, _, .cons _ t, h => .cons h t
  | _, _, k + 1, _, _, .cons h' t, h => .cons h' (t.set k h)
theorem p7.rep {H : Hp} {p : Addr} {q : Rat} (h : H p = some (.tup (w9 q))) : ∀ n, p7 H (List.replicate n (.ref p)) (List.replicate n q)
  | 0 => .nil
  | n + 1 => .cons h (p7.rep h n)
section
variable {P : Program} {w : World} {K : PySem.W.Frag} {mg : Str → Option Value} {base : Heap}
def ap3 (K : PySem.W.Frag) (op : Rat → Rat → Rat) : Sp := fun vs H Q _ => ∃ (x y : V) (p q : Rat) (m n : Nat), vs = [x, y] ∧ Num K H x p ∧ Num K H y q ∧ BtN m p ∧ BtN n q ∧ m + n ≤ 6000 ∧ aE3 H Q (op p q)
theorem br2 {p q : Rat} {m n : Nat} (bp : BtN m p) (bq : BtN n q) (h : m + n ≤ 6000) : ((p.den : Int) * q.den).natAbs < 2 ^ 6000 := by
  rw [Int.natAbs_mul]
  have := Nat.mul_lt_mul'' bp.d' bq.d'
  rw [← Nat.pow_add] at this
  exact Nat.lt_of_lt_of_le this (d7 h)
theorem aP6 (p q : Rat) : (p.den : Int) * q.den ≠ 0 := Int.ne_of_gt (Int.mul_pos (n9 p) (n9 q))
abbrev G9 : Stmt := top 62
theorem aB1 : i3 ["_law_one", "_law_other_here"] ["_law_one", "_law_other_here"] (b9 G9) := by clean_wf
theorem aC4 {f fl : Addr} (d : Df K mg "_law_plus" G9 ["_law_one", "_law_other_here"] f) (G__law_low : Def P w K mg base CX0 1 "_law_low" fl ["_law_top", "_law_bottom"] aw8) : Def P w K mg base CX0 2 "_law_plus" f ["_law_one", "_law_other_here"] (ap3 K (· + ·)) := by
  refine d.ok (N := ["_law_one", "_law_other_here"]) aB1 (by rintro vs H Q E ⟨x, y, p, q, m, n, h, _⟩; rw [h]; rfl) (fun cdv A outer s H vs Q E hr h => ?_)
  obtain ⟨x, y, p, q, m, n, rfl, ⟨ap, rfl, hp⟩, ⟨aq, rfl, hq⟩, bp, bq, hmn, k⟩ := h
  refine ⟨_, (d6 (g7 (d9 G__law_low hr (b6 (e9 E1 (e9 w5 (n5 o0 (pv 0) d4 (fun _ _ => rfl)) (n5 o0 (pv 1) d4 (fun _ _ => rfl))) (e9 w5 (n5 o0 (pv 1) d4 (fun _ _ => rfl)) (n5 o0 (pv 0) d4 (fun _ _ => rfl)))) (b6 (e9 w5 (n5 o0 (pv 0) d4 (fun _ _ => rfl)) (n5 o0 (pv 1) d4 (fun _ _ => rfl))) b7)) i0))), ?_⟩
  rw [show start ["_law_one", "_law_other_here"] [.ref ap, .ref aq] = [some (.ref ap), some (.ref aq)] from rfl]
  subst_eqs
  refine ⟨_, hp, _, at0 p, _, hq, _, at1 q, _, rfl, _, rfl, Q8 bp.n bq.d' (by omega), _, hq, _, at0 q, _, hp, _, at1 p, _, rfl, _, rfl, Q8 bq.n bp.d' (by omega), _, hp, _, at1 p, _, hq, _, at1 q, _, rfl, _, rfl, Q8 bp.d' bq.d' (by omega), ?_⟩
  refine ⟨_, _, rfl, aP6 p q, br2 bp bq hmn, ?_⟩
  rw [← aM9]
  exact k
abbrev F0 : Stmt := top 63
theorem au8 : i3 ["_law_one", "_law_other_here"] ["_law_one", "_law_other_here"] (b9 F0) := by clean_wf
theorem av4 {f fl : Addr} (d : Df K mg "_law_times" F0 ["_law_one", "_law_other_here"] f) (G__law_low : Def P w K mg base CX0 1 "_law_low" fl ["_law_top", "_law_bottom"] aw8) : Def P w K mg base CX0 2 "_law_times" f ["_law_one", "_law_other_here"] (ap3 K (· * ·)) := by
  refine d.ok (N := ["_law_one", "_law_other_here"]) au8 (by rintro vs H Q E ⟨x, y, p, q, m, n, h, _⟩; rw [h]; rfl) (fun cdv A outer s H vs Q E hr h => ?_)
  obtain ⟨x, y, p, q, m, n, rfl, ⟨ap, rfl, hp⟩, ⟨aq, rfl, hq⟩, bp, bq, hmn, k⟩ := h
  refine ⟨_, (d6 (g7 (d9 G__law_low hr (b6 (e9 w5 (n5 o0 (pv 0) d4 (fun _ _ => rfl)) (n5 o0 (pv 1) d4 (fun _ _ => rfl))) (b6 (e9 w5 (n5 o0 (pv 0) d4 (fun _ _ => rfl)) (n5 o0 (pv 1) d4 (fun _ _ => rfl))) b7)) i0))), ?_⟩
  rw [show start ["_law_one", "_law_other_here"] [.ref ap, .ref aq] = [some (.ref ap), some (.ref aq)] from rfl]
  subst_eqs
  refine ⟨_, hp, _, at0 p, _, hq, _, at0 q, _, rfl, _, rfl, Q8 bp.n bq.n (by omega), _, hp, _, at1 p, _, hq, _, at1 q, _, rfl, _, rfl, Q8 bp.d' bq.d' (by omega), ?_⟩
  refine ⟨_, _, rfl, aP6 p q, br2 bp bq hmn, ?_⟩
  rw [← U5]
  exact k
def aW7 (K : PySem.W.Frag) : Sp := fun vs H Q _ => ∃ (a b : Addr) (xs ys : List V) (ps qs : List Rat), vs = [.ref a, .ref b] ∧ SqL K H a xs ∧ SqL K H b ys ∧ p7 H xs ps ∧ p7 H ys qs ∧ (∃ m1 m2 : Nat, (∀ q ∈ ps, BtN m1 q) ∧ (∀ q ∈ qs, BtN m2 q) ∧ m1 + m2 ≤ 6000 ∧ 1 ≤ m1 ∧ 1 ≤ m2) ∧ ps.length ≤ 100 ∧ qs.length ≤ 100 ∧
  ∀ m r zs H', v9 (Y8 ps qs) m → d5 H H' → H r = none → H' r = some (.lst zs) → p7 H' zs ((Y8 ps qs).take m) → Q (.ref r) H'
abbrev A5 : Stmt := top 68
theorem C6 : i3 ["_law_p", "_law_q", "_law_found", "_law_i", "_law_one", "_law_other_here"] ["_law_p", "_law_q"] (b9 A5) := by clean_wf
set_option maxHeartbeats 0 in
theorem ag0 {f fp ft : Addr} (d : Df K mg "_law_poly_plus" A5 ["_law_p", "_law_q"] f) (G__law_plus : Def P w K mg base CX0 2 "_law_plus" fp ["_law_one", "_law_other_here"] (ap3 K (· + ·))) (G__law_trim : Def P w K mg base CX0 1 "_law_trim" ft ["_law_numbers"] (aA4 K)) (n_range : mg "range" = none) (n_max : mg "max" = none) (n_len : mg "len" = none) : Def P w K mg base CX0 3 "_law_poly_plus" f ["_law_p", "_law_q"] (aW7 K) := by
  refine d.ok (N := ["_law_p", "_law_q", "_law_found", "_law_i", "_law_one", "_law_other_here"]) C6 (by rintro vs H Q E ⟨_, _, _, _, _, _, h, _⟩; rw [h]; rfl) (fun cdv A outer s H vs Q E hr h => ?_)
  obtain ⟨a, b, xs, ys, ps, qs, rfl, hS, hS', hN, hN', ⟨m1, m2, hs, hs', hm, hm1, hm2⟩, hl, hl', k⟩ := h
  refine ⟨_, (d3 (i7 (i := 2) C6.nd rfl (Or.inl rfl) (w8 b7))
      (d3 (J4 PassesOwn.never rfl (ai4 rfl n_range (b6 (d8 (aj5 rfl) rfl n_max (by decide +kernel) (b6 (d8 i6 rfl n_len (by decide +kernel) (b6 (pv 0) b7)) (b6 (d8 i6 rfl n_len (by decide +kernel) (b6 (pv 1) b7)) b7))) b7)) (e8 (i := 3) C6.nd rfl (Or.inl rfl)) (d3 (i7 (i := 4) C6.nd rfl (Or.inl rfl) (U2 (j6 ak5 (pv 3) (d8 i6 rfl n_len (by decide +kernel) (b6 (pv 0) b7)) (j8 _)) (n5 y9 (pv 0) (pv 3) (fun _ _ => rfl)) (u0 (b6 d4 (b6 d4 b7)))))
      (d3 (i7 (i := 5) C6.nd rfl (Or.inl rfl) (U2 (j6 ak5 (pv 3) (d8 i6 rfl n_len (by decide +kernel) (b6 (pv 1) b7)) (j8 _)) (n5 y9 (pv 1) (pv 3) (fun _ _ => rfl)) (u0 (b6 d4 (b6 d4 b7)))))
      (d6 (V3 (af6 PySem.F.plainAttrs_list PySem.F.slot_list_append PySem.F.type_list_append N3 (pv 2) (b6 (d9 G__law_plus hr (b6 (pv 4) (b6 (pv 5) b7)) i0) b7)))))))
      (d6 (g7 (d9 G__law_trim hr (b6 (pv 2) b7) i0))))), ?_⟩
  rw [show start ["_law_p", "_law_q", "_law_found", "_law_i", "_law_one", "_law_other_here"] [.ref a, .ref b] = [some (.ref a), some (.ref b), none, none, none, none] from rfl]
  subst_eqs
  refine ⟨by decide, fun p hp => ?_⟩
  have lx := hN.length
  have ly := hN'.length
  have S0 := d5.new hp (.lst [])
  have pick : ∀ (i : Nat) (k : Nat) (c : Addr) (us : List V) (rs : List Rat) (σ : L2.St) (H3 : Hp) (R : VK), σ[k]? = some (some (.ref c)) → σ[3]? = some (some (.int (0 + (i : Int)))) → SqL K H3 c us → p7 H3 us rs → (∀ v H4, d5 H3 H4 → Num K H4 v ((rs[i]?).getD 0) → R v H4) →
      tIf (ao7 (tOp (rI0 fun i j => V.bl (decide (i < j))) (S9 3) (tCB (fun xs H Q => ∃ p, xs = [V.ref p] ∧ ∃ x, (SqL K H p x ∨ SqT K H p x) ∧ Q (V.int x.length) H) (W0 (S9 k) ao9)))) (tOp (aK3 K) (S9 k) (S9 3)) (aQ5 (W0 (tC (V.int 0)) (W0 (tC (V.int 1)) ao9))) σ H3 R := by
    intro i k c us rs σ H3 R h1 h2 hc hn hR
    simp! [h1, h2]
    refine ⟨us, .inl hc, v7 (fun h => ?_) (fun h => ?_)⟩
    · have hi : i < us.length := by omega
      have hir : i < rs.length := by rw [← hn.length]; exact hi
      obtain ⟨pv, hv, hpv⟩ := hn.get (List.getElem?_eq_getElem hir)
      have e0 : (0 : Int) + (i : Int) = ((i : Nat) : Int) := by omega
      refine ⟨_, hc, _, (by rw [e0]; exact P9 hv), hR _ _ (d5.refl _) ⟨pv, rfl, ?_⟩⟩
      rw [List.getElem?_eq_getElem hir]
      exact SqT.of hpv
    · have hi : rs.length ≤ i := by rw [← hn.length]; omega
      refine ⟨v8, fun t ht => hR _ _ (d5.new ht _) ⟨t, rfl, ?_⟩⟩
      rw [List.getElem?_eq_none hi]
      exact SqT.of b8
  refine ⟨_, rfl, a, rfl, xs, .inl (S0.seq hS), _, rfl, b, rfl, ys, .inl (S0.seq hS'), _, _, rfl, _, rfl, ?_, ?_, aj2 (fun i σ H2 => ∃ o1 o2 o3, σ = [some (.ref a), some (.ref b), some (.ref p), o1, o2, o3] ∧ d5 H H2 ∧ ∃ zs, H2 p = some (.lst zs) ∧ p7 H2 zs ((Y8 ps qs).take i)) ⟨_, _, _, rfl, S0, [], b8, .nil⟩ ?_ ?_⟩
  · split <;> omega
  · split <;> omega
  · rintro i σ H2 hi ⟨o1, o2, o3, rfl, s2, zs, e2, n2⟩
    have hi' : i < max ps.length qs.length := by
      revert hi
      split <;> omega
    refine pick i 0 a xs ps _ _ _ rfl rfl (s2.seq hS) (hN.mono s2.tups) fun v H3 s3 nv => ?_
    refine pick i 1 b ys qs _ _ _ rfl rfl ((s2.trans s3).seq hS') (hN'.mono (s2.trans s3).tups) fun u H4 s4 nu => ?_
    have bq : ∀ (rs : List Rat) (m : Nat), 1 ≤ m → (∀ q ∈ rs, BtN m q) → BtN m ((rs[i]?).getD 0) := fun rs m hm h => by
      cases e : rs[i]? with
      | none => exact BtN.zero hm
      | some q => exact h q (List.mem_of_getElem? e)
    have S4 := s2.trans (s3.trans s4)
    subst_eqs
    refine ⟨.inl ⟨_, SqL.of (s4 _ _ (s3 _ _ e2))⟩, v, u, _, _, m1, m2, rfl, nv.same s4, nu, bq ps m1 hm1 hs, bq qs m2 hm2 hs', hm, fun r H5 s5 e5 => ?_⟩
    have e6 := s5 _ _ (s4 _ _ (s3 _ _ e2))
    refine ⟨_, e6, ?_, ?_⟩
    · rw [n2.length, List.length_take]
      exact Nat.lt_of_le_of_lt (show _ ≤ 100 by omega) (by decide)
    · refine ⟨(S4.trans s5).over hp _, _, b8, ?_⟩
      rw [show (Y8 ps qs).take (i + 1) = (Y8 ps qs).take i ++ [(ps[i]?).getD 0 + (qs[i]?).getD 0] by rw [List.take_succ, at9 ps qs i hi']; rfl]
      exact (((n2.mono (s3.trans s4).tups).mono s5.tups).append (.cons e5 .nil)).mono (X4.lst e6)
  · rintro σ H2 ⟨o1, o2, o3, rfl, s2, zs, e2, n2⟩
    have e7 : (Y8 ps qs).take (if (ys.length : Int) > (xs.length : Int) then (ys.length : Int) else xs.length).toNat = Y8 ps qs := by
      rw [List.take_of_length_le]
      rw [at8]
      split <;> omega
    have n2' : p7 H2 zs (Y8 ps qs) := by rw [← e7]; exact n2
    refine ⟨_, rfl, p, zs, _, rfl, SqL.of e2, n2', fun m r H3 tl s3 hr' e3 => ?_⟩
    exact k m r _ _ tl (s2.trans s3) (s2.free hr') e3 ((n2'.take m).mono s3.tups)
end
theorem OvB.bt {B W e : Nat} {q : Rat} (h : OvB B W q) (hB : 0 < B) (hBe : B < 2 ^ e) (hW : W ≤ 20000) : BtN e q := by
  obtain ⟨v, rfl, b⟩ := h
  have := K5 (t := v) (b := (B : Int)) (by omega)
  rw [Int.natAbs_natCast] at this
  exact ⟨Nat.lt_of_le_of_lt this.1 (Nat.lt_of_lt_of_le b (d7 hW)), Nat.lt_of_le_of_lt this.2 hBe⟩
section
variable {P : Program} {w : World} {K : PySem.W.Frag} {mg : Str → Option Value} {base : Heap}
def aN7 (K : PySem.W.Frag) : Sp := fun vs H Q _ => ∃ (a b : Addr) (xs ys : List V) (ps qs : List Rat) (B C V' W e : Nat), vs = [.ref a, .ref b] ∧ SqL K H a xs ∧ SqL K H b ys ∧ p7 H xs ps ∧ p7 H ys qs ∧ (∀ q ∈ ps, OvB B V' q) ∧ (∀ q ∈ qs, OvB C W q) ∧ 0 < B ∧ 0 < C ∧ B * C < 2 ^ e ∧ 1 ≤ e ∧ 2 * e ≤ 6000 ∧ V' + W ≤ 19000 ∧ ps.length ≤ 20 ∧ qs.length ≤ 20 ∧
  ∀ m r zs H', v9 (O6 ps qs) m → (∀ q ∈ O6 ps qs, OvB (B * C) (V' + W + 400) q) → d5 H H' → H r = none → H' r = some (.lst zs) → p7 H' zs ((O6 ps qs).take m) → Q (.ref r) H'
abbrev y7 : Stmt := top 69
theorem A0 : i3 ["_law_p", "_law_q", "_law_found", "_law_i", "_law_one", "_law_j", "_law_other_here"] ["_law_p", "_law_q"] (b9 y7) := by clean_wf
set_option maxHeartbeats 0 in
theorem ad5 {f fp f1 f2 : Addr} (d : Df K mg "_law_poly_times" y7 ["_law_p", "_law_q"] f) (G__law_plus : Def P w K mg base CX0 2 "_law_plus" fp ["_law_one", "_law_other_here"] (ap3 K (· + ·))) (G__law_times : Def P w K mg base CX0 2 "_law_times" f1 ["_law_one", "_law_other_here"] (ap3 K (· * ·))) (G__law_trim : Def P w K mg base CX0 1 "_law_trim" f2 ["_law_numbers"] (aA4 K)) (n_len : mg "len" = none) (n_enumerate : mg "enumerate" = none) : Def P w K mg base CX0 3 "_law_poly_times" f ["_law_p", "_law_q"] (aN7 K) := by
  refine d.ok (N := ["_law_p", "_law_q", "_law_found", "_law_i", "_law_one", "_law_j", "_law_other_here"]) A0 (by rintro vs H Q E ⟨_, _, _, _, _, _, _, _, _, _, _, h, _⟩; rw [h]; rfl) (fun cdv A outer s H vs Q E hr h => ?_)
  obtain ⟨a, b, xs, ys, ps, qs, B, C, V', W, e, rfl, hS, hS', hN, hN', hs, hs', hB, hC, hBC, he1, he, hVW, hl, hl', k⟩ := h
  have hBCp := Nat.mul_pos hB hC
  have hBe : B < 2 ^ e := Nat.lt_of_le_of_lt (Nat.le_mul_of_pos_right _ hC) hBC
  have hCe : C < 2 ^ e := Nat.lt_of_le_of_lt (Nat.le_mul_of_pos_left _ hB) hBC
  have hu := hr.units
  refine ⟨_, (d3 (z9 (PW.pt (T9 (j6 (ad3 hu) (pv 0) (w8 b7) (j8 _)) (V6 (j6 (ad3 hu) (pv 1) (w8 b7) (j8 _))))) (d6 (g7 (w8 b7))) m6)
      (d3 (i7 (i := 2) A0.nd rfl (Or.inl rfl) (e9 aB6 (w8 (b6 (u0 (b6 d4 (b6 d4 b7))) b7)) (e9 M9 (e9 E1 (d8 i6 rfl n_len (by decide +kernel) (b6 (pv 0) b7)) (d8 i6 rfl n_len (by decide +kernel) (b6 (pv 1) b7))) d4)))
      (d3 (J4 PassesOwn.never rfl (V4 rfl n_enumerate (b6 (pv 0) b7)) (show PG _ _ (N6 K 2 (n8 (j9 3) (n8 (j9 4) N7))) from by (refine B9 (n := 2) ?_ ?_ ?_ ?_; rfl; (refine g8 ?_ ?_ ?_; (exact (e8 (i := 3) A0.nd rfl (Or.inl rfl))); (refine g8 ?_ ?_ ?_; (exact (e8 (i := 4) A0.nd rfl (Or.inl rfl))); (exact w4); rfl); rfl); rfl; rfl)) (d6 (J4 PassesOwn.never rfl (V4 rfl n_enumerate (b6 (pv 1) b7)) (show PG _ _ (N6 K 2 (n8 (j9 5) (n8 (j9 6) N7))) from by (refine B9 (n := 2) ?_ ?_ ?_ ?_; rfl; (refine g8 ?_ ?_ ?_; (exact (e8 (i := 5) A0.nd rfl (Or.inl rfl))); (refine g8 ?_ ?_ ?_; (exact (e8 (i := 6) A0.nd rfl (Or.inl rfl))); (exact w4); rfl); rfl); rfl; rfl)) (d6 (F5 (d9 G__law_plus hr (b6 (n5 y9 (pv 2) (e9 E1 (pv 3) (pv 5)) (fun _ _ => rfl)) (b6 (d9 G__law_times hr (b6 (pv 4) (b6 (pv 6) b7)) i0) b7)) i0) (ai5 (pv 2) (e9 E1 (pv 3) (pv 5)) O1))))))
      (d6 (g7 (d9 G__law_trim hr (b6 (pv 2) b7) i0)))))), ?_⟩
  rw [show start ["_law_p", "_law_q", "_law_found", "_law_i", "_law_one", "_law_j", "_law_other_here"] [.ref a, .ref b] = [some (.ref a), some (.ref b), none, none, none, none, none] from rfl]
  subst_eqs
  have tl0 : v9 ([] : List Rat) 0 := ⟨Nat.le_refl _, fun i q _ e => by simp at e, fun h => absurd rfl h⟩
  refine ⟨by decide, fun p hp => ?_⟩
  have S1 := d5.new hp (.lst [])
  refine ⟨j7 ps, j7 [], rfl, K1 (S1.seq hS) (hN.mono S1.tups), K1 (SqL.of b8) .nil, O5 _ _, Nat.le_trans (R8 _) (by decide), ?_⟩
  rw [F8]
  refine ⟨_, rfl, v7 (fun h => ⟨by decide, fun r hr' => ?_⟩) (fun h => ?_)⟩
  · have e : O6 ps qs = [] := by rw [O6, if_pos (.inl (by simpa using h))]
    rw [e] at k
    exact k 0 r [] _ tl0 (by simp) (S1.trans (d5.new hr' _)) (S1.free hr') b8 .nil
  have np : ps ≠ [] := fun z => h (by simp [z])
  refine ⟨by decide, fun p2 hp2 => ?_⟩
  have S2 := S1.trans (d5.new hp2 (.lst []))
  refine ⟨j7 qs, j7 [], rfl, K1 (S2.seq hS') (hN'.mono S2.tups), K1 (SqL.of b8) .nil, O5 _ _, Nat.le_trans (R8 _) (by decide), ?_⟩
  rw [F8]
  refine ⟨_, rfl, v7 (fun h => ⟨by decide, fun r hr' => ?_⟩) (fun h => ?_)⟩
  · have e : O6 ps qs = [] := by rw [O6, if_pos (.inr (by simpa using h))]
    rw [e] at k
    exact k 0 r [] _ tl0 (by simp) (S2.trans (d5.new hr' _)) (S2.free hr') b8 .nil
  have nq : qs ≠ [] := fun z => h (by simp [z])
  have lx := hN.length
  have ly := hN'.length
  have lp : 0 < ps.length := List.length_pos_iff.mpr np
  have lq : 0 < qs.length := List.length_pos_iff.mpr nq
  refine ⟨v8, fun p3 hp3 => ⟨ap5, fun p4 hp4 => ?_⟩⟩
  have S3 := S2.trans (d5.new hp3 (.tup [.int 0, .int 1]))
  have S4 := S3.trans (d5.new hp4 (.lst [.ref p3]))
  refine ⟨_, .inl (S4.seq hS), _, .inl (S4.seq hS'), _, b8, by omega, by omega, ?_, fun l hl0 => ?_⟩
  · simp only [List.length_cons, List.length_nil]
    exact Nat.le_trans (show _ ≤ 40 by omega) (by decide)
  have hz : (List.replicate ((xs.length : Int) + (ys.length : Int) - 1).toNat [V.ref p3]).flatten = List.replicate (ps.length + qs.length - 1) (V.ref p3) := by
    have e : ((xs.length : Int) + (ys.length : Int) - 1).toNat = ps.length + qs.length - 1 := by omega
    rw [e, List.flatten_replicate_singleton]
  rw [hz]
  have S5 := S4.trans (d5.new hl0 (.lst (List.replicate (ps.length + qs.length - 1) (.ref p3))))
  have hlH : H l = none := S4.free hl0
  have ez : (upd (upd (upd (upd (upd H p (.lst [])) p2 (.lst [])) p3 (.tup [.int 0, .int 1])) p4 (.lst [.ref p3])) l (.lst (List.replicate (ps.length + qs.length - 1) (.ref p3)))) p3 = some (.tup (w9 0)) := d5.new hl0 _ _ _ (d5.new hp4 _ _ _ b8)
  refine ⟨_, rfl, a, rfl, ⟨_, S5.seq hS⟩, W7 xs (fun i σ H2 => ∃ o3 o4 o5 o6, σ = [some (.ref a), some (.ref b), some (.ref l), o3, o4, o5, o6] ∧ d5 H H2 ∧ ∃ zs, H2 l = some (.lst zs) ∧ p7 H2 zs (u8 0 (List.replicate (ps.length + qs.length - 1) (0 : Rat)) ps qs i) ∧ ∀ v ∈ u8 0 (List.replicate (ps.length + qs.length - 1) (0 : Rat)) ps qs i, OvB (B * C) (V' + W + i * qs.length) v)
    ⟨_, _, _, _, rfl, S5, _, b8, p7.rep ez _, fun v hv => by rw [(List.mem_replicate.mp hv).2]; exact OvB.zero _ _⟩ (fun i σ H2 ⟨_, _, _, _, _, s2, _⟩ => s2.seq hS) ?_ ?_⟩
  · rintro i x σ H2 r hx ⟨o3, o4, o5, o6, rfl, s2, zs, e2, n2, b2⟩ hr'
    obtain ⟨px, q, rfl, hq, hpx⟩ := hN.getV hx
    have hi := (List.getElem?_eq_some_iff.mp hq).1
    have sr := d5.new hr' (.tup [.int i, .ref px])
    refine ⟨_, _, rfl, SqT.of b8, rfl, _, _, rfl, _, _, rfl, rfl, ?_⟩
    refine ⟨_, rfl, b, rfl, ⟨_, (s2.trans sr).seq hS'⟩, W7 ys (fun j σ H4 => ∃ o5 o6, σ = [some (.ref a), some (.ref b), some (.ref l), some (.int i), some (.ref px), o5, o6] ∧ d5 H H4 ∧ ∃ zs, H4 l = some (.lst zs) ∧ p7 H4 zs (p5 0 (u8 0 (List.replicate (ps.length + qs.length - 1) (0 : Rat)) ps qs i) i q qs j) ∧ ∀ v ∈ p5 0 (u8 0 (List.replicate (ps.length + qs.length - 1) (0 : Rat)) ps qs i) i q qs j, OvB (B * C) (V' + W + (i * qs.length + j)) v)
      ⟨_, _, rfl, s2.trans sr, _, sr _ _ e2, n2.mono sr.tups, b2⟩ (fun i σ H2 ⟨_, _, _, s2, _⟩ => s2.seq hS') ?_ ?_⟩
    · rintro j y σ H4 t hy ⟨o5, o6, rfl, s4, zs4, e4, n4, b4⟩ ht
      obtain ⟨py, q', rfl, hq', hpy⟩ := hN'.getV hy
      have hj := (List.getElem?_eq_some_iff.mp hq').1
      have st := d5.new ht (.tup [.int j, .ref py])
      have e5 := st _ _ e4
      have hF : i + j < (p5 0 (u8 0 (List.replicate (ps.length + qs.length - 1) (0 : Rat)) ps qs i) i q qs j).length := by
        rw [S7, R9, List.length_replicate]; omega
      have eg := List.getElem?_eq_getElem hF
      obtain ⟨pv, hv, hpv⟩ := (n4.mono st.tups).get eg
      have ec : (i : Int) + (j : Int) = ((i + j : Nat) : Int) := by omega
      have hc : i * qs.length + j < 400 := by
        have h1 : i * qs.length ≤ 19 * qs.length := Nat.mul_le_mul_right _ (by omega)
        omega
      subst_eqs
      have o1 := hs q (List.mem_of_getElem? hq)
      have o2 := hs' q' (List.mem_of_getElem? hq')
      have sq := o1.bt hB hBe (by omega)
      have sq' := o2.bt hC hCe (by omega)
      refine ⟨_, SqT.of b8, rfl, _, _, rfl, _, _, rfl, rfl, _, rfl, _, SqL.of e5, _, (by rw [ec]; exact P9 hv), ?_⟩
      refine ⟨_, _, q, q', e, e, rfl, ⟨px, rfl, SqT.of (st _ _ (s4 _ _ hpx))⟩, ⟨py, rfl, SqT.of (st _ _ (s4 _ _ hpy))⟩, sq, sq', by omega, fun r1 H5 s5 er1 => ?_⟩
      have bold := b4 _ (List.getElem_mem hF)
      refine ⟨_, _, _, _, e, e, rfl, ⟨pv, rfl, SqT.of (s5 _ _ hpv)⟩, ⟨r1, rfl, SqT.of er1⟩, bold.bt hBCp hBC (by omega), (o1.mul o2).bt hBCp hBC (by omega), by omega, fun r2 H6 s6 er2 => ?_⟩
      have e6 := s6 _ _ (s5 _ _ e5)
      have lz : zs4.length = (p5 0 (u8 0 (List.replicate (ps.length + qs.length - 1) (0 : Rat)) ps qs i) i q qs j).length := n4.length
      have n6 : p7 H6 zs4 (p5 0 (u8 0 (List.replicate (ps.length + qs.length - 1) (0 : Rat)) ps qs i) i q qs j) := ((n4.mono st.tups).mono s5.tups).mono s6.tups
      have estep : p5 0 (u8 0 (List.replicate (ps.length + qs.length - 1) (0 : Rat)) ps qs i) i q qs (j + 1) = L8 (p5 0 (u8 0 (List.replicate (ps.length + qs.length - 1) (0 : Rat)) ps qs i) i q qs j) (i + j) (q * q') := by
        rw [p5, hq']; rfl
      refine ⟨_, rfl, _, e6, i + j, ?_, (s4.trans (st.trans (s5.trans s6))).over hlH _, _, b8, ?_, ?_⟩
      · rw [ec]
        unfold ixN
        rw [if_pos (by omega), if_pos (by rw [lz]; omega)]
        rfl
      · rw [estep, ← X3 _ _ _ _ eg]
        exact (n6.set (i + j) er2).mono (X4.lst e6)
      · rw [estep]
        intro v hv'
        exact (aU4 hBCp b4 ((o1.mul o2).mono (by omega)) v hv').mono (by omega)
    · rintro σ H4 ⟨o5, o6, rfl, s4, zs4, e4, n4, b4⟩
      refine ⟨_, _, _, _, rfl, s4, zs4, e4, ?_, ?_⟩
      · rw [ly] at n4
        rw [u8, hq]; exact n4
      · rw [ly] at b4
        rw [u8, hq]
        intro v hv
        refine (b4 v hv).mono ?_
        have e : (i + 1) * qs.length = i * qs.length + qs.length := by grind
        omega
  · rintro σ H2 ⟨o3, o4, o5, o6, rfl, s2, zs, e2, n2, b2⟩
    rw [lx] at n2 b2
    have em : O6 ps qs = u8 0 (List.replicate (ps.length + qs.length - 1) 0) ps qs ps.length := by rw [O6, if_neg (by simp [np, nq])]
    rw [← em] at n2 b2
    refine ⟨_, rfl, l, zs, _, rfl, SqL.of e2, n2, fun m r H3 tl s3 hr' e3 => ?_⟩
    refine k m r _ _ tl (fun v hv => (b2 v hv).mono ?_) (s2.trans s3) (s2.free hr') e3 ((n2.take m).mono s3.tups)
    have : ps.length * qs.length ≤ 20 * 20 := Nat.mul_le_mul hl hl'
    omega
end
theorem am8 {l : List Rat} {m : Nat} (t : v9 l m) : qp (l.take m) = qp l := Pf.ext fun k => bi6 t k
theorem aK4 {a b : List Rat} (ta : v9 a a.length) (tb : v9 b b.length) (h : qp a = qp b) : a = b := bl4 ta tb fun k => congrArg (fun z => Pf.f z k) h
theorem aE6 {l : List Rat} {p : Pf} {n : Nat} (t : v9 l l.length) (e : qp l = p) (d : Dg p.f n) : l.length ≤ n := by
  rcases Nat.lt_or_ge n l.length with z | z
  · have hg := List.getElem?_eq_getElem (l := l) (show l.length - 1 < l.length by omega)
    have h1 := t.last (by omega) _ hg
    have h2 := d (l.length - 1) (by omega)
    rw [← e] at h2
    have h3 : aQ l (l.length - 1) = 0 := h2
    unfold aQ at h3
    rw [hg] at h3
    exact absurd h3 h1
  · exact z
section
variable {P : Program} {w : World} {K : PySem.W.Frag} {mg : Str → Option Value} {base : Heap}
def aG0 (K : PySem.W.Frag) : Sp := fun vs H Q _ => ∃ (a b : Addr) (ts : List Addr) (xs : List V) (c : Nat) (M : List (List Rat)) (last : List Rat), vs = [.ref a, .ref b] ∧ SqL K H a (ts.map V.ref) ∧ Rws H ts M ∧ SqL K H b xs ∧ p7 H xs last ∧ K7 c M last ∧
  ∀ r zs ps H', d5 H H' → H r = none → H' r = some (.lst zs) → p7 H' zs ps → v9 ps ps.length → qp ps = (fld M last M.length).1 + (fld M last M.length).2 → Q (.ref r) H'
abbrev D5 : Stmt := top 76
theorem O3 : i3 ["_law_quotients", "_law_last", "_law_one", "_law_first", "_law_second"] ["_law_quotients", "_law_last"] (b9 D5) := by clean_wf
set_option maxHeartbeats 0 in
theorem ar4 {f f1 f2 : Addr} (d : Df K mg "_law_folded" D5 ["_law_quotients", "_law_last"] f) (G__law_poly_plus : Def P w K mg base CX0 3 "_law_poly_plus" f1 ["_law_p", "_law_q"] (aW7 K)) (G__law_poly_times : Def P w K mg base CX0 3 "_law_poly_times" f2 ["_law_p", "_law_q"] (aN7 K)) (n_reversed : mg "reversed" = none) : Def P w K mg base CX0 4 "_law_folded" f ["_law_quotients", "_law_last"] (aG0 K) := by
  refine d.ok (N := ["_law_quotients", "_law_last", "_law_one", "_law_first", "_law_second"]) O3 (by rintro vs H Q E ⟨_, _, _, _, _, _, _, h, _⟩; rw [h]; rfl) (fun cdv A outer s H vs Q E hr h => ?_)
  obtain ⟨a, b, ts, xs, c, M, last, rfl, hS, hR, hSb, hNb, R, k⟩ := h
  refine ⟨_, (d3 (X9 (i := 3) (j := 4) rfl O3.nd rfl rfl (by decide) rfl rfl (b6 (pv 1) (b6 (w8 b7) b7)) rfl)
      (d3 (J4 PassesOwn.never rfl (aZ5 rfl n_reversed (b6 (pv 0) b7)) (e8 (i := 2) O3.nd rfl (Or.inl rfl)) (d6 (X9 (i := 3) (j := 4) rfl O3.nd rfl rfl (by decide) rfl rfl (b6 (d9 G__law_poly_plus hr (b6 (d9 G__law_poly_times hr (b6 (pv 2) (b6 (pv 3) b7)) i0) (b6 (pv 4) b7)) i0) (b6 (pv 3) b7)) rfl)))
      (d6 (g7 (d9 G__law_poly_plus hr (b6 (pv 3) (b6 (pv 4) b7)) i0))))), ?_⟩
  rw [show start ["_law_quotients", "_law_last", "_law_one", "_law_first", "_law_second"] [.ref a, .ref b] = [some (.ref a), some (.ref b), none, none, none] from rfl]
  have ll : last.length ≤ 15 := by have := R.s; omega
  have lM := R.len
  have lts := hR.length
  have ov := ag8 R
  obtain ⟨c10, c40⟩ := R.c1
  refine i9 (fun σ H1 => ∃ l, σ = [some (.ref a), some (.ref b), none, some (.ref b), some (.ref l)] ∧ d5 H H1 ∧ H1 l = some (.lst [])) (fun N hN => ?_) ?_
  · subst_eqs
    exact ⟨by decide, fun p hp => hN _ _ ⟨p, rfl, d5.new hp _, b8⟩⟩
  rintro σ H1 ⟨l0, rfl, S1, e0⟩
  obtain ⟨I, hI⟩ : ∃ I : Nat → L2.St → Hp → Prop, ∀ i σ H2, I i σ H2 ↔ ∃ o2 p1 p2 z1 z2 F1 F2, σ = [some (.ref a), some (.ref b), o2, some (.ref p1), some (.ref p2)] ∧ d5 H H2 ∧ SqL K H2 p1 z1 ∧ SqL K H2 p2 z2 ∧ p7 H2 z1 F1 ∧ p7 H2 z2 F2 ∧ v9 F1 F1.length ∧ v9 F2 F2.length ∧ qp F1 = (fld M last i).1 ∧ qp F2 = (fld M last i).2 := ⟨_, fun _ _ _ => Iff.rfl⟩
  refine i9 (I M.length) (fun N hN => ?_) ?_
  · refine ⟨_, rfl, a, _, rfl, S1.seq hS, aP2 (xs := ts.map V.ref) I ((hI _ _ _).mpr ⟨_, b, l0, xs, [], last, [], rfl, S1, S1.seq hSb, SqL.of e0, hNb.mono S1.tups, .nil, R.t, aV5, rfl, bm0⟩) (by rintro i σ H2 _ h2; obtain ⟨_, _, _, _, _, _, _, _, s2, _⟩ := (hI _ _ _).mp h2; exact s2.seq hS) ?_ (by rintro σ H2 h2; rw [List.length_map, lts] at h2; exact hN _ _ h2)⟩
    rintro i x σ H2 hi hx h2
    obtain ⟨o2, p1, p2, z1, z2, F1, F2, rfl, s2, q1, q2, n1, n2, t1, t2, e1, e2⟩ := (hI _ _ _).mp h2
    rw [List.length_map] at hi hx
    have him : i < M.length := by omega
    obtain ⟨L, hg, hLM, hdn, ei, _⟩ := R.at him
    obtain ⟨pL, hpL, rfl⟩ := ap8 hx
    obtain ⟨ys, L', hL', eL, nL⟩ := hR.get hpL
    rw [show ts.length - 1 - i = M.length - 1 - i by omega, hg] at hL'
    cases hL'
    obtain ⟨tL, l2, _, oL⟩ := R.m L hLM
    have l15 := R.l15 hLM
    have cl := ah4 oL
    have st := aA0 (c := c) (D := dn M last i) (d := L.length - 1) (by omega)
    rw [← hdn, Nat.sub_add_cancel (by omega)] at st
    generalize 1 + c * L.length + c = vb at cl st
    have ubi := R.ub (n := i + 1) (by omega)
    have sm := R.sum (n := i) (by omega)
    have edn : dn M last i + 1 ≤ 15 := by
      have := List.length_pos_iff.mpr R.n
      unfold dn; omega
    obtain ⟨dg1, dg2⟩ := Y5 R i (by omega)
    have lF1 := aE6 t1 e1 dg1
    have lF2 := aE6 t2 e2 dg2
    obtain ⟨B, B0, hB, ov1, ov2⟩ := ov i (by omega)
    have up := Z2 c (dn M last i)
    generalize Ub c (dn M last i) = ub at *
    have o1 : ∀ x ∈ F1, OvB B ub x := V7 (by rw [e1]; exact ov1)
    have o2' : ∀ x ∈ F2, OvB B ub x := V7 (by rw [e2]; exact ov2)
    have BC : j3 L * B < 2 ^ 710 := by
      have h1 : j3 L * B < 2 ^ vb * 2 ^ ub := Nat.mul_lt_mul'' cl.l hB
      rw [← Nat.pow_add] at h1
      exact Nat.lt_of_lt_of_le h1 (d7 (by omega))
    subst_eqs
    refine ⟨pL, p1, ys, z1, L, F1, j3 L, B, vb, ub, 710, rfl, SqL.of (s2 _ _ eL), q1, nL.mono s2.tups, n1, (fun x hx => aK7 cl hx), o1, B1 _, B0, BC, by decide, by decide, by omega, by omega, by omega, fun m r3 z3 H3 tm3 ob3 s3 f3 e3 n3 => ?_⟩
    have lm : (O6 L F1).length ≤ 40 := by
      by_cases zz : F1 = []
      · subst zz
        have : O6 L [] = [] := by unfold O6; rw [if_pos (.inr rfl)]
        rw [this]; simp
      · have := aI0 (p := L) (q := F1) (fun z => by rw [z] at l2; simp at l2) zz
        omega
    refine ⟨r3, p2, z3, z2, _, F2, rfl, SqL.of e3, s3.seq q2, n3, n2.mono s3.tups, ⟨710, 710, fun q hq => (ob3 q (List.mem_of_mem_take hq)).bt (Nat.mul_pos (B1 _) B0) BC (by omega), fun q hq => (o2' q hq).bt B0 (Nat.lt_of_lt_of_le hB (d7 (by omega))) (by omega), by decide, by decide, by decide⟩, by rw [List.length_take]; omega, by omega, fun m4 r4 z4 H4 tm4 s4 f4 e4 n4 => ?_⟩
    refine (hI _ _ _).mpr ⟨_, r4, p1, z4, z1, _, F1, rfl, s2.trans (s3.trans s4), SqL.of e4, (s3.trans s4).seq q1, n4, n1.mono (s3.trans s4).tups, am7 tm4, t1, ?_, e1⟩
    rw [am8 tm4, aY7, am8 tm3, bm1, e1, e2, ei]
  rintro σ H2 h2
  obtain ⟨o2, p1, p2, z1, z2, F1, F2, rfl, s2, q1, q2, n1, n2, t1, t2, e1, e2⟩ := (hI _ _ _).mp h2
  have sm := R.sum (n := M.length) (Nat.le_refl _)
  obtain ⟨dg1, dg2⟩ := Y5 R M.length (Nat.le_refl _)
  have lF1 := aE6 t1 e1 dg1
  have lF2 := aE6 t2 e2 dg2
  have edn : dn M last M.length + 1 ≤ 15 := by
    have := List.length_pos_iff.mpr R.n
    unfold dn; omega
  have ubm := R.ub (n := M.length) (Nat.le_refl _)
  obtain ⟨B, B0, hB, ov1, ov2⟩ := ov M.length (Nat.le_refl _)
  have o1 : ∀ x ∈ F1, OvB B (Ub c (dn M last M.length)) x := V7 (by rw [e1]; exact ov1)
  have o2' : ∀ x ∈ F2, OvB B (Ub c (dn M last M.length)) x := V7 (by rw [e2]; exact ov2)
  subst_eqs
  refine ⟨p1, p2, z1, z2, F1, F2, rfl, q1, q2, n1, n2, ⟨710, 710, fun q hq => (o1 q hq).bt B0 (Nat.lt_of_lt_of_le hB (d7 (by omega))) (by omega), fun q hq => (o2' q hq).bt B0 (Nat.lt_of_lt_of_le hB (d7 (by omega))) (by omega), by decide, by decide, by decide⟩, by omega, by omega, fun m4 r4 z4 H4 tm4 s4 f4 e4 n4 => ?_⟩
  exact k r4 z4 _ H4 (s2.trans s4) (s2.free f4) e4 n4 (am7 tm4) (by rw [am8 tm4, aY7, e1, e2])
end
theorem be6 {ps : List Rat} {p q : Pf} {d : Nat} (l : ps.length = d + 1) (e : qp ps = p + q) (hp : Par d p) (hq : Par (d + 1) q) : qp (D8 0 ps) = p ∧ qp (D8 1 ps) = q := by
  have h : ∀ k, aQ ps k = p.f k + q.f k := fun k => by
    have := congrArg (fun z => Pf.f z k) e
    exact this
  have t : ∀ b k, aQ (D8 b ps) k = if (d + k) % 2 = b then aQ ps k else 0 := fun b k => by
    unfold aQ
    rw [ao5, l, Nat.add_sub_cancel]
    cases g : ps[k]? with
    | none => simp
    | some v => simp
  refine ⟨Pf.ext fun k => ?_, Pf.ext fun k => ?_⟩
  · show aQ (D8 0 ps) k = p.f k
    rw [t, h]
    split
    · rw [hq k (by omega)]; grind
    · rw [hp k (by omega)]
  · show aQ (D8 1 ps) k = q.f k
    rw [t, h]
    split
    · rw [hp k (by omega)]; grind
    · rw [hq k (by omega)]
theorem aN2 {ps : List Rat} (h : v9 ps ps.length) : v9 (D8 0 ps) (D8 0 ps).length := S8 fun x hx => by
  rw [ae1, ao5] at hx
  cases g : ps[ps.length - 1]? with
  | none => rw [g] at hx; cases hx
  | some v =>
    rw [g] at hx
    have hl := (List.getElem?_eq_some_iff.mp g).1
    have hv := h.last (by omega) v g
    rw [Option.map_some, if_pos (by omega)] at hx
    cases hx
    exact hv
theorem aa1 {c : Nat} {M : List (List Rat)} {last ps : List Rat} (R : K7 c M last) (t : v9 ps ps.length) (e : qp ps = (fld M last M.length).1 + (fld M last M.length).2) : ps.length = dn M last M.length + 1 := by
  obtain ⟨d1, d2⟩ := Y5 R M.length (Nat.le_refl _)
  have le := aE6 t e (n := dn M last M.length + 1) fun k hk => by rw [Y1, d1 k hk, d2 k (by omega)]; grind
  rcases Nat.lt_or_ge ps.length (dn M last M.length + 1) with z | z
  · exfalso
    have h := congrArg (fun z => Pf.f z (dn M last M.length)) e
    have h1 : aQ ps (dn M last M.length) = (fld M last M.length).1.f (dn M last M.length) + (fld M last M.length).2.f (dn M last M.length) := h
    rw [d2 _ (Nat.le_refl _)] at h1
    have h2 : aQ ps (dn M last M.length) = 0 := by unfold aQ; rw [List.getElem?_eq_none (by omega)]; rfl
    rw [h2] at h1
    exact F7 R M.length (Nat.le_refl _) (by grind)
  · omega
structure FX (K : PySem.W.Frag) (D : Addr) (H : Hp) (r : Addr) (p : Pf) (b : Nat) (s : Rat) (ws : List Int) : Prop where
  fm : FmX K D H r s ws
  s0 : s ≠ 0
  tz : B7 ws ws.length
  e : v6 s * zp ws = p
  bs : BdN b s
  bw : ∀ v ∈ ws, Int.natAbs v < 2 ^ b
theorem FX.same {K : PySem.W.Frag} {D : Addr} {H H' : Hp} {r : Addr} {p : Pf} {b : Nat} {s : Rat} {ws : List Int} (S : d5 H H') (h : FX K D H r p b s ws) : FX K D H' r p b s ws := ⟨h.fm.same S, h.s0, h.tz, h.e, h.bs, h.bw⟩
theorem FX.over {K : PySem.W.Frag} {D : Addr} {H : Hp} {r : Addr} {p : Pf} {b : Nat} {s : Rat} {ws : List Int} {ys : List V} {o : HO} (hD : H D = some (.lst ys)) (h : FX K D H r p b s ws) : FX K D (upd H D o) r p b s ws := ⟨h.fm.over hD, h.s0, h.tz, h.e, h.bs, h.bw⟩
theorem aD2 {s : Rat} {ws : List Int} {p : Pf} {B W : Nat} (s0 : s ≠ 0) (e : v6 s * zp ws = p) (B0 : 0 < B) (hB : B < 2 ^ W) (hp : OvP B W p) (g : t7 ws = 1) : BdN W s ∧ ∀ v ∈ ws, Int.natAbs v < 2 ^ W :=
  ax7 rfl g s0 (W9 B0 hB (V7 (by rw [P2, e]; exact hp)))
theorem bh6 {c : Nat} {M : List (List Rat)} {last : List Rat} (R : K7 c M last) {j : Nat} (hj : j < M.length) {q r : Pf} {m : Nat} (e : (fld M last (j + 1)).1 = q * (fld M last j).1 + r) (hr : Dg r.f (dn M last j)) (hq : Dg q.f m) : ∃ L, M[M.length - 1 - j]? = some L ∧ L ∈ M ∧ q = qp L ∧ r = (fld M last j).2 := by
  obtain ⟨L, hg, hL, hd, e1, e2⟩ := R.at hj
  obtain ⟨d1, d2⟩ := Y5 R j (by omega)
  have key := bd4 (O := (fld M last j).1.f) (f0 := q.f) (g0 := (qp L).f) (f1 := r.f) (g1 := (fld M last j).2.f) (n := dn M last j) (m := max m L.length) (F7 R j (by omega)) (fun k hk => d1 k (by omega)) hr d2 (fun k hk => hq k (by omega)) (fun k hk => aG9 L k (by omega)) fun k => by
    have h1 := congrArg (fun z => Pf.f z k) e
    have h2 := congrArg (fun z => Pf.f z k) e1
    simp only [Y1, aZ6] at h1 h2
    rw [← h1, ← h2]
  exact ⟨L, hg, hL, Pf.ext key.1, Pf.ext key.2⟩
structure be5 (K : PySem.W.Frag) (c : Nat) (M : List (List Rat)) (last : List Rat) (H : Hp) (D : Addr) (i : Nat) (r1 r2 : Addr) (vs : List V) (fs : List (Rat × List Int)) (H2 : Hp) : Prop where
  le : i ≤ M.length
  same : d5 H H2
  eD : H2 D = some (.lst vs)
  fm : Fms K D H2 vs fs
  eM : fs.map (fun f => scl f.1 f.2) = M.take (M.length - i)
  one : ∃ s A, FX K D H2 r1 (fld M last i).1 (Ub c (dn M last i)) s A
  other : ∃ t B, FmX K D H2 r2 t B ∧ ((i = 0 ∧ B = []) ∨ ∃ j, i = j + 1 ∧ FX K D H2 r2 (fld M last j).1 (Ub c (dn M last j)) t B)
  small : ∀ f ∈ fs, f.1.den < 2 ^ 6000 ∧ f.1.num.natAbs < 2 ^ 6000 ∧ (∀ v ∈ f.2, Int.natAbs v < 2 ^ 20000) ∧ f.2.length ≤ 100
theorem be5.to {K : PySem.W.Frag} {c : Nat} {M : List (List Rat)} {last : List Rat} {H H2 H3 : Hp} {D : Addr} {i : Nat} {r1 r2 : Addr} {vs : List V} {fs : List (Rat × List Int)} (R : be5 K c M last H D i r1 r2 vs fs H2) (S : d5 H2 H3) : be5 K c M last H D i r1 r2 vs fs H3 := by
  obtain ⟨s, A, X⟩ := R.one
  obtain ⟨t, B, F, alt⟩ := R.other
  refine ⟨R.le, R.same.trans S, S _ _ R.eD, R.fm.same S, R.eM, ⟨s, A, X.same S⟩, ⟨t, B, F.same S, ?_⟩, R.small⟩
  rcases alt with h | ⟨j, e, Y⟩
  · exact .inl h
  · exact .inr ⟨j, e, Y.same S⟩
theorem aM2 {c : Nat} {M : List (List Rat)} {last : List Rat} (R : K7 c M last) {i : Nat} (hi : i ≤ M.length) {s : Rat} {ws : List Int} (s0 : s ≠ 0) (t : B7 ws ws.length) (e : v6 s * zp ws = (fld M last i).1) : ws.length = dn M last i + 1 := by
  have h1 := aj9 s0 t e (Y5 R i hi).1
  have h2 := F7 R i hi
  rcases Nat.lt_or_ge (dn M last i) ws.length with z | z
  · omega
  · exfalso
    refine h2 ?_
    rw [← e, au9, show (zp ws).f (dn M last i) = zc ws (dn M last i) from rfl, aw1 ws _ z]; grind
section
variable {P : Program} {w : World} {K : PySem.W.Frag} {mg : Str → Option Value} {base : Heap}
def aG2 (K : PySem.W.Frag) : Sp := fun vs H Q _ => ∃ (a : Addr) (xs : List V) (ps : List Rat) (c : Nat) (M : List (List Rat)) (last : List Rat), vs = [.ref a] ∧ SqL K H a xs ∧ p7 H xs ps ∧ K7 c M last ∧ v9 ps ps.length ∧ qp ps = (fld M last M.length).1 + (fld M last M.length).2 ∧
  ∀ r r1 r2 D vs fs H', H' r = some (.tup [.ref D, .ref r1]) → H D = none → be5 K c M last H D 0 r1 r2 vs fs H' → Q (.ref r) H'
abbrev A3 : Stmt := top 52
theorem v4 : i3 ["p", "quotients", "first", "second", "one", "other", "quotient", "rest"] ["p"] (b9 A3) := by clean_wf
set_option maxHeartbeats 0 in
theorem af8 {f f1 f2 f3 : Addr} (d : Df K mg "division_forms" A3 ["p"] f) (G_by_turns : Def P w K mg base CX0 2 "by_turns" f1 ["p"] (aN3 K)) (GD_lifted : Def P w K mg base CX0 3 "lifted" f2 ["p"] (ai0 K)) (GD_form_divided : Def P w K mg base CX0 4 "form_divided" f3 ["one", "other"] (bk0 K)) : Def P w K mg base CX0 5 "division_forms" f ["p"] (aG2 K) := by
  have G_lifted := GD_lifted
  have G_form_divided := GD_form_divided
  refine d.ok (N := ["p", "quotients", "first", "second", "one", "other", "quotient", "rest"]) v4 (by rintro vs H Q E ⟨_, _, _, _, _, _, h, _⟩; rw [h]; rfl) (fun cdv A outer s H vs Q E hr h => ?_)
  obtain ⟨a, xs, ps, c, M, last, rfl, hS, hN, R, tp, ep, k⟩ := h
  refine ⟨_, (d3 (F5 (d9 G_by_turns hr (b6 (pv 0) b7) i0) (show PG _ _ (N6 K 2 (n8 (j9 2) (n8 (j9 3) N7))) from by (refine B9 (n := 2) ?_ ?_ ?_ ?_; rfl; (refine g8 ?_ ?_ ?_; (exact (e8 (i := 2) v4.nd rfl (Or.inl rfl))); (refine g8 ?_ ?_ ?_; (exact (e8 (i := 3) v4.nd rfl (Or.inl rfl))); (exact w4); rfl); rfl); rfl; rfl)))
      (d3 (X9 (i := 4) (j := 5) rfl v4.nd rfl rfl (by decide) rfl rfl (b6 (d9 G_lifted hr (b6 (pv 2) b7) i0) (b6 (d9 G_lifted hr (b6 (pv 3) b7) i0) b7)) rfl)
      (d3 (i7 (i := 1) v4.nd rfl (Or.inl rfl) (w8 b7))
      (d3 (U0 PassesOwn.never (B4 (n5 o0 (pv 5) d4 (fun _ _ => rfl)) (fun _ => rfl)) (d3 (F5 (d9 G_form_divided hr (b6 (pv 4) (b6 (pv 5) b7)) i0) (show PG _ _ (N6 K 2 (n8 (j9 6) (n8 (j9 7) N7))) from by (refine B9 (n := 2) ?_ ?_ ?_ ?_; rfl; (refine g8 ?_ ?_ ?_; (exact (e8 (i := 6) v4.nd rfl (Or.inl rfl))); (refine g8 ?_ ?_ ?_; (exact (e8 (i := 7) v4.nd rfl (Or.inl rfl))); (exact w4); rfl); rfl); rfl; rfl)))
      (d3 (V3 (af6 PySem.F.plainAttrs_list PySem.F.slot_list_append PySem.F.type_list_append N3 (pv 1) (b6 (pv 6) b7)))
      (d6 (X9 (i := 4) (j := 5) rfl v4.nd rfl rfl (by decide) rfl rfl (b6 (pv 5) (b6 (pv 7) b7)) rfl)))))
      (d6 (g7 (u0 (b6 (pv 1) (b6 (pv 4) b7))))))))), ?_⟩
  rw [show start ["p", "quotients", "first", "second", "one", "other", "quotient", "rest"] [.ref a] = [some (.ref a), none, none, none, none, none, none, none] from rfl]
  have lps := aa1 R tp ep
  have ov := ag8 R
  obtain ⟨c10, c40⟩ := R.c1
  have sm := R.sum (n := M.length) (Nat.le_refl _)
  have lpos := List.length_pos_iff.mpr R.n
  have edn : dn M last M.length + 1 ≤ 15 := by unfold dn; omega
  have ubn := R.ub (n := M.length) (Nat.le_refl _)
  obtain ⟨par1, par2⟩ := aT3 R (Nat.le_refl M.length)
  obtain ⟨tq0, tq1⟩ := be6 lps ep par1 par2
  refine i9 (fun σ H1 => ∃ l1 l2 y1 y2 m, σ = [some (.ref a), none, some (.ref l1), some (.ref l2), none, none, none, none] ∧ d5 H H1 ∧ H1 l1 = some (.lst y1) ∧ H1 l2 = some (.lst y2) ∧ B6 K H1 y1 (D8 0 ps) ∧ B6 K H1 y2 ((D8 1 ps).take m) ∧ v9 (D8 1 ps) m) (fun N hN2 => ?_) ?_
  · subst_eqs
    refine ⟨a, xs, ps, rfl, hS, hN, by omega, fun r l1 l2 y1 y2 m H1 S1 f1 er e1 e2 n1 n2 tm => ?_⟩
    exact ⟨r, rfl, _, SqT.of er, rfl, _, _, rfl, _, _, rfl, rfl, hN2 _ _ ⟨l1, l2, y1, y2, m, rfl, S1, e1, e2, n1, n2, tm⟩⟩
  rintro σ H1 ⟨l1, l2, y1, y2, m, rfl, S1, e1, e2, n1, n2, tm⟩
  have lq2 : ((D8 1 ps).take m).length ≤ 15 := by
    rw [List.length_take, ae1]; omega
  have q2 : qp ((D8 1 ps).take m) = (fld M last M.length).2 := by rw [am8 tm, tq1]
  obtain ⟨I, hI⟩ : ∃ I : Nat → Addr → Addr → Addr → L2.St → Hp → Prop, ∀ i D r1 r2 σ H2, I i D r1 r2 σ H2 ↔ ∃ o2 o3 o6 o7 vs fs, σ = [some (.ref a), some (.ref D), o2, o3, some (.ref r1), some (.ref r2), o6, o7] ∧ be5 K c M last H D i r1 r2 vs fs H2 := ⟨_, fun _ _ _ _ _ _ => Iff.rfl⟩
  refine i9 (fun σ H2 => ∃ r1 r2 rs1 rs2 la lb s A t B, σ = [some (.ref a), none, some (.ref l1), some (.ref l2), some (.ref r1), some (.ref r2), none, none] ∧ d5 H H2 ∧ H2 la = some (.lst (A.map V.int)) ∧ H2 lb = some (.lst (B.map V.int)) ∧ SqT K H2 r1 [.ref rs1, .ref la] ∧ SqT K H2 rs1 (w9 s) ∧ SqT K H2 r2 [.ref rs2, .ref lb] ∧ SqT K H2 rs2 (w9 t) ∧ s ≠ 0 ∧ t ≠ 0 ∧ scl s A = D8 0 ps ∧ scl t B = (D8 1 ps).take m ∧ (A ≠ [] → t7 A = 1) ∧ (B ≠ [] → t7 B = 1)) (fun N hN2 => ?_) ?_
  · subst_eqs
    obtain ⟨B, B0, hB, o1, o2⟩ := ov M.length (Nat.le_refl _)
    have cl1 : ClN (Ub c (dn M last M.length)) (D8 0 ps) := W9 B0 hB (V7 (by rw [tq0]; exact o1))
    have cl2 : ClN (Ub c (dn M last M.length)) ((D8 1 ps).take m) := W9 B0 hB (V7 (by rw [q2]; exact o2))
    refine ⟨l1, y1, _, rfl, SqL.of e1, n1, _, cl1, by omega, Z2 _ _, by rw [ae1]; omega, aN2 tp, fun r1 rs1 la s A H2 S2 f2 er1 ers1 ela bs1 s0 wb1 wl1 eA gA => ?_⟩
    refine ⟨l2, y2, _, rfl, SqL.of (S2 _ _ e2), n2.mono S2.tups, _, cl2, by omega, Z2 _ _, by omega, am7 tm, fun r2 rs2 lb t B H3 S3 f3 er2 ers2 elb bs2 t0 wb2 wl2 eB gB => ?_⟩
    exact hN2 _ _ ⟨r1, r2, rs1, rs2, la, lb, s, A, t, B, rfl, S1.trans (S2.trans S3), S3 _ _ ela, elb, SqT.of (S3 _ _ er1), S3.tup ers1, SqT.of er2, ers2, s0, t0, eA.symm, eB.symm, gA, gB⟩
  rintro σ H2 ⟨r1, r2, rs1, rs2, la, lb, s, A, t, B, rfl, S2, ela, elb, er1, ers1, er2, ers2, s0, t0, eA, eB, gA, gB⟩
  refine i9 (fun σ H3 => ∃ D, H D = none ∧ I M.length D r1 r2 σ H3) (fun N hN2 => ?_) ?_
  · subst_eqs
    refine ⟨by decide, fun D hD => hN2 _ _ ⟨D, S2.free hD, (hI _ _ _ _ _ _).mpr ⟨_, _, _, _, [], [], rfl, ?_⟩⟩⟩
    have SD := d5.new hD (.lst [])
    have nla : la ≠ D := g6 ela hD
    have nlb : lb ≠ D := g6 elb hD
    obtain ⟨B', B0, hB, o1, o2⟩ := ov M.length (Nat.le_refl _)
    have pA : v6 s * zp A = (fld M last M.length).1 := by rw [← P2, eA, tq0]
    have pB : v6 t * zp B = (fld M last M.length).2 := by rw [← P2, eB, q2]
    have An : A ≠ [] := ao1 pA (F7 R M.length (Nat.le_refl _))
    obtain ⟨bA1, bA2⟩ := aD2 s0 pA B0 hB o1 (gA An)
    have tzA : B7 A A.length := tzB s0 eA.symm (aN2 tp)
    have tzB' : B7 B B.length := tzB t0 eB.symm (am7 tm)
    have fB : FmX K D (upd H2 D (.lst [])) r2 t B := ⟨rs2, lb, SD.tup er2, SD.tup ers2, SD _ _ elb, nlb⟩
    refine ⟨Nat.le_refl _, S2.trans SD, b8, .nil, by rw [Nat.sub_self]; rfl, ⟨s, A, ⟨rs1, la, SD.tup er1, SD.tup ers1, SD _ _ ela, nla⟩, s0, tzA, pA, bA1, bA2⟩, ⟨t, B, fB, ?_⟩, by simp⟩
    rcases Nat.eq_zero_or_pos M.length with z | z
    · refine .inl ⟨z, ?_⟩
      rw [z] at pB
      have := aj9 t0 tzB' pB (n := 0) fun k _ => by rw [show (fld M last 0).2 = 0 from rfl]; exact Y0 k
      exact List.length_eq_zero_iff.mp (by omega)
    · obtain ⟨j, hj⟩ : ∃ j, M.length = j + 1 := ⟨M.length - 1, by omega⟩
      have e2' : (fld M last M.length).2 = (fld M last j).1 := by
        rw [hj]; rfl
      rw [e2'] at pB
      obtain ⟨B', B0, hB, o1, o2⟩ := ov j (by omega)
      have Bn : B ≠ [] := ao1 pB (F7 R j (by omega))
      obtain ⟨bB1, bB2⟩ := aD2 t0 pB B0 hB o1 (gB Bn)
      exact .inr ⟨j, hj, fB, t0, tzB', pB, bB1, bB2⟩
  rintro σ H3 ⟨D, fD, h3⟩
  refine i9 (fun σ H4 => ∃ r1 r2, I 0 D r1 r2 σ H4) (fun N hN2 => ?_) ?_
  · show ao6 _ _ _ _ _
    refine Z0 (fun σ H4 => ∃ i r1 r2, I i D r1 r2 σ H4) (fun σ H4 => 100 - ar9 1 σ H4) ⟨_, _, _, h3⟩ ?_
    rintro σ H4 ⟨i, r1, r2, h4⟩
    obtain ⟨o2, o3, o6, o7, vs, fs, rfl, Rw⟩ := (hI _ _ _ _ _ _).mp h4
    obtain ⟨s1, A1, X1⟩ := Rw.one
    obtain ⟨t, B, fB, alt⟩ := Rw.other
    obtain ⟨rs2, lb, er2, ers2, elb, lbD⟩ := fB
    simp! [Y9]
    refine ⟨_, er2, _, rfl, _, .inl ⟨_, SqL.of elb, rfl⟩, v7 (fun hB => WhB.mk ?_) (fun hB => ?_)⟩
    · have hB' : B ≠ [] := fun z => by rw [z] at hB; simp at hB
      rcases alt with ⟨_, z⟩ | ⟨j, rfl, X2⟩
      · exact absurd z hB'
      subst_eqs
      have hj : j < M.length := by have := Rw.le; omega
      obtain ⟨L, hg, hL, hd, ei, _⟩ := R.at hj
      obtain ⟨tL, l2', _, _⟩ := R.m L hL
      have lA := aM2 R (by omega) X1.s0 X1.tz X1.e
      have lB := aM2 R (by omega) X2.s0 X2.tz X2.e
      have sm' := R.sum (n := j + 1) (by omega)
      have edn' : dn M last (j + 1) + 1 ≤ 15 := by unfold dn; omega
      have dle := aD5 (M := M) (n := j + 1) (by omega)
      have ud := bl2 (D := dn M last j) (d := L.length - 1) R.z (by rw [← hd]; unfold dn; omega)
      rw [← hd, Nat.sub_add_cancel (by omega)] at ud
      have edn2 : dn M last j ≤ dn M last (j + 1) := by omega
      obtain ⟨ra, la', era, ersa, ela', laD⟩ := X1.fm
      refine ⟨r1, r2, s1, t, A1, B, dn M last j, L.length, _, _, rfl, ⟨ra, la', era, ersa, SqL.of ela'⟩, ⟨rs2, lb, er2, ers2, SqL.of elb⟩, by omega, lB, by omega, ?_, X1.tz, by omega, X1.bw, X2.bw, Z2 _ _, Z2 _ _, ud, X1.bs, X1.s0, X2.bs, X2.s0, fun r t1 t2 r1' r2' lq lr s3 s4 Qz Rz H5 S5 fq fr er et1 et2 es1 es2 eq elr s30 s40 b3 qb rl rt qt ql g id => ?_⟩
      · have := aA1 X2.tz (by omega)
        rw [lB, Nat.add_sub_cancel] at this
        exact this
      rw [X1.e, X2.e] at id
      obtain ⟨L', hg', hL', q1, q2'⟩ := bh6 R hj (m := Qz.length) id (fun k hk => by rw [au9, show (zp Rz).f k = zc Rz k from rfl, aw1 Rz k (by omega)]; grind) (fun k hk => by rw [au9, show (zp Qz).f k = zc Qz k from rfl, aw1 Qz k hk]; grind)
      rw [hg] at hg'
      cases hg'
      have eL : scl s3 Qz = L := aK4 (tlB s30 qt) tL (by rw [P2, q1])
      have eD5 := S5 _ _ Rw.eD
      have lM := R.len
      have lvs : vs.length = M.length - (j + 1) := by
        have h1 := congrArg List.length Rw.eM
        rw [List.length_map, List.length_take] at h1
        rw [Rw.fm.length, h1]; omega
      refine ⟨r, rfl, _, SqT.of er, rfl, _, _, rfl, _, _, rfl, rfl, .inl ⟨_, SqL.of eD5⟩, vs, eD5, Nat.lt_of_le_of_lt (show _ ≤ 100 by omega) (by decide), ?_⟩
      show WhN _ _ _ _ _
      refine ⟨_, ?_, rfl, j, r2, t2, (hI _ _ _ _ _ _).mpr ⟨_, _, _, _, vs ++ [.ref t1], fs ++ [(s3, Qz)], rfl, ?_⟩⟩
      · show 100 - ar9 1 _ _ < 100 - ar9 1 _ _
        unfold ar9
        simp only [List.getElem?_cons_succ, List.getElem?_cons_zero]
        rw [b8, Rw.eD]
        simp only [List.length_append, List.length_cons, List.length_nil]
        omega
      have lqD : lq ≠ D := fun z => by rw [z, Rw.eD] at fq; cases fq
      have lrD : lr ≠ D := fun z => by rw [z, Rw.eD] at fr; cases fr
      have fR : FmX K D (upd H5 D (.lst (vs ++ [.ref t1]))) t2 s4 Rz := FmX.over eD5 ⟨r2', lr, SqT.of et2, es2, elr, lrD⟩
      refine ⟨by omega, (Rw.same.trans S5).over fD _, b8, ((Rw.fm.same S5).snoc ⟨r1', lq, SqT.of et1, es1, eq, lqD⟩).over eD5, ?_, ⟨t, B, (X2.same S5).over eD5⟩, ⟨s4, Rz, fR, ?_⟩, fun f hf => ?_⟩
      · rw [List.map_append, Rw.eM, show M.length - j = M.length - (j + 1) + 1 by omega, List.take_succ, show M.length - (j + 1) = M.length - 1 - j by omega, hg]
        simp [eL]
      · rcases Nat.eq_zero_or_pos j with z | z
        · refine .inl ⟨z, ?_⟩
          rw [z] at q2'
          have := aj9 s40 rt q2' (n := 0) fun k _ => by rw [show (fld M last 0).2 = 0 from rfl]; exact Y0 k
          exact List.length_eq_zero_iff.mp (by omega)
        · obtain ⟨j', hj'⟩ : ∃ j', j = j' + 1 := ⟨j - 1, by omega⟩
          have e2' : (fld M last j).2 = (fld M last j').1 := by rw [hj']; rfl
          rw [e2'] at q2'
          obtain ⟨B', B0, hB, o1, o2⟩ := ov j' (by omega)
          have Rn : Rz ≠ [] := ao1 q2' (F7 R j' (by omega))
          obtain ⟨bB1, bB2⟩ := aD2 s40 q2' B0 hB o1 (g Rn)
          exact .inr ⟨j', hj', fR, s40, rt, q2', bB1, bB2⟩
      · rcases List.mem_append.mp hf with h | h
        · exact Rw.small f h
        · rw [List.mem_singleton.mp h]
          exact ⟨Nat.lt_of_lt_of_le b3.d (d7 (by omega)), Nat.lt_of_lt_of_le b3.n (d7 (by omega)), fun v hv => Nat.lt_of_lt_of_le (qb v hv) (d7 (by omega)), by show Qz.length ≤ 100; omega⟩
    · have hB0 : B = [] := by
        cases B with
        | nil => rfl
        | cons => simp at hB
      rcases alt with ⟨rfl, z⟩ | ⟨j, rfl, X2⟩
      · exact hN2 _ _ ⟨_, _, h4⟩
      · exact absurd hB0 (ao1 X2.e (F7 R j (by have := Rw.le; omega)))
  rintro σ H4 ⟨r1, r2, h4⟩
  obtain ⟨o2, o3, o6, o7, vs, fs, rfl, Rw⟩ := (hI _ _ _ _ _ _).mp h4
  subst_eqs
  refine ⟨v8, fun p hp => ?_⟩
  exact k p r1 r2 D vs fs _ b8 fD (Rw.to (d5.new hp _))
end
section
variable {P : Program} {w : World} {K : PySem.W.Frag} {mg : Str → Option Value} {base : Heap}
def aW9 (K : PySem.W.Frag) : Sp := fun vs H Q _ => ∃ (a : Addr) (xs : List V) (ps : List Rat) (c : Nat) (M : List (List Rat)) (last : List Rat), vs = [.ref a] ∧ SqL K H a xs ∧ p7 H xs ps ∧ K7 c M last ∧ v9 ps ps.length ∧ qp ps = (fld M last M.length).1 + (fld M last M.length).2 ∧
  ∀ r qa la ts ys H', d5 H H' → H' r = some (.tup [.ref qa, .ref la]) → H' qa = some (.lst (ts.map V.ref)) → Rws H' ts M → H' la = some (.lst ys) → p7 H' ys last → Q (.ref r) H'
abbrev E4 : Stmt := top 53
theorem R6 : i3 ["p", "quotients", "last_scale", "last"] ["p"] (b9 E4) := by clean_wf
set_option maxHeartbeats 0 in
theorem aC1 {f f1 f2 : Addr} (d : Df K mg "divisions" E4 ["p"] f) (G_division_forms : Def P w K mg base CX0 5 "division_forms" f1 ["p"] (aG2 K)) (G_lowered : Def P w K mg base CX0 3 "lowered" f2 ["scale", "wholes"] (ah9 K)) : Def P w K mg base CX0 6 "divisions" f ["p"] (aW9 K) := by
  refine d.ok (N := ["p", "quotients", "last_scale", "last"]) R6 (by rintro vs H Q E ⟨_, _, _, _, _, _, h, _⟩; rw [h]; rfl) (fun cdv A outer s H vs Q E hr h => ?_)
  obtain ⟨a, xs, ps, c, M, last, rfl, hS, hN, R, tp, ep, k⟩ := h
  refine ⟨_, (d3 (z9 (B3 (B4 (pv 0) (fun _ => rfl))) (d6 aq3) m6)
      (d3 (F5 (d9 G_division_forms hr (b6 (pv 0) b7) i0) (show PG _ _ (N6 K 2 (n8 (j9 1) (n8 (N6 K 2 (n8 (j9 2) (n8 (j9 3) N7))) N7))) from by (refine B9 (n := 2) ?_ ?_ ?_ ?_; rfl; (refine g8 ?_ ?_ ?_; (exact (e8 (i := 1) R6.nd rfl (Or.inl rfl))); (refine g8 ?_ ?_ ?_; (refine B9 (n := 2) ?_ ?_ ?_ ?_; rfl; (refine g8 ?_ ?_ ?_; (exact (e8 (i := 2) R6.nd rfl (Or.inl rfl))); (refine g8 ?_ ?_ ?_; (exact (e8 (i := 3) R6.nd rfl (Or.inl rfl))); (exact w4); rfl); rfl); rfl; rfl); (exact w4); rfl); rfl); rfl; rfl)))
      (d6 (g7 (u0 (b6 (M0 (Nc := ["scale", "wholes"]) (caps := [none, none]) rfl (V9.of (osc := b9 E4) (N := ["p", "quotients", "last_scale", "last"]) (ks := []) rfl rfl rfl rfl C5 (by decide +kernel)) (B2 (pv 1)) (fun C s₂ H₂ fp pins => (show PG _ _ (N6 K 2 (n8 (j9 0) (n8 (j9 1) N7))) from by (refine B9 (n := 2) ?_ ?_ ?_ ?_; rfl; (refine g8 ?_ ?_ ?_; (exact (e8 (i := 0) (show List.Nodup (["scale", "wholes"] : List Str) by decide +kernel) rfl (Or.inl rfl) (Or.inr rfl))); (refine g8 ?_ ?_ ?_; (exact (e8 (i := 1) (show List.Nodup (["scale", "wholes"] : List Str) by decide +kernel) rfl (Or.inl rfl) (Or.inr rfl))); (exact w4); rfl); rfl); rfl; rfl))) (fun C s₂ H₂ fp pins => (d9 G_lowered hr (b6 (pv 0) (b6 (pv 1) b7)) i0))) (b6 (d9 G_lowered hr (b6 (pv 2) (b6 (pv 3) b7)) i0) b7))))))), ?_⟩
  rw [show start ["p", "quotients", "last_scale", "last"] [.ref a] = [some (.ref a), none, none, none] from rfl]
  have lps := aa1 R tp ep
  have lx := hN.length
  simp! [Y9]
  refine ⟨_, .inl ⟨_, hS, rfl⟩, v7 (fun h0 => ?_) (fun h0 => ?_)⟩
  · cases xs with
    | nil => simp at lx; omega
    | cons => simp at h0
  refine ⟨a, xs, ps, c, M, last, rfl, hS, hN, R, tp, ep, fun r r1 r2 D vs fs H1 er fD Rw => ?_⟩
  obtain ⟨s1, A1, X1⟩ := Rw.one
  obtain ⟨ra, la', era, ersa, ela', laD⟩ := X1.fm
  have eM := Rw.eM
  rw [Nat.sub_zero, List.take_length] at eM
  have lM := R.len
  have lfs : fs.length = M.length := by rw [← eM, List.length_map]
  have lvs := Rw.fm.length
  have lA := aM2 R (by omega) X1.s0 X1.tz X1.e
  have sm' := R.sum (n := 0) (by omega)
  have edn' : dn M last 0 + 1 ≤ 15 := by
    have := List.length_pos_iff.mpr R.n
    unfold dn; omega
  have ub0 := R.ub (n := 0) (by omega)
  have eL : scl s1 A1 = last := aK4 (tlB X1.s0 X1.tz) R.t (by rw [P2, X1.e]; rfl)
  refine ⟨r, rfl, _, SqT.of er, rfl, _, _, rfl, _, _, rfl, r1, rfl, _, era, rfl, _, _, rfl, _, _, rfl, rfl, rfl, D, rfl, ⟨_, SqL.of Rw.eD⟩, fun D2 hD2 => ?_⟩
  refine K6 vs (fun i σ H5 => ∃ o1 o2, σ = [o1, o2] ∧ au1 H1 D2 ((fs.map fun f => scl f.1 f.2).take i) H5) ⟨_, _, rfl, au1.start hD2⟩ (fun i σ H5 _ ⟨_, _, _, T⟩ => SqL.of (T.same _ _ Rw.eD)) ?_ ?_
  · rintro i y σ H5 hy ⟨o1, o2, rfl, T⟩
    have hi := (List.getElem?_eq_some_iff.mp hy).1
    obtain ⟨rA, s', A', rfl, hf, rsA, lA, eA, esA, elA, lAD⟩ := Rw.fm.get hy
    obtain ⟨m1, m2, m3, m4⟩ := Rw.small _ (List.mem_of_getElem? hf)
    subst_eqs
    refine ⟨_, T.same.tup eA, rfl, _, _, rfl, _, _, rfl, rfl, .ref rsA, s', lA, A', rfl, ⟨rsA, rfl, T.same.tup esA⟩, SqL.of (T.same _ _ elA), m1, m2, m3, m4, fun r' us H6 S6 f6 e6 n6 => ?_⟩
    obtain ⟨ys, ey, ly, T'⟩ := T.add hD2 f6 ⟨S6, us, e6, n6⟩
    refine N5.mk hi ey ?_ ⟨_, _, rfl, ?_⟩
    · rw [ly, List.length_take]
      exact Nat.lt_of_le_of_lt (show _ ≤ 100 by omega) (by decide)
    · rw [List.take_succ, List.getElem?_map, hf]
      exact T'
  · rintro σ H5 ⟨o1, o2, rfl, T⟩
    rw [List.take_of_length_le (by rw [List.length_map]; omega), eM] at T
    refine ⟨.ref ra, s1, la', A1, rfl, ⟨ra, rfl, T.same.tup ersa⟩, SqL.of (T.same _ _ ela'), Nat.lt_of_lt_of_le X1.bs.d (d7 (by omega)), Nat.lt_of_lt_of_le X1.bs.n (d7 (by omega)), fun v hv => Nat.lt_of_lt_of_le (X1.bw v hv) (d7 (by omega)), by omega, fun r6 ys H6 S6 f6 e6 n6 => ⟨v8, fun p hp => ?_⟩⟩
    have X := d5.new hp (.tup [.ref D2, .ref r6])
    obtain ⟨S5, ts, e5, h5, nd5, R5⟩ := T
    rw [eL] at n6
    exact k p D2 r6 ts ys _ (Rw.same.trans (S5.trans (S6.trans X))) b8 (X _ _ (S6 _ _ e5)) (R5.same (S6.trans X)) (X _ _ e6) (n6.mono X.tups)
end
section
variable {P : Program} {w : World} {K : PySem.W.Frag} {mg : Str → Option Value} {base : Heap}
def ap1 (K : PySem.W.Frag) : Sp := fun vs H Q _ => ∃ v d, vs = [v] ∧ IsD K H v d ∧ Q (.bl (ao4 d)) H
abbrev M5 : Stmt := top 26
theorem aG6 : i3 ["thing"] ["thing"] (b9 M5) := by clean_wf
theorem aH2 {f : Addr} (d : Df K mg "is_whole" M5 ["thing"] f) (n_isinstance : mg "isinstance" = none) (n_int : mg "int" = none) (n_bool : mg "bool" = none) : Def P w K mg base CX0 1 "is_whole" f ["thing"] (ap1 K) := by
  refine d.ok (N := ["thing"]) aG6 (by rintro vs H Q E ⟨a, b, h, _⟩; rw [h]; rfl) (fun cdv A outer s H vs Q E hr h => ?_)
  obtain ⟨v, dd, rfl, hd, k⟩ := h
  refine ⟨_, (d6 (g7 (aq7 (d8 j0 rfl n_isinstance (by decide +kernel) (b6 (pv 0) (b6 (P6 (v := .ty "int") rfl n_int (by decide +kernel) rfl) b7))) (aq6 (aZ7 (d8 j0 rfl n_isinstance (by decide +kernel) (b6 (pv 0) (b6 (P6 (v := .ty "bool") rfl n_bool (by decide +kernel) rfl) b7)))))))), ?_⟩
  rw [show start ["thing"] [v] = [some (v)] from rfl]
  subst_eqs
  refine ⟨trivial, _, hd.ty, _, aS9 hd, v7 (fun h => ⟨trivial, _, hd.ty, _, aL8 hd, ?_⟩) (fun h => ?_)⟩
  · have e : (!bk7 dd) = ao4 dd := by
      cases dd with
      | v x => cases x <;> first | rfl | (exact absurd h (by simp [aD0]))
      | tup l => exact absurd h (by simp [aD0])
      | lst l => exact absurd h (by simp [aD0])
    rw [e]; exact k
  · have e : ao4 dd = false := by
      cases dd with
      | v x => cases x <;> first | rfl | (exact absurd rfl h)
      | tup l => rfl
      | lst l => rfl
    rw [e] at k; exact k
def aF9 (K : PySem.W.Frag) : Sp := fun vs H Q _ => ∃ v d, vs = [v] ∧ IsD K H v d ∧ bl0 d ∧ Q (.bl (U4 d)) H
abbrev G6 : Stmt := top 27
theorem X6 : i3 ["thing", "top", "bottom"] ["thing"] (b9 G6) := by clean_wf
theorem aB9 {f f1 f2 : Addr} (d : Df K mg "is_number" G6 ["thing"] f) (G_is_whole : Def P w K mg base CX0 1 "is_whole" f1 ["thing"] (ap1 K)) (G_common_divisor : Def P w K mg base CX0 1 "common_divisor" f2 ["one", "other"] ac7) (n_isinstance : mg "isinstance" = none) (n_tuple : mg "tuple" = none) (n_len : mg "len" = none) : Def P w K mg base CX0 2 "is_number" f ["thing"] (aF9 K) := by
  refine d.ok (N := ["thing", "top", "bottom"]) X6 (by rintro vs H Q E ⟨a, b, h, _⟩; rw [h]; rfl) (fun cdv A outer s H vs Q E hr h => ?_)
  obtain ⟨v, dd, rfl, hd, hb, k⟩ := h
  refine ⟨_, (d3 (z9 (PW.pt (T9 (B3 (J3 (d8 j0 rfl n_isinstance (by decide +kernel) (b6 (pv 0) (b6 (P6 (v := .ty "tuple") rfl n_tuple (by decide +kernel) rfl) b7))))) (V6 (j6 ba1 (d8 i6 rfl n_len (by decide +kernel) (b6 (pv 0) b7)) d4 (j8 _))))) (d6 (g7 U3)) m6)
      (d3 (F5 (pv 0) (show PG _ _ (N6 K 2 (n8 (j9 1) (n8 (j9 2) N7))) from by (refine B9 (n := 2) ?_ ?_ ?_ ?_; rfl; (refine g8 ?_ ?_ ?_; (exact (e8 (i := 1) X6.nd rfl (Or.inl rfl))); (refine g8 ?_ ?_ ?_; (exact (e8 (i := 2) X6.nd rfl (Or.inl rfl))); (exact w4); rfl); rfl); rfl; rfl)))
      (d3 (z9 (PW.pt (T9 (B3 (J3 (d9 G_is_whole hr (b6 (pv 1) b7) i0))) (T9 (B3 (J3 (d9 G_is_whole hr (b6 (pv 2) b7) i0))) (V6 (j6 ak5 (pv 2) d4 (j8 _)))))) (d6 (g7 U3)) m6)
      (d6 (g7 (R7 ac2 (d9 G_common_divisor hr (b6 (pv 1) (b6 (pv 2) b7)) i0) d4 (j8 _))))))), ?_⟩
  rw [show start ["thing", "top", "bottom"] [v] = [some (v), none, none] from rfl]
  simp! [ap1]
  have no : U4 dd = false → Q (.bl false) H := fun e => by rw [e] at k; exact k
  refine ⟨trivial, _, hd.ty, _, aI4 hd, v7 (fun h => no ?_) (fun h => ?_)⟩
  · cases dd with
    | v x => rfl
    | tup l => cases h
    | lst l => rfl
  cases hd with
  | v f => exact absurd rfl h
  | lst hS ht => exact absurd rfl h
  | @tup p xs ds hS ht =>
    have hl := ht.length
    refine ⟨p, rfl, xs, .inr hS, rfl, v7 (fun h2 => no ?_) (fun h2 => ?_)⟩
    · unfold U4
      split
      · rename_i e
        injection e with e
        rw [e] at hl
        exact absurd (by rw [hl]; rfl) h2
      · rfl
    have h2' : xs.length = 2 := by
      have : (xs.length : Int) = 2 := Classical.byContradiction fun z => h2 z
      omega
    cases ht with
    | nil => simp at h2'
    | @cons x xs d1 ds h1 ht =>
      cases ht with
      | nil => simp at h2'
      | @cons y ys d2 ds h3 ht =>
        cases ht with
        | cons _ _ => simp at h2'
        | nil =>
          refine ⟨p, rfl, _, hS, rfl, _, _, rfl, _, _, rfl, rfl, d1, h1, v7 (fun hw => no ?_) (fun hw => ⟨d2, h3, v7 (fun hw2 => no ?_) (fun hw2 => ?_)⟩)⟩
          · unfold U4
            split
            · rename_i e; injection e with e; injection e with e1 _; rw [e1] at hw; cases hw
            · rfl
          · unfold U4
            split
            · rename_i e; injection e with e; injection e with _ e2; injection e2 with e2 _; rw [e2] at hw2; cases hw2
            · rfl
          obtain ⟨t, rfl⟩ := ao3 (by simpa using hw)
          obtain ⟨b, rfl⟩ := ao3 (by simpa using hw2)
          cases h1
          cases h3
          refine ⟨b, rfl, v7 (fun hb1 => no ?_) (fun hb1 => ?_)⟩
          · simp only [U4]
            rw [decide_eq_false (by omega)]; rfl
          · refine ⟨t, b, rfl, hb t b rfl, rfl, ?_⟩
            have e : U4 (.tup [.v (.int t), .v (.int b)]) = decide (V.int ((Int.gcd t b : Nat) : Int) = V.int 1) := by
              simp only [U4]
              rw [decide_eq_true (show 1 ≤ b by omega), Bool.true_and, decide_eq_decide]
              constructor
              · intro z; rw [z]; rfl
              · intro z; injection z with z; omega
            rw [e] at k
            exact k
end
end R
set_option maxRecDepth 100000
namespace L2
open PySem PySem.Spec PyProof.Rows
section
variable {X : Cx} {pos : Pos} {a : Expr} {ta : TE}
def bj6 (K : PySem.W.Frag) (ta : TE) : TE := fun σ H Q => ta σ H fun x H1 => ∃ k, Y9 K x H1 k ∧ Q (.bl (!k)) H1
theorem bf4 (ha : PE X a ta) : PE X (.UnaryOp .Not a pos) (bj6 X.K ta) := by
  intro pins s σ H Q I h
  refine UnaryOp_ (thn (ha pins s σ H _ I h) fun v s1 ⟨x, H1, I1, r1, q1⟩ => ?_)
  obtain ⟨k, hk, q⟩ := q1
  exact not_of (thn (aV2 pins s1 σ H1 x v (fun c H' => Q (.bl (!c)) H') I1 r1 ⟨k, hk, q⟩) fun c s2 ⟨H2, I2, q2⟩ => ⟨.bl (!c), H2, I2, rfl, q2⟩)
end
end L2
set_option maxRecDepth 100000
namespace R
open PySem L2 PyProof.Rows
section
variable {P : Program} {w : World} {K : PySem.W.Frag} {mg : Str → Option Value} {base : Heap}
def aN5 (K : PySem.W.Frag) : Sp := fun vs H Q _ => ∃ v d, vs = [v] ∧ IsD K H v d ∧ smD 6000 d ∧ av6 d ≤ 100 ∧ ∀ H', d5 H H' → Q (.bl (ax8 d)) H'
abbrev z8 : Stmt := top 47
theorem ai3 : i3 ["thing"] ["thing"] (b9 z8) := by clean_wf
set_option maxHeartbeats 0 in
theorem ai8 {f f1 aO : Addr} (d : Df K mg "is_polynomial" z8 ["thing"] f) (G_is_number : Def P w K mg base CX0 2 "is_number" f1 ["thing"] (aF9 K)) (c_NOUGHT : mg "NOUGHT" = some (.ref aO)) (tO : ∀ H, SqT K H aO (w9 0)) (n_isinstance : mg "isinstance" = none) (n_list : mg "list" = none) (n_all : mg "all" = none) : Def P w K mg base CX0 3 "is_polynomial" f ["thing"] (aN5 K) := by
  refine d.ok (N := ["thing"]) ai3 (by rintro vs H Q E ⟨_, _, h, _⟩; rw [h]; rfl) (fun cdv A outer s H vs Q E hr h => ?_)
  obtain ⟨v, dd, rfl, hd, hb, hln, k⟩ := h
  have hu := hr.units
  refine ⟨_, (d3 (z9 (B3 (J3 (d8 j0 rfl n_isinstance (by decide +kernel) (b6 (pv 0) (b6 (P6 (v := .ty "list") rfl n_list (by decide +kernel) rfl) b7))))) (d6 (g7 U3)) m6)
      (d3 (z9 (B3 (J3 (d8 (ah5 rfl) rfl n_all (by decide +kernel) (b6 (M0 (Nc := ["number"]) (caps := [none]) rfl (V9.of (osc := b9 z8) (N := ["thing"]) (ks := []) rfl rfl rfl rfl C5 (by decide +kernel)) (B2 (pv 0)) (fun C s₂ H₂ fp pins => (e8 (i := 0) (show List.Nodup (["number"] : List Str) by decide +kernel) rfl (Or.inl rfl) (Or.inr rfl))) (fun C s₂ H₂ fp pins => (d9 G_is_number hr (b6 (pv 0) b7) i0))) b7)))) (d6 (g7 U3)) m6)
      (d6 (g7 (bq5 (bf4 (pv 0)) (aq6 (R7 (ad2 hu) (n5 y9 (pv 0) (ak3 Z1 d4) (fun _ _ => rfl)) (p8 (v := .ref _) rfl c_NOUGHT rfl) (j8 _)))))))), ?_⟩
  rw [show start ["thing"] [v] = [some (v)] from rfl]
  simp! [bj6]
  have no : ax8 dd = false → ∀ H', d5 H H' → Q (.bl false) H' := fun e H' s => by have := k H' s; rw [e] at this; exact this
  refine ⟨trivial, _, hd.ty, _, as1 hd, v7 (fun h => no ?_ _ (d5.refl _)) (fun h => ?_)⟩
  · cases dd with
    | v x => rfl
    | tup l => rfl
    | lst l => cases h
  cases hd with
  | v f => exact absurd rfl h
  | tup hS ht => exact absurd rfl h
  | @lst p xs ds hS ht =>
    have hl := ht.length
    have hb' : ∀ d ∈ ds, smD 6000 d := (ap7 ds).mp hb
    have hln' : ds.length ≤ 100 := hln
    refine ⟨p, rfl, ⟨_, hS⟩, fun D hD => ?_⟩
    refine K6 xs (fun j σ H3 => ∃ o, σ = [o] ∧ d5 H H3 ∧ H3 D = some (.lst (((ds.take j).map U4).map V.bl))) ⟨_, rfl, d5.new hD _, b8⟩ (fun j σ H3 _ ⟨o, _, s3, _⟩ => s3.seq hS) ?_ ?_
    · rintro j x σ H3 hx ⟨o, rfl, s3, e3⟩
      have hj := (List.getElem?_eq_some_iff.mp hx).1
      obtain ⟨d, hd', hi⟩ := ht.get hx
      subst_eqs
      refine ⟨x, d, rfl, hi.same s3, aX0 (hb' d (List.mem_of_getElem? hd')), N5.mk hj e3 ?_ ⟨_, rfl, s3.over hD _, ?_⟩⟩
      · simp only [List.length_map, List.length_take]
        exact Nat.lt_of_le_of_lt (show _ ≤ 100 by omega) (by decide)
      · rw [b8, List.take_succ, hd']
        simp
    · rintro σ H3 ⟨o, rfl, s3, e3⟩
      rw [hl, List.take_length] at e3
      refine ⟨D, rfl, ds.map U4, SqL.of e3, ?_⟩
      have eall : (ds.map U4).all id = ds.all U4 := by rw [List.all_map]; rfl
      rw [eall]
      refine v7 (fun h1 => no (by show (ds.all U4 && ad7 ds) = false; rw [h1]; rfl) _ s3) (fun h1 => ?_)
      have h1' : ds.all U4 = true := by simpa using h1
      obtain ⟨qs, rfl⟩ := Z7 h1'
      have kk := k H3 s3
      refine ⟨_, .inl ⟨_, s3.seq hS, rfl⟩, v7 (fun h2 => ?_) (fun h2 => ?_)⟩
      · have xz : xs = [] := by cases xs <;> simp_all
        rw [xz] at hl
        have qz : qs = [] := by
          have : (qs.map A7).length = 0 := hl.symm
          rw [List.length_map] at this
          exact List.length_eq_zero_iff.mp this
        subst qz
        exact kk
      · have xn : xs ≠ [] := fun z => h2 (by rw [z]; rfl)
        have xp := List.length_pos_iff.mpr xn
        rw [List.length_map] at hl
        have hq := List.getElem?_eq_getElem (l := qs) (show qs.length - 1 < qs.length by omega)
        generalize (qs[qs.length - 1]'(by omega)) = q at hq
        obtain ⟨d, hd', hi⟩ := ht.get (List.getElem?_eq_getElem (show xs.length - 1 < xs.length by omega))
        rw [List.getElem?_map, show xs.length - 1 = qs.length - 1 by omega, hq] at hd'
        cases hd'
        refine ⟨p, rfl, xs, s3.seq hS, _, aL7 (List.getElem?_eq_getElem (by omega)), ?_⟩
        refine ⟨A7 q, A7 0, rfl, hi.same s3, Y3 (tO _), ag3 _ _, aD6 _, ?_⟩
        rw [ah0]
        have e5 : ax8 (.lst (qs.map A7)) = !(decide (q = 0)) := by
          show ((qs.map A7).all U4 && ad7 (qs.map A7)) = _
          rw [h1', Bool.true_and]
          unfold ad7
          rw [List.length_map, List.getElem?_map, hq]
          show decide (aX5 (A7 q) ≠ 0) = _
          rw [aG7]
          by_cases z : q = 0 <;> simp [z]
        rw [← e5]
        exact kk
theorem as3 {K : PySem.W.Frag} {H : Hp} : ∀ {vs : List V} {ds : List D}, O7 K H vs ds → O7 K H (evs vs) (evs ds)
  | _, _, .nil => .nil
  | _, _, .cons h .nil => .cons h .nil
  | _, _, .cons h (.cons _ t) => .cons h (as3 t)
theorem bc0 {K : PySem.W.Frag} {H : Hp} {vs : List V} {ds : List D} (n : O7 K H vs ds) : O7 K H (ods vs) (ods ds) := by
  cases n with
  | nil => exact .nil
  | cons h t => exact as3 t
theorem aD3 {α β : Type} (g : α → β) : ∀ xs : List α, evs (xs.map g) = (evs xs).map g
  | [] => rfl
  | [x] => rfl
  | x :: y :: r => congrArg (g x :: ·) (aD3 g r)
theorem bg2 {α β : Type} (g : α → β) (xs : List α) : ods (xs.map g) = (ods xs).map g := by
  cases xs with
  | nil => rfl
  | cons x r => exact aD3 g r
def aG3 (K : PySem.W.Frag) : Sp := fun vs H Q _ => ∃ (a : Addr) (xs : List V) (qs : List Rat) (od : Int), vs = [.ref a, .int od] ∧ SqL K H a xs ∧ O7 K H xs (qs.map A7) ∧ (od = 0 ∨ od = 1) ∧ qs.length ≤ 100 ∧ ∀ H', d5 H H' → Q (.bl (if od = 1 then evZ qs else odZ qs)) H'
abbrev E3 : Stmt := top 54
theorem aB0 : i3 ["p", "odd"] ["p", "odd"] (b9 E3) := by clean_wf
set_option maxHeartbeats 0 in
theorem aC0 {f aO : Addr} (d : Df K mg "has_alone" E3 ["p", "odd"] f) (c_NOUGHT : mg "NOUGHT" = some (.ref aO)) (tO : ∀ H, SqT K H aO (w9 0)) (n_all : mg "all" = none) : Def P w K mg base CX0 1 "has_alone" f ["p", "odd"] (aG3 K) := by
  refine d.ok (N := ["p", "odd"]) aB0 (by rintro vs H Q E ⟨_, _, _, _, h, _⟩; rw [h]; rfl) (fun cdv A outer s H vs Q E hr h => ?_)
  obtain ⟨a, xs, qs, od, rfl, hS, hD, ho, hl, k⟩ := h
  have hu := hr.units
  refine ⟨_, (d6 (g7 (d8 (ah5 rfl) rfl n_all (by decide +kernel) (b6 (M0 (Nc := ["number"]) (caps := [none]) rfl (V9.of (osc := b9 E3) (N := ["p", "odd"]) (ks := []) rfl rfl rfl rfl C5 (by decide +kernel)) (B2 (aR9 (pv 0) (am9 (e9 M9 d4 (pv 1))) aB4 (am9 d4))) (fun C s₂ H₂ fp pins => (e8 (i := 0) (show List.Nodup (["number"] : List Str) by decide +kernel) rfl (Or.inl rfl) (Or.inr rfl))) (fun C s₂ H₂ fp pins => (R7 (by exact ad3 hu : OpR _ _ (bq4 K)) (pv 0) (p8 (v := .ref _) rfl c_NOUGHT rfl) (j8 _)))) b7)))), ?_⟩
  rw [show start ["p", "odd"] [.ref a, .int od] = [some (.ref a), some (.int od)] from rfl]
  subst_eqs
  have lx := hD.length
  rw [List.length_map] at lx
  obtain ⟨ys, zs, epk, hz, hzl, hb⟩ : ∃ (ys : List V) (zs : List Rat), ak2 xs (some (1 - od)) none (some 2) = ys ∧ O7 K H ys (zs.map A7) ∧ zs.length ≤ 100 ∧ (if od = 1 then evZ qs else odZ qs) = zs.all (fun q => decide (q = 0)) := by
    rcases ho with rfl | rfl
    · exact ⟨ods xs, ods qs, aZ3 xs, by rw [← bg2]; exact bc0 hD, by have := bg3 qs; omega, rfl⟩
    · exact ⟨evs xs, evs qs, aZ4 xs, by rw [← aD3]; exact as3 hD, by have := aD4 qs; omega, rfl⟩
  rw [hb] at k
  have ly := hz.length
  rw [List.length_map] at ly
  refine ⟨xs, hS, by decide, fun p hp => ?_⟩
  rw [epk]
  have T := d5.new hp (.lst ys)
  have ep : (upd H p (.lst ys)) p = some (.lst ys) := b8
  generalize upd H p (.lst ys) = H1 at *
  refine ⟨⟨_, SqL.of ep⟩, fun D hD' => ?_⟩
  refine K6 ys (fun j σ H3 => ∃ o, σ = [o] ∧ d5 H1 H3 ∧ H3 D = some (.lst (((zs.take j).map fun q => decide (q = 0)).map V.bl))) ⟨_, rfl, d5.new hD' _, b8⟩ (fun j σ H3 _ ⟨o, _, s3, _⟩ => SqL.of (s3 _ _ ep)) ?_ ?_
  · rintro j x σ H3 hx ⟨o, rfl, s3, e3⟩
    have hj := (List.getElem?_eq_some_iff.mp hx).1
    obtain ⟨d, hd', hi⟩ := hz.get hx
    have hq := List.getElem?_eq_getElem (l := zs) (show j < zs.length by omega)
    generalize (zs[j]'(by omega)) = q at hq
    rw [List.getElem?_map, hq] at hd'
    cases hd'
    subst_eqs
    refine ⟨A7 q, A7 0, rfl, (hi.same T).same s3, Y3 (tO _), ag3 _ _, aD6 _, ?_⟩
    rw [ah0]
    refine N5.mk hj e3 ?_ ⟨_, rfl, s3.over hD' _, ?_⟩
    · simp only [List.length_map, List.length_take]
      exact Nat.lt_of_le_of_lt (show _ ≤ 100 by omega) (by decide)
    · rw [b8, List.take_succ, hq]
      simp
  · rintro σ H3 ⟨o, rfl, s3, e3⟩
    rw [ly, List.take_length] at e3
    refine ⟨D, rfl, zs.map fun q => decide (q = 0), SqL.of e3, ?_⟩
    rw [List.all_map]
    exact k _ (T.trans s3)
end
def PNe (d : D) : Prop := ∃ L, d = j7 L ∧ v9 L L.length ∧ L ≠ []
theorem aH0 : ∀ {ds : List D}, (∀ d ∈ ds, PNe d) → ∃ M : List (List Rat), ds = M.map j7 ∧ ∀ L ∈ M, v9 L L.length ∧ L ≠ []
  | [], _ => ⟨[], rfl, by simp⟩
  | d :: ds, h => by
    obtain ⟨L, rfl, t, n⟩ := h d List.mem_cons_self
    obtain ⟨M, rfl, hM⟩ := aH0 fun d hd => h d (List.mem_cons_of_mem _ hd)
    refine ⟨L :: M, rfl, fun L' hL => ?_⟩
    rcases List.mem_cons.mp hL with z | z
    · rw [z]; exact ⟨t, n⟩
    · exact hM L' z
theorem ao0 {H : Hp} {v : V} {L : List Rat} (h : HD H v (j7 L)) : ∃ p ys, v = .ref p ∧ H p = some (.lst ys) ∧ HDs H ys (L.map A7) := by
  unfold j7 at h
  cases h with
  | lst e t => exact ⟨_, _, rfl, e, t⟩
theorem az8.pne {ds : List D} {dl : D} (h : az8 (.lst ds) dl) : ∀ d ∈ ds ++ [dl], PNe d := fun d hd => by
  obtain ⟨ds', e, h1, ⟨L, rfl, t, n, _⟩, _⟩ := h
  injection e with e
  subst e
  rcases List.mem_append.mp hd with z | z
  · obtain ⟨L', rfl, t', n', _⟩ := h1 d z
    exact ⟨L', rfl, t', n'⟩
  · rw [List.mem_singleton.mp z]; exact ⟨L, rfl, t, n⟩
theorem aO5 {M : List (List Rat)} {last : List Rat} (hM : ∀ L ∈ M, v9 L L.length ∧ L ≠ []) (t : v9 last last.length) (n : last ≠ []) : az8 (.lst (M.map j7)) (j7 last) ↔ ((M.map evZ).all id = true ∧ (evZ last = true ∨ odZ last = true) ∧ ((M.map fun L => L.length - 1).sum + (last.length - 1) ≤ 14)) := by
  have es : ((M.map j7).map fun d => av6 d - 1) = M.map fun L => L.length - 1 := by
    rw [List.map_map]
    exact List.map_congr_left fun L _ => by show av6 (j7 L) - 1 = _; rw [P3]
  constructor
  · rintro ⟨ds, e, h1, ⟨L, eL, _, _, h2⟩, h3⟩
    injection e with e
    subst e
    rw [es, P3] at h3
    rw [ab3 eL]
    rw [ab3 eL] at h3
    refine ⟨?_, h2, h3⟩
    rw [List.all_map, List.all_eq_true]
    intro L' hL'
    obtain ⟨L2, e2, _, _, h4⟩ := h1 (j7 L') (List.mem_map.mpr ⟨L', hL', rfl⟩)
    rw [ab3 e2]; exact h4
  · rintro ⟨h1, h2, h3⟩
    refine ⟨_, rfl, fun d hd => ?_, ⟨last, rfl, t, n, h2⟩, by rw [es, P3]; exact h3⟩
    obtain ⟨L, hL, rfl⟩ := List.mem_map.mp hd
    rw [List.all_map, List.all_eq_true] at h1
    exact ⟨L, rfl, (hM L hL).1, (hM L hL).2, h1 L hL⟩
theorem be9 (M : List (List Rat)) (last : List Rat) (hM : ∀ L ∈ M, L ≠ []) (n : last ≠ []) : smZ ((M ++ [last]).map fun L => (L.length : Int) - 1) = (((M.map fun L => L.length - 1).sum + (last.length - 1) : Nat) : Int) := by
  have lp := List.length_pos_iff.mpr n
  have key : ∀ N : List (List Rat), (∀ L ∈ N, L ≠ []) → smZ (N.map fun L => (L.length : Int) - 1) = (((N.map fun L => L.length - 1).sum : Nat) : Int) := by
    intro N
    induction N with
    | nil => intro _; rfl
    | cons L N ih =>
      intro h
      have := List.length_pos_iff.mpr (h L List.mem_cons_self)
      have ih' := ih fun L hL => h L (List.mem_cons_of_mem _ hL)
      rw [List.map_cons, List.map_cons, List.sum_cons, smZ, ih']
      omega
  have h2 : ∀ a b : List Int, smZ (a ++ b) = smZ a + smZ b := by
    intro a b
    induction a with
    | nil => show smZ b = 0 + smZ b; omega
    | cons x r ih => rw [List.cons_append, smZ, ih, smZ]; omega
  rw [List.map_append, h2, key M hM]
  show _ + ((last.length : Int) - 1 + 0) = _
  omega
section
variable {P : Program} {w : World} {K : PySem.W.Frag} {mg : Str → Option Value} {base : Heap}
structure br5 (H : Hp) (vq vl : V) (dq dl : D) : Prop where
  q : HD H vq dq
  l : HD H vl dl
  sq : smD 6000 dq
  sl : smD 6000 dl
  nq : av6 dq ≤ 50
  ne : ∀ ds, dq = .lst ds → ∀ d ∈ ds, av6 d ≤ 60
  nl : av6 dl ≤ 60
def aN8 (K : PySem.W.Frag) : Sp := fun vs H Q _ => ∃ vq vl dq dl, vs = [vq, vl] ∧ br5 H vq vl dq dl ∧ ∀ (b : Bool) H', d5 H H' → (b = true ↔ az8 dq dl) → Q (.bl b) H'
abbrev O4 : Stmt := top 55
theorem ax2 : i3 ["quotients", "last", "thing"] ["quotients", "last"] (b9 O4) := by clean_wf
set_option maxHeartbeats 0 in
theorem aS0 {f f1 f2 : Addr} {tH : Tok} (d : Df K mg "is_row" O4 ["quotients", "last"] f) (G_is_polynomial : Def P w K mg base CX0 3 "is_polynomial" f1 ["thing"] (aN5 K)) (G_has_alone : Def P w K mg base CX0 1 "has_alone" f2 ["p", "odd"] (aG3 K)) (c_HIGHEST : mg "HIGHEST" = some (.int 14 tH)) (n_isinstance : mg "isinstance" = none) (n_list : mg "list" = none) (n_all : mg "all" = none) (n_sum : mg "sum" = none) (n_len : mg "len" = none) : Def P w K mg base CX0 4 "is_row" f ["quotients", "last"] (aN8 K) := by
  refine d.ok (N := ["quotients", "last", "thing"]) ax2 (by rintro vs H Q E ⟨_, _, _, _, h, _⟩; rw [h]; rfl) (fun cdv A outer s H vs Q E hr h => ?_)
  obtain ⟨vq, vl, dq, dl, rfl, R, k⟩ := h
  have hu := hr.units
  refine ⟨_, (d3 (z9 (B3 (J3 (d8 j0 rfl n_isinstance (by decide +kernel) (b6 (pv 0) (b6 (P6 (v := .ty "list") rfl n_list (by decide +kernel) rfl) b7))))) (d6 (g7 U3)) m6)
      (d3 (J4 PassesOwn.never rfl (B2 (e9 ar1 (pv 0) (w8 (b6 (pv 1) b7)))) (e8 (i := 2) ax2.nd rfl (Or.inl rfl)) (d6 (z9 (PW.pt (T9 (B3 (J3 (d9 G_is_polynomial hr (b6 (pv 2) b7) i0))) (V6 (B3 (B4 (pv 2) (fun _ => rfl)))))) (d6 (g7 U3)) m6)))
      (d3 (z9 (B3 (J3 (d8 (ah5 rfl) rfl n_all (by decide +kernel) (b6 (M0 (Nc := ["quotient"]) (caps := [none]) rfl (V9.of (osc := b9 O4) (N := ["quotients", "last", "thing"]) (ks := []) rfl rfl rfl rfl C5 (by decide +kernel)) (B2 (pv 0)) (fun C s₂ H₂ fp pins => (e8 (i := 0) (show List.Nodup (["quotient"] : List Str) by decide +kernel) rfl (Or.inl rfl) (Or.inr rfl))) (fun C s₂ H₂ fp pins => (d9 G_has_alone hr (b6 (pv 0) (b6 d4 b7)) i0))) b7)))) (d6 (g7 U3)) m6)
      (d3 (z9 (PW.pt (aq2 (B3 (J3 (d9 G_has_alone hr (b6 (pv 1) (b6 d4 b7)) i0))) (af5 (B3 (J3 (d9 G_has_alone hr (b6 (pv 1) (b6 d4 b7)) i0)))))) (d6 (g7 U3)) m6)
      (d6 (g7 (R7 bk3 (d8 (be0 rfl) rfl n_sum (by decide +kernel) (b6 (M0 (Nc := ["thing"]) (caps := [none]) rfl (V9.of (osc := b9 O4) (N := ["quotients", "last", "thing"]) (ks := []) rfl rfl rfl rfl C5 (by decide +kernel)) (B2 (e9 ar1 (pv 0) (w8 (b6 (pv 1) b7)))) (fun C s₂ H₂ fp pins => (e8 (i := 0) (show List.Nodup (["thing"] : List Str) by decide +kernel) rfl (Or.inl rfl) (Or.inr rfl))) (fun C s₂ H₂ fp pins => (e9 M9 (d8 (by exact i6 : V5 _ (.builtin "len") (aY1 K)) rfl n_len (by decide +kernel) (b6 (pv 0) b7)) d4))) b7)) (p8 (v := .int 14) rfl c_HIGHEST ⟨_, rfl⟩) (j8 _)))))))), ?_⟩
  rw [show start ["quotients", "last", "thing"] [vq, vl] = [some (vq), some (vl), none] from rfl]
  have no : (¬ az8 dq dl) → ∀ H', d5 H H' → Q (.bl false) H' := fun e H' s => k false H' s ⟨(fun z => by cases z), fun z => absurd z e⟩
  refine i9 (fun σ H1 => σ = [some vq, some vl, none] ∧ H = H1 ∧ bb9 dq = true) (fun N hN => ?_) ?_
  · subst_eqs
    refine ⟨trivial, _, (R.q.isD (K := K)).ty, _, as1 (R.q.isD (K := K)), v7 (fun h => no ?_ _ (d5.refl _)) (fun h => hN _ _ ⟨rfl, rfl, by simpa using h⟩)⟩
    rintro ⟨ds, e, _⟩
    rw [e] at h; cases h
  rintro σ H1 ⟨rfl, rfl, hq⟩
  obtain ⟨ds, rfl⟩ : ∃ ds, dq = .lst ds := by
    cases dq with
    | v x => cases hq
    | tup l => cases hq
    | lst l => exact ⟨l, rfl⟩
  have Rq := R.q
  cases Rq with
  | @lst a xs _ ea ha =>
  have hln : ds.length ≤ 50 := R.nq
  have lx := ha.length
  have sq' : ∀ d ∈ ds, smD 6000 d := (ap7 ds).mp R.sq
  have all0 : HDs H (xs ++ [vl]) (ds ++ [dl]) := ha.append (.cons R.l .nil)
  have lenAll : ∀ d ∈ ds ++ [dl], av6 d ≤ 60 ∧ smD 6000 d := fun d hd => by
    rcases List.mem_append.mp hd with z | z
    · exact ⟨R.ne ds rfl d z, sq' d z⟩
    · rw [List.mem_singleton.mp z]; exact ⟨R.nl, R.sl⟩
  refine i9 (fun σ H1 => ∃ o, σ = [some (.ref a), some vl, o] ∧ d5 H H1 ∧ ∀ d ∈ ds ++ [dl], PNe d) (fun N hN => ?_) ?_
  · refine ⟨_, rfl, _, rfl, ap5, fun p1 hp1 => ?_⟩
    have T1 := d5.new hp1 (.lst [vl])
    refine ⟨a, p1, xs, [vl], rfl, rfl, T1 _ _ ea, b8, Nat.le_trans (show _ ≤ 100 by simp; omega) (by decide), fun p2 hp2 => ?_⟩
    have T2 := d5.new hp2 (.lst (xs ++ [vl]))
    have T12 := T1.trans T2
    have e2 : (upd (upd H p1 (.lst [vl])) p2 (.lst (xs ++ [vl]))) p2 = some (.lst (xs ++ [vl])) := b8
    generalize upd (upd H p1 (.lst [vl])) p2 (.lst (xs ++ [vl])) = Hb at *
    refine ⟨p2, rfl, ⟨_, SqL.of e2⟩, aa0 (xs := xs ++ [vl]) (fun m σ H2 => ∃ o, σ = [some (.ref a), some vl, o] ∧ d5 Hb H2 ∧ ∀ j d, j < m → (ds ++ [dl])[j]? = some d → PNe d) ⟨_, rfl, d5.refl _, fun j d hj => absurd hj (by omega)⟩ (by rintro m σ H2 _ ⟨_, _, s2, _⟩; exact SqL.of (s2 _ _ e2)) ?_ ?_⟩
    · rintro m x σ H2 hx ⟨o, rfl, s2, hm⟩
      obtain ⟨d, hd, hdx⟩ := all0.get hx
      have dm := List.mem_of_getElem? hd
      have ss := T12.trans s2
      subst_eqs
      refine ⟨x, d, rfl, (hdx.same ss).isD, (lenAll d dm).2, by have := (lenAll d dm).1; omega, fun H3 s3 => ⟨_, rfl, v7 (fun h1 => no (fun z => ?_) _ (ss.trans s3)) (fun h1 => ?_)⟩⟩
      · obtain ⟨L, rfl, t, _⟩ := z.pne d dm
        rw [aZ1 t] at h1; cases h1
      · obtain ⟨L, rfl, t⟩ := aZ2 (by simpa using h1)
        obtain ⟨p, ys, rfl, ep, hys⟩ := ao0 (hdx.same (ss.trans s3))
        have ly := hys.length
        rw [List.length_map] at ly
        refine ⟨_, .inl ⟨_, SqL.of ep, rfl⟩, v7 (fun h2 => no (fun z => ?_) _ (ss.trans s3)) (fun h2 => ⟨s2.trans s3, fun j d' hj hd' => ?_⟩)⟩
        · obtain ⟨L', e', _, n'⟩ := z.pne _ dm
          have : ys = [] := by cases ys <;> simp_all
          rw [this] at ly
          rw [ab3 e'] at ly
          exact n' (List.length_eq_zero_iff.mp ly.symm)
        · by_cases e : j = m
          · subst e
            rw [hd] at hd'
            cases hd'
            refine ⟨L, rfl, t, fun z => h2 ?_⟩
            rw [z] at ly
            rw [List.length_eq_zero_iff.mp ly]; rfl
          · exact hm j d' (by omega) hd'
    · rintro σ H2 ⟨o, rfl, s2, hm⟩
      refine hN _ _ ⟨o, rfl, T12.trans s2, fun d hd => ?_⟩
      obtain ⟨j, hj⟩ := List.mem_iff_getElem?.mp hd
      have h1 := (List.getElem?_eq_some_iff.mp hj).1
      exact hm j d (by rw [List.length_append, List.length_singleton] at h1 ⊢; omega) hj
  rintro σ H1 ⟨o, rfl, s1, hp⟩
  obtain ⟨M, rfl, hM⟩ := aH0 fun d hd => hp d (List.mem_append_left _ hd)
  obtain ⟨last, rfl, tl, nl⟩ := hp dl (List.mem_append_right _ (List.mem_singleton.mpr rfl))
  have iff := aO5 hM tl nl
  rw [List.length_map] at lx hln
  have lenM : ∀ L ∈ M, L.length ≤ 60 := fun L hL => by
    have := (lenAll (j7 L) (List.mem_append_left _ (List.mem_map.mpr ⟨L, hL, rfl⟩))).1
    rwa [P3] at this
  have lenl : last.length ≤ 60 := by
    have := (lenAll (j7 last) (List.mem_append_right _ (List.mem_singleton.mpr rfl))).1
    rwa [P3] at this
  refine i9 (fun σ H2 => σ = [some (.ref a), some vl, o] ∧ d5 H H2 ∧ (M.map evZ).all id = true) (fun N hN => ?_) ?_
  · subst_eqs
    refine ⟨⟨_, SqL.of (s1 _ _ ea)⟩, fun D hD => ?_⟩
    refine K6 xs (fun j σ H3 => ∃ o, σ = [o] ∧ d5 H1 H3 ∧ H3 D = some (.lst (((M.take j).map evZ).map V.bl))) ⟨_, rfl, d5.new hD _, b8⟩ (fun j σ H3 _ ⟨o, _, s3, _⟩ => SqL.of (s3 _ _ (s1 _ _ ea))) ?_ ?_
    · rintro j x σ H3 hx ⟨o, rfl, s3, e3⟩
      have hj := (List.getElem?_eq_some_iff.mp hx).1
      obtain ⟨d, hd, hdx⟩ := ha.get hx
      have hL := List.getElem?_eq_getElem (l := M) (show j < M.length by omega)
      generalize (M[j]'(by omega)) = L at hL
      rw [List.getElem?_map, hL] at hd
      cases hd
      have lL := lenM L (List.mem_of_getElem? hL)
      obtain ⟨p, ys, rfl, ep, hys⟩ := ao0 (hdx.same (s1.trans s3))
      subst_eqs
      refine ⟨p, ys, L, 1, rfl, SqL.of ep, hys.isDs, .inr rfl, by omega, fun H4 s4 => ?_⟩
      rw [if_pos rfl]
      refine N5.mk hj (s4 _ _ e3) ?_ ⟨_, rfl, (s3.trans s4).over hD _, ?_⟩
      · simp only [List.length_map, List.length_take]
        exact Nat.lt_of_le_of_lt (show _ ≤ 100 by omega) (by decide)
      · rw [b8, List.take_succ, hL]
        simp
    · rintro σ H3 ⟨o, rfl, s3, e3⟩
      rw [lx, List.take_length] at e3
      exact ⟨D, rfl, M.map evZ, SqL.of e3, v7 (fun h1 => no (fun z => by have := (iff.mp z).1; rw [this] at h1; cases h1) _ (s1.trans s3)) (fun h1 => hN _ _ ⟨rfl, s1.trans s3, by simpa using h1⟩)⟩
  rintro σ H2 ⟨rfl, s2, hev⟩
  obtain ⟨pl, yl, rfl, epl, hyl⟩ := ao0 R.l
  refine i9 (fun σ H3 => σ = [some (.ref a), some (.ref pl), o] ∧ d5 H H3 ∧ (evZ last = true ∨ odZ last = true)) (fun N hN => ?_) ?_
  · subst_eqs
    refine ⟨pl, yl, last, 1, rfl, SqL.of (s2 _ _ epl), (hyl.same s2).isDs, .inr rfl, by omega, fun H3 s3 => ?_⟩
    rw [if_pos rfl]
    refine ⟨_, rfl, v7 (fun h1 => ?_) (fun h1 => hN _ _ ⟨rfl, s2.trans s3, .inl (by simpa using h1)⟩)⟩
    refine ⟨pl, yl, last, 0, rfl, SqL.of ((s2.trans s3) _ _ epl), (hyl.same (s2.trans s3)).isDs, .inl rfl, by omega, fun H4 s4 => ?_⟩
    rw [if_neg (by decide)]
    refine ⟨_, rfl, v7 (fun h2 => no (fun z => ?_) _ (s2.trans (s3.trans s4))) (fun h2 => hN _ _ ⟨rfl, s2.trans (s3.trans s4), .inr (by simpa using h2)⟩)⟩
    rcases (iff.mp z).2.1 with y | y
    · rw [y] at h1; cases h1
    · rw [y] at h2; cases h2
  rintro σ H3 ⟨rfl, s3, hal⟩
  subst_eqs
  refine ⟨ap5, fun p1 hp1 => ?_⟩
  have T1 := d5.new hp1 (.lst [.ref pl])
  refine ⟨xs, (s3.trans T1) _ _ ea, [.ref pl], b8, Nat.le_trans (show _ ≤ 100 by simp; omega) (by decide), fun p2 hp2 => ?_⟩
  have T2 := d5.new hp2 (.lst (xs ++ [.ref pl]))
  have T12 := s3.trans (T1.trans T2)
  have e2 : (upd (upd H3 p1 (.lst [.ref pl])) p2 (.lst (xs ++ [.ref pl]))) p2 = some (.lst (xs ++ [.ref pl])) := b8
  generalize upd (upd H3 p1 (.lst [.ref pl])) p2 (.lst (xs ++ [.ref pl])) = Hb at *
  refine ⟨⟨_, SqL.of e2⟩, fun D hD => ?_⟩
  refine K6 (xs ++ [.ref pl]) (fun j σ H4 => ∃ o, σ = [o] ∧ d5 Hb H4 ∧ H4 D = some (.lst ((((M ++ [last]).take j).map fun L => (L.length : Int) - 1).map V.int))) ⟨_, rfl, d5.new hD _, b8⟩ (fun j σ H4 _ ⟨o, _, s4, _⟩ => SqL.of (s4 _ _ e2)) ?_ ?_
  · rintro j x σ H4 hx ⟨o, rfl, s4, e4⟩
    have hj := (List.getElem?_eq_some_iff.mp hx).1
    have hj' := hj
    rw [List.length_append, List.length_singleton, lx] at hj'
    obtain ⟨d, hd, hdx⟩ := all0.get hx
    have hL := List.getElem?_eq_getElem (l := M ++ [last]) (show j < (M ++ [last]).length by rw [List.length_append, List.length_singleton]; omega)
    generalize ((M ++ [last])[j]'(by rw [List.length_append, List.length_singleton]; omega)) = L at hL
    have ed : M.map j7 ++ [j7 last] = (M ++ [last]).map j7 := by rw [List.map_append]; rfl
    rw [ed, List.getElem?_map, hL] at hd
    cases hd
    obtain ⟨p, ys, rfl, ep, hys⟩ := ao0 (hdx.same (T12.trans s4))
    have ly := hys.length
    rw [List.length_map] at ly
    subst_eqs
    refine ⟨ys, .inl (SqL.of ep), ?_⟩
    rw [ly]
    refine N5.mk hj e4 ?_ ⟨_, rfl, s4.over hD _, ?_⟩
    · simp only [List.length_map, List.length_take, List.length_append, List.length_singleton]
      exact Nat.lt_of_le_of_lt (show _ ≤ 100 by omega) (by decide)
    · rw [b8, List.take_succ, hL]
      simp
  · rintro σ H4 ⟨o, rfl, s4, e4⟩
    rw [List.length_append, List.length_singleton, lx, List.take_of_length_le (by rw [List.length_append, List.length_singleton]; omega)] at e4
    refine ⟨D, rfl, _, SqL.of e4, k _ _ (T12.trans s4) ?_⟩
    rw [be9 M last (fun L hL => (hM L hL).2) nl, iff, decide_eq_true_eq]
    constructor
    · intro h; exact ⟨hev, hal, by omega⟩
    · rintro ⟨_, _, h⟩; omega
end
section
variable {P : Program} {w : World} {K : PySem.W.Frag} {mg : Str → Option Value} {base : Heap}
abbrev E9 : Stmt := top 73
theorem G0 : i3 ["_law_e", "_law_told", "_law_names"] ["_law_e"] (b9 E9) := by clean_wf
set_option maxHeartbeats 0 in
theorem av3 {a : CAd} {f : Addr} (d : Df K mg "_law_which" E9 ["_law_e"] f) (X : XTx K mg a) (n_isinstance : mg "isinstance" = none) (n_ValueError : mg "ValueError" = none) : bj1 P w K mg base 1 "_law_which" f ["_law_e"] (aA3 K a) := by
  obtain ⟨x_NoFraction, x_NoPolynomial, x_NoStretch, x_NoRow, x_NoPair, x_NoBack, x_NoForm, x_NoParts, x_NoDegree, x_NoSteps, x_NoBox, x_NoGain, x_NoText, x_NoLine, x_NoName, x_NoDeed⟩ := X
  refine d.okX (N := ["_law_e", "_law_told", "_law_names"]) G0 (fun vs H Q E ⟨u, q, j, h, _⟩ => by rw [h]; rfl) (fun cdv A outer s H vs Q E hr h => ?_)
  obtain ⟨e, C, j, rfl, kt, hj, he, k⟩ := h
  refine ⟨_, (d3 (i7 (i := 1) G0.nd rfl (Or.inl rfl) (w8 (b6 (d8 j0 rfl n_isinstance (by decide +kernel) (b6 (pv 0) (b6 (p8 (v := .ref _) rfl x_NoFraction.m rfl) b7))) (b6 (d8 j0 rfl n_isinstance (by decide +kernel) (b6 (pv 0) (b6 (p8 (v := .ref _) rfl x_NoPolynomial.m rfl) b7))) (b6 (d8 j0 rfl n_isinstance (by decide +kernel) (b6 (pv 0) (b6 (p8 (v := .ref _) rfl x_NoStretch.m rfl) b7))) (b6 (d8 j0 rfl n_isinstance (by decide +kernel) (b6 (pv 0) (b6 (p8 (v := .ref _) rfl x_NoRow.m rfl) b7))) b7))))))
      (d3 (i7 (i := 1) G0.nd rfl (Or.inl rfl) (e9 ar1 (pv 1) (w8 (b6 (d8 j0 rfl n_isinstance (by decide +kernel) (b6 (pv 0) (b6 (p8 (v := .ref _) rfl x_NoPair.m rfl) b7))) (b6 (d8 j0 rfl n_isinstance (by decide +kernel) (b6 (pv 0) (b6 (p8 (v := .ref _) rfl x_NoBack.m rfl) b7))) (b6 (d8 j0 rfl n_isinstance (by decide +kernel) (b6 (pv 0) (b6 (p8 (v := .ref _) rfl x_NoForm.m rfl) b7))) (b6 (d8 j0 rfl n_isinstance (by decide +kernel) (b6 (pv 0) (b6 (p8 (v := .ref _) rfl x_NoParts.m rfl) b7))) b7)))))))
      (d3 (i7 (i := 1) G0.nd rfl (Or.inl rfl) (e9 ar1 (pv 1) (w8 (b6 (d8 j0 rfl n_isinstance (by decide +kernel) (b6 (pv 0) (b6 (p8 (v := .ref _) rfl x_NoDegree.m rfl) b7))) (b6 (d8 j0 rfl n_isinstance (by decide +kernel) (b6 (pv 0) (b6 (p8 (v := .ref _) rfl x_NoSteps.m rfl) b7))) (b6 (d8 j0 rfl n_isinstance (by decide +kernel) (b6 (pv 0) (b6 (p8 (v := .ref _) rfl x_NoBox.m rfl) b7))) (b6 (d8 j0 rfl n_isinstance (by decide +kernel) (b6 (pv 0) (b6 (p8 (v := .ref _) rfl x_NoGain.m rfl) b7))) b7)))))))
      (d3 (i7 (i := 1) G0.nd rfl (Or.inl rfl) (e9 ar1 (pv 1) (w8 (b6 (d8 j0 rfl n_isinstance (by decide +kernel) (b6 (pv 0) (b6 (p8 (v := .ref _) rfl x_NoText.m rfl) b7))) (b6 (d8 j0 rfl n_isinstance (by decide +kernel) (b6 (pv 0) (b6 (p8 (v := .ref _) rfl x_NoLine.m rfl) b7))) (b6 (d8 j0 rfl n_isinstance (by decide +kernel) (b6 (pv 0) (b6 (p8 (v := .ref _) rfl x_NoName.m rfl) b7))) (b6 (d8 j0 rfl n_isinstance (by decide +kernel) (b6 (pv 0) (b6 (p8 (v := .ref _) rfl x_NoDeed.m rfl) b7))) b7)))))))
      (d3 (i7 (i := 2) G0.nd rfl (Or.inl rfl) aq5)
      (d3 (z9 (PW.pt (T9 (j6 ba1 (af6 PySem.F.plainAttrs_list PySem.F.slot_list_count PySem.F.type_list_count bb3 (pv 1) (b6 U3 b7)) d4 (j8 _)) (V6 (B3 (J3 (d8 j0 rfl n_isinstance (by decide +kernel) (b6 (pv 0) (b6 (P6 (v := .ty "ValueError") rfl n_ValueError (by decide +kernel) rfl) b7)))))))) (d6 (g7 aq5)) m6)
      (d6 (g7 (n5 y9 (af6 PySem.F.plainAttrs_str PySem.F.slot_str_split PySem.F.type_str_split bb1 (pv 2) (b6 aq5 b7)) (af6 PySem.F.plainAttrs_list PySem.F.slot_list_index PySem.F.type_list_index bb2 (pv 1) (b6 U3 b7)) (fun _ _ => rfl)))))))))), ?_⟩
  rw [show start ["_law_e", "_law_told", "_law_names"] [.ref e] = [some (.ref e), none, none] from rfl]
  have ty : ∀ {H' : Hp}, d5 H H' → TyX K H' (.ref e) (.ref C) := fun sm => .exc (sm _ _ he) kt.ec
  simp (maxSteps := 10000000) only [bc4, br0, ipM, ac6, aY1, bl6, bp5, aX7, aK2, bq8, bs6, bq3, bp8, ae3, X5, aF0, bs9, aX9, aF2, tSl, aV7, aE7, ae2, aX8, aY0, af4, aI7, R1, List.map_cons, List.map_nil, Option.bind_none, Option.bind_some, Option.join_some, aQ6, aW1, aW4, tOr, aV9, ao7, tB, tOp, tUn, aR0, tBM, S9, tC, tCB, aQ7, aJ9, j9, bc8, N6, n8, N7, W0, ao9, aQ8, aQ5, aW0, tIf, aF3, aV8, aE8, aQ9, ah7, bl7, aF1, bp7, aE9, ap0, bl8, ao8, aW3, ipI, rI, rI0, rU, af3, aK3, aY2, aG8, rEq, rNe, aq1, aq0, ap9, aY3, aY5, aI5, br1, aI6, bt0, ah1, cxR, cxX, Cx.nox, Cx.wish, Cx.body, Cx.suite, List.getElem?_cons_zero, List.getElem?_cons_succ, List.set_cons_zero, List.set_cons_succ, Option.some.injEq, V.int.injEq, V.bl.injEq, V.ref.injEq, V.str.injEq, exists_eq_left', exists_eq_left, exists_and_left, true_and, and_true, List.cons.injEq, reduceCtorEq, Bool.false_eq_true, if_false, if_true, exists_const, ↓reduceIte, tyV, List.length_cons, List.length_nil, exists_eq, List.append_nil, List.cons_append, List.nil_append, decide_eq_true_eq, not_true_eq_false, not_false_eq_true, Bool.not_eq_true', decide_eq_false_iff_not, Bool.not_true, Bool.not_false, and_assoc, false_and, false_or, or_false]
  refine ⟨trivial, _, ty (d5.refl _), _, kt.k_NoFraction, trivial, _, ty (d5.refl _), _, kt.k_NoPolynomial, trivial, _, ty (d5.refl _), _, kt.k_NoStretch, trivial, _, ty (d5.refl _), _, kt.k_NoRow, by decide, fun l1 h1 => ?_⟩
  have sA1 := d5.new h1 (.lst [V.bl (decide (j = 0)), V.bl (decide (j = 1)), V.bl (decide (j = 2)), V.bl (decide (j = 3))])
  have eA1 : (upd H l1 (.lst [V.bl (decide (j = 0)), V.bl (decide (j = 1)), V.bl (decide (j = 2)), V.bl (decide (j = 3))])) l1 = _ := b8
  generalize upd H l1 (.lst [V.bl (decide (j = 0)), V.bl (decide (j = 1)), V.bl (decide (j = 2)), V.bl (decide (j = 3))]) = H1 at sA1 eA1 ⊢
  refine ⟨trivial, _, ty sA1, _, kt.k_NoPair, trivial, _, ty sA1, _, kt.k_NoBack, trivial, _, ty sA1, _, kt.k_NoForm, trivial, _, ty sA1, _, kt.k_NoParts, by decide, fun p1 hp1 => ?_⟩
  refine ⟨_, (i5 (g6 eA1 hp1)).trans eA1, _, b8, (show (8 : Nat) ≤ sizeLine from by decide), fun l2 h2 => ?_⟩
  have sA2 := (sA1.trans (d5.new hp1 (.lst [V.bl (decide (j = 4)), V.bl (decide (j = 5)), V.bl (decide (j = 6)), V.bl (decide (j = 7))]))).trans (d5.new h2 (.lst ([V.bl (decide (j = 0)), V.bl (decide (j = 1)), V.bl (decide (j = 2)), V.bl (decide (j = 3))] ++ [V.bl (decide (j = 4)), V.bl (decide (j = 5)), V.bl (decide (j = 6)), V.bl (decide (j = 7))])))
  have eA2 : (upd (upd H1 p1 (.lst [V.bl (decide (j = 4)), V.bl (decide (j = 5)), V.bl (decide (j = 6)), V.bl (decide (j = 7))])) l2 (.lst ([V.bl (decide (j = 0)), V.bl (decide (j = 1)), V.bl (decide (j = 2)), V.bl (decide (j = 3))] ++ [V.bl (decide (j = 4)), V.bl (decide (j = 5)), V.bl (decide (j = 6)), V.bl (decide (j = 7))]))) l2 = _ := b8
  generalize upd (upd H1 p1 (.lst [V.bl (decide (j = 4)), V.bl (decide (j = 5)), V.bl (decide (j = 6)), V.bl (decide (j = 7))])) l2 (.lst ([V.bl (decide (j = 0)), V.bl (decide (j = 1)), V.bl (decide (j = 2)), V.bl (decide (j = 3))] ++ [V.bl (decide (j = 4)), V.bl (decide (j = 5)), V.bl (decide (j = 6)), V.bl (decide (j = 7))])) = H2 at sA2 eA2 ⊢
  refine ⟨trivial, _, ty sA2, _, kt.k_NoDegree, trivial, _, ty sA2, _, kt.k_NoSteps, trivial, _, ty sA2, _, kt.k_NoBox, trivial, _, ty sA2, _, kt.k_NoGain, by decide, fun p2 hp2 => ?_⟩
  refine ⟨_, (i5 (g6 eA2 hp2)).trans eA2, _, b8, (show (12 : Nat) ≤ sizeLine from by decide), fun l3 h3 => ?_⟩
  have sA3 := (sA2.trans (d5.new hp2 (.lst [V.bl (decide (j = 8)), V.bl (decide (j = 9)), V.bl (decide (j = 10)), V.bl (decide (j = 11))]))).trans (d5.new h3 (.lst ([V.bl (decide (j = 0)), V.bl (decide (j = 1)), V.bl (decide (j = 2)), V.bl (decide (j = 3))] ++ [V.bl (decide (j = 4)), V.bl (decide (j = 5)), V.bl (decide (j = 6)), V.bl (decide (j = 7))] ++ [V.bl (decide (j = 8)), V.bl (decide (j = 9)), V.bl (decide (j = 10)), V.bl (decide (j = 11))])))
  have eA3 : (upd (upd H2 p2 (.lst [V.bl (decide (j = 8)), V.bl (decide (j = 9)), V.bl (decide (j = 10)), V.bl (decide (j = 11))])) l3 (.lst ([V.bl (decide (j = 0)), V.bl (decide (j = 1)), V.bl (decide (j = 2)), V.bl (decide (j = 3))] ++ [V.bl (decide (j = 4)), V.bl (decide (j = 5)), V.bl (decide (j = 6)), V.bl (decide (j = 7))] ++ [V.bl (decide (j = 8)), V.bl (decide (j = 9)), V.bl (decide (j = 10)), V.bl (decide (j = 11))]))) l3 = _ := b8
  generalize upd (upd H2 p2 (.lst [V.bl (decide (j = 8)), V.bl (decide (j = 9)), V.bl (decide (j = 10)), V.bl (decide (j = 11))])) l3 (.lst ([V.bl (decide (j = 0)), V.bl (decide (j = 1)), V.bl (decide (j = 2)), V.bl (decide (j = 3))] ++ [V.bl (decide (j = 4)), V.bl (decide (j = 5)), V.bl (decide (j = 6)), V.bl (decide (j = 7))] ++ [V.bl (decide (j = 8)), V.bl (decide (j = 9)), V.bl (decide (j = 10)), V.bl (decide (j = 11))])) = H3 at sA3 eA3 ⊢
  refine ⟨trivial, _, ty sA3, _, kt.k_NoText, trivial, _, ty sA3, _, kt.k_NoLine, trivial, _, ty sA3, _, kt.k_NoName, trivial, _, ty sA3, _, kt.k_NoDeed, by decide, fun p3 hp3 => ?_⟩
  refine ⟨_, (i5 (g6 eA3 hp3)).trans eA3, _, b8, (show (16 : Nat) ≤ sizeLine from by decide), fun l4 h4 => ?_⟩
  have sA4 := (sA3.trans (d5.new hp3 (.lst [V.bl (decide (j = 12)), V.bl (decide (j = 13)), V.bl (decide (j = 14)), V.bl (decide (j = 15))]))).trans (d5.new h4 (.lst ([V.bl (decide (j = 0)), V.bl (decide (j = 1)), V.bl (decide (j = 2)), V.bl (decide (j = 3))] ++ [V.bl (decide (j = 4)), V.bl (decide (j = 5)), V.bl (decide (j = 6)), V.bl (decide (j = 7))] ++ [V.bl (decide (j = 8)), V.bl (decide (j = 9)), V.bl (decide (j = 10)), V.bl (decide (j = 11))] ++ [V.bl (decide (j = 12)), V.bl (decide (j = 13)), V.bl (decide (j = 14)), V.bl (decide (j = 15))])))
  have eA4 : (upd (upd H3 p3 (.lst [V.bl (decide (j = 12)), V.bl (decide (j = 13)), V.bl (decide (j = 14)), V.bl (decide (j = 15))])) l4 (.lst ([V.bl (decide (j = 0)), V.bl (decide (j = 1)), V.bl (decide (j = 2)), V.bl (decide (j = 3))] ++ [V.bl (decide (j = 4)), V.bl (decide (j = 5)), V.bl (decide (j = 6)), V.bl (decide (j = 7))] ++ [V.bl (decide (j = 8)), V.bl (decide (j = 9)), V.bl (decide (j = 10)), V.bl (decide (j = 11))] ++ [V.bl (decide (j = 12)), V.bl (decide (j = 13)), V.bl (decide (j = 14)), V.bl (decide (j = 15))]))) l4 = _ := b8
  generalize upd (upd H3 p3 (.lst [V.bl (decide (j = 12)), V.bl (decide (j = 13)), V.bl (decide (j = 14)), V.bl (decide (j = 15))])) l4 (.lst ([V.bl (decide (j = 0)), V.bl (decide (j = 1)), V.bl (decide (j = 2)), V.bl (decide (j = 3))] ++ [V.bl (decide (j = 4)), V.bl (decide (j = 5)), V.bl (decide (j = 6)), V.bl (decide (j = 7))] ++ [V.bl (decide (j = 8)), V.bl (decide (j = 9)), V.bl (decide (j = 10)), V.bl (decide (j = 11))] ++ [V.bl (decide (j = 12)), V.bl (decide (j = 13)), V.bl (decide (j = 14)), V.bl (decide (j = 15))])) = H4 at sA4 eA4 ⊢
  have eT : H4 l4 = some (.lst (aV4 j)) := eA4
  clear eA4
  refine ⟨.inl ⟨_, SqL.of eT⟩, _, eT, rfl, aw4 j hj, rfl, ?_⟩
  rw [aJ8 j hj]
  refine v7 (fun hh => absurd rfl hh) (fun _ => ?_)
  refine ⟨trivial, _, ty sA4, _, kt.kV, ?_⟩
  refine v7 (fun hh => absurd hh (by decide)) (fun _ => ?_)
  refine ⟨by decide +kernel, by decide +kernel, by decide +kernel, by decide +kernel, by rw [ak4]; decide, fun l hl => ?_⟩
  have eT' : (upd H4 l (.lst ((ab0 "fraction polynomial stretch row pair back form parts degree steps box gain text line name deed" " ").map V.str))) l4 = some (.lst (aV4 j)) := (i5 (g6 eT hl)).trans eT
  refine ⟨.inl ⟨_, SqL.of eT'⟩, _, eT', rfl, aw4 j hj, _, aV3 j hj, _, SqL.of b8, _, bg6 hj, ?_⟩
  exact k _ (sA4.trans (d5.new hl _))
end
theorem ar6 {H : Hp} : ∀ {L : List Rat} {ys : List V}, p7 H ys L → HDs H ys (L.map A7)
  | _, _, .nil => .nil
  | _, _, .cons h t => .cons (bo1 h) (ar6 t)
theorem aO4 {H : Hp} : ∀ {ts : List Addr} {M : List (List Rat)}, Rws H ts M → HDs H (ts.map V.ref) (M.map j7)
  | _, _, .nil => .nil
  | _, _, .cons h n t => .cons (.lst h (ar6 n)) (aO4 t)
theorem aA5 {c : Nat} (hc : c ≤ 6000) : ∀ {qs : List Rat}, (∀ x ∈ qs, BdN c x) → au4 6000 (qs.map A7)
  | [], _ => trivial
  | q :: qs, h => ⟨bf0 ((h q List.mem_cons_self).mono hc), aA5 hc fun x hx => h x (List.mem_cons_of_mem _ hx)⟩
theorem aX4 {c : Nat} (hc : c ≤ 6000) : ∀ {M : List (List Rat)}, (∀ L ∈ M, ∀ x ∈ L, BdN c x) → au4 6000 (M.map j7)
  | [], _ => trivial
  | L :: M, h => ⟨aA5 hc (h L List.mem_cons_self), aX4 hc fun L hL => h L (List.mem_cons_of_mem _ hL)⟩
theorem K7.ok {c : Nat} {M : List (List Rat)} {last : List Rat} (R : K7 c M last) : az8 (.lst (M.map j7)) (j7 last) := by
  refine (aO5 (fun L hL => ⟨(R.m L hL).1, fun z => by have := (R.m L hL).2.1; rw [z] at this; simp at this⟩) R.t R.n).mpr ⟨?_, R.p, ?_⟩
  · rw [List.all_map, List.all_eq_true]
    exact fun L hL => (R.m L hL).2.2.1
  · have := List.length_pos_iff.mpr R.n
    have := R.s
    omega
theorem K7.row {c : Nat} {M : List (List Rat)} {last : List Rat} (R : K7 c M last) {H : Hp} {a b : Addr} {ts : List Addr} {xs : List V} (ea : H a = some (.lst (ts.map V.ref))) (hR : Rws H ts M) (eb : H b = some (.lst xs)) (hN : p7 H xs last) : br5 H (.ref a) (.ref b) (.lst (M.map j7)) (j7 last) := by
  obtain ⟨_, c40⟩ := R.c1
  have hl := R.len
  have hs := R.s
  refine ⟨.lst ea (aO4 hR), .lst eb (ar6 hN), aX4 (show c ≤ 6000 by omega) fun L hL => (R.m L hL).2.2.2, aA5 (show c ≤ 6000 by omega) R.o, ?_, fun ds e d hd => ?_, by rw [P3]; omega⟩
  · show (M.map j7).length ≤ 50
    rw [List.length_map]; omega
  · injection e with e
    subst e
    obtain ⟨L, hL, rfl⟩ := List.mem_map.mp hd
    rw [P3]
    have := R.l15 hL
    omega
section
variable {P : Program} {w : World} {K : PySem.W.Frag} {mg : Str → Option Value} {base : Heap}
def ae5 : Sp := fun vs H Q _ => ∃ (a b : Addr) (ts : List Addr) (xs : List V) (c : Nat) (M : List (List Rat)) (last : List Rat), vs = [.ref a, .ref b] ∧ H a = some (.lst (ts.map V.ref)) ∧ Rws H ts M ∧ H b = some (.lst xs) ∧ p7 H xs last ∧ K7 c M last ∧
  ∀ r zs ps H', d5 H H' → H r = none → H' r = some (.lst zs) → p7 H' zs ps → v9 ps ps.length → qp ps = (fld M last M.length).1 + (fld M last M.length).2 → Q (.ref r) H'
abbrev G5 : Stmt := top 57
theorem aA7 : i3 ["quotients", "last"] ["quotients", "last"] (b9 G5) := by clean_wf
set_option maxHeartbeats 0 in
theorem aB8 {f f1 f2 C : Addr} (d : Df K mg "undivided" G5 ["quotients", "last"] f) (G_is_row : Def P w K mg base CX0 4 "is_row" f1 ["quotients", "last"] (aN8 K)) (G_put_together : Def P w K mg base CX0 5 "put_together" f2 ["quotients", "last"] (bj9 K)) (x_NoRow : ExT K mg "NoRow" C) : Def P w K mg base (CXR P w) 6 "undivided" f ["quotients", "last"] ae5 := by
  refine d.okR (N := ["quotients", "last"]) aA7 (by rintro vs H Q E ⟨_, _, _, _, _, _, _, h, _⟩; rw [h]; rfl) (fun cdv A outer s H vs Q E hr h => ?_)
  obtain ⟨a, b, ts, xs, c, M, last, rfl, ea, hR, eb, hN, R, k⟩ := h
  refine ⟨_, (d3 (z9 (B3 (J3 (d9 G_is_row hr (b6 (pv 0) (b6 (pv 1) b7)) i0))) (d6 (aY8 x_NoRow.ox PySem.F.excBase_ValueError rfl rfl x_NoRow.m aR5 (b6 aq5 b7))) m6)
      (d6 (g7 (d9 G_put_together hr (b6 (pv 0) (b6 (pv 1) b7)) i0)))), ?_⟩
  rw [show start ["quotients", "last"] [.ref a, .ref b] = [some (.ref a), some (.ref b)] from rfl]
  subst_eqs
  refine ⟨.ref a, .ref b, _, _, rfl, R.row ea hR eb hN, fun b' H1 s1 hb => ⟨_, rfl, v7 (fun h1 => ?_) (fun h1 => ?_)⟩⟩
  · rw [hb.mpr R.ok] at h1; cases h1
  · exact ⟨a, b, ts, xs, c, M, last, rfl, SqL.of (s1 _ _ ea), hR.same s1, SqL.of (s1 _ _ eb), hN.mono s1.tups, R, fun r zs ps H2 s2 fr er nr tp vp => k r zs ps H2 (s1.trans s2) (s1.free fr) er nr tp vp⟩
abbrev G8 : Stmt := top 77
theorem ae8 : i3 ["_law_quotients", "_law_last", "_law_e"] ["_law_quotients", "_law_last"] (b9 G8) := by clean_wf
set_option maxHeartbeats 0 in
theorem aC3 {a : CAd} {f fw fg : Addr} (d : Df K mg "_law_said" G8 ["_law_quotients", "_law_last"] f) (G_undivided : Def P w K mg base (CXR P w) 6 "undivided" fg ["quotients", "last"] ae5) (G__law_which : bj1 P w K mg base 1 "_law_which" fw ["_law_e"] (aA3 K a)) (x_RestError : ExT K mg "RestError" a.c_RestError) :
    Def P w K mg base CX0 7 "_law_said" f ["_law_quotients", "_law_last"] ae5 := by
  refine d.ok (N := ["_law_quotients", "_law_last", "_law_e"]) ae8 (by rintro vs H Q E ⟨_, _, _, _, _, _, _, h, _⟩; rw [h]; rfl) (fun cdv A outer s H vs Q E hr h => ?_)
  obtain ⟨a', b, ts, xs, c, M, last, rfl, ea, hR, eb, hN, R, k⟩ := h
  refine ⟨_, (d6 (bm2 (i := 2) (C := a.c_RestError) rfl rfl rfl ae8.nd rfl rfl rfl x_RestError.m (fun E xe pn hx => (d6 (g7 (d9 G_undivided hr (b6 (pv 0) (b6 (pv 1) b7)) hx)))) (fun b => (d6 (g7 (u0 (b6 aq5 (b6 (bf6 G__law_which (hr.toX.mark _) (b6 (pv 2) b7)) b7)))))))), ?_⟩
  rw [show start ["_law_quotients", "_law_last", "_law_e"] [.ref a', .ref b] = [some (.ref a'), some (.ref b), none] from rfl]
  simp! [bp6, aA3]
  exact ⟨a', b, ts, xs, c, M, last, rfl, ea, hR, eb, hN, R, fun r zs ps H2 s2 fr er nr tp vp => k r zs ps H2 s2 fr er nr tp vp⟩
end
def NK (kd : Int) (q : Rat) : Prop := if kd = 2 then BdN 40 q else if kd = 0 then OvB 60 10 q else OvB 1 4 q
theorem bq7 {t d : Int} (h1 : 1 ≤ d) (h6 : d ≤ 6) (h : t.natAbs ≤ 9) : OvB 60 10 (Rat.divInt t d) := by
  have h0 : d = 1 ∨ d = 2 ∨ d = 3 ∨ d = 4 ∨ d = 5 ∨ d = 6 := by omega
  rcases h0 with rfl | rfl | rfl | rfl | rfl | rfl
  · exact ⟨t * 60, (Rat.divInt_eq_divInt_iff (by decide) (by decide)).mpr (by omega), by omega⟩
  · exact ⟨t * 30, (Rat.divInt_eq_divInt_iff (by decide) (by decide)).mpr (by omega), by omega⟩
  · exact ⟨t * 20, (Rat.divInt_eq_divInt_iff (by decide) (by decide)).mpr (by omega), by omega⟩
  · exact ⟨t * 15, (Rat.divInt_eq_divInt_iff (by decide) (by decide)).mpr (by omega), by omega⟩
  · exact ⟨t * 12, (Rat.divInt_eq_divInt_iff (by decide) (by decide)).mpr (by omega), by omega⟩
  · exact ⟨t * 10, (Rat.divInt_eq_divInt_iff (by decide) (by decide)).mpr (by omega), by omega⟩
theorem ov1 {t : Int} (h : t.natAbs ≤ 9) : OvB 1 4 (Rat.divInt t 1) := ⟨t, rfl, by omega⟩
theorem NK.ovb0 {q : Rat} (h : NK 0 q) : OvB 60 10 q := by unfold NK at h; rw [if_neg (by decide), if_pos rfl] at h; exact h
theorem NK.ovb1 {q : Rat} (h : NK 1 q) : OvB 1 4 q := by unfold NK at h; rw [if_neg (by decide), if_neg (by decide)] at h; exact h
theorem NK.bd2 {q : Rat} (h : NK 2 q) : BdN 40 q := by unfold NK at h; rw [if_pos rfl] at h; exact h
theorem br4 {t b : Int} (hb : b ≠ 0) (h1 : t.natAbs ≤ 9) (h2 : b.natAbs ≤ 7) : BdN 4 (Rat.divInt t b) := by
  have := K5 (t := t) hb
  exact ⟨Nat.lt_of_le_of_lt this.1 (by omega), Nat.lt_of_le_of_lt this.2 (by omega)⟩
section
variable {P : Program} {w : World} {K : PySem.W.Frag} {mg : Str → Option Value} {base : Heap}
def ah8 : Sp := fun vs H Q _ => ∃ u kd, vs = [.ref u, .int kd] ∧ t6 H u ∧ ∀ r q H', NK kd q → t8 u H H' → t6 H' u → H' r = some (.tup (w9 q)) → Q (.ref r) H'
set_option maxHeartbeats 0 in
theorem am3 {f fd fl : Addr} (d : Df K mg "_law_number" D4 ["_law_urn_here", "_law_kind_here"] f) (G__law_draw : Def P w K mg base CX0 1 "_law_draw" fd ["_law_urn_here", "_law_many"] O0) (G__law_low : Def P w K mg base CX0 1 "_law_low" fl ["_law_top", "_law_bottom"] aw8) (n_int : mg "int" = none) : Def P w K mg base CX0 2 "_law_number" f ["_law_urn_here", "_law_kind_here"] ah8 := by
  refine d.ok (N := ["_law_urn_here", "_law_kind_here", "_law_top"]) Z4 (fun vs H Q E ⟨u, kd, h, _⟩ => by rw [h]; rfl) (fun cdv A outer s H vs Q E hr h => ?_)
  obtain ⟨u, kd, rfl, hu, k⟩ := h
  refine ⟨_, (d3 (z9 (j6 ac2 (pv 1) d4 (j8 _)) (d3 (i7 (i := 2) Z4.nd rfl (Or.inl rfl) (e9 E1 (e9 w5 (d9 G__law_draw hr (b6 (pv 0) (b6 (e9 Z5 d4 d4) b7)) i0) (e9 Z5 d4 d4)) (d9 G__law_draw hr (b6 (pv 0) (b6 (e9 Z5 d4 d4) b7)) i0)))
      (d6 (g7 (d9 G__law_low hr (b6 (e9 w5 (pv 2) (n5 y9 (w8 (b6 d4 (b6 (ak3 Z1 d4) b7))) (d9 G__law_draw hr (b6 (pv 0) (b6 d4 b7)) i0) (fun _ _ => rfl))) (b6 (e9 E1 d4 (e9 w5 (d9 G__law_draw hr (b6 (pv 0) (b6 (e9 Z5 d4 d4) b7)) i0) (e9 Z5 d4 d4))) b7)) i0)))) m6)
      (d6 (g7 (d9 G__law_low hr (b6 (e9 M9 (d9 G__law_draw hr (b6 (pv 0) (b6 d4 b7)) i0) d4) (b6 (e9 E1 d4 (e9 w5 (d9 G__law_draw hr (b6 (pv 0) (b6 d4 b7)) i0) (K2 aU1 rfl n_int (by decide +kernel) (b6 (R7 ac2 (pv 1) d4 (j8 _)) b7)))) b7)) i0)))), ?_⟩
  rw [show start ["_law_urn_here", "_law_kind_here", "_law_top"] [.ref u, .int kd] = [some (.ref u), some (.int kd), none] from rfl]
  have e10 : (10 : Int) ^ Int.toNat 6 = 1000000 := by decide
  simp! [O0, aG5]
  refine v7 (fun hk2 => ?_) (fun hk2 => ?_)
  · refine ⟨⟨by decide, by decide, by decide⟩, hu, by decide, by decide, fun r2 H2 a2 b2 s2 u2 => ?_⟩
    refine ⟨⟨by decide, by decide, by decide⟩, ay1 (by decide), ⟨by decide, by decide, by decide⟩, u2, by decide, by decide, fun r3 H3 a3 b3 s3 u3 => ?_⟩
    refine ⟨by decide, fun l hl => ⟨L9 u3 hl, by decide, by decide, fun r4 H4 a4 b4 s4 u4 => ?_⟩⟩
    have e := s4 l _ b8 (N8 u3 hl)
    have b2' : r2 < 1000000 := b2
    have b3' : r3 < 1000000 := b3
    have sx : t8 u H H4 := s2.trans (s3.trans (t8.trans (d5.x (d5.new hl _) u) s4))
    have fin : ∀ sg : Int, sg = 1 ∨ sg = -1 → (bj2 10 6 ∧ t6 H4 u ∧ 0 < (10 : Int) ^ Int.toNat 6 ∧ (10 : Int) ^ Int.toNat 6 < 2 ^ 40 ∧ ∀ (r : Int) (H' : Hp), 0 ≤ r → r < 10 ^ Int.toNat 6 → t8 u H4 H' → t6 H' u →
        bj2 10 6 ∧ IntMulOk r (10 ^ Int.toNat 6) ∧ aw8 [V.int ((r2 * 10 ^ Int.toNat 6 + r3) * sg), V.int (1 + r * 10 ^ Int.toNat 6)] H' Q E0) := by
      intro sg hsg
      refine ⟨⟨by decide, by decide, by decide⟩, u4, by decide, by decide, fun r5 H5 a5 b5 s5 u5 => ⟨⟨by decide, by decide, by decide⟩, ay1 (by decide), ?_⟩⟩
      rw [e10] at b5 ⊢
      refine ⟨_, _, rfl, by omega, Nat.lt_of_lt_of_le (show (1 + r5 * 1000000).natAbs < 2 ^ 64 by omega) (d7 (by decide)), fun r H' sm hr' => ?_⟩
      refine k r _ H' (by unfold NK; rw [if_pos hk2]; refine (bq2 (by omega) ?_ (by omega)).bdN; rcases hsg with h | h <;> subst h <;> omega) (sx.trans (s5.trans (d5.x sm u))) (d5.urn sm u5) hr'
    have h3 : r4 = 0 ∨ r4 = 1 := by omega
    rcases h3 with h | h <;> subst h
    · exact ⟨_, SqL.of e, _, rfl, _, rfl, ay1 (by decide), fin 1 (.inl rfl)⟩
    · exact ⟨_, SqL.of e, _, rfl, _, rfl, ay1 (by decide), fin (-1) (.inr rfl)⟩
  · refine ⟨hu, by decide, by decide, fun r2 H2 a2 b2 s2 u2 => ⟨u2, by decide, by decide, fun r3 H3 a3 b3 s3 u3 => ⟨bn1 (by omega), ?_⟩⟩⟩
    have hz : ∃ z : Int, z = r3 * (if kd = 0 then 1 else 0) ∧ 0 ≤ z ∧ z ≤ 5 ∧ (kd ≠ 0 → z = 0) := by
      refine ⟨_, rfl, ?_, ?_, ?_⟩
      · split <;> omega
      · split <;> omega
      · intro h; rw [if_neg h, Int.mul_zero]
    obtain ⟨z, ez, z0, z6, zk⟩ := hz
    rw [← ez]
    refine ⟨_, _, rfl, by omega, Nat.lt_of_lt_of_le (show (1 + z).natAbs < 2 ^ 64 by omega) (d7 (by decide)), fun r H' sm hr' => ?_⟩
    exact k r _ H' (by
      unfold NK
      rw [if_neg hk2]
      by_cases h0 : kd = 0
      · rw [if_pos h0]; exact bq7 (by omega) (by omega) (by omega)
      · rw [if_neg h0, zk h0]; exact ov1 (by omega)) (s2.trans (s3.trans (d5.x sm u))) (d5.urn sm u3) hr'
def aF7 : Sp := fun vs H Q _ => ∃ u kd, vs = [.ref u, .int kd] ∧ t6 H u ∧ ∀ r q H', NK kd q → q ≠ 0 → t8 u H H' → t6 H' u → H' r = some (.tup (w9 q)) → Q (.ref r) H'
set_option maxHeartbeats 0 in
theorem ar5 {f fd fl : Addr} (d : Df K mg "_law_other" F4 ["_law_urn_here", "_law_kind_here"] f) (G__law_draw : Def P w K mg base CX0 1 "_law_draw" fd ["_law_urn_here", "_law_many"] O0) (GD__law_number : Def P w K mg base CX0 2 "_law_number" fl ["_law_urn_here", "_law_kind_here"] ah8) : Def P w K mg base CX0 3 "_law_other" f ["_law_urn_here", "_law_kind_here"] aF7 := by
  refine d.ok (N := ["_law_urn_here", "_law_kind_here", "_law_found"]) ab9 (fun vs H Q E ⟨u, kd, h, _⟩ => by rw [h]; rfl) (fun cdv A outer s H vs Q E hr h => ?_)
  obtain ⟨u, kd, rfl, hu, k⟩ := h
  have G__law_number := GD__law_number
  refine ⟨_, (d3 (i7 (i := 2) ab9.nd rfl (Or.inl rfl) (d9 G__law_number hr (b6 (pv 0) (b6 (pv 1) b7)) i0))
      (d3 (z9 (j6 ac2 (n5 o0 (pv 2) d4 (fun _ _ => rfl)) d4 (j8 _)) (d6 (g7 (u0 (b6 (e9 E1 d4 (d9 G__law_draw hr (b6 (pv 0) (b6 d4 b7)) i0)) (b6 d4 b7))))) m6)
      (d6 (g7 (pv 2))))), ?_⟩
  rw [show start ["_law_urn_here", "_law_kind_here", "_law_found"] [.ref u, .int kd] = [some (.ref u), some (.int kd), none] from rfl]
  simp! [O0]
  refine ⟨u, kd, rfl, hu, fun r q H1 sm s1 u1 e1 => ?_⟩
  refine ⟨r, rfl, _, SqT.of e1, _, at0 q, rfl, v7 (fun _ => ?_) (fun hn => ?_)⟩
  · refine ⟨u1, by decide, by decide, fun r2 H2 a2 b2 s2 u2 => ⟨v8, fun l hl => ?_⟩⟩
    have hd := Y2 (n := 1 + r2) (d := 1) (by decide) (by simp)
    refine k l (Rat.divInt (1 + r2) 1) _ (by
      unfold NK
      split
      · exact (br4 (by decide) (by omega) (by decide)).mono (by decide)
      · split
        · exact bq7 (by decide) (by decide) (by omega)
        · exact ov1 (by omega)) ?_ (s1.trans (s2.trans (d5.x (d5.new hl _) u))) (L9 u2 hl) ?_
    · intro z
      rw [z] at hd
      have : (0 : Rat).num = 0 := rfl
      omega
    · rw [b8]
      unfold w9
      rw [hd.1, hd.2]
  · refine k r q H1 sm (fun z => hn ?_) s1 u1 e1
    rw [z]; rfl
end
end R
set_option maxRecDepth 100000
namespace L2
open PySem PySem.Spec PyProof.Rows
def Itw (hi : Int) (n : Nat) : It := ⟨fun i _ => i < n, fun i H x H' => H' = H ∧ x = .int (hi + 2 * i), fun i _ => n ≤ i⟩
theorem aV0 {P : Program} {w : World} {K : PySem.W.Frag} {tg : Expr} (it : Addr) (lo : Int) (n : Nat) : aU5 P w K tg (Itw lo n) [it] it (fun i h => IsRangeIter h it (lo + (i : Nat) * 2) ((n : Int) - (i : Nat)) 2) where
  mem := by simp
  obj := fun i h st b hb => by
    have e : b = it := by simpa using hb
    subst e
    exact ⟨_, st, fun v z => by
      have z' : Data.fields _ = Data.cell v := z
      cases z'⟩
  keep := fun i h h' st k => k it (by simp) _ st
  item := by
    intro X hP hw hK hc i pins s σ H E I hf st hg
    subst hP hw hK
    obtain ⟨f0, f1, f2, f3, f4, f5⟩ := hf it (by simp)
    have W := Walks.range (prog := X.prog) (w := X.w) (I.ok.hd hc) it lo 2 n
    refine W.item i s _ _ hg st fun v h' tk hv st' kk => ?_
    obtain ⟨t, rfl⟩ := hv
    have I1 : Inv X pins σ H { s with heap := h', toks := tk } := I.turned (fun b o hb e => kk b o (by simpa using hb) e) f0 f1 f3 f4 f5
    refine ⟨_, rfl, aP0 (s := { s with heap := h', toks := tk }) (n := "range_iterator") st' rfl rfl (by decide) ⟨.int (lo + 2 * i), H, I1, ⟨t, ?_⟩, ⟨rfl, rfl⟩, st', fun b hb => (hf b hb).1⟩⟩
    rw [show lo + (i : Int) * 2 = lo + 2 * i by omega]
  done := by
    intro X hP hw hK hc i pins s σ H E I hf st hg
    subst hP hw hK
    obtain ⟨f0, f1, f2, f3, f4, f5⟩ := hf it (by simp)
    exact wpAny_pyNext_range_end (I.ok.hd hc) st (by have : n ≤ i := hg; omega) fun h' eb => ⟨rfl, I.turned (t' := s.toks) (fun b o hb e => eb b o hb e) f0 f1 f3 f4 f5⟩
  self := fun _ _ _ _ _ st h => wpAny_pyIter_rangeiter st h
theorem ac1 (a b : Int) : Builtin.Range.rangeSize a b 2 = (((b - a + 1).toNat / 2 : Nat) : Int) := by
  unfold Builtin.Range.rangeSize
  simp only [show ((2 : Int) > 0) by decide, if_true]
  split <;> omega
theorem aR2 {a b : Int} (ha : -(2 ^ 62) ≤ a) (ha' : a < 2 ^ 60) (hb : -(2 ^ 62) ≤ b) (hb' : b < 2 ^ 60) : Builtin.Range.small a b 2 = true := by
  unfold Builtin.Range.small
  rw [ac1]
  simp only [Builtin.Range.rangeFitsLong, Bool.and_eq_true, Bool.or_eq_true, decide_eq_true_eq, beq_iff_eq, show ((2 : Int) > 0) by decide, if_true]
  omega
section
variable {X : Cx} {tg : Expr}
def bq9 (ta : TA) : TI := fun σ H R => ta σ H fun vs H1 => ∃ i j : Int, vs = [.int i, .int j, .int 2] ∧ (-(2 ^ 62) ≤ i ∧ i < 2 ^ 60 ∧ -(2 ^ 62) ≤ j ∧ j < 2 ^ 60) ∧ R (Itw i ((j - i + 1).toNat / 2)) H1
theorem aR8 {a b c : Expr} {ta : TA} {p pos : Pos} (hg : Gl X "range") (hm : X.mg "range" = none) (ha : PA X [a, b, c] ta) (hs : starEach [a, b, c] X.env = [(false, eval a X.env), (false, eval b X.env), (false, eval c X.env)] := by rfl) (hs2 : starEach [b, c] X.env = [(false, eval b X.env), (false, eval c X.env)] := by rfl) :
    PI X tg (.Call (.Name "range" p) [a, b, c] [] pos) (bq9 ta) := by
  intro pins s σ H R I h
  refine Call_ (Z9 I hg hm boot_range (PyProof.Rows.callWith_type1 (thn (ha pos pins s σ H _ I h) fun us s1 ⟨vs, H1, I1, r1, q1⟩ => ?_) (by rw [hs, hs2]) (by rw [hs2]; rfl)))
  obtain ⟨lo, hi, e, ⟨q1, q2, q3, q4⟩, q⟩ := q1
  subst e
  cases r1 with
  | cons r rr =>
    cases rr with
    | cons r' rr =>
      cases rr with
      | cons r'' rr =>
        cases rr
        obtain ⟨t, rfl⟩ := r
        obtain ⟨u, rfl⟩ := r'
        obtain ⟨v, rfl⟩ := r''
        refine call_range_3 (by decide) ?_ (.inl (PyProof.noPylong_of_log2 (by decide +kernel)))
        refine wpAny_pyIter_range (IsRange.new ..) (aR2 q1 q2 q3 q4) ?_
        have I2 : Inv X pins σ H1 { s1 with heap := s1.heap.push { cls := .type "range", data := .fields #[.int lo t, .int hi u, .int 2 v] }, toks := s1.toks } := I1.kept fun b o e => Heap.get?_push_of_some _ e
        refine ⟨(s1.heap.push { cls := .type "range", data := .fields #[.int lo t, .int hi u, .int 2 v] }).objs.size, [(s1.heap.push { cls := .type "range", data := .fields #[.int lo t, .int hi u, .int 2 v] }).objs.size], _, _, H1, rfl,
          I2.kept (t' := s1.toks) fun b o e => Heap.get?_push_of_some _ e, aV0 _ lo ((hi - lo + 1).toNat / 2), ?_, fun b hb => ?_, q⟩
        · have e1 : lo + ((0 : Nat) : Int) * 2 = lo := by simp
          have e2 : ((((hi - lo + 1).toNat / 2) : Nat) : Int) - ((0 : Nat) : Int) = Builtin.Range.rangeSize lo hi 2 := by rw [ac1]; omega
          show IsRangeIter _ _ (lo + ((0 : Nat) : Int) * 2) (((((hi - lo + 1).toNat / 2) : Nat) : Int) - ((0 : Nat) : Int)) 2
          rw [e1, e2]
          exact Heap.get?_push_size _ rfl
        · have e : b = (s1.heap.push { cls := .type "range", data := .fields #[.int lo t, .int hi u, .int 2 v] }).objs.size := by simpa using hb
          subst e
          exact I2.fpOk (Nat.le_refl _) (I2.hok.fresh (Nat.le_refl _))
end
theorem bh5 {lo : Int} {n : Nat} {g : TG} {tb : TS} {D : ab6} {σ : St} {H : Hp} (Pv : Nat → St → Hp → Prop) (h0 : Pv 0 σ H)
    (hs : ∀ i σ H, i < n → Pv i σ H → g (.int (lo + 2 * i)) σ H fun σ2 H2 => tb { D with nx := Pv (i + 1), ct := Pv (i + 1), bk := D.nx } σ2 H2) (hd : ∀ σ H, Pv n σ H → D.nx σ H) :
    ∃ W : Nat → Nat → St → Hp → Prop, (∃ m, W 0 m σ H) ∧ ∀ i m σ H, W i m σ H →
      ((Itw lo n).stop i H ∧ D.nx σ H) ∨ ((Itw lo n).go i H ∧ ∃ N : St → Hp → Prop, (∀ σ' H', N σ' H' → ∃ m', m' < m ∧ W (i + 1) m' σ' H') ∧ ∀ x H', (Itw lo n).yld i H x H' → g x σ H' fun σ2 H2 => tb { D with nx := N, ct := N, bk := D.nx } σ2 H2) := by
  refine ⟨fun i m σ H => m = n - i ∧ i ≤ n ∧ Pv i σ H, ⟨n, by simp, Nat.zero_le _, h0⟩, ?_⟩
  rintro i m σ H ⟨rfl, hi, p⟩
  by_cases hlt : i < n
  · refine .inr ⟨hlt, Pv (i + 1), fun σ' H' p' => ⟨n - (i + 1), by omega, rfl, hlt, p'⟩, fun x H' y => ?_⟩
    obtain ⟨e, y⟩ := y
    subst e y
    exact hs i σ _ hlt p
  · have e : i = n := by omega
    subst e
    exact .inl ⟨Nat.le_refl _, hd σ H p⟩
end L2
set_option maxRecDepth 100000
namespace R
open PySem L2 PyProof.Rows
def KdC (kd : Int) (mo c : Nat) : Prop := ((kd = 0 ∨ kd = 1) ∧ mo = 14 ∧ c = 10) ∨ (kd = 2 ∧ mo = 5 ∧ c = 40)
theorem aK8 {B W : Nat} {q : Rat} (B0 : 0 < B) (hB : B < 2 ^ W) (h : OvB B W q) : BdN W q := by
  obtain ⟨t, rfl, ht⟩ := h
  have le := K5 (t := t) (b := (B : Int)) (by omega)
  exact ⟨Nat.lt_of_le_of_lt le.1 ht, Nat.lt_of_le_of_lt le.2 (by rw [Int.natAbs_natCast]; exact hB)⟩
theorem NK.bd {kd : Int} {q : Rat} {mo c : Nat} (h : NK kd q) (hk : KdC kd mo c) : BdN c q := by
  rcases hk with ⟨rfl | rfl, _, rfl⟩ | ⟨rfl, _, rfl⟩
  · exact aK8 (by decide) (by decide) h.ovb0
  · exact (aK8 (W := 4) (by decide) (by decide) h.ovb1).mono (by decide)
  · exact h.bd2
theorem bi3 {c : Nat} (h : 1 ≤ c) : BdN c 0 := ⟨Nat.pos_of_ne_zero (by have := @Nat.one_le_two_pow c; omega), Nat.lt_of_lt_of_le (show 1 < 2 ^ 1 by decide) (d7 h)⟩
theorem KdC.c1 {kd : Int} {mo c : Nat} (h : KdC kd mo c) : 10 ≤ c ∧ c ≤ 40 ∧ 5 ≤ mo ∧ mo ≤ 14 := by
  rcases h with ⟨_, rfl, rfl⟩ | ⟨_, rfl, rfl⟩ <;> decide
theorem aH7 {H : Hp} {p : Addr} {q : Rat} (h : H p = some (.tup (w9 q))) : ∀ n, p7 H (List.replicate n (.ref p)) (List.replicate n q)
  | 0 => .nil
  | n + 1 => .cons h (aH7 h n)
def bo8 (dg : Nat) (qs : List Rat) : Prop := ∀ j q, qs[j]? = some q → j % 2 ≠ dg % 2 → q = 0
theorem bg4 {α : Type} (xs : List α) (k : Nat) : (ods xs)[k]? = xs[2 * k + 1]? := by
  unfold ods
  rw [ag9, List.getElem?_tail]
theorem bo8.par {dg : Nat} {qs : List Rat} (h : bo8 dg qs) : (if dg % 2 = 1 then evZ qs else odZ qs) = true := by
  by_cases z : dg % 2 = 1
  · rw [if_pos z]
    refine List.all_eq_true.mpr fun q hq => ?_
    obtain ⟨k, hk⟩ := List.mem_iff_getElem?.mp hq
    rw [ag9] at hk
    exact decide_eq_true (h _ q hk (by omega))
  · rw [if_neg z]
    refine List.all_eq_true.mpr fun q hq => ?_
    obtain ⟨k, hk⟩ := List.mem_iff_getElem?.mp hq
    rw [bg4] at hk
    exact decide_eq_true (h _ q hk (by omega))
structure SpS (u : Addr) (H H2 : Hp) (D : Addr) (dg c : Nat) (xs : List V) (qs : List Rat) : Prop where
  sx : t8 u H H2
  ur : t6 H2 u
  ne : D ≠ u
  e : H2 D = some (.lst xs)
  n : p7 H2 xs qs
  l : qs.length = dg + 1
  o : ∀ x ∈ qs, BdN c x
  z : bo8 dg qs
theorem SpS.set {u : Addr} {H H2 H3 : Hp} {D ro : Addr} {dg c : Nat} {xs : List V} {qs : List Rat} {q : Rat} {i : Nat} (S : SpS u H H2 D dg c xs qs) (fD : H D = none) (s : t8 u H2 H3) (ur : t6 H3 u) (er : H3 ro = some (.tup (w9 q))) (hq : BdN c q) (hi : i % 2 = dg % 2) : SpS u H (upd H3 D (.lst (xs.set i (.ref ro)))) D dg c (xs.set i (.ref ro)) (qs.set i q) := by
  have eD := s _ _ S.e S.ne
  have n3 := S.n.mono (s.tups S.ur)
  refine ⟨(S.sx.trans s).over fD _, ur.other S.ne, S.ne, b8, (n3.set i er).mono (X4.lst eD), by rw [List.length_set]; exact S.l, fun x hx => ?_, fun j q' hj hne => ?_⟩
  · rcases List.mem_or_eq_of_mem_set hx with y | y
    · exact S.o x y
    · rw [y]; exact hq
  · rw [List.getElem?_set] at hj
    by_cases e : i = j
    · exact absurd (by rw [← e]; exact hi) hne
    · rw [if_neg e] at hj
      exact S.z j q' hj hne
section
variable {P : Program} {w : World} {K : PySem.W.Frag} {mg : Str → Option Value} {base : Heap}
def ap2 : Sp := fun vs H Q _ => ∃ (u : Addr) (kd : Int) (dg mo c : Nat), vs = [.ref u, .int kd, .int (dg : Int)] ∧ t6 H u ∧ KdC kd mo c ∧ dg ≤ 30 ∧ ∀ r xs qs H', t8 u H H' → t6 H' u → H r = none → H' r = some (.lst xs) → p7 H' xs qs → qs.length = dg + 1 → v9 qs qs.length → (∀ x ∈ qs, BdN c x) → (if dg % 2 = 1 then evZ qs else odZ qs) = true → Q (.ref r) H'
abbrev D0 : Stmt := top 74
theorem T8 : i3 ["_law_urn_here", "_law_kind_here", "_law_degree", "_law_found", "_law_i"] ["_law_urn_here", "_law_kind_here", "_law_degree"] (b9 D0) := by clean_wf
set_option maxHeartbeats 0 in
theorem ar3 {f f1 f2 f3 : Addr} (d : Df K mg "_law_sparse" D0 ["_law_urn_here", "_law_kind_here", "_law_degree"] f) (G__law_draw : Def P w K mg base CX0 1 "_law_draw" f1 ["_law_urn_here", "_law_many"] O0) (GD__law_number : Def P w K mg base CX0 2 "_law_number" f2 ["_law_urn_here", "_law_kind_here"] ah8) (GD__law_other : Def P w K mg base CX0 3 "_law_other" f3 ["_law_urn_here", "_law_kind_here"] aF7) (n_range : mg "range" = none) : Def P w K mg base CX0 4 "_law_sparse" f ["_law_urn_here", "_law_kind_here", "_law_degree"] ap2 := by
  have G__law_number := GD__law_number
  have G__law_other := GD__law_other
  refine d.ok (N := ["_law_urn_here", "_law_kind_here", "_law_degree", "_law_found", "_law_i"]) T8 (by rintro vs H Q E ⟨_, _, _, _, _, h, _⟩; rw [h]; rfl) (fun cdv A outer s H vs Q E hr h => ?_)
  obtain ⟨u, kd, dg, mo, c, rfl, hu0, hk, hd, k⟩ := h
  obtain ⟨c10, _⟩ := hk.c1
  have hu := hr.units
  refine ⟨_, (d3 (i7 (i := 3) T8.nd rfl (Or.inl rfl) (e9 aB6 (w8 (b6 (u0 (b6 d4 (b6 d4 b7))) b7)) (e9 E1 (pv 2) d4)))
      (d3 (J4 PassesOwn.never rfl (aR8 rfl n_range (b6 (e9 M1 (pv 2) d4) (b6 (pv 2) (b6 d4 b7)))) (e8 (i := 4) T8.nd rfl (Or.inl rfl)) (d6 (z9 (j6 ac2 (d9 G__law_draw hr (b6 (pv 0) (b6 d4 b7)) i0) d4 (j8 _)) (d6 (F5 (d9 G__law_number hr (b6 (pv 0) (b6 (pv 1) b7)) i0) (ai5 (pv 3) (pv 4) O1))) m6)))
      (d3 (F5 (d9 G__law_other hr (b6 (pv 0) (b6 (pv 1) b7)) i0) (ai5 (pv 3) (pv 2) O1))
      (d6 (g7 (pv 3)))))), ?_⟩
  rw [show start ["_law_urn_here", "_law_kind_here", "_law_degree", "_law_found", "_law_i"] [.ref u, .int kd, .int (dg : Int)] = [some (.ref u), some (.int kd), some (.int (dg : Int)), none, none] from rfl]
  refine i9 (fun σ H1 => ∃ D xs qs, σ = [some (.ref u), some (.int kd), some (.int (dg : Int)), some (.ref D), none] ∧ H D = none ∧ SpS u H H1 D dg c xs qs) (fun N hN => ?_) ?_
  · subst_eqs
    refine ⟨v8, fun p hp => ⟨ap5, fun p1 hp1 => ?_⟩⟩
    have T1 := d5.new hp (.tup [.int 0, .int 1])
    have T2 := d5.new hp1 (.lst [.ref p])
    have et : ((dg : Int) + 1).toNat = dg + 1 := by omega
    refine ⟨_, b8, by omega, by omega, Nat.le_trans (show _ ≤ 100 by rw [et]; simp; omega) (by decide), fun p2 hp2 => ?_⟩
    rw [et, List.flatten_replicate_singleton]
    have T3 := d5.new hp2 (.lst (List.replicate (dg + 1) (.ref p)))
    have T := T1.trans (T2.trans T3)
    have e0 : (upd H p (.tup [.int 0, .int 1])) p = some (.tup (w9 0)) := b8
    refine hN _ _ ⟨p2, _, List.replicate (dg + 1) 0, rfl, (T1.trans T2).free hp2, d5.x T u, d5.urn T hu0, N8 (d5.urn (T1.trans T2) hu0) hp2, b8, aH7 ((T2.trans T3) _ _ e0) _, by rw [List.length_replicate], fun x hx => by rw [(List.mem_replicate.mp hx).2]; exact bi3 (by omega), fun j q hj _ => ?_⟩
    exact (List.mem_replicate.mp (List.mem_of_getElem? hj)).2
  rintro σ H1 ⟨D, xs, qs, rfl, fD, S1⟩
  refine i9 (fun σ H2 => ∃ o4 xs qs, σ = [some (.ref u), some (.int kd), some (.int (dg : Int)), some (.ref D), o4] ∧ SpS u H H2 D dg c xs qs) (fun N hN => ?_) ?_
  · have em : ((dg : Int)).fmod 2 = ((dg % 2 : Nat) : Int) := by rw [Int.fmod_eq_emod_of_nonneg _ (by decide)]; omega
    refine ⟨_, rfl, _, _, rfl, rfl, (by decide : (2 : Int) ≠ 0), _, rfl, _, _, rfl, ⟨by omega, by omega, by omega, by omega⟩, bh5 (fun m σ H2 => ∃ o4 xs qs, σ = [some (.ref u), some (.int kd), some (.int (dg : Int)), some (.ref D), o4] ∧ SpS u H H2 D dg c xs qs) ⟨_, xs, qs, rfl, S1⟩ ?_ (by rintro σ H2 ⟨o4, xs, qs, rfl, S2⟩; exact hN _ _ ⟨o4, xs, qs, rfl, S2⟩)⟩
    rintro m σ H2 hm ⟨o4, xs, qs, rfl, S2⟩
    rw [em] at hm ⊢
    have lx := S2.n.length
    have ll := S2.l
    have hi : ((dg % 2 : Nat) : Int) + 2 * (m : Int) = ((dg % 2 + 2 * m : Nat) : Int) := by omega
    have hlt : dg % 2 + 2 * m < dg := by omega
    rw [hi]
    simp! [O0]
    refine ⟨S2.ur, by decide, by decide, fun r H3 r0 r2 s3 u3 => ⟨rfl, v7 (fun _ => ?_) (fun _ => ?_)⟩⟩
    · refine ⟨u, kd, rfl, u3, fun ro q H4 nk s4 u4 e4 => ?_⟩
      have ss := s3.trans s4
      have eD := ss _ _ S2.e S2.ne
      exact ⟨xs, eD, _, ag5 (by omega), _, _, S2.set (i := dg % 2 + 2 * m) fD ss u4 e4 (nk.bd hk) (by omega)⟩
    · exact ⟨xs, qs, ⟨S2.sx.trans s3, u3, S2.ne, s3 _ _ S2.e S2.ne, S2.n.mono (s3.tups S2.ur), S2.l, S2.o, S2.z⟩⟩
  rintro σ H2 ⟨o4, xs, qs, rfl, S2⟩
  have lx := S2.n.length
  have ll := S2.l
  subst_eqs
  refine ⟨u, kd, rfl, S2.ur, fun ro q H3 nk q0 s3 u3 e3 => ?_⟩
  have eD := s3 _ _ S2.e S2.ne
  refine ⟨xs, eD, dg, ag5 (by omega), ?_⟩
  have S3 := S2.set (i := dg) fD s3 u3 e3 (nk.bd hk) rfl
  refine k D _ _ _ S3.sx S3.ur fD S3.e S3.n S3.l ?_ S3.o S3.z.par
  refine S8 fun x hx => ?_
  rw [S3.l, Nat.add_sub_cancel, List.getElem?_set_self (by omega)] at hx
  cases hx; exact q0
end
end R
set_option maxRecDepth 100000
local macro_rules | `(tactic| simp_wf) => `(tactic| first | rfl | decide | exact .inl rfl | (intro _; rfl))
namespace R
open PySem L2 PyProof.Rows
section
variable {P : Program} {w : World} {K : PySem.W.Frag} {mg : Str → Option Value} {base : Heap}
def ap4 : Sp := fun vs H Q _ => ∃ (u : Addr) (kd : Int) (mo c : Nat), vs = [.ref u, .int kd, .int (mo : Int)] ∧ t6 H u ∧ KdC kd mo c ∧ ∀ t qa la ts xs M last H', t8 u H H' → t6 H' u → H' t = some (.tup [.ref qa, .ref la]) → TbX u H' qa ts M → LsX u H' la xs last → K7 c M last → Q (.ref t) H'
abbrev t9 : Stmt := top 75
theorem p9 : i3 ["_law_urn_here", "_law_kind_here", "_law_most", "_law_last", "_law_left", "_law_quotients", "_law_turn", "_law_degree"] ["_law_urn_here", "_law_kind_here", "_law_most"] (b9 t9) := by clean_wf
set_option maxHeartbeats 0 in
theorem Z6 {f f1 f2 : Addr} (d : Df K mg "_law_division_row" t9 ["_law_urn_here", "_law_kind_here", "_law_most"] f) (G__law_draw : Def P w K mg base CX0 1 "_law_draw" f1 ["_law_urn_here", "_law_many"] O0) (G__law_sparse : Def P w K mg base CX0 4 "_law_sparse" f2 ["_law_urn_here", "_law_kind_here", "_law_degree"] ap2) (n_range : mg "range" = none) (n_len : mg "len" = none) : Def P w K mg base CX0 5 "_law_division_row" f ["_law_urn_here", "_law_kind_here", "_law_most"] ap4 := by
  refine d.ok (N := ["_law_urn_here", "_law_kind_here", "_law_most", "_law_last", "_law_left", "_law_quotients", "_law_turn", "_law_degree"]) p9 (by rintro vs H Q E ⟨_, _, _, _, h, _⟩; rw [h]; rfl) (fun cdv A outer s H vs Q E hr h => ?_)
  obtain ⟨u, kd, mo, c, rfl, hu0, hk, k⟩ := h
  obtain ⟨c10, c40, m5, m14⟩ := hk.c1
  have hu := hr.units
  refine ⟨_, (@d3 _ _ _ _ _ (@i7 _ _ 3 _ _ _ _ p9.nd rfl (Or.inl rfl) (@d9 _ _ _ _ _ _ _ _ _ _ _ _ _ _ G__law_sparse hr (@b6 _ _ _ _ _ (pv 0) (@b6 _ _ _ _ _ (pv 1) (@b6 _ _ _ _ _ (@n5 _ _ _ _ _ _ _ y9 (@w8 _ _ _ _ (@b6 _ _ _ _ _ d4 (@b6 _ _ _ _ _ d4 (@b6 _ _ _ _ _ d4 (@b6 _ _ _ _ _ d4 (@b6 _ _ _ _ _ (@d9 _ _ _ _ _ _ _ _ _ _ _ _ _ _ G__law_draw hr (@b6 _ _ _ _ _ (pv 0) (@b6 _ _ _ _ _ (@e9 _ _ _ _ _ _ _ _ E1 (pv 2) d4) b7 (by simp_wf)) (by simp_wf)) i0 (by simp_wf) (by simp_wf) (by simp_wf) (by simp_wf) (by simp_wf)) b7 (by simp_wf)) (by simp_wf)) (by simp_wf)) (by simp_wf)) (by simp_wf))) (@d9 _ _ _ _ _ _ _ _ _ _ _ _ _ _ G__law_draw hr (@b6 _ _ _ _ _ (pv 0) (@b6 _ _ _ _ _ d4 b7 (by simp_wf)) (by simp_wf)) i0 (by simp_wf) (by simp_wf) (by simp_wf) (by simp_wf) (by simp_wf)) (fun _ _ => rfl)) b7 (by simp_wf)) (by simp_wf)) (by simp_wf)) i0 (by simp_wf) (by simp_wf) (by simp_wf) (by simp_wf) (by simp_wf)) (by simp_wf) (by simp_wf)) (@d3 _ _ _ _ _ (@i7 _ _ 4 _ _ _ _ p9.nd rfl (Or.inl rfl) (@e9 _ _ _ _ _ _ _ _ M9 (@e9 _ _ _ _ _ _ _ _ E1 (pv 2) d4) (@d8 _ _ _ _ _ _ _ _ _ i6 rfl n_len (by decide +kernel) (@b6 _ _ _ _ _ (pv 3) b7 (by simp_wf)) (by simp_wf) (by simp_wf) (by simp_wf) (by simp_wf))) (by simp_wf) (by simp_wf)) (@d3 _ _ _ _ _ (@i7 _ _ 5 _ _ _ _ p9.nd rfl (Or.inl rfl) (@w8 _ _ _ _ b7) (by simp_wf) (by simp_wf)) (@d3 _ _ _ _ _ (@J4 _ _ _ _ _ _ _ _ PassesOwn.never rfl (@ai4 _ _ _ _ _ _ rfl n_range (@b6 _ _ _ _ _ (@d9 _ _ _ _ _ _ _ _ _ _ _ _ _ _ G__law_draw hr (@b6 _ _ _ _ _ (pv 0) (@b6 _ _ _ _ _ (@e9 _ _ _ _ _ _ _ _ E1 (pv 2) d4) b7 (by simp_wf)) (by simp_wf)) i0 (by simp_wf) (by simp_wf) (by simp_wf) (by simp_wf) (by simp_wf)) b7 (by simp_wf)) (by simp_wf)) (e8 (i := 6) p9.nd rfl (Or.inl rfl)) (@d3 _ _ _ _ _ (@i7 _ _ 7 _ _ _ _ p9.nd rfl (Or.inl rfl) (@n5 _ _ _ _ _ _ _ y9 (@w8 _ _ _ _ (@b6 _ _ _ _ _ d4 (@b6 _ _ _ _ _ d4 (@b6 _ _ _ _ _ d4 (@b6 _ _ _ _ _ d4 (@b6 _ _ _ _ _ d4 (@b6 _ _ _ _ _ d4 (@b6 _ _ _ _ _ d4 (@b6 _ _ _ _ _ (@e9 _ _ _ _ _ _ _ _ E1 d4 (@e9 _ _ _ _ _ _ _ _ w5 d4 (@d9 _ _ _ _ _ _ _ _ _ _ _ _ _ _ G__law_draw hr (@b6 _ _ _ _ _ (pv 0) (@b6 _ _ _ _ _ d4 b7 (by simp_wf)) (by simp_wf)) i0 (by simp_wf) (by simp_wf) (by simp_wf) (by simp_wf) (by simp_wf)))) b7 (by simp_wf)) (by simp_wf)) (by simp_wf)) (by simp_wf)) (by simp_wf)) (by simp_wf)) (by simp_wf)) (by simp_wf))) (@d9 _ _ _ _ _ _ _ _ _ _ _ _ _ _ G__law_draw hr (@b6 _ _ _ _ _ (pv 0) (@b6 _ _ _ _ _ d4 b7 (by simp_wf)) (by simp_wf)) i0 (by simp_wf) (by simp_wf) (by simp_wf) (by simp_wf) (by simp_wf)) (fun _ _ => rfl)) (by simp_wf) (by simp_wf)) (@d6 _ _ _ (@z9 _ _ _ _ _ _ _ _ (@j6 _ _ _ _ _ _ _ _ bk3 (pv 7) (pv 4) (j8 _)) (@d3 _ _ _ _ _ (@V3 _ _ _ _ (@af6 _ _ _ _ _ _ _ _ _ _ _ _ PySem.F.plainAttrs_list PySem.F.slot_list_append PySem.F.type_list_append N3 (pv 5) (@b6 _ _ _ _ _ (@d9 _ _ _ _ _ _ _ _ _ _ _ _ _ _ G__law_sparse hr (@b6 _ _ _ _ _ (pv 0) (@b6 _ _ _ _ _ (pv 1) (@b6 _ _ _ _ _ (pv 7) b7 (by simp_wf)) (by simp_wf)) (by simp_wf)) i0 (by simp_wf) (by simp_wf) (by simp_wf) (by simp_wf) (by simp_wf)) b7 (by simp_wf)) (by simp_wf) (by simp_wf) (by simp_wf) (by simp_wf) (by simp_wf)) (by simp_wf)) (@d6 _ _ _ (@i7 _ _ 4 _ _ _ _ p9.nd rfl (Or.inl rfl) (@e9 _ _ _ _ _ _ _ _ M9 (pv 4) (pv 7)) (by simp_wf) (by simp_wf)))) m6))) (by simp_wf)) (@d6 _ _ _ (@g7 _ _ _ _ (@u0 _ _ _ _ _ (@b6 _ _ _ _ _ (pv 5) (@b6 _ _ _ _ _ (pv 3) b7 (by simp_wf)) (by simp_wf))))))))), ?_⟩
  rw [show start ["_law_urn_here", "_law_kind_here", "_law_most", "_law_last", "_law_left", "_law_quotients", "_law_turn", "_law_degree"] [.ref u, .int kd, .int (mo : Int)] = [some (.ref u), some (.int kd), some (.int (mo : Int)), none, none, none, none, none] from rfl]
  refine i9 (fun σ H1 => ∃ la xs last, σ = [some (.ref u), some (.int kd), some (.int (mo : Int)), some (.ref la), none, none, none, none] ∧ t8 u H H1 ∧ t6 H1 u ∧ LsX u H1 la xs last ∧ (v9 last last.length ∧ last ≠ [] ∧ (evZ last = true ∨ odZ last = true) ∧ ∀ x ∈ last, BdN c x) ∧ last.length ≤ mo + 1) (fun N hN => ?_) ?_
  · simp! [O0]
    refine ⟨hu0, by omega, by omega, fun r H1 r0 r15 s1 u1 => ⟨by decide, fun p hp => ⟨L9 u1 hp, by decide, by decide, fun r' H2 a0 a5 s2 u2 => ?_⟩⟩⟩
    have T := d5.new hp (.lst [.int 0, .int 0, .int 1, .int 2, .int r])
    have ep := s2 p _ b8 (N8 u1 hp)
    have ss := s1.trans ((d5.x T u).trans s2)
    obtain ⟨rn, rfl⟩ : ∃ rn : Nat, r = (rn : Int) := ⟨r.toNat, by omega⟩
    have fin : ∀ dg : Nat, dg ≤ mo → ap2 [.ref u, .int kd, .int (dg : Int)] H2 (fun x H1 => N [some (.ref u), some (.int kd), some (.int (mo : Int)), some x, none, none, none, none] H1) E0 := fun dg hdg => by
      refine ⟨u, kd, dg, mo, c, rfl, u2, hk, by omega, fun r xs qs H3 s3 u3 fr er nr lr tr or pr => ?_⟩
      refine hN _ _ ⟨r, xs, qs, rfl, ss.trans s3, u3, ⟨N8 u2 fr, er, nr⟩, ⟨tr, fun z => by rw [z] at lr; simp at lr, ?_, or⟩, by omega⟩
      split at pr
      · exact .inl pr
      · exact .inr pr
    have h5 : r' = 0 ∨ r' = 1 ∨ r' = 2 ∨ r' = 3 ∨ r' = 4 := by omega
    rcases h5 with rfl | rfl | rfl | rfl | rfl
    · exact ⟨_, SqL.of ep, _, rfl, fin 0 (by omega)⟩
    · exact ⟨_, SqL.of ep, _, rfl, fin 0 (by omega)⟩
    · exact ⟨_, SqL.of ep, _, rfl, fin 1 (by omega)⟩
    · exact ⟨_, SqL.of ep, _, rfl, fin 2 (by omega)⟩
    · exact ⟨_, SqL.of ep, _, rfl, fin rn (by omega)⟩
  rintro σ H1 ⟨la, xs, last, rfl, s1, u1, L1, RG, ll⟩
  refine i9 (fun σ H2 => ∃ lf : Nat, σ = [some (.ref u), some (.int kd), some (.int (mo : Int)), some (.ref la), some (.int lf), none, none, none] ∧ H2 = H1 ∧ lf + last.length = mo + 1) (fun N hN => ?_) ?_
  · subst_eqs
    have lx := L1.nums.length
    refine ⟨xs, .inl (SqL.of L1.at'), hN _ _ ⟨mo + 1 - last.length, ?_, rfl, by omega⟩⟩
    rw [lx, show (mo : Int) + 1 - (last.length : Int) = ((mo + 1 - last.length : Nat) : Int) by omega]
  rintro σ H2 ⟨lf, rfl, rfl, elf⟩
  refine i9 (fun σ H3 => ∃ qa, σ = [some (.ref u), some (.int kd), some (.int (mo : Int)), some (.ref la), some (.int lf), some (.ref qa), none, none] ∧ t8 u H H3 ∧ t6 H3 u ∧ LsX u H3 la xs last ∧ H2 qa = none ∧ TbX u H3 qa [] []) (fun N hN => ?_) ?_
  · subst_eqs
    refine ⟨by decide, fun p hp => hN _ _ ⟨p, rfl, s1.trans (d5.x (d5.new hp _) u), L9 u1 hp, L1.same (d5.new hp _), hp, N8 u1 hp, by simp, b8, .nil⟩⟩
  rintro σ H3 ⟨qa, rfl, s3, u3, L3, fq, T3⟩
  have nq : qa ≠ la := fun z => by rw [z, L1.at'] at fq; cases fq
  obtain ⟨I, hI⟩ : ∃ I : Nat → L2.St → Hp → Prop, ∀ i σ H4, I i σ H4 ↔ ∃ (o6 o7 : Option V) (lf : Nat) (ts : List Addr) (M : List (List Rat)), σ = [some (.ref u), some (.int kd), some (.int (mo : Int)), some (.ref la), some (.int lf), some (.ref qa), o6, o7] ∧ t8 u H H4 ∧ t6 H4 u ∧ LsX u H4 la xs last ∧ TbX u H4 qa ts M ∧ qa ∉ ts ∧ (∀ L ∈ M, v9 L L.length ∧ 2 ≤ L.length ∧ evZ L = true ∧ ∀ x ∈ L, BdN c x) ∧ lf + last.length + (M.map fun L => L.length - 1).sum = mo + 1 ∧ M.length + lf + last.length ≤ mo + 1 := ⟨_, fun _ _ _ => Iff.rfl⟩
  refine i9 (fun σ H4 => ∃ i, I i σ H4) (fun N hN => ?_) ?_
  · refine ⟨_, rfl, _, rfl, _, _, rfl, rfl, u, _, rfl, u3, by omega, by omega, fun r H4 r0 r15 s4 u4 => ?_⟩
    refine ⟨r, rfl, by omega, by omega, aj2 (fun i σ H5 => I i σ H5) ((hI _ _ _).mpr ⟨_, _, lf, [], [], rfl, s3.trans s4, u4, L3.samex s4 u3, T3.samex s4 u3, by simp, by simp, by simp; omega, by simp; omega⟩) ?_ (by intro σ H5 h5; exact hN _ _ ⟨_, h5⟩)⟩
    rintro i σ H5 hi h5
    obtain ⟨o6, o7, lf, ts, M, rfl, s5, u5, L5, T5, nt, hM, hs, hl⟩ := (hI _ _ _).mp h5
    refine i9 (fun σ H6 => ∃ dg : Nat, σ = [some (.ref u), some (.int kd), some (.int (mo : Int)), some (.ref la), some (.int lf), some (.ref qa), some (.int (0 + i)), some (.int dg)] ∧ t8 u H5 H6 ∧ t6 H6 u ∧ dg % 2 = 1 ∧ dg ≤ 14) (fun N hN => ?_) ?_
    · simp! [O0]
      refine ⟨u5, by decide, by decide, fun r H6 r0 r7 s6 u6 => ⟨ay1 (by omega), by decide, fun p hp => ⟨L9 u6 hp, by decide, by decide, fun r' H7 a0 a8 s7 u7 => ?_⟩⟩⟩
      have T := d5.new hp (.lst [.int 1, .int 1, .int 1, .int 3, .int 1, .int 1, .int 5, .int (1 + 2 * r)])
      have ep := s7 p _ b8 (N8 u6 hp)
      have ss := s6.trans ((d5.x T u).trans s7)
      obtain ⟨rn, rfl⟩ : ∃ rn : Nat, r = (rn : Int) := ⟨r.toNat, by omega⟩
      have h8 : r' = 0 ∨ r' = 1 ∨ r' = 2 ∨ r' = 3 ∨ r' = 4 ∨ r' = 5 ∨ r' = 6 ∨ r' = 7 := by omega
      rcases h8 with rfl | rfl | rfl | rfl | rfl | rfl | rfl | rfl
      · exact ⟨_, SqL.of ep, _, rfl, hN _ _ ⟨1, rfl, ss, u7, by decide, by decide⟩⟩
      · exact ⟨_, SqL.of ep, _, rfl, hN _ _ ⟨1, rfl, ss, u7, by decide, by decide⟩⟩
      · exact ⟨_, SqL.of ep, _, rfl, hN _ _ ⟨1, rfl, ss, u7, by decide, by decide⟩⟩
      · exact ⟨_, SqL.of ep, _, rfl, hN _ _ ⟨3, rfl, ss, u7, by decide, by decide⟩⟩
      · exact ⟨_, SqL.of ep, _, rfl, hN _ _ ⟨1, rfl, ss, u7, by decide, by decide⟩⟩
      · exact ⟨_, SqL.of ep, _, rfl, hN _ _ ⟨1, rfl, ss, u7, by decide, by decide⟩⟩
      · exact ⟨_, SqL.of ep, _, rfl, hN _ _ ⟨5, rfl, ss, u7, by decide, by decide⟩⟩
      · exact ⟨_, SqL.of ep, _, rfl, hN _ _ ⟨1 + 2 * rn, rfl, ss, u7, by omega, by omega⟩⟩
    rintro σ H6 ⟨dg, rfl, s6, u6, hdg, hd14⟩
    have T6 := T5.samex s6 u5
    have L6 := L5.samex s6 u5
    subst_eqs
    have fH : H qa = none := s1.free u1 fq
    have lts := T6.rws.length
    refine v7 (fun hle => ⟨.inl ⟨_, SqL.of T6.at'⟩, u, kd, dg, mo, c, rfl, u6, hk, by omega, fun r ys qs H7 s7 u7 fr er nr lr tr or pr => ?_⟩) (fun _ => (hI _ _ _).mpr ⟨_, _, lf, ts, M, rfl, s5.trans s6, u6, L6, T6, nt, hM, hs, hl⟩)
    have T7 := T6.samex s7 u6
    have L7 := L6.samex s7 u6
    have nr' : qa ≠ r := g6 T6.at' fr
    have tl7 : X4 H7 (upd H7 qa (.lst (ts.map V.ref ++ [.ref r]))) := X4.lst T7.at'
    rw [if_pos hdg] at pr
    refine ⟨_, T7.at', Nat.lt_of_le_of_lt (show _ ≤ 100 by rw [List.length_map]; omega) (by decide), (hI _ _ _).mpr ⟨some (.int (0 + i)), some (.int dg), lf - dg, ts ++ [r], M ++ [qs], ?_, ((s5.trans (s6.trans s7)).over fH _), u7.other T7.au, ⟨L7.au, by rw [i5 nq.symm]; exact L7.at', L7.nums.mono tl7⟩, ⟨T7.au, fun t ht => ?_, by rw [b8, List.map_append]; rfl, (T7.rws.over T7.at' nt).append (.cons (by rw [i5 nr'.symm]; exact er) (nr.mono tl7) .nil)⟩, fun z => ?_, fun L hL => ?_, ?_, ?_⟩⟩
    · rw [show (lf : Int) - (dg : Int) = ((lf - dg : Nat) : Int) by omega]
    · rcases List.mem_append.mp ht with z | z
      · exact T7.tu t z
      · rw [List.mem_singleton.mp z]; exact N8 u6 fr
    · rcases List.mem_append.mp z with y | y
      · exact nt y
      · exact nr' (List.mem_singleton.mp y)
    · rcases List.mem_append.mp hL with z | z
      · exact hM L z
      · rw [List.mem_singleton.mp z]
        exact ⟨tr, by omega, pr, or⟩
    · rw [List.map_append, List.sum_append, List.map_cons, List.map_nil, List.sum_cons, List.sum_nil, lr]
      omega
    · rw [List.length_append, List.length_singleton]
      omega
  rintro σ H4 ⟨i, h4⟩
  obtain ⟨o6, o7, lf, ts, M, rfl, s4, u4, L4, T4, nt, hM, hs, hl⟩ := (hI _ _ _).mp h4
  subst_eqs
  refine ⟨v8, fun p hp => ?_⟩
  have T := d5.new hp (.tup [.ref qa, .ref la])
  have lp := List.length_pos_iff.mpr RG.2.1
  refine k p qa la ts xs M last _ (s4.trans (d5.x T u)) (L9 u4 hp) b8 (T4.same T) (L4.same T) ⟨hM, RG.1, RG.2.1, RG.2.2.1, RG.2.2.2, ?_⟩
  rcases hk with ⟨_, rfl, rfl⟩ | ⟨_, rfl, rfl⟩
  · exact .inl ⟨rfl, by omega⟩
  · exact .inr ⟨rfl, by omega⟩
end
def ac4 (M : List (List Rat)) (last : List Rat) : D := .tup [N0 M, j7 last]
theorem bd1 (M : List (List Rat)) (last : List Rat) : eqD (ac4 M last) (ac4 M last) = true := by
  unfold ac4
  rw [eqD, G3, G3, G3, aj4, F8]; simp
theorem ba5 (M N : List (List Rat)) (a b : List Rat) : okD (ac4 M a) (ac4 N b) = true := by
  unfold ac4
  rw [okD, V8, V8, ai9, O5]; simp [V8]
theorem bh8 (M : List (List Rat)) (last : List Rat) : dpD (ac4 M last) ≤ 60 := by
  unfold ac4 N0
  rw [dpD, ab5, ab5, ab5, dpD]
  have h1 := ae0 M
  have h2 := R8 last
  omega
section
variable {P : Program} {w : World} {K : PySem.W.Frag} {mg : Str → Option Value} {base : Heap}
theorem bk9 {u qa D : Addr} {ts : List Addr} {M : List (List Rat)} {H1 : Hp} {Q : VK} (hu : t6 H1 u) (T : TbX u H1 qa ts M) (hD : H1 D = none) (hl : M.length ≤ 50)
    (k : ∀ ts2 H2, d5 H1 H2 → TbX u H2 D ts2 M → (∀ t ∈ ts2, H1 t = none) → Q (.ref D) H2) : al7 (Itl K qa) D [none] (upd H1 D (.lst [])) (j9 0) (tCB (aK2 K) (W0 (S9 0) ao9)) Q := by
  have lts := T.rws.length
  have Du : D ≠ u := N8 hu hD
  refine K6 (ts.map V.ref) (fun j σ H3 => ∃ o ts2, σ = [o] ∧ d5 H1 H3 ∧ H3 D = some (.lst (ts2.map V.ref)) ∧ Rws H3 ts2 (M.take j) ∧ ∀ t ∈ ts2, t ≠ u ∧ t ≠ D ∧ H1 t = none) ⟨_, [], rfl, d5.new hD _, b8, .nil, by simp⟩ (fun j σ H3 _ ⟨o, ts2, _, s3, _⟩ => SqL.of (s3 _ _ T.at')) ?_ ?_
  · rintro j x σ H3 hx ⟨o, ts2, rfl, s3, e3, R3, n3⟩
    have hj := (List.getElem?_eq_some_iff.mp hx).1
    obtain ⟨pr, hpr, rfl⟩ := ap8 hx
    obtain ⟨ys, Lr, hLr, er, nr⟩ := T.rws.get hpr
    subst_eqs
    refine ⟨ys, .inl (SqL.of (s3 _ _ er)), fun l hl' => ?_⟩
    have X := d5.new hl' (.lst ys)
    have eD := X _ _ e3
    have lD : l ≠ D := fun z => by rw [z, e3] at hl'; cases hl'
    have fl : H1 l = none := s3.free hl'
    have ln2 := R3.length
    rw [List.length_map] at hj
    rw [List.length_take] at ln2
    have R4 : Rws (upd (upd H3 l (.lst ys)) D (.lst (ts2.map V.ref ++ [.ref l]))) (ts2 ++ [l]) (M.take (j + 1)) := by
      have e5 : M.take (j + 1) = M.take j ++ [Lr] := by rw [List.take_succ, hLr]; rfl
      rw [e5]
      exact ((R3.same X).over eD fun z => (n3 D z).2.1 rfl).append (.cons (by rw [i5 lD]; exact b8) ((nr.mono (s3.trans X).tups).mono (X4.lst eD)) .nil)
    refine N5.mk (by rw [List.length_map]; exact hj) eD ?_ ⟨_, rfl, (s3.trans X).over hD _, ts2 ++ [l], by rw [b8, List.map_append]; rfl, R4, fun t ht => ?_⟩
    · rw [List.length_map]
      exact Nat.lt_of_le_of_lt (show _ ≤ 100 by omega) (by decide)
    · rcases List.mem_append.mp ht with z | z
      · exact n3 t z
      · rw [List.mem_singleton.mp z]; exact ⟨N8 hu fl, lD, fl⟩
  · rintro σ H3 ⟨o, ts2, rfl, s3, e3, R3, n3⟩
    rw [List.length_map, lts, List.take_length] at R3
    exact k ts2 H3 s3 ⟨Du, fun t ht => (n3 t ht).1, e3, R3⟩ (fun t ht => (n3 t ht).2.2)
def aN4 (K : PySem.W.Frag) : Sp := fun vs H Q _ => ∃ u, vs = [.ref u] ∧ t6 H u ∧ ∀ H', t8 u H H' → t6 H' u → Q (.bl true) H'
abbrev B8 : Stmt := top 78
theorem C0 : i3 ["_law_urn_here", "_law_kind_here", "_law_due", "_law_handed", "_law_handed_last", "_law_told", "_law_quotients", "_law_last"] ["_law_urn_here"] (b9 B8) := by clean_wf
set_option maxHeartbeats 0 in
theorem av5 {f f1 f2 f3 f4 f5 f6 f7 : Addr} (d : Df K mg "_law_right" B8 ["_law_urn_here"] f) (G__law_draw : Def P w K mg base CX0 1 "_law_draw" f1 ["_law_urn_here", "_law_many"] O0) (G__law_kind : Def P w K mg base CX0 2 "_law_kind" f2 ["_law_urn_here"] aK1) (G__law_division_row : Def P w K mg base CX0 5 "_law_division_row" f3 ["_law_urn_here", "_law_kind_here", "_law_most"] ap4) (G__law_folded : Def P w K mg base CX0 4 "_law_folded" f4 ["_law_quotients", "_law_last"] (aG0 K)) (G__law_said : Def P w K mg base CX0 7 "_law_said" f5 ["_law_quotients", "_law_last"] ae5) (G__law_is_poly : Def P w K mg base CX0 3 "_law_is_poly" f6 ["_law_thing"] (aF8 K)) (G_divisions : Def P w K mg base CX0 6 "divisions" f7 ["p"] (aW9 K)) (n_list : mg "list" = none) (n_len : mg "len" = none) : Def P w K mg base CX0 8 "_law_right" f ["_law_urn_here"] (aN4 K) := by
  refine d.ok (N := ["_law_urn_here", "_law_kind_here", "_law_due", "_law_handed", "_law_handed_last", "_law_told", "_law_quotients", "_law_last"]) C0 (by rintro vs H Q E ⟨_, h, _⟩; rw [h]; rfl) (fun cdv A outer s H vs Q E hr h => ?_)
  obtain ⟨u, rfl, hu0, k⟩ := h
  have hu := hr.units
  refine ⟨_, (@d3 _ _ _ _ _ (@i7 _ _ 1 _ _ _ _ C0.nd rfl (Or.inl rfl) (@d9 _ _ _ _ _ _ _ _ _ _ _ _ _ _ G__law_kind hr (@b6 _ _ _ _ _ (pv 0) b7 (by simp_wf)) i0 (by simp_wf) (by simp_wf) (by simp_wf) (by simp_wf) (by simp_wf)) (by simp_wf) (by simp_wf)) (@d3 _ _ _ _ _ (@F5 _ _ _ _ _ _ (@d9 _ _ _ _ _ _ _ _ _ _ _ _ _ _ G__law_division_row hr (@b6 _ _ _ _ _ (pv 0) (@b6 _ _ _ _ _ (pv 1) (@b6 _ _ _ _ _ (@n5 _ _ _ _ _ _ _ y9 (@w8 _ _ _ _ (@b6 _ _ _ _ _ d4 (@b6 _ _ _ _ _ d4 (@b6 _ _ _ _ _ d4 b7 (by simp_wf)) (by simp_wf)) (by simp_wf))) (pv 1) (fun _ _ => rfl)) b7 (by simp_wf)) (by simp_wf)) (by simp_wf)) i0 (by simp_wf) (by simp_wf) (by simp_wf) (by simp_wf) (by simp_wf)) (show PG _ _ (N6 K 2 (n8 (j9 6) (n8 (j9 7) N7))) from by (refine B9 (n := 2) ?_ ?_ ?_ ?_; rfl; (refine g8 ?_ ?_ ?_; (exact (e8 (i := 6) C0.nd rfl (Or.inl rfl))) ; (refine g8 ?_ ?_ ?_; (exact (e8 (i := 7) C0.nd rfl (Or.inl rfl))) ; (exact w4) ; rfl) ; rfl) ; rfl; rfl)) (by simp_wf) (by simp_wf) (by simp_wf)) (@d3 _ _ _ _ _ (@i7 _ _ 2 _ _ _ _ C0.nd rfl (Or.inl rfl) (@d9 _ _ _ _ _ _ _ _ _ _ _ _ _ _ G__law_folded hr (@b6 _ _ _ _ _ (pv 6) (@b6 _ _ _ _ _ (pv 7) b7 (by simp_wf)) (by simp_wf)) i0 (by simp_wf) (by simp_wf) (by simp_wf) (by simp_wf) (by simp_wf)) (by simp_wf) (by simp_wf)) (@d3 _ _ _ _ _ (@U1 _ _ _ _ _ _ _ _ _ 3 _ ["_law_one"] [none] _ _ _ C0.nd rfl (Or.inl rfl) rfl (V9.of (osc := b9 B8) (N := ["_law_urn_here", "_law_kind_here", "_law_due", "_law_handed", "_law_handed_last", "_law_told", "_law_quotients", "_law_last"]) (ks := []) rfl rfl rfl rfl C5 (by decide +kernel)) (@B2 _ _ _ _ (pv 6)) (fun C s₂ H₂ fp pins => (e8 (i := 0) (show List.Nodup (["_law_one"] : List Str) by decide +kernel) rfl (Or.inl rfl) (Or.inr rfl))) (fun C s₂ H₂ fp pins => (K2 (by exact C8 : V5 _ (.type "list") (aK2 K)) rfl n_list (by decide +kernel) (b6 (pv 0) b7))) (by simp_wf) (by simp_wf) (by simp_wf)) (@d3 _ _ _ _ _ (@i7 _ _ 4 _ _ _ _ C0.nd rfl (Or.inl rfl) (@K2 _ _ _ _ _ _ _ _ _ C8 rfl n_list (by decide +kernel) (@b6 _ _ _ _ _ (pv 7) b7 (by simp_wf)) (by simp_wf) (by simp_wf) (by simp_wf) (by simp_wf)) (by simp_wf) (by simp_wf)) (@d3 _ _ _ _ _ (@i7 _ _ 5 _ _ _ _ C0.nd rfl (Or.inl rfl) (@d9 _ _ _ _ _ _ _ _ _ _ _ _ _ _ G__law_said hr (@b6 _ _ _ _ _ (pv 3) (@b6 _ _ _ _ _ (pv 4) b7 (by simp_wf)) (by simp_wf)) i0 (by simp_wf) (by simp_wf) (by simp_wf) (by simp_wf) (by simp_wf)) (by simp_wf) (by simp_wf)) (@d3 _ _ _ _ _ (@z9 _ _ _ _ _ _ _ _ (@PW.pt _ _ _ (@T9 _ _ _ _ _ _ _ (@j6 _ _ _ _ _ _ _ _ (ad2 hu) (pv 3) (pv 6) (j8 _)) (@T9 _ _ _ _ _ _ _ (@j6 _ _ _ _ _ _ _ _ (ad2 hu) (pv 4) (pv 7) (j8 _)) (@T9 _ _ _ _ _ _ _ (@B3 _ _ _ _ (@J3 _ _ _ (@d9 _ _ _ _ _ _ _ _ _ _ _ _ _ _ G__law_is_poly hr (@b6 _ _ _ _ _ (pv 5) b7 (by simp_wf)) i0 (by simp_wf) (by simp_wf) (by simp_wf) (by simp_wf) (by simp_wf)) (by simp_wf))) (@V6 _ _ _ _ (@j6 _ _ _ _ _ _ _ _ (ad2 hu) (pv 5) (pv 2) (j8 _))))))) (@d6 _ _ _ (@g7 _ _ _ _ U3)) m6) (@d3 _ _ _ _ _ (@z9 _ _ _ _ _ _ _ _ (@j6 _ _ _ _ _ _ _ _ (ad2 hu) (@d9 _ _ _ _ _ _ _ _ _ _ _ _ _ _ G_divisions hr (@b6 _ _ _ _ _ (@K2 _ _ _ _ _ _ _ _ _ C8 rfl n_list (by decide +kernel) (@b6 _ _ _ _ _ (pv 2) b7 (by simp_wf)) (by simp_wf) (by simp_wf) (by simp_wf) (by simp_wf)) b7 (by simp_wf)) i0 (by simp_wf) (by simp_wf) (by simp_wf) (by simp_wf) (by simp_wf)) (@u0 _ _ _ _ _ (@b6 _ _ _ _ _ (pv 6) (@b6 _ _ _ _ _ (pv 7) b7 (by simp_wf)) (by simp_wf))) (j8 _)) (@d6 _ _ _ (@g7 _ _ _ _ U3)) m6) (@d3 _ _ _ _ _ (@V3 _ _ _ _ (@af6 _ _ _ _ _ _ _ _ _ _ _ _ PySem.F.plainAttrs_list PySem.F.slot_list_append PySem.F.type_list_append N3 (pv 5) (@b6 _ _ _ _ _ (@u0 _ _ _ _ _ (@b6 _ _ _ _ _ d4 (@b6 _ _ _ _ _ d4 b7 (by simp_wf)) (by simp_wf))) b7 (by simp_wf)) (by simp_wf) (by simp_wf) (by simp_wf) (by simp_wf) (by simp_wf)) (by simp_wf)) (@d3 _ _ _ _ _ (@z9 _ _ _ _ _ _ _ _ (@j6 _ _ _ _ _ _ _ _ (ad2 hu) (pv 3) (@w8 _ _ _ _ b7) (j8 _)) (@d6 _ _ _ (@V3 _ _ _ _ (@af6 _ _ _ _ _ _ _ _ _ _ _ _ PySem.F.plainAttrs_list PySem.F.slot_list_append PySem.F.type_list_append N3 (@n5 _ _ _ _ _ _ _ y9 (pv 3) (@d9 _ _ _ _ _ _ _ _ _ _ _ _ _ _ G__law_draw hr (@b6 _ _ _ _ _ (pv 0) (@b6 _ _ _ _ _ (@d8 _ _ _ _ _ _ _ _ _ i6 rfl n_len (by decide +kernel) (@b6 _ _ _ _ _ (pv 3) b7 (by simp_wf)) (by simp_wf) (by simp_wf) (by simp_wf) (by simp_wf)) b7 (by simp_wf)) (by simp_wf)) i0 (by simp_wf) (by simp_wf) (by simp_wf) (by simp_wf) (by simp_wf)) (fun _ _ => rfl)) (@b6 _ _ _ _ _ (@u0 _ _ _ _ _ (@b6 _ _ _ _ _ d4 (@b6 _ _ _ _ _ d4 b7 (by simp_wf)) (by simp_wf))) b7 (by simp_wf)) (by simp_wf) (by simp_wf) (by simp_wf) (by simp_wf) (by simp_wf)) (by simp_wf))) m6) (@d3 _ _ _ _ _ (@V3 _ _ _ _ (@ad1 _ _ _ _ _ _ _ _ _ PySem.F.plainAttrs_list PySem.F.slot_list_clear PySem.F.type_list_clear bb4 (pv 4) (by simp_wf) (by simp_wf)) (by simp_wf)) (@d6 _ _ _ (@g7 _ _ _ _ (@R7 _ _ _ _ _ _ _ _ (ad3 hu) (@d9 _ _ _ _ _ _ _ _ _ _ _ _ _ _ G__law_said hr (@b6 _ _ _ _ _ (@M0 _ _ _ _ _ _ _ ["_law_one"] [none] _ _ _ rfl (V9.of (osc := b9 B8) (N := ["_law_urn_here", "_law_kind_here", "_law_due", "_law_handed", "_law_handed_last", "_law_told", "_law_quotients", "_law_last"]) (ks := []) rfl rfl rfl rfl C5 (by decide +kernel)) (@B2 _ _ _ _ (pv 6)) (fun C s₂ H₂ fp pins => (e8 (i := 0) (show List.Nodup (["_law_one"] : List Str) by decide +kernel) rfl (Or.inl rfl) (Or.inr rfl))) (fun C s₂ H₂ fp pins => (K2 (by exact C8 : V5 _ (.type "list") (aK2 K)) rfl n_list (by decide +kernel) (b6 (pv 0) b7))) (by simp_wf)) (@b6 _ _ _ _ _ (@K2 _ _ _ _ _ _ _ _ _ C8 rfl n_list (by decide +kernel) (@b6 _ _ _ _ _ (pv 7) b7 (by simp_wf)) (by simp_wf) (by simp_wf) (by simp_wf) (by simp_wf)) b7 (by simp_wf)) (by simp_wf)) i0 (by simp_wf) (by simp_wf) (by simp_wf) (by simp_wf) (by simp_wf)) (pv 2) (j8 _))))))))))))))), ?_⟩
  rw [show start ["_law_urn_here", "_law_kind_here", "_law_due", "_law_handed", "_law_handed_last", "_law_told", "_law_quotients", "_law_last"] [.ref u] = [some (.ref u), none, none, none, none, none, none, none] from rfl]
  refine i9 (fun σ H1 => ∃ kd : Int, σ = [some (.ref u), some (.int kd), none, none, none, none, none, none] ∧ t8 u H H1 ∧ t6 H1 u ∧ (kd = 0 ∨ kd = 1 ∨ kd = 2)) (fun N hN => ?_) ?_
  · simp! [aK1]
    exact ⟨hu0, fun wy H1 h0 s1 u1 => hN _ _ ⟨wy, rfl, s1, u1, h0⟩⟩
  rintro σ H1 ⟨kd, rfl, s1, u1, hk⟩
  refine i9 (fun σ H2 => ∃ qa la ts xs M last c, σ = [some (.ref u), some (.int kd), none, none, none, none, some (.ref qa), some (.ref la)] ∧ t8 u H H2 ∧ t6 H2 u ∧ TbX u H2 qa ts M ∧ LsX u H2 la xs last ∧ K7 c M last) (fun N hN => ?_) ?_
  · subst_eqs
    refine ⟨by decide, fun p hp => ?_⟩
    have X := d5.new hp (.lst [.int 14, .int 14, .int 5])
    have fin : ∀ (mo c : Nat), KdC kd mo c → ap4 [.ref u, .int kd, .int (mo : Int)] (upd H1 p (.lst [.int 14, .int 14, .int 5])) (fun x H' => ∃ a, x = V.ref a ∧ ∃ x, SqT K H' a x ∧ x.length = 2 ∧ ∃ v r, x = v :: r ∧ ∃ v_1 r_1, r = v_1 :: r_1 ∧ r_1 = [] ∧ N [some (.ref u), some (.int kd), none, none, none, none, some v, some v_1] H') E0 := fun mo c hkd => by
      refine ⟨u, kd, mo, c, rfl, L9 u1 hp, hkd, fun t qa la ts xs M last H2 s2 u2 et T L R => ?_⟩
      exact ⟨t, rfl, _, SqT.of et, rfl, _, _, rfl, _, _, rfl, rfl, hN _ _ ⟨qa, la, ts, xs, M, last, c, rfl, s1.trans ((d5.x X u).trans s2), u2, T, L, R⟩⟩
    rcases hk with rfl | rfl | rfl
    · exact ⟨_, SqL.of b8, _, rfl, fin 14 10 (.inl ⟨.inl rfl, rfl, rfl⟩)⟩
    · exact ⟨_, SqL.of b8, _, rfl, fin 14 10 (.inl ⟨.inr rfl, rfl, rfl⟩)⟩
    · exact ⟨_, SqL.of b8, _, rfl, fin 5 40 (.inr ⟨rfl, rfl, rfl⟩)⟩
  rintro σ H2 ⟨qa, la, ts, xs, M, last, c, rfl, s2, u2, T2, L2', R⟩
  have lM := R.len
  have lps := fun ps (tp : v9 ps ps.length) ep => aa1 R (ps := ps) tp ep
  have edn : dn M last M.length + 1 ≤ 15 := by
    have := R.sum (n := M.length) (Nat.le_refl _)
    have := List.length_pos_iff.mpr R.n
    unfold dn; omega
  refine i9 (fun σ H3 => ∃ du zs ps, σ = [some (.ref u), some (.int kd), some (.ref du), none, none, none, some (.ref qa), some (.ref la)] ∧ d5 H2 H3 ∧ LsX u H3 du zs ps ∧ v9 ps ps.length ∧ qp ps = (fld M last M.length).1 + (fld M last M.length).2) (fun N hN => ?_) ?_
  · subst_eqs
    refine ⟨qa, la, ts, xs, c, M, last, rfl, SqL.of T2.at', T2.rws, SqL.of L2'.at', L2'.nums, R, fun r zs ps H3 s3 fr er nr tp ep => ?_⟩
    exact hN _ _ ⟨r, zs, ps, rfl, s3, ⟨N8 u2 fr, er, nr⟩, tp, ep⟩
  rintro σ H3 ⟨du, zs, ps, rfl, s3, D3, tp, ep⟩
  have u3 := d5.urn s3 u2
  have T3 := T2.same s3
  have L3 := L2'.same s3
  have lzs := D3.nums.length
  have lp := lps ps tp ep
  have bps : ∀ p ∈ ps, p.den < 2 ^ 6000 := fun p hp => by
    obtain ⟨B, B0, hB, o1, o2⟩ := ag8 R M.length (Nat.le_refl _)
    have ub := R.ub (n := M.length) (Nat.le_refl _)
    have := aK8 B0 (Nat.lt_of_lt_of_le hB (d7 (Nat.le_succ _))) (V7 (by rw [ep]; exact OvP.add B0 o1 o2) p hp)
    exact Nat.lt_of_lt_of_le this.d (d7 (by omega))
  have row : ∀ {Hx : Hp} {a b : Addr} {ts' : List Addr} {ys : List V}, TbX u Hx a ts' M → LsX u Hx b ys last → t6 Hx u → ∀ {Q' : VK}, (∀ r zs' H', d5 Hx H' → Hx r = none → LsX u H' r zs' ps → Q' (.ref r) H') → ae5 [.ref a, .ref b] Hx Q' E0 := fun {Hx a b ts' ys} T L ux {Q'} kk => by
    refine ⟨a, b, ts', ys, c, M, last, rfl, T.at', T.rws, L.at', L.nums, R, fun r zs' ps' H' s' fr er nr tp' ep' => ?_⟩
    have := aK4 tp' tp (by rw [ep', ep])
    subst this
    exact kk r zs' H' s' fr ⟨N8 ux fr, er, nr⟩
  refine i9 (fun σ H4 => ∃ ha ts2, σ = [some (.ref u), some (.int kd), some (.ref du), some (.ref ha), none, none, some (.ref qa), some (.ref la)] ∧ d5 H3 H4 ∧ TbX u H4 ha ts2 M ∧ H3 ha = none ∧ ∀ t ∈ ts2, H3 t = none) (fun N hN => ?_) ?_
  · subst_eqs
    exact ⟨⟨_, SqL.of T3.at'⟩, fun D hD => bk9 u3 T3 hD (by omega) fun ts2 H4 s4 T4 f4 => hN _ _ ⟨D, ts2, rfl, s4, T4, hD, f4⟩⟩
  rintro σ H4 ⟨ha, ts2, rfl, s4, Th4, fh, ft2⟩
  refine i9 (fun σ H5 => ∃ hl, σ = [some (.ref u), some (.int kd), some (.ref du), some (.ref ha), some (.ref hl), none, some (.ref qa), some (.ref la)] ∧ d5 H4 H5 ∧ LsX u H5 hl xs last ∧ H4 hl = none) (fun N hN => ?_) ?_
  · subst_eqs
    have L4 := L3.same s4
    refine ⟨xs, .inl (SqL.of L4.at'), fun l hl' => ?_⟩
    have X := d5.new hl' (.lst xs)
    exact hN _ _ ⟨l, rfl, X, ⟨N8 (d5.urn s4 u3) hl', b8, L4.nums.mono X.tups⟩, hl'⟩
  rintro σ H5 ⟨hl, rfl, s5, Lh5, fhl⟩
  refine i9 (fun σ H6 => ∃ td zs', σ = [some (.ref u), some (.int kd), some (.ref du), some (.ref ha), some (.ref hl), some (.ref td), some (.ref qa), some (.ref la)] ∧ d5 H5 H6 ∧ H5 td = none ∧ LsX u H6 td zs' ps) (fun N hN => ?_) ?_
  · subst_eqs
    exact row (Th4.same s5) Lh5 (d5.urn (s4.trans s5) u3) fun r zs' H' s' fr Lr => hN _ _ ⟨r, zs', rfl, s', fr, Lr⟩
  rintro σ H6 ⟨td, zs', rfl, s6, ftd, Lt6⟩
  have s36 := s4.trans (s5.trans s6)
  obtain ⟨σ0, hσ⟩ : ∃ σ0 : L2.St, σ0 = [some (.ref u), some (.int kd), some (.ref du), some (.ref ha), some (.ref hl), some (.ref td), some (.ref qa), some (.ref la)] := ⟨_, rfl⟩
  refine i9 (fun σ H7 => σ = σ0 ∧ d5 H6 H7) (fun N hN => ?_) ?_
  · subst_eqs
    refine ⟨N0 M, N0 M, rfl, (Th4.same (s5.trans s6)).isD, (T3.same s36).isD, ai9 _ _, aJ0 _, ?_⟩
    rw [aj4]
    simp only [decide_true, Bool.not_true]
    refine ⟨false, rfl, v7 (fun z => absurd z (by decide)) (fun _ => ?_)⟩
    refine ⟨j7 last, j7 last, rfl, (Lh5.same s6).isD, (L3.same s36).isD, O5 _ _, by have := R8 last; omega, ?_⟩
    rw [F8]
    simp only [decide_true, Bool.not_true]
    refine ⟨false, rfl, v7 (fun z => absurd z (by decide)) (fun _ => ?_)⟩
    have lz' := Lt6.nums.length
    refine ⟨td, zs', ps, rfl, Lt6.at', Lt6.nums, bps, by omega, tp, fun H7 s7 => ⟨true, rfl, v7 (fun z => absurd z (by decide)) (fun _ => ?_)⟩⟩
    refine ⟨j7 ps, j7 ps, rfl, (Lt6.same s7).isD, (D3.same (s36.trans s7)).isD, O5 _ _, by have := R8 ps; omega, ?_⟩
    rw [F8]
    simp only [decide_true, Bool.not_true]
    exact ⟨false, rfl, v7 (fun z => absurd z (by decide)) (fun _ => hN _ _ ⟨hσ.symm, s7⟩)⟩
  rintro σ H7 ⟨eσ, s7⟩
  rw [eσ]
  clear eσ σ
  refine i9 (fun σ H8 => σ = σ0 ∧ d5 H6 H8) (fun N hN => ?_) ?_
  · rw [hσ]
    subst_eqs
    have D7 := D3.same (s36.trans s7)
    refine ⟨zs, .inl (SqL.of D7.at'), fun l hl' => ?_⟩
    have X := d5.new hl' (.lst zs)
    refine ⟨l, zs, ps, c, M, last, rfl, SqL.of b8, D7.nums.mono X.tups, R, tp, ep, fun r qa' la' ts' ys' H8 s8 er eq' Rq el' nl' => ⟨v8, fun p hp => ?_⟩⟩
    have Y := d5.new hp (.tup [.ref qa, .ref la])
    have ss := s36.trans (s7.trans (X.trans (s8.trans Y)))
    refine ⟨ac4 M last, ac4 M last, rfl, .tup (SqT.of (Y _ _ er)) (.cons (.lst (SqL.of (Y _ _ eq')) (Rq.same Y).isDs) (.cons (K1 (SqL.of (Y _ _ el')) (nl'.mono Y.tups)) .nil)), .tup (SqT.of b8) (.cons (T3.same ss).isD (.cons (L3.same ss).isD .nil)), ba5 _ _ _ _, bh8 _ _, ?_⟩
    rw [bd1]
    exact ⟨false, rfl, v7 (fun z => absurd z (by decide)) (fun _ => hN _ _ ⟨hσ.symm, s7.trans (X.trans (s8.trans Y))⟩)⟩
  rintro σ H8 ⟨eσ, s8⟩
  rw [eσ]
  clear eσ σ
  have ftd3 : H3 td = none := (s4.trans s5).free ftd
  refine i9 (fun σ H9 => σ = σ0 ∧ d5 H3 H9 ∧ d5 H5 H9) (fun N hN => ?_) ?_
  · rw [hσ]
    subst_eqs
    have Lt8 := Lt6.same s8
    refine ⟨.inl ⟨_, SqL.of Lt8.at'⟩, v8, fun p hp => ?_⟩
    have X := d5.new hp (.tup [.int 1, .int 1])
    have lz' := Lt6.nums.length
    exact ⟨zs', X _ _ Lt8.at', Nat.lt_of_le_of_lt (show _ ≤ 100 by omega) (by decide), hN _ _ ⟨hσ.symm, (s36.trans (s8.trans X)).over ftd3 _, (s6.trans (s8.trans X)).over ftd _⟩⟩
  rintro σ H9 ⟨eσ, s9, s59⟩
  rw [eσ]
  clear eσ σ
  have u9 := d5.urn s9 u3
  have Th9 := (Th4.same s5).same s59
  have Lh9 := Lh5.same s59
  refine i9 (fun σ H10 => σ = σ0 ∧ t8 u H3 H10 ∧ t6 H10 u ∧ H10 hl = some (.lst xs)) (fun N hN => ?_) ?_
  · rw [hσ]
    simp! [O0]
    refine ⟨by decide, fun p hp => ?_⟩
    have X := d5.new hp (.lst [])
    have Th10 := Th9.same X
    refine ⟨N0 M, N0 [], rfl, Th10.isD, .lst (SqL.of b8) .nil, ai9 _ _, aJ0 _, ?_⟩
    rw [aj4]
    refine ⟨_, rfl, v7 (fun hM => ?_) (fun _ => hN _ _ ⟨hσ.symm, d5.x (s9.trans X) u, L9 u9 hp, X _ _ Lh9.at'⟩)⟩
    have Mn : M ≠ [] := by simpa using hM
    have Mp := List.length_pos_iff.mpr Mn
    have l2 := Th10.rws.length
    refine ⟨_, .inl (SqL.of Th10.at'), L9 u9 hp, by rw [List.length_map]; omega, by rw [List.length_map]; exact Int.lt_of_le_of_lt (show _ ≤ (100 : Int) by omega) (by decide), fun r H11 r0 r1 s11 u11 => ?_⟩
    rw [List.length_map] at r1
    obtain ⟨rn, rfl⟩ : ∃ rn : Nat, r = (rn : Int) := ⟨r.toNat, by omega⟩
    have Th11 := Th10.samex s11 (L9 u9 hp)
    have hg : ts2[rn]? = some (ts2[rn]'(by omega)) := List.getElem?_eq_getElem (by omega)
    generalize ts2[rn]'(by omega) = pr at hg
    obtain ⟨ys, Lr, hLr, er, nr⟩ := Th11.rws.get hg
    have er4 : ∃ o, H4 pr = some o := by
      obtain ⟨ys', _, _, er', _⟩ := Th4.rws.get hg
      exact ⟨_, er'⟩
    have fr3 := ft2 pr (List.mem_of_getElem? hg)
    have ne : hl ≠ pr := fun z => by
      obtain ⟨o, h⟩ := er4
      rw [← z, fhl] at h; cases h
    have lLr := R.l15 (List.mem_of_getElem? hLr)
    have ly := nr.length
    refine ⟨_, SqL.of Th11.at', .ref pr, P9 (by rw [List.getElem?_map, hg]; rfl), .inl ⟨_, SqL.of er⟩, v8, fun p2 hp2 => ⟨pr, rfl, ys, ?_, Nat.lt_of_le_of_lt (show _ ≤ 100 by omega) (by decide), hN _ _ ⟨hσ.symm, ?_, ?_, ?_⟩⟩⟩
    · exact d5.new hp2 _ _ _ er
    · exact ((d5.x (s9.trans X) u).trans (s11.trans (d5.x (d5.new hp2 _) u))).over fr3 _
    · exact (L9 u11 hp2).other (Th11.tu pr (List.mem_of_getElem? hg))
    · rw [i5 ne]
      exact d5.new hp2 _ _ _ (s11 _ _ (X _ _ Lh9.at') Lh5.au)
  rintro σ H10 ⟨eσ, s10, u10, ehl⟩
  rw [eσ]
  clear eσ σ
  have fhl3 : H3 hl = none := s4.free fhl
  refine i9 (fun σ H11 => σ = σ0 ∧ t8 u H3 H11 ∧ t6 H11 u) (fun N hN => ?_) ?_
  · rw [hσ]
    simp! [aY4]
    exact ⟨.inl ⟨_, SqL.of ehl⟩, _, ehl, hN _ _ ⟨hσ.symm, s10.over fhl3 _, u10.other Lh5.au⟩⟩
  rintro σ H11 ⟨eσ, s11, u11⟩
  rw [eσ]
  clear eσ σ
  rw [hσ]
  subst_eqs
  have T11 := T3.samex s11 u3
  have L11 := L3.samex s11 u3
  have D11 := D3.samex s11 u3
  refine ⟨⟨_, SqL.of T11.at'⟩, fun D hD => bk9 u11 T11 hD (by omega) fun ts3 H12 s12 T12 _ => ?_⟩
  have L12 := L11.same s12
  refine ⟨xs, .inl (SqL.of L12.at'), fun l hl' => ?_⟩
  have X := d5.new hl' (.lst xs)
  have u12 := d5.urn s12 u11
  refine row (T12.same X) ⟨N8 u12 hl', b8, L12.nums.mono X.tups⟩ (d5.urn X u12) fun r zs2 H13 s13 fr Lr => ?_
  have ss := s12.trans (X.trans s13)
  refine ⟨j7 ps, j7 ps, rfl, Lr.isD, (D11.same ss).isD, O5 _ _, by have := R8 ps; omega, ?_⟩
  rw [F8]
  simp only [decide_true]
  exact k _ (s2.trans ((d5.x s3 u).trans (s11.trans (d5.x ss u)))) (d5.urn ss u11)
end
section
variable {P : Program} {w : World} {K : PySem.W.Frag} {mg : Str → Option Value} {base : Heap}
abbrev ac0 : Stmt := top 79
theorem aX2 : i3 ["_law_script", "_law_at"] ["_law_script"] (b9 ac0) := by clean_wf
set_option maxHeartbeats 0 in
theorem bm8 {f g1 g2 : Addr} {fd : FuncData} (F : Fun K "law" "law" ac0 f fd) (G__law_urn : Def P w K mg base CX0 1 "_law_urn" g1 ["_law_script", "_law_at"] (bj8 K)) (G__law_right : Def P w K mg base CX0 8 "_law_right" g2 ["_law_urn_here"] (aN4 K))
    (n_range : mg "range" = none) (n_max : mg "max" = none) (n_min : mg "min" = none) (n_len : mg "len" = none) : aa6 P w K mg base CX0 (8 + 1) f fd ["_law_script"] (aN6 K) := by
  refine F.ok (N := ["_law_script", "_law_at"]) aX2 (fun vs H Q E ⟨x, y, h, _⟩ => by rw [h]; rfl) (fun cdv A outer s H vs Q E hr h => ?_)
  obtain ⟨as, ns, rfl, hS, h63, k⟩ := h
  refine ⟨_, (d3 (J4 PassesOwn.never rfl (ai4 rfl n_range (b6 (d8 (aj5 rfl) rfl n_max (by decide +kernel) (b6 d4 (b6 (d8 (aT9 rfl) rfl n_min (by decide +kernel) (b6 d4 (b6 (d8 i6 rfl n_len (by decide +kernel) (b6 (pv 0) b7)) b7))) b7))) b7)) (e8 (i := 1) aX2.nd rfl (Or.inl rfl)) (d6 (z9 (B3 (J3 (d9 G__law_right hr (b6 (d9 G__law_urn hr (b6 (pv 0) (b6 (pv 1) b7)) i0) b7) i0))) (d6 (g7 U3)) m6)))
      (d6 (g7 U3))), ?_⟩
  rw [show start ["_law_script", "_law_at"] [.ref as] = [some (.ref as), none] from rfl]
  have hlen : (((ns.map V.int).length : Nat) : Int) = (ns.length : Int) := by rw [List.length_map]
  refine ⟨_, rfl, as, _, rfl, .inl hS, 3, _, rfl, 1, _, rfl, _, rfl, ?_, ?_, aj2 (fun i σ H1 => ∃ o1 : Option V, σ = [some (.ref as), o1] ∧ SqL K H1 as (ns.map V.int)) ⟨_, rfl, hS⟩ ?_ ?_⟩
  · rw [hlen]; split <;> split <;> omega
  · rw [hlen]; split <;> split <;> omega
  · rintro i σ H1 hi ⟨o1, rfl, hS1⟩
    rw [hlen] at hi
    have hi4 : i < 4 := by
      revert hi
      split <;> split <;> omega
    subst_eqs
    refine ⟨as, ns, _, rfl, hS1, by omega, by omega, fun u H2 s2 hu0 hu2 => ?_⟩
    refine ⟨u, rfl, hu2, fun H3 s3 hu3 => ?_⟩
    exact ⟨true, rfl, v7 (fun h => absurd h (by decide)) (fun _ => ((d5.x s2 u).trans s3).seq hu0 hS1)⟩
  · rintro σ H1 ⟨o1, rfl, hS1⟩
    exact k H1
end
end R
set_option maxRecDepth 100000
def PySem.W.Fast.tw12613477617084748458 : Unit := ()
def PySem.W.Fast.tw4640555060915135222 : Unit := ()
def PySem.W.Fast.tw4021094316826420139 : Unit := ()
def PySem.W.Fast.tw16835930858589944078 : Unit := ()
def PySem.W.Fast.tw14075564797543178361 : Unit := ()
def PySem.W.Fast.tw1321644196100006182 : Unit := ()
def PySem.W.Fast.tw9690145809273404971 : Unit := ()
def PySem.W.Fast.tw12924322051309924247 : Unit := ()
def PySem.W.Fast.tw445517221705170188 : Unit := ()
def PySem.W.Fast.tw4461523675091846574 : Unit := ()
def PySem.W.Fast.tw9458180731940422723 : Unit := ()
def PySem.W.Fast.tw5204828990967424270 : Unit := ()
def PySem.W.Fast.tw16131265349424480066 : Unit := ()
def PySem.W.Fast.tw6907677202690530316 : Unit := ()
def PySem.W.Fast.tw1260978422945976860 : Unit := ()
def PySem.W.Fast.tw9776203677006963865 : Unit := ()
def PySem.W.Fast.tw2385318028896651547 : Unit := ()
def PySem.W.Fast.tw10903763373716354585 : Unit := ()
def PySem.W.Fast.tw5447039248940886787 : Unit := ()
def PySem.W.Fast.tw4103107768877173297 : Unit := ()
def PySem.W.Fast.tw15870173461047971154 : Unit := ()
def PySem.W.Fast.tw3565657415174099153 : Unit := ()
def PySem.W.Fast.tw10332918346800976080 : Unit := ()
def PySem.W.Fast.tw6277591277292061185 : Unit := ()
def PySem.W.Fast.tw16255487925440007420 : Unit := ()
def PySem.W.Fast.tw10540421075732206285 : Unit := ()
def PySem.W.Fast.tw7260552740371136045 : Unit := ()
def PySem.W.Fast.tw10298585222427032480 : Unit := ()
def PySem.W.Fast.tw4685647442400876157 : Unit := ()
def PySem.W.Fast.tw14326881654492496590 : Unit := ()
def PySem.W.Fast.tw5032058008042451154 : Unit := ()
def PySem.W.Fast.tw11337430630859962392 : Unit := ()
def PySem.W.Fast.tw7152509766166182519 : Unit := ()
def PySem.W.Fast.tw8743398437300778559 : Unit := ()
def PySem.W.Fast.tw6553590378156322379 : Unit := ()
def PySem.W.Fast.tw4225830780674084566 : Unit := ()
def PySem.W.Fast.tw14635187745392581835 : Unit := ()
def PySem.W.Fast.tw11541310289262215731 : Unit := ()
def PySem.W.Fast.tw1914277123738488313 : Unit := ()
def PySem.W.Fast.tw12817343187373782463 : Unit := ()
def PySem.W.Fast.tw1581611602439691640 : Unit := ()
def PySem.W.Fast.tw14647164068699870059 : Unit := ()
def PySem.W.Fast.tw16510601868280916411 : Unit := ()
def PySem.W.Fast.tw13061076717049973684 : Unit := ()
def PySem.W.Fast.tw11247021143033630928 : Unit := ()
def PySem.W.Fast.tw1566780136229083641 : Unit := ()
def PySem.W.Fast.tw2001441999442999675 : Unit := ()
def PySem.W.Fast.tw10998191840796462391 : Unit := ()
def PySem.W.Fast.tw17801884990740982055 : Unit := ()
def PySem.W.Fast.tw224016009326205194 : Unit := ()
def PySem.W.Fast.tw17381860169249219995 : Unit := ()
def PySem.W.Fast.tw14809531447998214645 : Unit := ()
def PySem.W.Fast.tw9400668462138569056 : Unit := ()
def PySem.W.Fast.tw10511979581259740198 : Unit := ()
def PySem.W.Fast.tw16723634258871012136 : Unit := ()
def PySem.W.Fast.tw9291446639755002168 : Unit := ()
def PySem.W.Fast.tw9522896065439467692 : Unit := ()
def PySem.W.Fast.tw14906918964570864836 : Unit := ()
def PySem.W.Fast.tw15304323022878805836 : Unit := ()
def PySem.W.Fast.tw15655987356836368323 : Unit := ()
def PySem.W.Fast.tw7940211509159201039 : Unit := ()
def PySem.W.Fast.tw17783397847832394208 : Unit := ()
def PySem.W.Fast.tw11031879914608333987 : Unit := ()
def PySem.W.Fast.tw15552080315911446867 : Unit := ()
def PySem.W.Fast.tw10880951905699554789 : Unit := ()
def PySem.W.Fast.tw3985248963885241594 : Unit := ()
def PySem.W.Fast.tw9278949705777754178 : Unit := ()
def PySem.W.Fast.tw18023432845985083195 : Unit := ()
def PySem.W.Fast.tw888460652279160107 : Unit := ()
def PySem.W.Fast.tw6620031397800953361 : Unit := ()
def PySem.W.Fast.tw17492195153281227719 : Unit := ()
def PySem.W.Fast.tw13659112906708960683 : Unit := ()
def PySem.W.Fast.tw6202549044851140980 : Unit := ()
def PySem.W.Fast.tw8119729667589425928 : Unit := ()
def PySem.W.Fast.tw15571261726274794254 : Unit := ()
def PySem.W.Fast.tw13582217348226117654 : Unit := ()
def PySem.W.Fast.tw10119134343066747053 : Unit := ()
def PySem.W.Fast.tw140558248195095011 : Unit := ()
def PySem.W.Fast.tw5217740701494832153 : Unit := ()
def PySem.W.Fast.tw4973186369261296298 : Unit := ()
def PySem.W.Fast.tw17555193021071242517 : Unit := ()
def PySem.W.Fast.tw12957160617883529924 : Unit := ()
def PySem.W.Fast.tw14385836678599864962 : Unit := ()
def PySem.W.Fast.tw10682932499282942153 : Unit := ()
def PySem.W.Fast.tw7458730364807132093 : Unit := ()
def PySem.W.Fast.tw13121245390562617108 : Unit := ()
def PySem.W.Fast.tw3008678970674160423 : Unit := ()
def PySem.W.Fast.tw2229230365502718678 : Unit := ()
def PySem.W.Fast.tw5306022443865868244 : Unit := ()
def PySem.W.Fast.tw16574190771516733049 : Unit := ()
def PySem.W.Fast.tw16384407048614900529 : Unit := ()
def PySem.W.Fast.tw11921878966649442833 : Unit := ()
def PySem.W.Fast.tw11513718040571836110 : Unit := ()
def PySem.W.Fast.tw14031371625541318232 : Unit := ()
def PySem.W.Fast.tw5427032489657193419 : Unit := ()
def PySem.W.Fast.tw2040898376128453196 : Unit := ()
def PySem.W.Fast.tw7526169221459201822 : Unit := ()
def PySem.W.Fast.tw14973135987544502679 : Unit := ()
def PySem.W.Fast.tw1097307588109827878 : Unit := ()
def PySem.W.Fast.tw5690212266229587125 : Unit := ()
def PySem.W.Fast.tw4095546647229825990 : Unit := ()
def PySem.W.Fast.tw12337667930714687560 : Unit := ()
def PySem.W.Fast.tw15345586066005137046 : Unit := ()
def PySem.W.Fast.tw17856070163688792334 : Unit := ()
def PySem.W.Fast.tw12938956805181921166 : Unit := ()
def PySem.W.Fast.tw13151192684158395911 : Unit := ()
def PySem.W.Fast.tw2650042391000658932 : Unit := ()
def PySem.W.Fast.tw14410784359129600423 : Unit := ()
def PySem.W.Fast.tw4533879687313231406 : Unit := ()
def PySem.W.Fast.tw8356028384903602593 : Unit := ()
def PySem.W.Fast.tw16612930028905209602 : Unit := ()
def PySem.W.Fast.tw5097428609524742382 : Unit := ()
def PySem.W.Fast.tw8856078072377965380 : Unit := ()
def PySem.W.Fast.tw6114416270581054179 : Unit := ()
def PySem.W.Fast.tw17370857396312275226 : Unit := ()
def PySem.W.Fast.tw11857937473294500340 : Unit := ()
def PySem.W.Fast.tw2412826896339254216 : Unit := ()
def PySem.W.Fast.tw13537354861258477192 : Unit := ()
def PySem.W.Fast.tw3508265359939385422 : Unit := ()
def PySem.W.Fast.tw2164434318411879979 : Unit := ()
def PySem.W.Fast.tw237649331353510325 : Unit := ()
def PySem.W.Fast.tw7502540990839528030 : Unit := ()
def PySem.W.Fast.tw5945137958373692424 : Unit := ()
def PySem.W.Fast.tw3833612341968290203 : Unit := ()
def PySem.W.Fast.tw1639300060409882604 : Unit := ()
def PySem.W.Fast.tw3647775003355456083 : Unit := ()
def PySem.W.Fast.tw10918770190280281758 : Unit := ()
def PySem.W.Fast.tw2092467607045269383 : Unit := ()
def PySem.W.Fast.tw13468244820251058973 : Unit := ()
def PySem.W.Fast.tw4242894139735462667 : Unit := ()
def PySem.W.Fast.tw15164305162221686292 : Unit := ()
def PySem.W.Fast.tw1216877888161701359 : Unit := ()
def PySem.W.Fast.tw12873082767513606197 : Unit := ()
def PySem.W.Fast.tw6383560293534347370 : Unit := ()
def PySem.W.Fast.tw4766153129841920626 : Unit := ()
def PySem.W.Fast.tw2303025078755774327 : Unit := ()
def PySem.W.Fast.tw3000280060428863929 : Unit := ()
def PySem.W.Fast.tw15277814485198209658 : Unit := ()
def PySem.W.Fast.tw12502207946005560339 : Unit := ()
def PySem.W.Fast.tw12065078936843126400 : Unit := ()
def PySem.W.Fast.tw15242760798096477559 : Unit := ()
def PySem.W.Fast.tw10934951527374060365 : Unit := ()
def PySem.W.Fast.tw1063907171403603463 : Unit := ()
def PySem.W.Fast.tw15059895318838305010 : Unit := ()
def PySem.W.Fast.tw12412789444353022792 : Unit := ()
def PySem.W.Fast.tw915160087520719815 : Unit := ()
def PySem.W.Fast.tw4052316158806455373 : Unit := ()
def PySem.W.Fast.tw12641640439866537752 : Unit := ()
def PySem.W.Fast.tw14783789928210437804 : Unit := ()
def PySem.W.Fast.tw16557045101052620385 : Unit := ()
def PySem.W.Fast.tw4621180954510872168 : Unit := ()
def PySem.W.Fast.tw14142212705741741058 : Unit := ()
def PySem.W.Fast.tw10541602565724392519 : Unit := ()
def PySem.W.Fast.tw9510229552919711663 : Unit := ()
def PySem.W.Fast.tw12981724000832863640 : Unit := ()
def PySem.W.Fast.tw13420267043088208835 : Unit := ()
def PySem.W.Fast.tw2563639505533134894 : Unit := ()
def PySem.W.Fast.tw7080767167171021307 : Unit := ()
def PySem.W.Fast.tw11914546124139394168 : Unit := ()
def PySem.W.Fast.tw12631617061960640440 : Unit := ()
def PySem.W.Fast.tw17868905175571153525 : Unit := ()
def PySem.W.Fast.tw4722218324847010519 : Unit := ()
def PySem.W.Fast.tw17130106942406493265 : Unit := ()
def PySem.W.Fast.tw13757918537890587204 : Unit := ()
def PySem.W.Fast.tw4285121880417125780 : Unit := ()
def PySem.W.Fast.tw15211344064487735832 : Unit := ()
def PySem.W.Fast.tw2326030546793759294 : Unit := ()
def PySem.W.Fast.tw2400265733547063921 : Unit := ()
def PySem.W.Fast.tw13228095470558446061 : Unit := ()
def PySem.W.Fast.tw5332695061736833718 : Unit := ()
def PySem.W.Fast.tw2837066975030018853 : Unit := ()
def PySem.W.Fast.tw13020375858440207964 : Unit := ()
def PySem.W.Fast.tw17333217594127964007 : Unit := ()
def PySem.W.Fast.tw16481080857045185357 : Unit := ()
def PySem.W.Fast.tw16115359522508735720 : Unit := ()
def PySem.W.Fast.tw17934624862340661826 : Unit := ()
def PySem.W.Fast.tw13950993263443722634 : Unit := ()
def PySem.W.Fast.tw4400942781048337892 : Unit := ()
def PySem.W.Fast.tw16627797623910943222 : Unit := ()
def PySem.W.Fast.tw13005059790444232399 : Unit := ()
def PySem.W.Fast.tw15572615387817562573 : Unit := ()
def PySem.W.Fast.tw12143073423675151937 : Unit := ()
def PySem.W.Fast.tw6517027490051589407 : Unit := ()
def PySem.W.Fast.tw5500985317509468190 : Unit := ()
def PySem.W.Fast.tw2352428740817548609 : Unit := ()
def PySem.W.Fast.tw11202645481558334076 : Unit := ()
def PySem.W.Fast.tw12427319197266794799 : Unit := ()
def PySem.W.Fast.tw15256244976477672424 : Unit := ()
def PySem.W.Fast.tw7486252850322560097 : Unit := ()
def PySem.W.Fast.tw4731245795338680119 : Unit := ()
def PySem.W.Fast.tw18379145707857744246 : Unit := ()
def PySem.W.Fast.tw13812160579638625672 : Unit := ()
def PySem.W.Fast.tw13844310373615951185 : Unit := ()
def PySem.W.Fast.tw13616325265680577769 : Unit := ()
def PySem.W.Fast.tw7630666843190301807 : Unit := ()
def PySem.W.Fast.tw5944227554824854715 : Unit := ()
def PySem.W.Fast.tw5943441953509207054 : Unit := ()
def PySem.W.Fast.tw8280532300650281547 : Unit := ()
def PySem.W.Fast.tw17756303758899326152 : Unit := ()
def PySem.W.Fast.tw17037425218928388753 : Unit := ()
def PySem.W.Fast.tw11390668780120575401 : Unit := ()
def PySem.W.Fast.tw9162679547063999158 : Unit := ()
def PySem.W.Fast.tw11424941826668476184 : Unit := ()
def PySem.W.Fast.tw769424391139137918 : Unit := ()
def PySem.W.Fast.tw13633858083467374748 : Unit := ()
def PySem.W.Fast.tw955749375741888648 : Unit := ()
def PySem.W.Fast.tw3124608750561443647 : Unit := ()
def PySem.W.Fast.tw6262640785658206638 : Unit := ()
def PySem.W.Fast.tw17704763932961043469 : Unit := ()
def PySem.W.Fast.tw7043506576955482735 : Unit := ()
def PySem.W.Fast.tw2460191372774161778 : Unit := ()
def PySem.W.Fast.tw16184378915014761882 : Unit := ()
def PySem.W.Fast.tw9853310793098918346 : Unit := ()
def PySem.W.Fast.tw2418298824431443419 : Unit := ()
def PySem.W.Fast.tw8472668381786788362 : Unit := ()
def PySem.W.Fast.tw15818802064312316102 : Unit := ()
def PySem.W.Fast.tw3595828166003135755 : Unit := ()
def PySem.W.Fast.tw4640236957952655301 : Unit := ()
def PySem.W.Fast.tw16434776733480506360 : Unit := ()
def PySem.W.Fast.tw14518905171320869814 : Unit := ()
def PySem.W.Fast.tw17718852983550079883 : Unit := ()
def PySem.W.Fast.tw11669753318566050408 : Unit := ()
def PySem.W.Fast.tw3636875440728074047 : Unit := ()
def PySem.W.Fast.tw10223229845940762840 : Unit := ()
def PySem.W.Fast.tw8350324258682592550 : Unit := ()
def PySem.W.Fast.tw5691011530812427076 : Unit := ()
def PySem.W.Fast.tw17079435464753204284 : Unit := ()
def PySem.W.Fast.tw10842284703137965542 : Unit := ()
def PySem.W.Fast.tw17290455222675452278 : Unit := ()
def PySem.W.Fast.tw12859128272840999938 : Unit := ()
def PySem.W.Fast.tw2164332784680058042 : Unit := ()
def PySem.W.Fast.tw17221977477094023460 : Unit := ()
def PySem.W.Fast.tw908114330857693450 : Unit := ()
def PySem.W.Fast.tw10590607359759823951 : Unit := ()
def PySem.W.Fast.tw12254335674933728450 : Unit := ()
def PySem.W.Fast.tw15183992563860226901 : Unit := ()
def PySem.W.Fast.tw8443491836953821826 : Unit := ()
def PySem.W.Fast.tw13761976056520730136 : Unit := ()
def PySem.W.Fast.tw191068245576330704 : Unit := ()
def PySem.W.Fast.tw173460106476017357 : Unit := ()
def PySem.W.Fast.tw8833868460387246987 : Unit := ()
def PySem.W.Fast.tw2714937829693999564 : Unit := ()
def PySem.W.Fast.tw1094464325685462933 : Unit := ()
def PySem.W.Fast.tw16490203612991243052 : Unit := ()
def PySem.W.Fast.tw4023526840981629387 : Unit := ()
def PySem.W.Fast.tw7240139853957410130 : Unit := ()
def PySem.W.Fast.tw11233902752089977521 : Unit := ()
def PySem.W.Fast.tw4681482392341145202 : Unit := ()
def PySem.W.Fast.tw11792403916375877261 : Unit := ()
def PySem.W.Fast.tw6033842101057244243 : Unit := ()
def PySem.W.Fast.tw11267812398445101995 : Unit := ()
def PySem.W.Fast.tw4817365630424299542 : Unit := ()
def PySem.W.Fast.tw8079389644569928862 : Unit := ()
def PySem.W.Fast.tw3464656520659242522 : Unit := ()
def PySem.W.Fast.tw16654040755988284830 : Unit := ()
def PySem.W.Fast.tw7894229149993400255 : Unit := ()
def PySem.W.Fast.tw15482988019369946588 : Unit := ()
def PySem.W.Fast.tw7002341195696768992 : Unit := ()
def PySem.W.Fast.tw9551620854555150148 : Unit := ()
def PySem.W.Fast.tw11504370982354561620 : Unit := ()
def PySem.W.Fast.tw5369898291121882979 : Unit := ()
def PySem.W.Fast.tw14741258082734301241 : Unit := ()
def PySem.W.Fast.tw2705583704755659140 : Unit := ()
def PySem.W.Fast.tw10173435234720408846 : Unit := ()
def PySem.W.Fast.tw9650101785899659004 : Unit := ()
def PySem.W.Fast.tw2082938122187325915 : Unit := ()
def PySem.W.Fast.tw11062646092505210345 : Unit := ()
def PySem.W.Fast.tw5231730987225883283 : Unit := ()
def PySem.W.Fast.tw15714647648303514698 : Unit := ()
def PySem.W.Fast.tw4653788904920636710 : Unit := ()
def PySem.W.Fast.tw7288865571051951450 : Unit := ()
def PySem.W.Fast.tw2759655586353905265 : Unit := ()
def PySem.W.Fast.tw16090288684577023665 : Unit := ()
def PySem.W.Fast.tw6599235829667117945 : Unit := ()
def PySem.W.Fast.tw18273898815652199318 : Unit := ()
def PySem.W.Fast.tw17790452233252227171 : Unit := ()
def PySem.W.Fast.tw15505018440136507851 : Unit := ()
def PySem.W.Fast.tw446475503622212670 : Unit := ()
def PySem.W.Fast.tw5920576177188509616 : Unit := ()
def PySem.W.Fast.tw333385396282470259 : Unit := ()
def PySem.W.Fast.tw8972810763272810234 : Unit := ()
def PySem.W.Fast.tw9460403720820619886 : Unit := ()
def PySem.W.Fast.tw16292216925773852977 : Unit := ()
def PySem.W.Fast.tw17033142210188310046 : Unit := ()
def PySem.W.Fast.tw9456722653760555060 : Unit := ()
def PySem.W.Fast.tw13709503270359141335 : Unit := ()
def PySem.W.Fast.tw1744635650776850399 : Unit := ()
def PySem.W.Fast.tw6475829280598235348 : Unit := ()
def PySem.W.Fast.tw18442214027140253192 : Unit := ()
def PySem.W.Fast.tw12156794589463436802 : Unit := ()
def PySem.W.Fast.tw8105763404880038031 : Unit := ()
def PySem.W.Fast.tw17998218310368886765 : Unit := ()
def PySem.W.Fast.tw7777769984086623588 : Unit := ()
def PySem.W.Fast.tw15251108219225350910 : Unit := ()
def PySem.W.Fast.tw9987641793721582804 : Unit := ()
def PySem.W.Fast.tw3592179760757921549 : Unit := ()
def PySem.W.Fast.tw17045061647601292180 : Unit := ()
def PySem.W.Fast.tw15928977641777456187 : Unit := ()
def PySem.W.Fast.tw2760675570668145065 : Unit := ()
def PySem.W.Fast.tw9124641964431312229 : Unit := ()
def PySem.W.Fast.tw3270535973806820405 : Unit := ()
def PySem.W.Fast.tw12271703071523121266 : Unit := ()
def PySem.W.Fast.tw11062130833945082104 : Unit := ()
def PySem.W.Fast.tw6401776038834106259 : Unit := ()
def PySem.W.Fast.tw16030901597128012123 : Unit := ()
def PySem.W.Fast.tw1613802235071350693 : Unit := ()
def PySem.W.Fast.tw16587136176132647310 : Unit := ()
def PySem.W.Fast.tw2784121684249292418 : Unit := ()
def PySem.W.Fast.tw4322323911311802679 : Unit := ()
def PySem.W.Fast.tw5707449638094058101 : Unit := ()
def PySem.W.Fast.tw16256597400122251895 : Unit := ()
def PySem.W.Fast.tw12057027557803285299 : Unit := ()
def PySem.W.Fast.tw7912074693001316694 : Unit := ()
def PySem.W.Fast.tw11186956039663859829 : Unit := ()
def PySem.W.Fast.tw13637933658930131888 : Unit := ()
def PySem.W.Fast.tw17370338219885273067 : Unit := ()
def PySem.W.Fast.tw8374719981984557179 : Unit := ()
def PySem.W.Fast.tw14855582000840818974 : Unit := ()
def PySem.W.Fast.tw15776826537445522664 : Unit := ()
def PySem.W.Fast.tw16675895429214209759 : Unit := ()
def PySem.W.Fast.tw10247760467428389002 : Unit := ()
def PySem.W.Fast.tw7127769645592672499 : Unit := ()
def PySem.W.Fast.tw12228842556777195511 : Unit := ()
def PySem.W.Fast.tw17425380417649362599 : Unit := ()
def PySem.W.Fast.tw16748547316018355272 : Unit := ()
def PySem.W.Fast.tw13626305381626042614 : Unit := ()
def PySem.W.Fast.tw11397250108605916161 : Unit := ()
def PySem.W.Fast.tw12060165040576688840 : Unit := ()
def PySem.W.Fast.tw6793619756295915820 : Unit := ()
def PySem.W.Fast.tw9084843172633279652 : Unit := ()
def PySem.W.Fast.tw4711811321090318721 : Unit := ()
def PySem.W.Fast.tw15697182423341584734 : Unit := ()
def PySem.W.Fast.tw5594659641286401048 : Unit := ()
def PySem.W.Fast.tw2000371825418609833 : Unit := ()
def PySem.W.Fast.tw4463356809054427830 : Unit := ()
def PySem.W.Fast.tw7581327854235337321 : Unit := ()
def PySem.W.Fast.tw3553492435734045848 : Unit := ()
def PySem.W.Fast.tw3769555360295205117 : Unit := ()
def PySem.W.Fast.tw10419374634938979912 : Unit := ()
def PySem.W.Fast.tw13720843909626880150 : Unit := ()
def PySem.W.Fast.tw1799173666000252944 : Unit := ()
def PySem.W.Fast.tw714761926463640736 : Unit := ()
def PySem.W.Fast.tw13248849097818556397 : Unit := ()
def PySem.W.Fast.tw3642833473786444737 : Unit := ()
def PySem.W.Fast.tw15137737654518426590 : Unit := ()
def PySem.W.Fast.tw9622129194851462065 : Unit := ()
def PySem.W.Fast.tw3260094609739983683 : Unit := ()
def PySem.W.Fast.tw2776661397539026457 : Unit := ()
def PySem.W.Fast.tw9265129450829354909 : Unit := ()
def PySem.W.Fast.tw15418362172951402629 : Unit := ()
def PySem.W.Fast.tw7753236224213397078 : Unit := ()
def PySem.W.Fast.tw7629050843009267504 : Unit := ()
def PySem.W.Fast.tw6031930818307776863 : Unit := ()
def PySem.W.Fast.tw6869570029276308785 : Unit := ()
def PySem.W.Fast.tw11098142696138902635 : Unit := ()
def PySem.W.Fast.tw2846231281654753408 : Unit := ()
def PySem.W.Fast.tw5116444711258373768 : Unit := ()
def PySem.W.Fast.tw17697170033869922841 : Unit := ()
namespace R
open PySem L2 PyProof.Rows
section
variable {l : PySem.W.OpenLaw} {w : World} {K : PySem.W.Frag} {h : Heap} {mg : Str → Option Value}
set_option maxHeartbeats 0 in
theorem bo5 {fa f0 f1 f2 f3 f4 f5 f6 f7 f8 f9 f10 f11 f12 f13 f14 f15 f16 f17 f18 f19 f20 f21 f22 f23 f24 f25 f26 f27 f28 f29 f30 f31 f32 f33 f34 f35 f36 f37 f38 f39 f40 f41 f42 f43 f44 f45 f46 f47 f48 : Addr} {C_NoFraction C_NoPolynomial C_NoStretch C_NoRow C_NoPair C_NoBack C_NoForm C_NoParts C_NoDegree C_NoSteps C_NoBox C_NoGain C_NoText C_NoLine C_NoName C_NoDeed C_RestError : Addr} {od0 an0 : Option Addr} {sl0 : Array (Option Value)} {oc0 kV0 dc0 pm0 cd0 ct0 : Value} {od1 an1 : Option Addr} {sl1 : Array (Option Value)} {oc1 kV1 dc1 pm1 cd1 ct1 : Value} {od2 an2 : Option Addr} {sl2 : Array (Option Value)} {oc2 kV2 dc2 pm2 cd2 ct2 : Value} {od3 an3 : Option Addr} {sl3 : Array (Option Value)} {oc3 kV3 dc3 pm3 cd3 ct3 : Value} {od4 an4 : Option Addr} {sl4 : Array (Option Value)} {oc4 kV4 dc4 pm4 cd4 ct4 : Value} {od5 an5 : Option Addr} {sl5 : Array (Option Value)} {oc5 kV5 dc5 pm5 cd5 ct5 : Value} {od6 an6 : Option Addr} {sl6 : Array (Option Value)} {oc6 kV6 dc6 pm6 cd6 ct6 : Value} {od7 an7 : Option Addr} {sl7 : Array (Option Value)} {oc7 kV7 dc7 pm7 cd7 ct7 : Value} {od8 an8 : Option Addr} {sl8 : Array (Option Value)} {oc8 kV8 dc8 pm8 cd8 ct8 : Value} {od9 an9 : Option Addr} {sl9 : Array (Option Value)} {oc9 kV9 dc9 pm9 cd9 ct9 : Value} {od10 an10 : Option Addr} {sl10 : Array (Option Value)} {oc10 kV10 dc10 pm10 cd10 ct10 : Value} {od11 an11 : Option Addr} {sl11 : Array (Option Value)} {oc11 kV11 dc11 pm11 cd11 ct11 : Value} {od12 an12 : Option Addr} {sl12 : Array (Option Value)} {oc12 kV12 dc12 pm12 cd12 ct12 : Value} {od13 an13 : Option Addr} {sl13 : Array (Option Value)} {oc13 kV13 dc13 pm13 cd13 ct13 : Value} {od14 an14 : Option Addr} {sl14 : Array (Option Value)} {oc14 kV14 dc14 pm14 cd14 ct14 : Value} {od15 an15 : Option Addr} {sl15 : Array (Option Value)} {oc15 kV15 dc15 pm15 cd15 ct15 : Value} {od16 an16 : Option Addr} {sl16 : Array (Option Value)} {oc16 kV16 dc16 pm16 cd16 ct16 : Value} {od17 an17 : Option Addr} {sl17 : Array (Option Value)} {oc17 kV17 dc17 pm17 cd17 ct17 : Value} {od18 an18 : Option Addr} {sl18 : Array (Option Value)} {oc18 kV18 dc18 pm18 cd18 ct18 : Value} {od19 an19 : Option Addr} {sl19 : Array (Option Value)} {oc19 kV19 dc19 pm19 cd19 ct19 : Value} {od20 an20 : Option Addr} {sl20 : Array (Option Value)} {oc20 kV20 dc20 pm20 cd20 ct20 : Value} {od21 an21 : Option Addr} {sl21 : Array (Option Value)} {oc21 kV21 dc21 pm21 cd21 ct21 : Value} {od22 an22 : Option Addr} {sl22 : Array (Option Value)} {oc22 kV22 dc22 pm22 cd22 ct22 : Value} {od23 an23 : Option Addr} {sl23 : Array (Option Value)} {oc23 kV23 dc23 pm23 cd23 ct23 : Value} {od24 an24 : Option Addr} {sl24 : Array (Option Value)} {oc24 kV24 dc24 pm24 cd24 ct24 : Value} {od25 an25 : Option Addr} {sl25 : Array (Option Value)} {oc25 kV25 dc25 pm25 cd25 ct25 : Value} {od26 an26 : Option Addr} {sl26 : Array (Option Value)} {oc26 kV26 dc26 pm26 cd26 ct26 : Value} {od27 an27 : Option Addr} {sl27 : Array (Option Value)} {oc27 kV27 dc27 pm27 cd27 ct27 : Value} {od28 an28 : Option Addr} {sl28 : Array (Option Value)} {oc28 kV28 dc28 pm28 cd28 ct28 : Value} {od29 an29 : Option Addr} {sl29 : Array (Option Value)} {oc29 kV29 dc29 pm29 cd29 ct29 : Value} {od30 an30 : Option Addr} {sl30 : Array (Option Value)} {oc30 kV30 dc30 pm30 cd30 ct30 : Value} {od31 an31 : Option Addr} {sl31 : Array (Option Value)} {oc31 kV31 dc31 pm31 cd31 ct31 : Value} {od32 an32 : Option Addr} {sl32 : Array (Option Value)} {oc32 kV32 dc32 pm32 cd32 ct32 : Value} {od33 an33 : Option Addr} {sl33 : Array (Option Value)} {oc33 kV33 dc33 pm33 cd33 ct33 : Value} {od34 an34 : Option Addr} {sl34 : Array (Option Value)} {oc34 kV34 dc34 pm34 cd34 ct34 : Value} {od35 an35 : Option Addr} {sl35 : Array (Option Value)} {oc35 kV35 dc35 pm35 cd35 ct35 : Value} {od36 an36 : Option Addr} {sl36 : Array (Option Value)} {oc36 kV36 dc36 pm36 cd36 ct36 : Value} {od37 an37 : Option Addr} {sl37 : Array (Option Value)} {oc37 kV37 dc37 pm37 cd37 ct37 : Value} {od38 an38 : Option Addr} {sl38 : Array (Option Value)} {oc38 kV38 dc38 pm38 cd38 ct38 : Value} {od39 an39 : Option Addr} {sl39 : Array (Option Value)} {oc39 kV39 dc39 pm39 cd39 ct39 : Value} {od40 an40 : Option Addr} {sl40 : Array (Option Value)} {oc40 kV40 dc40 pm40 cd40 ct40 : Value} {od41 an41 : Option Addr} {sl41 : Array (Option Value)} {oc41 kV41 dc41 pm41 cd41 ct41 : Value} {od42 an42 : Option Addr} {sl42 : Array (Option Value)} {oc42 kV42 dc42 pm42 cd42 ct42 : Value} {od43 an43 : Option Addr} {sl43 : Array (Option Value)} {oc43 kV43 dc43 pm43 cd43 ct43 : Value} {od44 an44 : Option Addr} {sl44 : Array (Option Value)} {oc44 kV44 dc44 pm44 cd44 ct44 : Value} {od45 an45 : Option Addr} {sl45 : Array (Option Value)} {oc45 kV45 dc45 pm45 cd45 ct45 : Value} {od46 an46 : Option Addr} {sl46 : Array (Option Value)} {oc46 kV46 dc46 pm46 cd46 ct46 : Value} {od47 an47 : Option Addr} {sl47 : Array (Option Value)} {oc47 kV47 dc47 pm47 cd47 ct47 : Value} {od48 an48 : Option Addr} {sl48 : Array (Option Value)} {oc48 kV48 dc48 pm48 cd48 ct48 : Value} {t_SHORT : Tok} {t_LONG : Tok} {t_HIGHEST : Tok} {A_ONE : Addr} {td_ONE : Option Addr} {ts_ONE : Array (Option Value)} {tn_ONE : Nat} {tt0_ONE tt1_ONE : Tok} {A_NOUGHT : Addr} {td_NOUGHT : Option Addr} {ts_NOUGHT : Array (Option Value)} {tn_NOUGHT : Nat} {tt0_NOUGHT tt1_NOUGHT : Tok}
    (X : K.In h) (G : h.Ns mainGlobals mg) (hfa : mg "law" = some (.ref fa))
    (a0 : PySem.W.nsIn K mainGlobals "common_divisor" = some (some (.ref f0)))
    (l0 : K.lookup f0 = some ⟨oc0, od0, .func (PySem.W.fnOf "common_divisor" "common_divisor" (i4 A4) (g9 A4) (b9 A4) .none kV0 dc0 pm0 an0 cd0 ct0), sl0⟩)
    (c0 : PySem.W.codeIn K cd0 "common_divisor" = true) (k0 : PySem.W.keepIn K (.ref f0) = true)
    (a1 : PySem.W.nsIn K mainGlobals "times" = some (some (.ref f1)))
    (l1 : K.lookup f1 = some ⟨oc1, od1, .func (PySem.W.fnOf "times" "times" (i4 X8) (g9 X8) (b9 X8) .none kV1 dc1 pm1 an1 cd1 ct1), sl1⟩)
    (c1 : PySem.W.codeIn K cd1 "times" = true) (k1 : PySem.W.keepIn K (.ref f1) = true)
    (a2 : PySem.W.nsIn K mainGlobals "over" = some (some (.ref f2)))
    (l2 : K.lookup f2 = some ⟨oc2, od2, .func (PySem.W.fnOf "over" "over" (i4 ad0) (g9 ad0) (b9 ad0) .none kV2 dc2 pm2 an2 cd2 ct2), sl2⟩)
    (c2 : PySem.W.codeIn K cd2 "over" = true) (k2 : PySem.W.keepIn K (.ref f2) = true)
    (a3 : PySem.W.nsIn K mainGlobals "content_of" = some (some (.ref f3)))
    (l3 : K.lookup f3 = some ⟨oc3, od3, .func (PySem.W.fnOf "content_of" "content_of" (i4 E6) (g9 E6) (b9 E6) .none kV3 dc3 pm3 an3 cd3 ct3), sl3⟩)
    (c3 : PySem.W.codeIn K cd3 "content_of" = true) (k3 : PySem.W.keepIn K (.ref f3) = true)
    (a4 : PySem.W.nsIn K mainGlobals "cleared" = some (some (.ref f4)))
    (l4 : K.lookup f4 = some ⟨oc4, od4, .func (PySem.W.fnOf "cleared" "cleared" (i4 N2) (g9 N2) (b9 N2) .none kV4 dc4 pm4 an4 cd4 ct4), sl4⟩)
    (c4 : PySem.W.codeIn K cd4 "cleared" = true) (k4 : PySem.W.keepIn K (.ref f4) = true)
    (a5 : PySem.W.nsIn K mainGlobals "lifted" = some (some (.ref f5)))
    (l5 : K.lookup f5 = some ⟨oc5, od5, .func (PySem.W.fnOf "lifted" "lifted" (i4 Q6) (g9 Q6) (b9 Q6) .none kV5 dc5 pm5 an5 cd5 ct5), sl5⟩)
    (c5 : PySem.W.codeIn K cd5 "lifted" = true) (k5 : PySem.W.keepIn K (.ref f5) = true)
    (a6 : PySem.W.nsIn K mainGlobals "divisor_for_all" = some (some (.ref f6)))
    (l6 : K.lookup f6 = some ⟨oc6, od6, .func (PySem.W.fnOf "divisor_for_all" "divisor_for_all" (i4 v5) (g9 v5) (b9 v5) .none kV6 dc6 pm6 an6 cd6 ct6), sl6⟩)
    (c6 : PySem.W.codeIn K cd6 "divisor_for_all" = true) (k6 : PySem.W.keepIn K (.ref f6) = true)
    (a7 : PySem.W.nsIn K mainGlobals "lowered" = some (some (.ref f7)))
    (l7 : K.lookup f7 = some ⟨oc7, od7, .func (PySem.W.fnOf "lowered" "lowered" (i4 P1) (g9 P1) (b9 P1) .none kV7 dc7 pm7 an7 cd7 ct7), sl7⟩)
    (c7 : PySem.W.codeIn K cd7 "lowered" = true) (k7 : PySem.W.keepIn K (.ref f7) = true)
    (a8 : PySem.W.nsIn K mainGlobals "trimmed" = some (some (.ref f8)))
    (l8 : K.lookup f8 = some ⟨oc8, od8, .func (PySem.W.fnOf "trimmed" "trimmed" (i4 O9) (g9 O9) (b9 O9) .none kV8 dc8 pm8 an8 cd8 ct8), sl8⟩)
    (c8 : PySem.W.codeIn K cd8 "trimmed" = true) (k8 : PySem.W.keepIn K (.ref f8) = true)
    (a9 : PySem.W.nsIn K mainGlobals "whole_divided" = some (some (.ref f9)))
    (l9 : K.lookup f9 = some ⟨oc9, od9, .func (PySem.W.fnOf "whole_divided" "whole_divided" (i4 q8) (g9 q8) (b9 q8) .none kV9 dc9 pm9 an9 cd9 ct9), sl9⟩)
    (c9 : PySem.W.codeIn K cd9 "whole_divided" = true) (k9 : PySem.W.keepIn K (.ref f9) = true)
    (a10 : PySem.W.nsIn K mainGlobals "formed" = some (some (.ref f10)))
    (l10 : K.lookup f10 = some ⟨oc10, od10, .func (PySem.W.fnOf "formed" "formed" (i4 Q7) (g9 Q7) (b9 Q7) .none kV10 dc10 pm10 an10 cd10 ct10), sl10⟩)
    (c10 : PySem.W.codeIn K cd10 "formed" = true) (k10 : PySem.W.keepIn K (.ref f10) = true)
    (a11 : PySem.W.nsIn K mainGlobals "form_divided" = some (some (.ref f11)))
    (l11 : K.lookup f11 = some ⟨oc11, od11, .func (PySem.W.fnOf "form_divided" "form_divided" (i4 C3) (g9 C3) (b9 C3) .none kV11 dc11 pm11 an11 cd11 ct11), sl11⟩)
    (c11 : PySem.W.codeIn K cd11 "form_divided" = true) (k11 : PySem.W.keepIn K (.ref f11) = true)
    (a12 : PySem.W.nsIn K mainGlobals "whole_times" = some (some (.ref f12)))
    (l12 : K.lookup f12 = some ⟨oc12, od12, .func (PySem.W.fnOf "whole_times" "whole_times" (i4 C9) (g9 C9) (b9 C9) .none kV12 dc12 pm12 an12 cd12 ct12), sl12⟩)
    (c12 : PySem.W.codeIn K cd12 "whole_times" = true) (k12 : PySem.W.keepIn K (.ref f12) = true)
    (a13 : PySem.W.nsIn K mainGlobals "whole_scaled" = some (some (.ref f13)))
    (l13 : K.lookup f13 = some ⟨oc13, od13, .func (PySem.W.fnOf "whole_scaled" "whole_scaled" (i4 A8) (g9 A8) (b9 A8) .none kV13 dc13 pm13 an13 cd13 ct13), sl13⟩)
    (c13 : PySem.W.codeIn K cd13 "whole_scaled" = true) (k13 : PySem.W.keepIn K (.ref f13) = true)
    (a14 : PySem.W.nsIn K mainGlobals "whole_sum" = some (some (.ref f14)))
    (l14 : K.lookup f14 = some ⟨oc14, od14, .func (PySem.W.fnOf "whole_sum" "whole_sum" (i4 G4) (g9 G4) (b9 G4) .none kV14 dc14 pm14 an14 cd14 ct14), sl14⟩)
    (c14 : PySem.W.codeIn K cd14 "whole_sum" = true) (k14 : PySem.W.keepIn K (.ref f14) = true)
    (a15 : PySem.W.nsIn K mainGlobals "form_times" = some (some (.ref f15)))
    (l15 : K.lookup f15 = some ⟨oc15, od15, .func (PySem.W.fnOf "form_times" "form_times" (i4 E5) (g9 E5) (b9 E5) .none kV15 dc15 pm15 an15 cd15 ct15), sl15⟩)
    (c15 : PySem.W.codeIn K cd15 "form_times" = true) (k15 : PySem.W.keepIn K (.ref f15) = true)
    (a16 : PySem.W.nsIn K mainGlobals "form_sum" = some (some (.ref f16)))
    (l16 : K.lookup f16 = some ⟨oc16, od16, .func (PySem.W.fnOf "form_sum" "form_sum" (i4 M6) (g9 M6) (b9 M6) .none kV16 dc16 pm16 an16 cd16 ct16), sl16⟩)
    (c16 : PySem.W.codeIn K cd16 "form_sum" = true) (k16 : PySem.W.keepIn K (.ref f16) = true)
    (a17 : PySem.W.nsIn K mainGlobals "put_together" = some (some (.ref f17)))
    (l17 : K.lookup f17 = some ⟨oc17, od17, .func (PySem.W.fnOf "put_together" "put_together" (i4 C2) (g9 C2) (b9 C2) .none kV17 dc17 pm17 an17 cd17 ct17), sl17⟩)
    (c17 : PySem.W.codeIn K cd17 "put_together" = true) (k17 : PySem.W.keepIn K (.ref f17) = true)
    (a18 : PySem.W.nsIn K mainGlobals "poly" = some (some (.ref f18)))
    (l18 : K.lookup f18 = some ⟨oc18, od18, .func (PySem.W.fnOf "poly" "poly" (i4 ac9) (g9 ac9) (b9 ac9) .none kV18 dc18 pm18 an18 cd18 ct18), sl18⟩)
    (c18 : PySem.W.codeIn K cd18 "poly" = true) (k18 : PySem.W.keepIn K (.ref f18) = true)
    (a19 : PySem.W.nsIn K mainGlobals "by_turns" = some (some (.ref f19)))
    (l19 : K.lookup f19 = some ⟨oc19, od19, .func (PySem.W.fnOf "by_turns" "by_turns" (i4 E7) (g9 E7) (b9 E7) .none kV19 dc19 pm19 an19 cd19 ct19), sl19⟩)
    (c19 : PySem.W.codeIn K cd19 "by_turns" = true) (k19 : PySem.W.keepIn K (.ref f19) = true)
    (a20 : PySem.W.nsIn K mainGlobals "_law_low" = some (some (.ref f20)))
    (l20 : K.lookup f20 = some ⟨oc20, od20, .func (PySem.W.fnOf "_law_low" "_law_low" (i4 M8) (g9 M8) (b9 M8) .none kV20 dc20 pm20 an20 cd20 ct20), sl20⟩)
    (c20 : PySem.W.codeIn K cd20 "_law_low" = true) (k20 : PySem.W.keepIn K (.ref f20) = true)
    (a21 : PySem.W.nsIn K mainGlobals "_law_urn" = some (some (.ref f21)))
    (l21 : K.lookup f21 = some ⟨oc21, od21, .func (PySem.W.fnOf "_law_urn" "_law_urn" (i4 M7) (g9 M7) (b9 M7) .none kV21 dc21 pm21 an21 cd21 ct21), sl21⟩)
    (c21 : PySem.W.codeIn K cd21 "_law_urn" = true) (k21 : PySem.W.keepIn K (.ref f21) = true)
    (a22 : PySem.W.nsIn K mainGlobals "_law_draw" = some (some (.ref f22)))
    (l22 : K.lookup f22 = some ⟨oc22, od22, .func (PySem.W.fnOf "_law_draw" "_law_draw" (i4 J2) (g9 J2) (b9 J2) .none kV22 dc22 pm22 an22 cd22 ct22), sl22⟩)
    (c22 : PySem.W.codeIn K cd22 "_law_draw" = true) (k22 : PySem.W.keepIn K (.ref f22) = true)
    (a23 : PySem.W.nsIn K mainGlobals "_law_kind" = some (some (.ref f23)))
    (l23 : K.lookup f23 = some ⟨oc23, od23, .func (PySem.W.fnOf "_law_kind" "_law_kind" (i4 J1) (g9 J1) (b9 J1) .none kV23 dc23 pm23 an23 cd23 ct23), sl23⟩)
    (c23 : PySem.W.codeIn K cd23 "_law_kind" = true) (k23 : PySem.W.keepIn K (.ref f23) = true)
    (a24 : PySem.W.nsIn K mainGlobals "_law_number" = some (some (.ref f24)))
    (l24 : K.lookup f24 = some ⟨oc24, od24, .func (PySem.W.fnOf "_law_number" "_law_number" (i4 D4) (g9 D4) (b9 D4) .none kV24 dc24 pm24 an24 cd24 ct24), sl24⟩)
    (c24 : PySem.W.codeIn K cd24 "_law_number" = true) (k24 : PySem.W.keepIn K (.ref f24) = true)
    (a25 : PySem.W.nsIn K mainGlobals "_law_whole" = some (some (.ref f25)))
    (l25 : K.lookup f25 = some ⟨oc25, od25, .func (PySem.W.fnOf "_law_whole" "_law_whole" (i4 E8) (g9 E8) (b9 E8) .none kV25 dc25 pm25 an25 cd25 ct25), sl25⟩)
    (c25 : PySem.W.codeIn K cd25 "_law_whole" = true) (k25 : PySem.W.keepIn K (.ref f25) = true)
    (a26 : PySem.W.nsIn K mainGlobals "_law_is_number" = some (some (.ref f26)))
    (l26 : K.lookup f26 = some ⟨oc26, od26, .func (PySem.W.fnOf "_law_is_number" "_law_is_number" (i4 A6) (g9 A6) (b9 A6) .none kV26 dc26 pm26 an26 cd26 ct26), sl26⟩)
    (c26 : PySem.W.codeIn K cd26 "_law_is_number" = true) (k26 : PySem.W.keepIn K (.ref f26) = true)
    (a27 : PySem.W.nsIn K mainGlobals "_law_other" = some (some (.ref f27)))
    (l27 : K.lookup f27 = some ⟨oc27, od27, .func (PySem.W.fnOf "_law_other" "_law_other" (i4 F4) (g9 F4) (b9 F4) .none kV27 dc27 pm27 an27 cd27 ct27), sl27⟩)
    (c27 : PySem.W.codeIn K cd27 "_law_other" = true) (k27 : PySem.W.keepIn K (.ref f27) = true)
    (a28 : PySem.W.nsIn K mainGlobals "_law_trim" = some (some (.ref f28)))
    (l28 : K.lookup f28 = some ⟨oc28, od28, .func (PySem.W.fnOf "_law_trim" "_law_trim" (i4 G7) (g9 G7) (b9 G7) .none kV28 dc28 pm28 an28 cd28 ct28), sl28⟩)
    (c28 : PySem.W.codeIn K cd28 "_law_trim" = true) (k28 : PySem.W.keepIn K (.ref f28) = true)
    (a29 : PySem.W.nsIn K mainGlobals "_law_is_poly" = some (some (.ref f29)))
    (l29 : K.lookup f29 = some ⟨oc29, od29, .func (PySem.W.fnOf "_law_is_poly" "_law_is_poly" (i4 A9) (g9 A9) (b9 A9) .none kV29 dc29 pm29 an29 cd29 ct29), sl29⟩)
    (c29 : PySem.W.codeIn K cd29 "_law_is_poly" = true) (k29 : PySem.W.keepIn K (.ref f29) = true)
    (a30 : PySem.W.nsIn K mainGlobals "_law_plus" = some (some (.ref f30)))
    (l30 : K.lookup f30 = some ⟨oc30, od30, .func (PySem.W.fnOf "_law_plus" "_law_plus" (i4 G9) (g9 G9) (b9 G9) .none kV30 dc30 pm30 an30 cd30 ct30), sl30⟩)
    (c30 : PySem.W.codeIn K cd30 "_law_plus" = true) (k30 : PySem.W.keepIn K (.ref f30) = true)
    (a31 : PySem.W.nsIn K mainGlobals "_law_times" = some (some (.ref f31)))
    (l31 : K.lookup f31 = some ⟨oc31, od31, .func (PySem.W.fnOf "_law_times" "_law_times" (i4 F0) (g9 F0) (b9 F0) .none kV31 dc31 pm31 an31 cd31 ct31), sl31⟩)
    (c31 : PySem.W.codeIn K cd31 "_law_times" = true) (k31 : PySem.W.keepIn K (.ref f31) = true)
    (a32 : PySem.W.nsIn K mainGlobals "_law_poly_plus" = some (some (.ref f32)))
    (l32 : K.lookup f32 = some ⟨oc32, od32, .func (PySem.W.fnOf "_law_poly_plus" "_law_poly_plus" (i4 A5) (g9 A5) (b9 A5) .none kV32 dc32 pm32 an32 cd32 ct32), sl32⟩)
    (c32 : PySem.W.codeIn K cd32 "_law_poly_plus" = true) (k32 : PySem.W.keepIn K (.ref f32) = true)
    (a33 : PySem.W.nsIn K mainGlobals "_law_poly_times" = some (some (.ref f33)))
    (l33 : K.lookup f33 = some ⟨oc33, od33, .func (PySem.W.fnOf "_law_poly_times" "_law_poly_times" (i4 y7) (g9 y7) (b9 y7) .none kV33 dc33 pm33 an33 cd33 ct33), sl33⟩)
    (c33 : PySem.W.codeIn K cd33 "_law_poly_times" = true) (k33 : PySem.W.keepIn K (.ref f33) = true)
    (a34 : PySem.W.nsIn K mainGlobals "_law_folded" = some (some (.ref f34)))
    (l34 : K.lookup f34 = some ⟨oc34, od34, .func (PySem.W.fnOf "_law_folded" "_law_folded" (i4 D5) (g9 D5) (b9 D5) .none kV34 dc34 pm34 an34 cd34 ct34), sl34⟩)
    (c34 : PySem.W.codeIn K cd34 "_law_folded" = true) (k34 : PySem.W.keepIn K (.ref f34) = true)
    (a35 : PySem.W.nsIn K mainGlobals "division_forms" = some (some (.ref f35)))
    (l35 : K.lookup f35 = some ⟨oc35, od35, .func (PySem.W.fnOf "division_forms" "division_forms" (i4 A3) (g9 A3) (b9 A3) .none kV35 dc35 pm35 an35 cd35 ct35), sl35⟩)
    (c35 : PySem.W.codeIn K cd35 "division_forms" = true) (k35 : PySem.W.keepIn K (.ref f35) = true)
    (a36 : PySem.W.nsIn K mainGlobals "divisions" = some (some (.ref f36)))
    (l36 : K.lookup f36 = some ⟨oc36, od36, .func (PySem.W.fnOf "divisions" "divisions" (i4 E4) (g9 E4) (b9 E4) .none kV36 dc36 pm36 an36 cd36 ct36), sl36⟩)
    (c36 : PySem.W.codeIn K cd36 "divisions" = true) (k36 : PySem.W.keepIn K (.ref f36) = true)
    (a37 : PySem.W.nsIn K mainGlobals "is_whole" = some (some (.ref f37)))
    (l37 : K.lookup f37 = some ⟨oc37, od37, .func (PySem.W.fnOf "is_whole" "is_whole" (i4 M5) (g9 M5) (b9 M5) .none kV37 dc37 pm37 an37 cd37 ct37), sl37⟩)
    (c37 : PySem.W.codeIn K cd37 "is_whole" = true) (k37 : PySem.W.keepIn K (.ref f37) = true)
    (a38 : PySem.W.nsIn K mainGlobals "is_number" = some (some (.ref f38)))
    (l38 : K.lookup f38 = some ⟨oc38, od38, .func (PySem.W.fnOf "is_number" "is_number" (i4 G6) (g9 G6) (b9 G6) .none kV38 dc38 pm38 an38 cd38 ct38), sl38⟩)
    (c38 : PySem.W.codeIn K cd38 "is_number" = true) (k38 : PySem.W.keepIn K (.ref f38) = true)
    (a39 : PySem.W.nsIn K mainGlobals "is_polynomial" = some (some (.ref f39)))
    (l39 : K.lookup f39 = some ⟨oc39, od39, .func (PySem.W.fnOf "is_polynomial" "is_polynomial" (i4 z8) (g9 z8) (b9 z8) .none kV39 dc39 pm39 an39 cd39 ct39), sl39⟩)
    (c39 : PySem.W.codeIn K cd39 "is_polynomial" = true) (k39 : PySem.W.keepIn K (.ref f39) = true)
    (a40 : PySem.W.nsIn K mainGlobals "has_alone" = some (some (.ref f40)))
    (l40 : K.lookup f40 = some ⟨oc40, od40, .func (PySem.W.fnOf "has_alone" "has_alone" (i4 E3) (g9 E3) (b9 E3) .none kV40 dc40 pm40 an40 cd40 ct40), sl40⟩)
    (c40 : PySem.W.codeIn K cd40 "has_alone" = true) (k40 : PySem.W.keepIn K (.ref f40) = true)
    (a41 : PySem.W.nsIn K mainGlobals "is_row" = some (some (.ref f41)))
    (l41 : K.lookup f41 = some ⟨oc41, od41, .func (PySem.W.fnOf "is_row" "is_row" (i4 O4) (g9 O4) (b9 O4) .none kV41 dc41 pm41 an41 cd41 ct41), sl41⟩)
    (c41 : PySem.W.codeIn K cd41 "is_row" = true) (k41 : PySem.W.keepIn K (.ref f41) = true)
    (a42 : PySem.W.nsIn K mainGlobals "_law_which" = some (some (.ref f42)))
    (l42 : K.lookup f42 = some ⟨oc42, od42, .func (PySem.W.fnOf "_law_which" "_law_which" (i4 E9) (g9 E9) (b9 E9) .none kV42 dc42 pm42 an42 cd42 ct42), sl42⟩)
    (c42 : PySem.W.codeIn K cd42 "_law_which" = true) (k42 : PySem.W.keepIn K (.ref f42) = true)
    (a43 : PySem.W.nsIn K mainGlobals "undivided" = some (some (.ref f43)))
    (l43 : K.lookup f43 = some ⟨oc43, od43, .func (PySem.W.fnOf "undivided" "undivided" (i4 G5) (g9 G5) (b9 G5) .none kV43 dc43 pm43 an43 cd43 ct43), sl43⟩)
    (c43 : PySem.W.codeIn K cd43 "undivided" = true) (k43 : PySem.W.keepIn K (.ref f43) = true)
    (a44 : PySem.W.nsIn K mainGlobals "_law_said" = some (some (.ref f44)))
    (l44 : K.lookup f44 = some ⟨oc44, od44, .func (PySem.W.fnOf "_law_said" "_law_said" (i4 G8) (g9 G8) (b9 G8) .none kV44 dc44 pm44 an44 cd44 ct44), sl44⟩)
    (c44 : PySem.W.codeIn K cd44 "_law_said" = true) (k44 : PySem.W.keepIn K (.ref f44) = true)
    (a45 : PySem.W.nsIn K mainGlobals "_law_sparse" = some (some (.ref f45)))
    (l45 : K.lookup f45 = some ⟨oc45, od45, .func (PySem.W.fnOf "_law_sparse" "_law_sparse" (i4 D0) (g9 D0) (b9 D0) .none kV45 dc45 pm45 an45 cd45 ct45), sl45⟩)
    (c45 : PySem.W.codeIn K cd45 "_law_sparse" = true) (k45 : PySem.W.keepIn K (.ref f45) = true)
    (a46 : PySem.W.nsIn K mainGlobals "_law_division_row" = some (some (.ref f46)))
    (l46 : K.lookup f46 = some ⟨oc46, od46, .func (PySem.W.fnOf "_law_division_row" "_law_division_row" (i4 t9) (g9 t9) (b9 t9) .none kV46 dc46 pm46 an46 cd46 ct46), sl46⟩)
    (c46 : PySem.W.codeIn K cd46 "_law_division_row" = true) (k46 : PySem.W.keepIn K (.ref f46) = true)
    (a47 : PySem.W.nsIn K mainGlobals "_law_right" = some (some (.ref f47)))
    (l47 : K.lookup f47 = some ⟨oc47, od47, .func (PySem.W.fnOf "_law_right" "_law_right" (i4 B8) (g9 B8) (b9 B8) .none kV47 dc47 pm47 an47 cd47 ct47), sl47⟩)
    (c47 : PySem.W.codeIn K cd47 "_law_right" = true) (k47 : PySem.W.keepIn K (.ref f47) = true)
    (a48 : PySem.W.nsIn K mainGlobals "law" = some (some (.ref f48)))
    (l48 : K.lookup f48 = some ⟨oc48, od48, .func (PySem.W.fnOf "law" "law" (i4 ac0) (g9 ac0) (b9 ac0) .none kV48 dc48 pm48 an48 cd48 ct48), sl48⟩)
    (c48 : PySem.W.codeIn K cd48 "law" = true) (k48 : PySem.W.keepIn K (.ref f48) = true)
    (z_ValueError : PySem.W.nsIn K mainGlobals "ValueError" = some none)
    (z_abs : PySem.W.nsIn K mainGlobals "abs" = some none)
    (z_all : PySem.W.nsIn K mainGlobals "all" = some none)
    (z_bool : PySem.W.nsIn K mainGlobals "bool" = some none)
    (z_enumerate : PySem.W.nsIn K mainGlobals "enumerate" = some none)
    (z_int : PySem.W.nsIn K mainGlobals "int" = some none)
    (z_isinstance : PySem.W.nsIn K mainGlobals "isinstance" = some none)
    (z_len : PySem.W.nsIn K mainGlobals "len" = some none)
    (z_list : PySem.W.nsIn K mainGlobals "list" = some none)
    (z_max : PySem.W.nsIn K mainGlobals "max" = some none)
    (z_min : PySem.W.nsIn K mainGlobals "min" = some none)
    (z_range : PySem.W.nsIn K mainGlobals "range" = some none)
    (z_reversed : PySem.W.nsIn K mainGlobals "reversed" = some none)
    (z_sum : PySem.W.nsIn K mainGlobals "sum" = some none)
    (z_tuple : PySem.W.nsIn K mainGlobals "tuple" = some none)
    (y_SHORT : PySem.W.nsIn K mainGlobals "SHORT" = some (some (.int 6000 t_SHORT)))
    (y_LONG : PySem.W.nsIn K mainGlobals "LONG" = some (some (.int 1000 t_LONG)))
    (y_HIGHEST : PySem.W.nsIn K mainGlobals "HIGHEST" = some (some (.int 14 t_HIGHEST)))
    (y_ONE : PySem.W.nsIn K mainGlobals "ONE" = some (some (.ref A_ONE)))
    (u_ONE : K.lookup A_ONE = some ⟨.type "tuple", td_ONE, .seq #[.int 1 tt0_ONE, .int 1 tt1_ONE] tn_ONE, ts_ONE⟩)
    (y_NOUGHT : PySem.W.nsIn K mainGlobals "NOUGHT" = some (some (.ref A_NOUGHT)))
    (u_NOUGHT : K.lookup A_NOUGHT = some ⟨.type "tuple", td_NOUGHT, .seq #[.int 0 tt0_NOUGHT, .int 1 tt1_NOUGHT] tn_NOUGHT, ts_NOUGHT⟩)
    (m_NoFraction : PySem.W.nsIn K mainGlobals "NoFraction" = some (some (.ref C_NoFraction)))
    (x_NoFraction : PySem.W.excIn K C_NoFraction [.type "ValueError", .type "Exception", .type "BaseException", .type "object"] "ValueError.__new__" = true)
    (e_NoFraction : D6 K C_NoFraction)
    (m_NoPolynomial : PySem.W.nsIn K mainGlobals "NoPolynomial" = some (some (.ref C_NoPolynomial)))
    (x_NoPolynomial : PySem.W.excIn K C_NoPolynomial [.type "ValueError", .type "Exception", .type "BaseException", .type "object"] "ValueError.__new__" = true)
    (e_NoPolynomial : D6 K C_NoPolynomial)
    (m_NoStretch : PySem.W.nsIn K mainGlobals "NoStretch" = some (some (.ref C_NoStretch)))
    (x_NoStretch : PySem.W.excIn K C_NoStretch [.type "ValueError", .type "Exception", .type "BaseException", .type "object"] "ValueError.__new__" = true)
    (e_NoStretch : D6 K C_NoStretch)
    (m_NoRow : PySem.W.nsIn K mainGlobals "NoRow" = some (some (.ref C_NoRow)))
    (x_NoRow : PySem.W.excIn K C_NoRow [.type "ValueError", .type "Exception", .type "BaseException", .type "object"] "ValueError.__new__" = true)
    (e_NoRow : D6 K C_NoRow)
    (m_NoPair : PySem.W.nsIn K mainGlobals "NoPair" = some (some (.ref C_NoPair)))
    (x_NoPair : PySem.W.excIn K C_NoPair [.type "ValueError", .type "Exception", .type "BaseException", .type "object"] "ValueError.__new__" = true)
    (e_NoPair : D6 K C_NoPair)
    (m_NoBack : PySem.W.nsIn K mainGlobals "NoBack" = some (some (.ref C_NoBack)))
    (x_NoBack : PySem.W.excIn K C_NoBack [.type "ValueError", .type "Exception", .type "BaseException", .type "object"] "ValueError.__new__" = true)
    (e_NoBack : D6 K C_NoBack)
    (m_NoForm : PySem.W.nsIn K mainGlobals "NoForm" = some (some (.ref C_NoForm)))
    (x_NoForm : PySem.W.excIn K C_NoForm [.type "ValueError", .type "Exception", .type "BaseException", .type "object"] "ValueError.__new__" = true)
    (e_NoForm : D6 K C_NoForm)
    (m_NoParts : PySem.W.nsIn K mainGlobals "NoParts" = some (some (.ref C_NoParts)))
    (x_NoParts : PySem.W.excIn K C_NoParts [.type "ValueError", .type "Exception", .type "BaseException", .type "object"] "ValueError.__new__" = true)
    (e_NoParts : D6 K C_NoParts)
    (m_NoDegree : PySem.W.nsIn K mainGlobals "NoDegree" = some (some (.ref C_NoDegree)))
    (x_NoDegree : PySem.W.excIn K C_NoDegree [.type "ValueError", .type "Exception", .type "BaseException", .type "object"] "ValueError.__new__" = true)
    (e_NoDegree : D6 K C_NoDegree)
    (m_NoSteps : PySem.W.nsIn K mainGlobals "NoSteps" = some (some (.ref C_NoSteps)))
    (x_NoSteps : PySem.W.excIn K C_NoSteps [.type "ValueError", .type "Exception", .type "BaseException", .type "object"] "ValueError.__new__" = true)
    (e_NoSteps : D6 K C_NoSteps)
    (m_NoBox : PySem.W.nsIn K mainGlobals "NoBox" = some (some (.ref C_NoBox)))
    (x_NoBox : PySem.W.excIn K C_NoBox [.type "ValueError", .type "Exception", .type "BaseException", .type "object"] "ValueError.__new__" = true)
    (e_NoBox : D6 K C_NoBox)
    (m_NoGain : PySem.W.nsIn K mainGlobals "NoGain" = some (some (.ref C_NoGain)))
    (x_NoGain : PySem.W.excIn K C_NoGain [.type "ValueError", .type "Exception", .type "BaseException", .type "object"] "ValueError.__new__" = true)
    (e_NoGain : D6 K C_NoGain)
    (m_NoText : PySem.W.nsIn K mainGlobals "NoText" = some (some (.ref C_NoText)))
    (x_NoText : PySem.W.excIn K C_NoText [.type "ValueError", .type "Exception", .type "BaseException", .type "object"] "ValueError.__new__" = true)
    (e_NoText : D6 K C_NoText)
    (m_NoLine : PySem.W.nsIn K mainGlobals "NoLine" = some (some (.ref C_NoLine)))
    (x_NoLine : PySem.W.excIn K C_NoLine [.type "ValueError", .type "Exception", .type "BaseException", .type "object"] "ValueError.__new__" = true)
    (e_NoLine : D6 K C_NoLine)
    (m_NoName : PySem.W.nsIn K mainGlobals "NoName" = some (some (.ref C_NoName)))
    (x_NoName : PySem.W.excIn K C_NoName [.type "ValueError", .type "Exception", .type "BaseException", .type "object"] "ValueError.__new__" = true)
    (e_NoName : D6 K C_NoName)
    (m_NoDeed : PySem.W.nsIn K mainGlobals "NoDeed" = some (some (.ref C_NoDeed)))
    (x_NoDeed : PySem.W.excIn K C_NoDeed [.type "ValueError", .type "Exception", .type "BaseException", .type "object"] "ValueError.__new__" = true)
    (e_NoDeed : D6 K C_NoDeed)
    (m_RestError : PySem.W.nsIn K mainGlobals "RestError" = some (some (.ref C_RestError)))
    (x_RestError : PySem.W.excIn K C_RestError [.type "ValueError", .type "Exception", .type "BaseException", .type "object"] "ValueError.__new__" = true)
    (e_RestError : D6 K C_RestError) :
    ∃ fd : FuncData, (∀ (s : Shared) (v : Value), BindsTo s fd ⟨[v], []⟩ [("_law_script", v)]) ∧ ∀ base : Heap, K.In base → base.Ns mainGlobals mg → aa6 l.prog w K mg base CX0 (8 + 1) fa fd ["_law_script"] (aN6 K) := by
  have e := hfa.symm.trans (PySem.W.mg_of X G a48)
  cases e
  have F_common_divisor := j4 (st := A4) l0 c0 k0
  have b_common_divisor := F_common_divisor.binds (ps := ["one", "other"]) fun _ _ _ _ _ _ us hl => match us, hl with | [_, _], _ => rfl
  have d_common_divisor : Df K mg "common_divisor" A4 ["one", "other"] f0 := ⟨⟨_, F_common_divisor, b_common_divisor⟩, PySem.W.mg_of X G a0⟩
  have F_times := j4 (st := X8) l1 c1 k1
  have b_times := F_times.binds (ps := ["one", "other"]) fun _ _ _ _ _ _ us hl => match us, hl with | [_, _], _ => rfl
  have d_times : Df K mg "times" X8 ["one", "other"] f1 := ⟨⟨_, F_times, b_times⟩, PySem.W.mg_of X G a1⟩
  have F_over := j4 (st := ad0) l2 c2 k2
  have b_over := F_over.binds (ps := ["one", "other"]) fun _ _ _ _ _ _ us hl => match us, hl with | [_, _], _ => rfl
  have d_over : Df K mg "over" ad0 ["one", "other"] f2 := ⟨⟨_, F_over, b_over⟩, PySem.W.mg_of X G a2⟩
  have F_content_of := j4 (st := E6) l3 c3 k3
  have b_content_of := F_content_of.binds (ps := ["wholes"]) fun _ _ _ _ _ _ us hl => match us, hl with | [_], _ => rfl
  have d_content_of : Df K mg "content_of" E6 ["wholes"] f3 := ⟨⟨_, F_content_of, b_content_of⟩, PySem.W.mg_of X G a3⟩
  have F_cleared := j4 (st := N2) l4 c4 k4
  have b_cleared := F_cleared.binds (ps := ["numbers"]) fun _ _ _ _ _ _ us hl => match us, hl with | [_], _ => rfl
  have d_cleared : Df K mg "cleared" N2 ["numbers"] f4 := ⟨⟨_, F_cleared, b_cleared⟩, PySem.W.mg_of X G a4⟩
  have F_lifted := j4 (st := Q6) l5 c5 k5
  have b_lifted := F_lifted.binds (ps := ["p"]) fun _ _ _ _ _ _ us hl => match us, hl with | [_], _ => rfl
  have d_lifted : Df K mg "lifted" Q6 ["p"] f5 := ⟨⟨_, F_lifted, b_lifted⟩, PySem.W.mg_of X G a5⟩
  have F_divisor_for_all := j4 (st := v5) l6 c6 k6
  have b_divisor_for_all := F_divisor_for_all.binds (ps := ["wholes", "bottom"]) fun _ _ _ _ _ _ us hl => match us, hl with | [_, _], _ => rfl
  have d_divisor_for_all : Df K mg "divisor_for_all" v5 ["wholes", "bottom"] f6 := ⟨⟨_, F_divisor_for_all, b_divisor_for_all⟩, PySem.W.mg_of X G a6⟩
  have F_lowered := j4 (st := P1) l7 c7 k7
  have b_lowered := F_lowered.binds (ps := ["scale", "wholes"]) fun _ _ _ _ _ _ us hl => match us, hl with | [_, _], _ => rfl
  have d_lowered : Df K mg "lowered" P1 ["scale", "wholes"] f7 := ⟨⟨_, F_lowered, b_lowered⟩, PySem.W.mg_of X G a7⟩
  have F_trimmed := j4 (st := O9) l8 c8 k8
  have b_trimmed := F_trimmed.binds (ps := ["wholes"]) fun _ _ _ _ _ _ us hl => match us, hl with | [_], _ => rfl
  have d_trimmed : Df K mg "trimmed" O9 ["wholes"] f8 := ⟨⟨_, F_trimmed, b_trimmed⟩, PySem.W.mg_of X G a8⟩
  have F_whole_divided := j4 (st := q8) l9 c9 k9
  have b_whole_divided := F_whole_divided.binds (ps := ["one", "other"]) fun _ _ _ _ _ _ us hl => match us, hl with | [_, _], _ => rfl
  have d_whole_divided : Df K mg "whole_divided" q8 ["one", "other"] f9 := ⟨⟨_, F_whole_divided, b_whole_divided⟩, PySem.W.mg_of X G a9⟩
  have F_formed := j4 (st := Q7) l10 c10 k10
  have b_formed := F_formed.binds (ps := ["scale", "wholes"]) fun _ _ _ _ _ _ us hl => match us, hl with | [_, _], _ => rfl
  have d_formed : Df K mg "formed" Q7 ["scale", "wholes"] f10 := ⟨⟨_, F_formed, b_formed⟩, PySem.W.mg_of X G a10⟩
  have F_form_divided := j4 (st := C3) l11 c11 k11
  have b_form_divided := F_form_divided.binds (ps := ["one", "other"]) fun _ _ _ _ _ _ us hl => match us, hl with | [_, _], _ => rfl
  have d_form_divided : Df K mg "form_divided" C3 ["one", "other"] f11 := ⟨⟨_, F_form_divided, b_form_divided⟩, PySem.W.mg_of X G a11⟩
  have F_whole_times := j4 (st := C9) l12 c12 k12
  have b_whole_times := F_whole_times.binds (ps := ["one", "other"]) fun _ _ _ _ _ _ us hl => match us, hl with | [_, _], _ => rfl
  have d_whole_times : Df K mg "whole_times" C9 ["one", "other"] f12 := ⟨⟨_, F_whole_times, b_whole_times⟩, PySem.W.mg_of X G a12⟩
  have F_whole_scaled := j4 (st := A8) l13 c13 k13
  have b_whole_scaled := F_whole_scaled.binds (ps := ["factor", "wholes"]) fun _ _ _ _ _ _ us hl => match us, hl with | [_, _], _ => rfl
  have d_whole_scaled : Df K mg "whole_scaled" A8 ["factor", "wholes"] f13 := ⟨⟨_, F_whole_scaled, b_whole_scaled⟩, PySem.W.mg_of X G a13⟩
  have F_whole_sum := j4 (st := G4) l14 c14 k14
  have b_whole_sum := F_whole_sum.binds (ps := ["one", "other"]) fun _ _ _ _ _ _ us hl => match us, hl with | [_, _], _ => rfl
  have d_whole_sum : Df K mg "whole_sum" G4 ["one", "other"] f14 := ⟨⟨_, F_whole_sum, b_whole_sum⟩, PySem.W.mg_of X G a14⟩
  have F_form_times := j4 (st := E5) l15 c15 k15
  have b_form_times := F_form_times.binds (ps := ["one", "other"]) fun _ _ _ _ _ _ us hl => match us, hl with | [_, _], _ => rfl
  have d_form_times : Df K mg "form_times" E5 ["one", "other"] f15 := ⟨⟨_, F_form_times, b_form_times⟩, PySem.W.mg_of X G a15⟩
  have F_form_sum := j4 (st := M6) l16 c16 k16
  have b_form_sum := F_form_sum.binds (ps := ["one", "other"]) fun _ _ _ _ _ _ us hl => match us, hl with | [_, _], _ => rfl
  have d_form_sum : Df K mg "form_sum" M6 ["one", "other"] f16 := ⟨⟨_, F_form_sum, b_form_sum⟩, PySem.W.mg_of X G a16⟩
  have F_put_together := j4 (st := C2) l17 c17 k17
  have b_put_together := F_put_together.binds (ps := ["quotients", "last"]) fun _ _ _ _ _ _ us hl => match us, hl with | [_, _], _ => rfl
  have d_put_together : Df K mg "put_together" C2 ["quotients", "last"] f17 := ⟨⟨_, F_put_together, b_put_together⟩, PySem.W.mg_of X G a17⟩
  have F_poly := j4 (st := ac9) l18 c18 k18
  have b_poly := F_poly.binds (ps := ["numbers"]) fun _ _ _ _ _ _ us hl => match us, hl with | [_], _ => rfl
  have d_poly : Df K mg "poly" ac9 ["numbers"] f18 := ⟨⟨_, F_poly, b_poly⟩, PySem.W.mg_of X G a18⟩
  have F_by_turns := j4 (st := E7) l19 c19 k19
  have b_by_turns := F_by_turns.binds (ps := ["p"]) fun _ _ _ _ _ _ us hl => match us, hl with | [_], _ => rfl
  have d_by_turns : Df K mg "by_turns" E7 ["p"] f19 := ⟨⟨_, F_by_turns, b_by_turns⟩, PySem.W.mg_of X G a19⟩
  have F__law_low := j4 (st := M8) l20 c20 k20
  have b__law_low := F__law_low.binds (ps := ["_law_top", "_law_bottom"]) fun _ _ _ _ _ _ us hl => match us, hl with | [_, _], _ => rfl
  have d__law_low : Df K mg "_law_low" M8 ["_law_top", "_law_bottom"] f20 := ⟨⟨_, F__law_low, b__law_low⟩, PySem.W.mg_of X G a20⟩
  have F__law_urn := j4 (st := M7) l21 c21 k21
  have b__law_urn := F__law_urn.binds (ps := ["_law_script", "_law_at"]) fun _ _ _ _ _ _ us hl => match us, hl with | [_, _], _ => rfl
  have d__law_urn : Df K mg "_law_urn" M7 ["_law_script", "_law_at"] f21 := ⟨⟨_, F__law_urn, b__law_urn⟩, PySem.W.mg_of X G a21⟩
  have F__law_draw := j4 (st := J2) l22 c22 k22
  have b__law_draw := F__law_draw.binds (ps := ["_law_urn_here", "_law_many"]) fun _ _ _ _ _ _ us hl => match us, hl with | [_, _], _ => rfl
  have d__law_draw : Df K mg "_law_draw" J2 ["_law_urn_here", "_law_many"] f22 := ⟨⟨_, F__law_draw, b__law_draw⟩, PySem.W.mg_of X G a22⟩
  have F__law_kind := j4 (st := J1) l23 c23 k23
  have b__law_kind := F__law_kind.binds (ps := ["_law_urn_here"]) fun _ _ _ _ _ _ us hl => match us, hl with | [_], _ => rfl
  have d__law_kind : Df K mg "_law_kind" J1 ["_law_urn_here"] f23 := ⟨⟨_, F__law_kind, b__law_kind⟩, PySem.W.mg_of X G a23⟩
  have F__law_number := j4 (st := D4) l24 c24 k24
  have b__law_number := F__law_number.binds (ps := ["_law_urn_here", "_law_kind_here"]) fun _ _ _ _ _ _ us hl => match us, hl with | [_, _], _ => rfl
  have d__law_number : Df K mg "_law_number" D4 ["_law_urn_here", "_law_kind_here"] f24 := ⟨⟨_, F__law_number, b__law_number⟩, PySem.W.mg_of X G a24⟩
  have F__law_whole := j4 (st := E8) l25 c25 k25
  have b__law_whole := F__law_whole.binds (ps := ["_law_thing"]) fun _ _ _ _ _ _ us hl => match us, hl with | [_], _ => rfl
  have d__law_whole : Df K mg "_law_whole" E8 ["_law_thing"] f25 := ⟨⟨_, F__law_whole, b__law_whole⟩, PySem.W.mg_of X G a25⟩
  have F__law_is_number := j4 (st := A6) l26 c26 k26
  have b__law_is_number := F__law_is_number.binds (ps := ["_law_thing"]) fun _ _ _ _ _ _ us hl => match us, hl with | [_], _ => rfl
  have d__law_is_number : Df K mg "_law_is_number" A6 ["_law_thing"] f26 := ⟨⟨_, F__law_is_number, b__law_is_number⟩, PySem.W.mg_of X G a26⟩
  have F__law_other := j4 (st := F4) l27 c27 k27
  have b__law_other := F__law_other.binds (ps := ["_law_urn_here", "_law_kind_here"]) fun _ _ _ _ _ _ us hl => match us, hl with | [_, _], _ => rfl
  have d__law_other : Df K mg "_law_other" F4 ["_law_urn_here", "_law_kind_here"] f27 := ⟨⟨_, F__law_other, b__law_other⟩, PySem.W.mg_of X G a27⟩
  have F__law_trim := j4 (st := G7) l28 c28 k28
  have b__law_trim := F__law_trim.binds (ps := ["_law_numbers"]) fun _ _ _ _ _ _ us hl => match us, hl with | [_], _ => rfl
  have d__law_trim : Df K mg "_law_trim" G7 ["_law_numbers"] f28 := ⟨⟨_, F__law_trim, b__law_trim⟩, PySem.W.mg_of X G a28⟩
  have F__law_is_poly := j4 (st := A9) l29 c29 k29
  have b__law_is_poly := F__law_is_poly.binds (ps := ["_law_thing"]) fun _ _ _ _ _ _ us hl => match us, hl with | [_], _ => rfl
  have d__law_is_poly : Df K mg "_law_is_poly" A9 ["_law_thing"] f29 := ⟨⟨_, F__law_is_poly, b__law_is_poly⟩, PySem.W.mg_of X G a29⟩
  have F__law_plus := j4 (st := G9) l30 c30 k30
  have b__law_plus := F__law_plus.binds (ps := ["_law_one", "_law_other_here"]) fun _ _ _ _ _ _ us hl => match us, hl with | [_, _], _ => rfl
  have d__law_plus : Df K mg "_law_plus" G9 ["_law_one", "_law_other_here"] f30 := ⟨⟨_, F__law_plus, b__law_plus⟩, PySem.W.mg_of X G a30⟩
  have F__law_times := j4 (st := F0) l31 c31 k31
  have b__law_times := F__law_times.binds (ps := ["_law_one", "_law_other_here"]) fun _ _ _ _ _ _ us hl => match us, hl with | [_, _], _ => rfl
  have d__law_times : Df K mg "_law_times" F0 ["_law_one", "_law_other_here"] f31 := ⟨⟨_, F__law_times, b__law_times⟩, PySem.W.mg_of X G a31⟩
  have F__law_poly_plus := j4 (st := A5) l32 c32 k32
  have b__law_poly_plus := F__law_poly_plus.binds (ps := ["_law_p", "_law_q"]) fun _ _ _ _ _ _ us hl => match us, hl with | [_, _], _ => rfl
  have d__law_poly_plus : Df K mg "_law_poly_plus" A5 ["_law_p", "_law_q"] f32 := ⟨⟨_, F__law_poly_plus, b__law_poly_plus⟩, PySem.W.mg_of X G a32⟩
  have F__law_poly_times := j4 (st := y7) l33 c33 k33
  have b__law_poly_times := F__law_poly_times.binds (ps := ["_law_p", "_law_q"]) fun _ _ _ _ _ _ us hl => match us, hl with | [_, _], _ => rfl
  have d__law_poly_times : Df K mg "_law_poly_times" y7 ["_law_p", "_law_q"] f33 := ⟨⟨_, F__law_poly_times, b__law_poly_times⟩, PySem.W.mg_of X G a33⟩
  have F__law_folded := j4 (st := D5) l34 c34 k34
  have b__law_folded := F__law_folded.binds (ps := ["_law_quotients", "_law_last"]) fun _ _ _ _ _ _ us hl => match us, hl with | [_, _], _ => rfl
  have d__law_folded : Df K mg "_law_folded" D5 ["_law_quotients", "_law_last"] f34 := ⟨⟨_, F__law_folded, b__law_folded⟩, PySem.W.mg_of X G a34⟩
  have F_division_forms := j4 (st := A3) l35 c35 k35
  have b_division_forms := F_division_forms.binds (ps := ["p"]) fun _ _ _ _ _ _ us hl => match us, hl with | [_], _ => rfl
  have d_division_forms : Df K mg "division_forms" A3 ["p"] f35 := ⟨⟨_, F_division_forms, b_division_forms⟩, PySem.W.mg_of X G a35⟩
  have F_divisions := j4 (st := E4) l36 c36 k36
  have b_divisions := F_divisions.binds (ps := ["p"]) fun _ _ _ _ _ _ us hl => match us, hl with | [_], _ => rfl
  have d_divisions : Df K mg "divisions" E4 ["p"] f36 := ⟨⟨_, F_divisions, b_divisions⟩, PySem.W.mg_of X G a36⟩
  have F_is_whole := j4 (st := M5) l37 c37 k37
  have b_is_whole := F_is_whole.binds (ps := ["thing"]) fun _ _ _ _ _ _ us hl => match us, hl with | [_], _ => rfl
  have d_is_whole : Df K mg "is_whole" M5 ["thing"] f37 := ⟨⟨_, F_is_whole, b_is_whole⟩, PySem.W.mg_of X G a37⟩
  have F_is_number := j4 (st := G6) l38 c38 k38
  have b_is_number := F_is_number.binds (ps := ["thing"]) fun _ _ _ _ _ _ us hl => match us, hl with | [_], _ => rfl
  have d_is_number : Df K mg "is_number" G6 ["thing"] f38 := ⟨⟨_, F_is_number, b_is_number⟩, PySem.W.mg_of X G a38⟩
  have F_is_polynomial := j4 (st := z8) l39 c39 k39
  have b_is_polynomial := F_is_polynomial.binds (ps := ["thing"]) fun _ _ _ _ _ _ us hl => match us, hl with | [_], _ => rfl
  have d_is_polynomial : Df K mg "is_polynomial" z8 ["thing"] f39 := ⟨⟨_, F_is_polynomial, b_is_polynomial⟩, PySem.W.mg_of X G a39⟩
  have F_has_alone := j4 (st := E3) l40 c40 k40
  have b_has_alone := F_has_alone.binds (ps := ["p", "odd"]) fun _ _ _ _ _ _ us hl => match us, hl with | [_, _], _ => rfl
  have d_has_alone : Df K mg "has_alone" E3 ["p", "odd"] f40 := ⟨⟨_, F_has_alone, b_has_alone⟩, PySem.W.mg_of X G a40⟩
  have F_is_row := j4 (st := O4) l41 c41 k41
  have b_is_row := F_is_row.binds (ps := ["quotients", "last"]) fun _ _ _ _ _ _ us hl => match us, hl with | [_, _], _ => rfl
  have d_is_row : Df K mg "is_row" O4 ["quotients", "last"] f41 := ⟨⟨_, F_is_row, b_is_row⟩, PySem.W.mg_of X G a41⟩
  have F__law_which := j4 (st := E9) l42 c42 k42
  have b__law_which := F__law_which.binds (ps := ["_law_e"]) fun _ _ _ _ _ _ us hl => match us, hl with | [_], _ => rfl
  have d__law_which : Df K mg "_law_which" E9 ["_law_e"] f42 := ⟨⟨_, F__law_which, b__law_which⟩, PySem.W.mg_of X G a42⟩
  have F_undivided := j4 (st := G5) l43 c43 k43
  have b_undivided := F_undivided.binds (ps := ["quotients", "last"]) fun _ _ _ _ _ _ us hl => match us, hl with | [_, _], _ => rfl
  have d_undivided : Df K mg "undivided" G5 ["quotients", "last"] f43 := ⟨⟨_, F_undivided, b_undivided⟩, PySem.W.mg_of X G a43⟩
  have F__law_said := j4 (st := G8) l44 c44 k44
  have b__law_said := F__law_said.binds (ps := ["_law_quotients", "_law_last"]) fun _ _ _ _ _ _ us hl => match us, hl with | [_, _], _ => rfl
  have d__law_said : Df K mg "_law_said" G8 ["_law_quotients", "_law_last"] f44 := ⟨⟨_, F__law_said, b__law_said⟩, PySem.W.mg_of X G a44⟩
  have F__law_sparse := j4 (st := D0) l45 c45 k45
  have b__law_sparse := F__law_sparse.binds (ps := ["_law_urn_here", "_law_kind_here", "_law_degree"]) fun _ _ _ _ _ _ us hl => match us, hl with | [_, _, _], _ => rfl
  have d__law_sparse : Df K mg "_law_sparse" D0 ["_law_urn_here", "_law_kind_here", "_law_degree"] f45 := ⟨⟨_, F__law_sparse, b__law_sparse⟩, PySem.W.mg_of X G a45⟩
  have F__law_division_row := j4 (st := t9) l46 c46 k46
  have b__law_division_row := F__law_division_row.binds (ps := ["_law_urn_here", "_law_kind_here", "_law_most"]) fun _ _ _ _ _ _ us hl => match us, hl with | [_, _, _], _ => rfl
  have d__law_division_row : Df K mg "_law_division_row" t9 ["_law_urn_here", "_law_kind_here", "_law_most"] f46 := ⟨⟨_, F__law_division_row, b__law_division_row⟩, PySem.W.mg_of X G a46⟩
  have F__law_right := j4 (st := B8) l47 c47 k47
  have b__law_right := F__law_right.binds (ps := ["_law_urn_here"]) fun _ _ _ _ _ _ us hl => match us, hl with | [_], _ => rfl
  have d__law_right : Df K mg "_law_right" B8 ["_law_urn_here"] f47 := ⟨⟨_, F__law_right, b__law_right⟩, PySem.W.mg_of X G a47⟩
  have F_law := j4 (st := ac0) l48 c48 k48
  have b_law := F_law.binds (ps := ["_law_script"]) fun _ _ _ _ _ _ us hl => match us, hl with | [_], _ => rfl
  have d_law : Df K mg "law" ac0 ["_law_script"] fa := ⟨⟨_, F_law, b_law⟩, PySem.W.mg_of X G a48⟩
  have n_ValueError := PySem.W.mg_none_of X G z_ValueError
  have n_abs := PySem.W.mg_none_of X G z_abs
  have n_all := PySem.W.mg_none_of X G z_all
  have n_bool := PySem.W.mg_none_of X G z_bool
  have n_enumerate := PySem.W.mg_none_of X G z_enumerate
  have n_int := PySem.W.mg_none_of X G z_int
  have n_isinstance := PySem.W.mg_none_of X G z_isinstance
  have n_len := PySem.W.mg_none_of X G z_len
  have n_list := PySem.W.mg_none_of X G z_list
  have n_max := PySem.W.mg_none_of X G z_max
  have n_min := PySem.W.mg_none_of X G z_min
  have n_range := PySem.W.mg_none_of X G z_range
  have n_reversed := PySem.W.mg_none_of X G z_reversed
  have n_sum := PySem.W.mg_none_of X G z_sum
  have n_tuple := PySem.W.mg_none_of X G z_tuple
  have c_SHORT := PySem.W.mg_of X G y_SHORT
  have c_LONG := PySem.W.mg_of X G y_LONG
  have c_HIGHEST := PySem.W.mg_of X G y_HIGHEST
  have c_ONE := PySem.W.mg_of X G y_ONE
  have t_ONE : ∀ H : Hp, SqT K H A_ONE [.int 1, .int 1] := fun H => .inr ⟨_, _, _, u_ONE, rfl, rfl, (show 2 ≤ sizeLine by decide), (.cons ⟨_, rfl⟩ (.cons ⟨_, rfl⟩ .nil))⟩
  have c_NOUGHT := PySem.W.mg_of X G y_NOUGHT
  have t_NOUGHT : ∀ H : Hp, SqT K H A_NOUGHT [.int 0, .int 1] := fun H => .inr ⟨_, _, _, u_NOUGHT, rfl, rfl, (show 2 ≤ sizeLine by decide), (.cons ⟨_, rfl⟩ (.cons ⟨_, rfl⟩ .nil))⟩
  have X_NoFraction : ExT K mg "NoFraction" C_NoFraction := ⟨PySem.W.mg_of X G m_NoFraction, ⟨x_NoFraction⟩, e_NoFraction⟩
  have X_NoPolynomial : ExT K mg "NoPolynomial" C_NoPolynomial := ⟨PySem.W.mg_of X G m_NoPolynomial, ⟨x_NoPolynomial⟩, e_NoPolynomial⟩
  have X_NoStretch : ExT K mg "NoStretch" C_NoStretch := ⟨PySem.W.mg_of X G m_NoStretch, ⟨x_NoStretch⟩, e_NoStretch⟩
  have X_NoRow : ExT K mg "NoRow" C_NoRow := ⟨PySem.W.mg_of X G m_NoRow, ⟨x_NoRow⟩, e_NoRow⟩
  have X_NoPair : ExT K mg "NoPair" C_NoPair := ⟨PySem.W.mg_of X G m_NoPair, ⟨x_NoPair⟩, e_NoPair⟩
  have X_NoBack : ExT K mg "NoBack" C_NoBack := ⟨PySem.W.mg_of X G m_NoBack, ⟨x_NoBack⟩, e_NoBack⟩
  have X_NoForm : ExT K mg "NoForm" C_NoForm := ⟨PySem.W.mg_of X G m_NoForm, ⟨x_NoForm⟩, e_NoForm⟩
  have X_NoParts : ExT K mg "NoParts" C_NoParts := ⟨PySem.W.mg_of X G m_NoParts, ⟨x_NoParts⟩, e_NoParts⟩
  have X_NoDegree : ExT K mg "NoDegree" C_NoDegree := ⟨PySem.W.mg_of X G m_NoDegree, ⟨x_NoDegree⟩, e_NoDegree⟩
  have X_NoSteps : ExT K mg "NoSteps" C_NoSteps := ⟨PySem.W.mg_of X G m_NoSteps, ⟨x_NoSteps⟩, e_NoSteps⟩
  have X_NoBox : ExT K mg "NoBox" C_NoBox := ⟨PySem.W.mg_of X G m_NoBox, ⟨x_NoBox⟩, e_NoBox⟩
  have X_NoGain : ExT K mg "NoGain" C_NoGain := ⟨PySem.W.mg_of X G m_NoGain, ⟨x_NoGain⟩, e_NoGain⟩
  have X_NoText : ExT K mg "NoText" C_NoText := ⟨PySem.W.mg_of X G m_NoText, ⟨x_NoText⟩, e_NoText⟩
  have X_NoLine : ExT K mg "NoLine" C_NoLine := ⟨PySem.W.mg_of X G m_NoLine, ⟨x_NoLine⟩, e_NoLine⟩
  have X_NoName : ExT K mg "NoName" C_NoName := ⟨PySem.W.mg_of X G m_NoName, ⟨x_NoName⟩, e_NoName⟩
  have X_NoDeed : ExT K mg "NoDeed" C_NoDeed := ⟨PySem.W.mg_of X G m_NoDeed, ⟨x_NoDeed⟩, e_NoDeed⟩
  have X_RestError : ExT K mg "RestError" C_RestError := ⟨PySem.W.mg_of X G m_RestError, ⟨x_RestError⟩, e_RestError⟩
  have XX : XTx K mg (⟨C_NoFraction, C_NoPolynomial, C_NoStretch, C_NoRow, C_NoPair, C_NoBack, C_NoForm, C_NoParts, C_NoDegree, C_NoSteps, C_NoBox, C_NoGain, C_NoText, C_NoLine, C_NoName, C_NoDeed, C_RestError⟩ : CAd) := ⟨X_NoFraction, X_NoPolynomial, X_NoStretch, X_NoRow, X_NoPair, X_NoBack, X_NoForm, X_NoParts, X_NoDegree, X_NoSteps, X_NoBox, X_NoGain, X_NoText, X_NoLine, X_NoName, X_NoDeed⟩
  refine ⟨PySem.W.fnOf "law" "law" (i4 ac0) (g9 ac0) (b9 ac0) .none kV48 dc48 pm48 an48 cd48 ct48, fun s v => .of_eq rfl, fun base _ _ => ?_⟩
  have G_common_divisor := af9 (P := l.prog) (w := w) (base := base) d_common_divisor ⟨_, c_SHORT⟩ n_abs
  have G_times := ba4 (P := l.prog) (w := w) (base := base) d_times G_common_divisor
  have G_over := bg0 (P := l.prog) (w := w) (base := base) d_over G_times
  have G_content_of := av1 (P := l.prog) (w := w) (base := base) d_content_of G_common_divisor
  have G_cleared := aL1 (P := l.prog) (w := w) (base := base) d_cleared G_common_divisor
  have GD_lifted := aL2 (P := l.prog) (w := w) (base := base) d_lifted G_cleared G_content_of c_ONE t_ONE
  have G_divisor_for_all := ad4 (P := l.prog) (w := w) (base := base) d_divisor_for_all G_common_divisor c_LONG n_max
  have G_lowered := aL0 (P := l.prog) (w := w) (base := base) d_lowered G_divisor_for_all G_common_divisor
  have G_trimmed := aK9 (P := l.prog) (w := w) (base := base) d_trimmed n_len
  have G_whole_divided := ai7 (P := l.prog) (w := w) (base := base) d_whole_divided G_trimmed n_len n_max n_list n_abs n_enumerate
  have GD_formed := aL3 (P := l.prog) (w := w) (base := base) d_formed G_content_of G_times c_ONE t_ONE
  have G_whole_times := ar2 (P := l.prog) (w := w) (base := base) d_whole_times n_len n_enumerate
  have G_whole_scaled := am0 (P := l.prog) (w := w) (base := base) d_whole_scaled G_trimmed
  have G_whole_sum := aB7 (P := l.prog) (w := w) (base := base) d_whole_sum G_trimmed n_len n_list n_enumerate
  have G_form_times := av0 (P := l.prog) (w := w) (base := base) d_form_times G_times G_whole_times
  have G_form_sum := aH3 (P := l.prog) (w := w) (base := base) d_form_sum G_over G_whole_sum G_whole_scaled GD_formed
  have G_put_together := am1 (P := l.prog) (w := w) (base := base) d_put_together GD_lifted G_form_sum G_form_times G_lowered c_ONE t_ONE n_reversed
  have GD_form_divided := aj0 (P := l.prog) (w := w) (base := base) d_form_divided G_whole_divided G_over GD_formed
  have G_poly := bf9 (P := l.prog) (w := w) (base := base) d_poly c_NOUGHT t_NOUGHT n_len
  have G_by_turns := aH4 (P := l.prog) (w := w) (base := base) d_by_turns G_poly c_NOUGHT t_NOUGHT n_len n_enumerate
  have G__law_low := aH6 (P := l.prog) (w := w) (base := base) d__law_low n_abs
  have G__law_urn := aH5 (P := l.prog) (w := w) (base := base) d__law_urn n_len n_abs
  have G__law_draw := aC6 (P := l.prog) (w := w) (base := base) d__law_draw
  have G__law_kind := aC5 (P := l.prog) (w := w) (base := base) d__law_kind G__law_draw
  have G__law_whole := av2 (P := l.prog) (w := w) (base := base) d__law_whole n_isinstance n_int n_bool
  have G__law_is_number := ag1 (P := l.prog) (w := w) (base := base) d__law_is_number G__law_whole G__law_low n_isinstance n_tuple n_len
  have G__law_trim := aC2 (P := l.prog) (w := w) (base := base) d__law_trim n_list
  have G__law_is_poly := am2 (P := l.prog) (w := w) (base := base) d__law_is_poly G__law_is_number G__law_trim n_isinstance n_list n_all
  have G__law_plus := aC4 (P := l.prog) (w := w) (base := base) d__law_plus G__law_low
  have G__law_times := av4 (P := l.prog) (w := w) (base := base) d__law_times G__law_low
  have G__law_poly_plus := ag0 (P := l.prog) (w := w) (base := base) d__law_poly_plus G__law_plus G__law_trim n_range n_max n_len
  have G__law_poly_times := ad5 (P := l.prog) (w := w) (base := base) d__law_poly_times G__law_plus G__law_times G__law_trim n_len n_enumerate
  have G__law_folded := ar4 (P := l.prog) (w := w) (base := base) d__law_folded G__law_poly_plus G__law_poly_times n_reversed
  have G_division_forms := af8 (P := l.prog) (w := w) (base := base) d_division_forms G_by_turns GD_lifted GD_form_divided
  have G_divisions := aC1 (P := l.prog) (w := w) (base := base) d_divisions G_division_forms G_lowered
  have G_is_whole := aH2 (P := l.prog) (w := w) (base := base) d_is_whole n_isinstance n_int n_bool
  have G_is_number := aB9 (P := l.prog) (w := w) (base := base) d_is_number G_is_whole G_common_divisor n_isinstance n_tuple n_len
  have G_is_polynomial := ai8 (P := l.prog) (w := w) (base := base) d_is_polynomial G_is_number c_NOUGHT t_NOUGHT n_isinstance n_list n_all
  have G_has_alone := aC0 (P := l.prog) (w := w) (base := base) d_has_alone c_NOUGHT t_NOUGHT n_all
  have G_is_row := aS0 (P := l.prog) (w := w) (base := base) d_is_row G_is_polynomial G_has_alone c_HIGHEST n_isinstance n_list n_all n_sum n_len
  have G__law_which := av3 (P := l.prog) (w := w) (base := base) d__law_which XX n_isinstance n_ValueError
  have G_undivided := aB8 (P := l.prog) (w := w) (base := base) d_undivided G_is_row G_put_together X_NoRow
  have G__law_said := aC3 (P := l.prog) (w := w) (base := base) d__law_said G_undivided G__law_which X_RestError
  have GD__law_number := am3 (P := l.prog) (w := w) (base := base) d__law_number G__law_draw G__law_low n_int
  have GD__law_other := ar5 (P := l.prog) (w := w) (base := base) d__law_other G__law_draw GD__law_number
  have G__law_sparse := ar3 (P := l.prog) (w := w) (base := base) d__law_sparse G__law_draw GD__law_number GD__law_other n_range
  have G__law_division_row := Z6 (P := l.prog) (w := w) (base := base) d__law_division_row G__law_draw G__law_sparse n_range n_len
  have G__law_right := av5 (P := l.prog) (w := w) (base := base) d__law_right G__law_draw G__law_kind G__law_division_row G__law_folded G__law_said G__law_is_poly G_divisions n_list n_len
  exact bm8 (P := l.prog) (w := w) (base := base) F_law G__law_urn G__law_right n_range n_max n_min n_len
end
theorem bs0 {l : PySem.W.OpenLaw} {q : Program} {loose : List Str} {XP : (Str → Option Value) → Heap → Prop} {YP : World → Heap → Prop} {d : DefRec} {K : Params → PySem.W.Frag} (hn : l.most = some 63) (hdf : d.params.defaults = [])
    (hY : ∀ (w : World) (h : Heap), YP w h → (K w.params).In h)
    (F : ∀ (w : World) (mg : Str → Option Value) (fa : Addr) (h : Heap), (K w.params).In h → h.Ns mainGlobals mg → mg d.name = some (.ref fa) →
      ∃ fd : FuncData, (∀ (s : Shared) (u : Value), BindsTo s fd ⟨[u], []⟩ [("_law_script", u)]) ∧ ∀ base : Heap, (K w.params).In base → base.Ns mainGlobals mg → aa6 l.prog w (K w.params) mg base CX0 (8 + 1) fa fd ["_law_script"] (aN6 (K w.params))) :
    PySem.W.WalkO q loose XP YP l.row.toRowW d [] (fun f vs => PySem.call f vs) :=
  L2.aN1 (n := 63) (k := (8 + 1)) (x := "_law_script") (CX := fun _ => CX0) (sp := fun w => aN6 (K w.params)) hn (by decide) hdf ⟨rfl, by decide, by decide⟩ hY F (fun _ _ a ns hl _ hS => ⟨a, ns, rfl, hS, hl, fun _ => rfl⟩) fun _ _ _ _ _ z => z
end R
open PySem PySem.W PyProof.Rows
set_option maxRecDepth 100000 in
set_option maxHeartbeats 0 in
theorem PySem.Challenge.cw_restward_k14_divisions_undone_holds : PySem.Challenge.rw_restward_k14_divisions_undone.Holds := by
  w_on; o_law; k_head; (case hw => w_witness2)
  k_fill
  refine R.bs0 (l := PySem.Challenge.rw_restward_k14_divisions_undone) rfl rfl (fun w h Y => PySem.W.kIn_of Y) ?F
  case F =>
    intro w mg fa h KX G hmg
    refine' R.bo5 KX G hmg ?a0 ?l0 ?c0 ?k0 ?a1 ?l1 ?c1 ?k1 ?a2 ?l2 ?c2 ?k2 ?a3 ?l3 ?c3 ?k3 ?a4 ?l4 ?c4 ?k4 ?a5 ?l5 ?c5 ?k5 ?a6 ?l6 ?c6 ?k6 ?a7 ?l7 ?c7 ?k7 ?a8 ?l8 ?c8 ?k8 ?a9 ?l9 ?c9 ?k9 ?a10 ?l10 ?c10 ?k10 ?a11 ?l11 ?c11 ?k11 ?a12 ?l12 ?c12 ?k12 ?a13 ?l13 ?c13 ?k13 ?a14 ?l14 ?c14 ?k14 ?a15 ?l15 ?c15 ?k15 ?a16 ?l16 ?c16 ?k16 ?a17 ?l17 ?c17 ?k17 ?a18 ?l18 ?c18 ?k18 ?a19 ?l19 ?c19 ?k19 ?a20 ?l20 ?c20 ?k20 ?a21 ?l21 ?c21 ?k21 ?a22 ?l22 ?c22 ?k22 ?a23 ?l23 ?c23 ?k23 ?a24 ?l24 ?c24 ?k24 ?a25 ?l25 ?c25 ?k25 ?a26 ?l26 ?c26 ?k26 ?a27 ?l27 ?c27 ?k27 ?a28 ?l28 ?c28 ?k28 ?a29 ?l29 ?c29 ?k29 ?a30 ?l30 ?c30 ?k30 ?a31 ?l31 ?c31 ?k31 ?a32 ?l32 ?c32 ?k32 ?a33 ?l33 ?c33 ?k33 ?a34 ?l34 ?c34 ?k34 ?a35 ?l35 ?c35 ?k35 ?a36 ?l36 ?c36 ?k36 ?a37 ?l37 ?c37 ?k37 ?a38 ?l38 ?c38 ?k38 ?a39 ?l39 ?c39 ?k39 ?a40 ?l40 ?c40 ?k40 ?a41 ?l41 ?c41 ?k41 ?a42 ?l42 ?c42 ?k42 ?a43 ?l43 ?c43 ?k43 ?a44 ?l44 ?c44 ?k44 ?a45 ?l45 ?c45 ?k45 ?a46 ?l46 ?c46 ?k46 ?a47 ?l47 ?c47 ?k47 ?a48 ?l48 ?c48 ?k48 ?z_ValueError ?z_abs ?z_all ?z_bool ?z_enumerate ?z_int ?z_isinstance ?z_len ?z_list ?z_max ?z_min ?z_range ?z_reversed ?z_sum ?z_tuple ?y_SHORT ?y_LONG ?y_HIGHEST ?y_ONE ?u_ONE ?y_NOUGHT ?u_NOUGHT ?m_NoFraction ?x_NoFraction ?e_NoFraction ?m_NoPolynomial ?x_NoPolynomial ?e_NoPolynomial ?m_NoStretch ?x_NoStretch ?e_NoStretch ?m_NoRow ?x_NoRow ?e_NoRow ?m_NoPair ?x_NoPair ?e_NoPair ?m_NoBack ?x_NoBack ?e_NoBack ?m_NoForm ?x_NoForm ?e_NoForm ?m_NoParts ?x_NoParts ?e_NoParts ?m_NoDegree ?x_NoDegree ?e_NoDegree ?m_NoSteps ?x_NoSteps ?e_NoSteps ?m_NoBox ?x_NoBox ?e_NoBox ?m_NoGain ?x_NoGain ?e_NoGain ?m_NoText ?x_NoText ?e_NoText ?m_NoLine ?x_NoLine ?e_NoLine ?m_NoName ?x_NoName ?e_NoName ?m_NoDeed ?x_NoDeed ?e_NoDeed ?m_RestError ?x_RestError ?e_RestError
    (case a0 => k_is); (case l0 => k_is); (case c0 => k_is); (case k0 => k_is)
    (case a1 => k_is); (case l1 => k_is); (case c1 => k_is); (case k1 => k_is)
    (case a2 => k_is); (case l2 => k_is); (case c2 => k_is); (case k2 => k_is)
    (case a3 => k_is); (case l3 => k_is); (case c3 => k_is); (case k3 => k_is)
    (case a4 => k_is); (case l4 => k_is); (case c4 => k_is); (case k4 => k_is)
    (case a5 => k_is); (case l5 => k_is); (case c5 => k_is); (case k5 => k_is)
    (case a6 => k_is); (case l6 => k_is); (case c6 => k_is); (case k6 => k_is)
    (case a7 => k_is); (case l7 => k_is); (case c7 => k_is); (case k7 => k_is)
    (case a8 => k_is); (case l8 => k_is); (case c8 => k_is); (case k8 => k_is)
    (case a9 => k_is); (case l9 => k_is); (case c9 => k_is); (case k9 => k_is)
    (case a10 => k_is); (case l10 => k_is); (case c10 => k_is); (case k10 => k_is)
    (case a11 => k_is); (case l11 => k_is); (case c11 => k_is); (case k11 => k_is)
    (case a12 => k_is); (case l12 => k_is); (case c12 => k_is); (case k12 => k_is)
    (case a13 => k_is); (case l13 => k_is); (case c13 => k_is); (case k13 => k_is)
    (case a14 => k_is); (case l14 => k_is); (case c14 => k_is); (case k14 => k_is)
    (case a15 => k_is); (case l15 => k_is); (case c15 => k_is); (case k15 => k_is)
    (case a16 => k_is); (case l16 => k_is); (case c16 => k_is); (case k16 => k_is)
    (case a17 => k_is); (case l17 => k_is); (case c17 => k_is); (case k17 => k_is)
    (case a18 => k_is); (case l18 => k_is); (case c18 => k_is); (case k18 => k_is)
    (case a19 => k_is); (case l19 => k_is); (case c19 => k_is); (case k19 => k_is)
    (case a20 => k_is); (case l20 => k_is); (case c20 => k_is); (case k20 => k_is)
    (case a21 => k_is); (case l21 => k_is); (case c21 => k_is); (case k21 => k_is)
    (case a22 => k_is); (case l22 => k_is); (case c22 => k_is); (case k22 => k_is)
    (case a23 => k_is); (case l23 => k_is); (case c23 => k_is); (case k23 => k_is)
    (case a24 => k_is); (case l24 => k_is); (case c24 => k_is); (case k24 => k_is)
    (case a25 => k_is); (case l25 => k_is); (case c25 => k_is); (case k25 => k_is)
    (case a26 => k_is); (case l26 => k_is); (case c26 => k_is); (case k26 => k_is)
    (case a27 => k_is); (case l27 => k_is); (case c27 => k_is); (case k27 => k_is)
    (case a28 => k_is); (case l28 => k_is); (case c28 => k_is); (case k28 => k_is)
    (case a29 => k_is); (case l29 => k_is); (case c29 => k_is); (case k29 => k_is)
    (case a30 => k_is); (case l30 => k_is); (case c30 => k_is); (case k30 => k_is)
    (case a31 => k_is); (case l31 => k_is); (case c31 => k_is); (case k31 => k_is)
    (case a32 => k_is); (case l32 => k_is); (case c32 => k_is); (case k32 => k_is)
    (case a33 => k_is); (case l33 => k_is); (case c33 => k_is); (case k33 => k_is)
    (case a34 => k_is); (case l34 => k_is); (case c34 => k_is); (case k34 => k_is)
    (case a35 => k_is); (case l35 => k_is); (case c35 => k_is); (case k35 => k_is)
    (case a36 => k_is); (case l36 => k_is); (case c36 => k_is); (case k36 => k_is)
    (case a37 => k_is); (case l37 => k_is); (case c37 => k_is); (case k37 => k_is)
    (case a38 => k_is); (case l38 => k_is); (case c38 => k_is); (case k38 => k_is)
    (case a39 => k_is); (case l39 => k_is); (case c39 => k_is); (case k39 => k_is)
    (case a40 => k_is); (case l40 => k_is); (case c40 => k_is); (case k40 => k_is)
    (case a41 => k_is); (case l41 => k_is); (case c41 => k_is); (case k41 => k_is)
    (case a42 => k_is); (case l42 => k_is); (case c42 => k_is); (case k42 => k_is)
    (case a43 => k_is); (case l43 => k_is); (case c43 => k_is); (case k43 => k_is)
    (case a44 => k_is); (case l44 => k_is); (case c44 => k_is); (case k44 => k_is)
    (case a45 => k_is); (case l45 => k_is); (case c45 => k_is); (case k45 => k_is)
    (case a46 => k_is); (case l46 => k_is); (case c46 => k_is); (case k46 => k_is)
    (case a47 => k_is); (case l47 => k_is); (case c47 => k_is); (case k47 => k_is)
    (case a48 => k_is); (case l48 => k_is); (case c48 => k_is); (case k48 => k_is)
    (case z_ValueError => k_is)
    (case z_abs => k_is)
    (case z_all => k_is)
    (case z_bool => k_is)
    (case z_enumerate => k_is)
    (case z_int => k_is)
    (case z_isinstance => k_is)
    (case z_len => k_is)
    (case z_list => k_is)
    (case z_max => k_is)
    (case z_min => k_is)
    (case z_range => k_is)
    (case z_reversed => k_is)
    (case z_sum => k_is)
    (case z_tuple => k_is)
    (case y_SHORT => k_is)
    (case y_LONG => k_is)
    (case y_HIGHEST => k_is)
    (case y_ONE => k_is); (case u_ONE => k_is)
    (case y_NOUGHT => k_is); (case u_NOUGHT => k_is)
    (case m_NoFraction => k_is); (case x_NoFraction => k_exc); (case e_NoFraction => (refine ⟨?_, ?_, ?_, ?_, ?_, ?_⟩ <;> first | k_is | kernel_rfl))
    (case m_NoPolynomial => k_is); (case x_NoPolynomial => k_exc); (case e_NoPolynomial => (refine ⟨?_, ?_, ?_, ?_, ?_, ?_⟩ <;> first | k_is | kernel_rfl))
    (case m_NoStretch => k_is); (case x_NoStretch => k_exc); (case e_NoStretch => (refine ⟨?_, ?_, ?_, ?_, ?_, ?_⟩ <;> first | k_is | kernel_rfl))
    (case m_NoRow => k_is); (case x_NoRow => k_exc); (case e_NoRow => (refine ⟨?_, ?_, ?_, ?_, ?_, ?_⟩ <;> first | k_is | kernel_rfl))
    (case m_NoPair => k_is); (case x_NoPair => k_exc); (case e_NoPair => (refine ⟨?_, ?_, ?_, ?_, ?_, ?_⟩ <;> first | k_is | kernel_rfl))
    (case m_NoBack => k_is); (case x_NoBack => k_exc); (case e_NoBack => (refine ⟨?_, ?_, ?_, ?_, ?_, ?_⟩ <;> first | k_is | kernel_rfl))
    (case m_NoForm => k_is); (case x_NoForm => k_exc); (case e_NoForm => (refine ⟨?_, ?_, ?_, ?_, ?_, ?_⟩ <;> first | k_is | kernel_rfl))
    (case m_NoParts => k_is); (case x_NoParts => k_exc); (case e_NoParts => (refine ⟨?_, ?_, ?_, ?_, ?_, ?_⟩ <;> first | k_is | kernel_rfl))
    (case m_NoDegree => k_is); (case x_NoDegree => k_exc); (case e_NoDegree => (refine ⟨?_, ?_, ?_, ?_, ?_, ?_⟩ <;> first | k_is | kernel_rfl))
    (case m_NoSteps => k_is); (case x_NoSteps => k_exc); (case e_NoSteps => (refine ⟨?_, ?_, ?_, ?_, ?_, ?_⟩ <;> first | k_is | kernel_rfl))
    (case m_NoBox => k_is); (case x_NoBox => k_exc); (case e_NoBox => (refine ⟨?_, ?_, ?_, ?_, ?_, ?_⟩ <;> first | k_is | kernel_rfl))
    (case m_NoGain => k_is); (case x_NoGain => k_exc); (case e_NoGain => (refine ⟨?_, ?_, ?_, ?_, ?_, ?_⟩ <;> first | k_is | kernel_rfl))
    (case m_NoText => k_is); (case x_NoText => k_exc); (case e_NoText => (refine ⟨?_, ?_, ?_, ?_, ?_, ?_⟩ <;> first | k_is | kernel_rfl))
    (case m_NoLine => k_is); (case x_NoLine => k_exc); (case e_NoLine => (refine ⟨?_, ?_, ?_, ?_, ?_, ?_⟩ <;> first | k_is | kernel_rfl))
    (case m_NoName => k_is); (case x_NoName => k_exc); (case e_NoName => (refine ⟨?_, ?_, ?_, ?_, ?_, ?_⟩ <;> first | k_is | kernel_rfl))
    (case m_NoDeed => k_is); (case x_NoDeed => k_exc); (case e_NoDeed => (refine ⟨?_, ?_, ?_, ?_, ?_, ?_⟩ <;> first | k_is | kernel_rfl))
    (case m_RestError => k_is); (case x_RestError => k_exc); (case e_RestError => (refine ⟨?_, ?_, ?_, ?_, ?_, ?_⟩ <;> first | k_is | kernel_rfl))
