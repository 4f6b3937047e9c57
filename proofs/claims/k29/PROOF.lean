import PyProof.Rows.All
import Wide.All
import OpenK.AllK
import Wide.FinOn
import PyProof.EqAt
import PyProof.EqKinds
import PyProof.TupleCall
import KE.KTryMore
import KE.KIsNot
import PyProof.MeetsStr
import PyProof.Rows.RuleM_int
import PyProof.CompFree
import PyProof.WalksEnum
import PyProof.EnumMake
import PyProof.NeKinds
import PyProof.ConsumeWalk
import PyProof.CompMap
import PyProof.Rows.EqBoolInt
import KE.IntBitsLaws
import PyProof.ZipIter
import PyProof.Rows.ZipGen
import PyProof.MinMaxWalk
import PyProof.WalkInts
import PyProof.Rows.CallKwBuiltin
import PyProof.CompUse
import KE.KRevIter
import PyProof.Rows.Range3
import PyProof.NsDelKeeps
import PyProof.SumAny
import PyProof.TupleIter
import PyProof.WalksMore
import PyProof.ListRange
import PyProof.CollectStr
import PyProof.TupleOfStr
import PySem.Challenge.RW_restward_k29_whole_leads_and_dying
set_option Elab.async false
set_option linter.all false
-- CHANGE: your row's module here, as the last of these rows
set_option maxRecDepth 100000
namespace L2
open PySem PySem.Spec PyProof.Rows
abbrev Key := Sum Int Str
def bf6 : Key → Value → Bool
  | .inl k, v => Value.isInt k v
  | .inr x, v => Value.isStrOf x v
def bp8 (w : World) : Key → Int
  | .inl k => hashInt k
  | .inr x => hashStr w x
theorem E5 : ∀ {k : Key} {v : Value}, bf6 k v = true → (∃ i t, k = Sum.inl i ∧ v = Value.int i t) ∨ (∃ x t, k = Sum.inr x ∧ v = Value.str x t)
  | .inl i, v, h => by
    obtain ⟨t, e⟩ := Value.isInt_shape (k := i) (v := v) h
    exact .inl ⟨i, t, rfl, e⟩
  | .inr x, v, h => by
    obtain ⟨t, e⟩ := Value.isStrOf_shape (x := x) (v := v) h
    exact .inr ⟨x, t, rfl, e⟩
theorem bk8 (a b : Int) : decide ((Sum.inl a : Key) = Sum.inl b) = (a == b) := by
  by_cases e : a = b
  · subst e; simp
  · have h : ¬ (Sum.inl a : Key) = Sum.inl b := fun q => e (Sum.inl.inj q)
    rw [decide_eq_false h]
    exact (beq_eq_false_iff_ne.mpr e).symm
theorem bk5 (a b : Str) : decide ((Sum.inr a : Key) = Sum.inr b) = decide (a = b) := by
  by_cases e : a = b
  · subst e; simp
  · have h : ¬ (Sum.inr a : Key) = Sum.inr b := fun q => e (Sum.inr.inj q)
    rw [decide_eq_false h, decide_eq_false e]
theorem bk7 (a : Int) (b : Str) : decide ((Sum.inl a : Key) = Sum.inr b) = false := decide_eq_false (fun q => nomatch q)
theorem bk6 (a : Str) (b : Int) : decide ((Sum.inr a : Key) = Sum.inl b) = false := decide_eq_false (fun q => nomatch q)
def aA6 (prog : Program) (w : World) : PySem.KeyKind prog w Key where
  is := bf6
  hash := bp8 w
  inj := fun v a b ha hb => by
    rcases E5 ha with ⟨i, t, rfl, rfl⟩ | ⟨x, t, rfl, rfl⟩
    · rcases E5 hb with ⟨j, u, rfl, e⟩ | ⟨y, u, rfl, e⟩
      · injection e with e1 _; rw [e1]
      · exact nomatch e
    · rcases E5 hb with ⟨j, u, rfl, e⟩ | ⟨y, u, rfl, e⟩
      · exact nomatch e
      · injection e with e1 _; rw [e1]
  byValue := fun k v h => by
    rcases E5 h with ⟨i, t, rfl, rfl⟩ | ⟨x, t, rfl, rfl⟩ <;> rfl
  pyHash := fun hv h => by
    rcases E5 hv with ⟨i, t, rfl, rfl⟩ | ⟨x, t, rfl, rfl⟩
    · exact wpAny_pyHash_int h
    · exact wpAny_pyHash_str h
  eqBool := fun hu hv h => by
    rcases E5 hu with ⟨i, t, rfl, rfl⟩ | ⟨x, t, rfl, rfl⟩
    · rcases E5 hv with ⟨j, u, rfl, rfl⟩ | ⟨y, u, rfl, rfl⟩
      · rw [bk8] at h; exact wpAny_eqBool_int h
      · rw [bk7] at h; exact SeqAt.EqAt.int_str i t y u _ _ _ _ h
    · rcases E5 hv with ⟨j, u, rfl, rfl⟩ | ⟨y, u, rfl, rfl⟩
      · rw [bk6] at h; exact SeqAt.EqAt.str_int x t j u _ _ _ _ h
      · rw [bk5] at h; exact wpAny_eqBool_str h
  «strs» := fun k x t v h => by
    rcases E5 h with ⟨i, u, rfl, e⟩ | ⟨y, u, rfl, e⟩
    · exact nomatch e
    · injection e with e1 _
      subst e1
      cases v <;> rfl
inductive V where
  | non | bl (b : Bool) | int (i : Int) | str (x : Str) | byt (b : Array UInt8) | flt (b : UInt64) | ref (a : Addr) | ty (n : String)
  deriving DecidableEq
def C8 : V → Value → Prop
  | .non, u => u = Value.none
  | .bl b, u => u = Value.bool b
  | .int i, u => ∃ t, u = Value.int i t
  | .str x, u => ∃ t, u = Value.str x t
  | .byt b, u => ∃ t, u = Value.bytes b t
  | .flt b, u => ∃ t, u = Value.float b t
  | .ref a, u => u = Value.ref a
  | .ty n, u => u = Value.type n
abbrev t3 : List V → List Value → Prop := Paired C8
theorem t3.length {xs : List V} {us : List Value} (r : t3 xs us) : xs.length = us.length := Paired.length r
theorem t3.get : ∀ {xs : List V} {us : List Value} {i : Nat} {x : V}, t3 xs us → xs[i]? = some x → ∃ u, us[i]? = some u ∧ C8 x u
  | _, _, _, _, .nil, e => by simp at e
  | _, _, 0, _, .cons r _, e => by simp at e; subst e; exact ⟨_, rfl, r⟩
  | _, _, i + 1, x, .cons _ t, e => by
    obtain ⟨u, h1, h2⟩ := t3.get (i := i) (x := x) t (by simpa using e)
    exact ⟨u, by simpa using h1, h2⟩
theorem t3.set {x : V} {u : Value} (r : C8 x u) : ∀ {xs : List V} {us : List Value} (i : Nat), t3 xs us → t3 (xs.set i x) (us.set i u)
  | _, _, _, .nil => .nil
  | _, _, 0, .cons _ t => .cons r t
  | _, _, i + 1, .cons q t => .cons q (t3.set r i t)
theorem t3.append : ∀ {xs ys : List V} {us ws : List Value}, t3 xs us → t3 ys ws → t3 (xs ++ ys) (us ++ ws)
  | _, _, _, _, .nil, s => s
  | _, _, _, _, .cons r t, s => .cons r (t3.append t s)
theorem t3.take : ∀ {xs : List V} {us : List Value} (n : Nat), t3 xs us → t3 (xs.take n) (us.take n)
  | _, _, 0, _ => .nil
  | _, _, _ + 1, .nil => .nil
  | _, _, n + 1, .cons r t => .cons r (t3.take n t)
theorem t3.drop : ∀ {xs : List V} {us : List Value} (n : Nat), t3 xs us → t3 (xs.drop n) (us.drop n)
  | _, _, 0, r => r
  | _, _, _ + 1, .nil => .nil
  | _, _, n + 1, .cons _ t => t3.drop n t
theorem t3.none_of : ∀ {xs : List V} {us : List Value} {i : Nat}, t3 xs us → xs[i]? = none → us[i]? = none := fun {xs us i} r e => by
  have h1 := r.length
  have h2 : xs.length ≤ i := List.getElem?_eq_none_iff.mp e
  exact List.getElem?_eq_none_iff.mpr (by omega)
def bm5 : Option V → Option Value → Prop
  | some v, some u => C8 v u
  | none, none => True
  | _, _ => False
def KV {κ : Type} : List (κ × V) → List (κ × Value) → Prop := Paired fun (p : κ × V) (q : κ × Value) => p.1 = q.1 ∧ C8 p.2 q.2
def kV : Key → V
  | .inl i => .int i
  | .inr x => .str x
inductive HO where
  /-- a list -/
  | lst (xs : List V)
  /-- a tuple (never changes) -/
  | tup (xs : List V)
  /-- a dict whose keys are ints and texts; one whose keys are tuples of ints and texts (the empty one is both) -/
  | dK (kvs : List (Key × V)) | dT (kvs : List (List Key × V))
  /-- a set of ints: its members, its size -/
  | set (S : Int → Bool) (n : Nat)
  /-- an instance of the class at C, its dict at dx, its attributes -/
  | ins (C dx : Addr) (fs : List (Str × V))
  /-- the dict of the instance at x -/
  | own (x : Addr)
  /-- the dict of an exception -/
  | xd (fs : List (Str × V))
  /-- a bound method, f of x -/
  | met (f x : Addr)
  /-- a range object lo, lo + 1, .. ab2 hi -/
  | rng (lo hi : Int)
  /-- a thing that is known to the object (the script; a dict while a loop walks it): read, never written while it is so -/
  | frz (o : Obj) (u : HO)
  /-- a code object's table -/
  | tbl (ps : Array Value)
  /-- any other thing, by what is true of its one object (a def of one's own: SetO a S n := HO.ext fun h => ..) -/
  | ext (φ : Heap → Prop)
abbrev Hp := Addr → Option HO
def upd (H : Hp) (a : Addr) (o : HO) : Hp := fun b => if b = a then some o else H b
theorem d6 {H : Hp} {a : Addr} {o : HO} : upd H a o a = some o := by unfold upd; rw [if_pos rfl]
theorem j5 {H : Hp} {a b : Addr} {o : HO} (h : b ≠ a) : upd H a o b = H b := by unfold upd; rw [if_neg h]
theorem bf5 {H : Hp} {a b : Addr} {o u : HO} (h : H a = some o) (h' : H b = some u) (d : o ≠ u) : a ≠ b := by
  intro e; subst e; rw [h] at h'; exact d (Option.some.inj h')
theorem m9 {H : Hp} {a b : Addr} {o : HO} (h : H a = some o) (h' : H b = none) : a ≠ b := by
  intro e; subst e; rw [h] at h'; cases h'
section
variable (P : Program) (w : World)
def J5 (H : Hp) (h : Heap) (a : Addr) : HO → Prop
  | .lst xs => xs.length ≤ sizeLine ∧ ∃ (its : List Value) (n : Nat), t3 xs its ∧ h.get? a = some { cls := .type "list", data := .seq its.toArray n }
  | .tup xs => xs.length ≤ sizeLine ∧ ∃ its : List Value, t3 xs its ∧ IsTup h a its.toArray
  | .dK kvs => kvs.length ≤ sizeLine ∧ (a == sysModules) = false ∧ ∃ vs, KV kvs vs ∧ h.DictOf (aA6 P w) a vs
  | .dT kvs => kvs.length ≤ sizeLine ∧ (a == sysModules) = false ∧ ∃ xs : List (List Key × Addr × Value),
      Paired (fun (p : List Key × V) (q : List Key × Addr × Value) => p.1 = q.1 ∧ H q.2.1 = some (.tup (p.1.map kV)) ∧ C8 p.2 q.2.2) kvs xs ∧
      ∃ o es ep, h.get? a = some o ∧ o.ExactDict ∧ o.data = .dict es ep ∧ es.toList = xs.map (entryOfKey (tupleKind (aA6 P w))) ∧ (xs.map (·.1)).Nodup
  | .set S n => h.SetOf (intKind P w) a S n
  | .ins C dx fs => H dx = some (.own a) ∧ fs.length ≤ 1000 ∧ dx ≠ a ∧ h.get? a = some (PySem.W.instObj C dx) ∧
      ∃ mA, h.Ns1 dx mA ∧ (∀ f, bm5 (fs.lookup f) (mA f)) ∧ PySem.Within mA (fs.map (·.1))
  | .own _ => ∃ o, h.get? a = some o
  | .xd fs => ∃ mA, h.Ns1 a mA ∧ ∀ f, bm5 (fs.lookup f) (mA f)
  | .rng lo hi => ∃ t u v, h.get? a = some { cls := .type "range", data := .fields #[.int lo t, .int hi u, .int 1 v] }
  | .frz o u => h.get? a = some o ∧ J5 H h a u
  | .tbl ps => h.get? a = some { cls := .none, data := .fields ps }
  | .met f x => h.get? a = some (PySem.W.methodObj (.ref f) (.ref x))
  | .ext φ => φ h ∧ (∃ o, h.get? a = some o) ∧ ∀ h1 h2 : Heap, φ h1 → (∀ o, h1.get? a = some o → h2.get? a = some o) → φ h2
def HOk (H : Hp) (h : Heap) : Prop := ∀ a o, H a = some o → J5 P w H h a o
end
section
variable {P : Program} {w : World} {H H' : Hp} {h h' : Heap} {a : Addr} {o : HO}
theorem J5.lt (x : J5 P w H h a o) : a < h.objs.size := by
  cases o with
  | lst xs => obtain ⟨_, _, _, _, e⟩ := x; exact Heap.lt_size e
  | tup xs => obtain ⟨_, _, _, p⟩ := x; exact p.lt
  | dK kvs => obtain ⟨_, _, _, _, o, _, _, e, _⟩ := x; exact Heap.lt_size e
  | dT kvs => obtain ⟨_, _, _, _, o, _, _, e, _⟩ := x; exact Heap.lt_size e
  | set S n => obtain ⟨o, _, _, _, e, _⟩ := x; exact Heap.lt_size e
  | ins C dx fs => obtain ⟨_, _, _, e, _⟩ := x; exact Heap.lt_size e
  | own y => obtain ⟨_, e⟩ := x; exact Heap.lt_size e
  | xd fs => obtain ⟨_, ⟨_, _, _, e, _⟩, _⟩ := x; exact Heap.lt_size e
  | rng lo hi => obtain ⟨_, _, _, e⟩ := x; exact Heap.lt_size e
  | frz ob u => obtain ⟨e, _⟩ := x; exact Heap.lt_size e
  | tbl ps => exact Heap.lt_size (show h.get? a = some _ from x)
  | met f y => exact Heap.lt_size (show h.get? a = some _ from x)
  | ext φ => obtain ⟨_, ⟨_, e⟩, _⟩ := x; exact Heap.lt_size e
theorem Paired.mapP {α β : Type} {F G : α → β → Prop} : ∀ {l₁ : List α} {l₂ : List β}, Paired F l₁ l₂ → (∀ a b, F a b → G a b) → Paired G l₁ l₂
  | _, _, .nil, _ => .nil
  | _, _, .cons r t, f => .cons (f _ _ r) (Paired.mapP t f)
theorem J5.stay (x : J5 P w H h a o) (k : ∀ b u, (b = a ∨ H b = some (.own a)) → h.get? b = some u → h'.get? b = some u)
    (ho : ∀ b, H b = some (.own a) → H' b = some (.own a)) (ht : ∀ b xs, H b = some (.tup xs) → H' b = some (.tup xs)) : J5 P w H' h' a o := by
  induction o with
  | lst xs => obtain ⟨z, its, n, r, e⟩ := x; exact ⟨z, its, n, r, k _ _ (.inl rfl) e⟩
  | tup xs => obtain ⟨z, its, r, ob, e, c⟩ := x; exact ⟨z, its, r, ob, k _ _ (.inl rfl) e, c⟩
  | dK kvs => obtain ⟨z, y, vs, r, ob, es, ep, e, c⟩ := x; exact ⟨z, y, vs, r, ob, es, ep, k _ _ (.inl rfl) e, c⟩
  | dT kvs =>
    obtain ⟨z, y, xs, r, ob, es, ep, e, c⟩ := x
    exact ⟨z, y, xs, Paired.mapP r fun p q z => ⟨z.1, ht _ _ z.2.1, z.2.2⟩, ob, es, ep, k _ _ (.inl rfl) e, c⟩
  | set S n => obtain ⟨ob, es, ep, t, e, c⟩ := x; exact ⟨ob, es, ep, t, k _ _ (.inl rfl) e, c⟩
  | ins C dx fs =>
    obtain ⟨d, z, ne, e, mA, ⟨od, es, ep, e2, c⟩, r⟩ := x
    exact ⟨ho _ d, z, ne, k _ _ (.inl rfl) e, mA, ⟨od, es, ep, k _ _ (.inr d) e2, c⟩, r⟩
  | own y => obtain ⟨ob, e⟩ := x; exact ⟨ob, k _ _ (.inl rfl) e⟩
  | xd fs => obtain ⟨mA, ⟨od, es, ep, e, c⟩, r⟩ := x; exact ⟨mA, ⟨od, es, ep, k _ _ (.inl rfl) e, c⟩, r⟩
  | rng lo hi => obtain ⟨t, u, v, e⟩ := x; exact ⟨t, u, v, k _ _ (.inl rfl) e⟩
  | frz ob u ih => obtain ⟨e, q⟩ := x; exact ⟨k _ _ (.inl rfl) e, ih q⟩
  | tbl ps =>
    have e : h.get? a = some { cls := .none, data := .fields ps } := x
    show h'.get? a = some { cls := .none, data := .fields ps }
    exact k a _ (.inl rfl) e
  | met f y =>
    have e : h.get? a = some (PySem.W.methodObj (.ref f) (.ref y)) := x
    show h'.get? a = some (PySem.W.methodObj (.ref f) (.ref y))
    exact k a _ (.inl rfl) e
  | ext φ => obtain ⟨p, ⟨o, e⟩, st⟩ := x; exact ⟨st _ _ p fun o q => k _ _ (.inl rfl) q, ⟨o, k _ _ (.inl rfl) e⟩, st⟩
theorem HOk.lt (x : HOk P w H h) (e : H a = some o) : a < h.objs.size := (x a o e).lt
theorem HOk.fresh (x : HOk P w H h) (e : h.objs.size ≤ a) : H a = none := by
  cases q : H a with
  | none => rfl
  | some u => exact absurd (Nat.lt_of_lt_of_le (x.lt q) e) (Nat.lt_irrefl _)
theorem HOk.kept (x : HOk P w H h) (k : ∀ b u, h.get? b = some u → h'.get? b = some u) : HOk P w H h' := fun a o e =>
  (x a o e).stay (fun b u _ q => k b u q) (fun _ q => q) fun _ _ q => q
theorem HOk.laid (x : HOk P w H h) (k : ∀ b u, h.get? b = some u → h'.get? b = some u) (hp : h.objs.size ≤ a) (new : J5 P w (upd H a o) h' a o) : HOk P w (upd H a o) h' := fun b u e => by
  have hn := x.fresh hp
  by_cases hb : b = a
  · subst hb; rw [d6] at e; cases e; exact new
  · rw [j5 hb] at e
    exact (x b u e).stay (fun c v _ q => k c v q) (fun c q => by rw [j5 (m9 q hn)]; exact q) fun c xs q => by rw [j5 (m9 q hn)]; exact q
end
def Rd (H : Hp) (a : Addr) (u : HO) : Prop := H a = some u ∨ ∃ o, H a = some (.frz o u)
theorem Rd.ok {P : Program} {w : World} {H : Hp} {h : Heap} {a : Addr} {u : HO} (r : Rd H a u) (x : HOk P w H h) : J5 P w H h a u := by
  rcases r with r | ⟨o, r⟩
  · exact x a u r
  · obtain ⟨_, q⟩ := x a _ r
    exact q
def Mut : Option HO → Prop
  | some (.lst _) => True
  | some (.dK _) => True
  | some (.dT _) => True
  | some (.set _ _) => True
  | some (.ins _ _ _) => True
  | some (.ext _) => True
  | _ => False
section
variable {P : Program} {w : World} {H : Hp} {h h' : Heap} {x e : Addr} {o' : HO}
theorem HOk.write (ok : HOk P w H h) (mu : Mut (H x)) (he : e = x ∨ H e = some (.own x)) (k : ∀ b u, b ≠ e → h.get? b = some u → h'.get? b = some u) (heo : ∃ u, h'.get? e = some u)
    (new : J5 P w (upd H x o') h' x o') : HOk P w (upd H x o') h' := fun b u q => by
  have nown : ∀ c y, H c = some (.own y) → c ≠ x := fun c y r z => by subst z; rw [r] at mu; exact mu
  have ntup : ∀ c xs, H c = some (.tup xs) → c ≠ x := fun c xs r z => by subst z; rw [r] at mu; exact mu
  by_cases hb : b = x
  · subst hb; rw [d6] at q; cases q; exact new
  · rw [j5 hb] at q
    by_cases hbe : b = e
    · have q' : H b = some (.own x) := by
        rcases he with z | z
        · exact absurd (hbe.trans z) hb
        · rw [hbe]; exact z
      rw [q] at q'; cases q'
      obtain ⟨v, hv⟩ := heo
      exact ⟨v, by rw [hbe]; exact hv⟩
    · refine (ok b u q).stay (fun c v hc r => k c v ?_ r) (fun c r => by rw [j5 (nown c b r)]; exact r) fun c xs r => by rw [j5 (ntup c xs r)]; exact r
      rcases hc with rfl | hc
      · exact hbe
      · rintro rfl
        rcases he with z | z
        · exact nown c b hc z
        · rw [hc] at z; cases z; exact hb rfl
end
structure Un (fs ex : List Addr) (H H' : Hp) (h h' : Heap) : Prop where
  keep : ∀ b o, h.get? b = some o → H b = none → b ∉ fs → b ∉ ex → h'.get? b = some o
  slot : ∀ b o, h.get? b = some o → H b = none → b ∈ fs → b ∉ ex → ∃ sl, h'.get? b = some { o with slots := sl }
  free : ∀ b o, h.get? b = some o → H b = none → b ∉ ex → H' b = none
  there : ∀ b o, h.get? b = some o → b ∉ ex → ∃ o', h'.get? b = some o'
  tups : ∀ b xs, H b = some (.tup xs) → H' b = some (.tup xs)
  frzs : ∀ b o u, H b = some (.frz o u) → H' b = some (.frz o u)
  tbls : ∀ b ps, H b = some (.tbl ps) → ∃ more, H' b = some (.tbl (ps ++ more))
section
variable {fs fs' ex ex' : List Addr} {H H1 H2 : Hp} {h h1 h2 h' : Heap} {a x e : Addr} {o : HO}
theorem Un.any (u : Un fs ex H H1 h h1) {b : Addr} {ob : Obj} (q : h.get? b = some ob) (n : H b = none) (hx : b ∉ ex) : ∃ sl, h1.get? b = some { ob with slots := sl } := by
  by_cases hb : b ∈ fs
  · exact u.slot b ob q n hb hx
  · exact ⟨ob.slots, u.keep b ob q n hb hx⟩
theorem Un.kept (k : ∀ b u, h.get? b = some u → h'.get? b = some u) : Un fs ex H H h h' :=
  ⟨fun b ob q _ _ _ => k b ob q, fun b ob q _ _ _ => ⟨ob.slots, k b ob q⟩, fun _ _ _ n _ => n, fun b ob q _ => ⟨ob, k b ob q⟩, fun _ _ q => q, fun _ _ _ q => q, fun _ ps q => ⟨#[], by rw [q]; simp⟩⟩
theorem Un.refl : Un fs ex H H h h := Un.kept fun _ _ q => q
theorem Un.laid (k : ∀ b u, h.get? b = some u → h'.get? b = some u) (hp : h.objs.size ≤ a) (hn : H a = none) : Un fs ex H (upd H a o) h h' where
  keep := fun b u q _ _ _ => k b u q
  slot := fun b u q _ _ _ => ⟨u.slots, k b u q⟩
  free := fun b u q n _ => by rw [j5 (Nat.ne_of_lt (Nat.lt_of_lt_of_le (Heap.lt_size q) hp))]; exact n
  there := fun b u q _ => ⟨u, k b u q⟩
  tups := fun b xs q => by rw [j5 (m9 q hn)]; exact q
  frzs := fun b u xs q => by rw [j5 (m9 q hn)]; exact q
  tbls := fun b ps q => ⟨#[], by rw [j5 (m9 q hn), q]; simp⟩
theorem Un.write (mu : Mut (H x)) (he : e = x ∨ H e = some (.own x)) (k : ∀ b u, b ≠ e → h.get? b = some u → h'.get? b = some u) (heo : ∃ u, h'.get? e = some u) : Un fs ex H (upd H x o) h h' := by
  have hx : ∀ b, H b = none → b ≠ x := fun b n z => by subst z; rw [n] at mu; exact mu
  have hb : ∀ b, H b = none → b ≠ e := fun b n z => by
    subst z
    rcases he with r | r
    · exact hx b n r
    · rw [n] at r; cases r
  have hm : ∀ b u, H b = some u → ¬ Mut (some u) → b ≠ x := fun b u q nm z => by subst z; rw [q] at mu; exact nm mu
  refine ⟨fun b u q n _ _ => k b u (hb b n) q, fun b u q n _ _ => ⟨u.slots, k b u (hb b n) q⟩, fun b u q n _ => by rw [j5 (hx b n)]; exact n, fun b u q _ => ?_,
    fun b xs q => by rw [j5 (hm b _ q fun z => z)]; exact q, fun b u xs q => by rw [j5 (hm b _ q fun z => z)]; exact q, fun b ps q => ⟨#[], by rw [j5 (hm b _ q fun z => z), q]; simp⟩⟩
  by_cases hbe : b = e
  · subst hbe; exact heo
  · exact ⟨u, k b u hbe q⟩
end
def trk (h : Heap) (H : Hp) : List Addr := (List.range h.objs.size).filter fun a => (H a).isSome
def aB1 (h : Heap) (H : Hp) : Heap := PySem.W.hideAll h (trk h H)
theorem aR0 (h : Heap) (H : Hp) : (aB1 h H).objs.size = h.objs.size := PySem.W.hideAll_size _ _
theorem aX4 {h : Heap} {H : Hp} {b : Addr} {o : Obj} (e : h.get? b = some o) (n : H b = none) : (aB1 h H).get? b = some o :=
  PySem.W.hideAll_get _ e fun hm => by
    have q : (H b).isSome = true := (List.mem_filter.mp hm).2
    rw [n] at q; simp at q
theorem bc1 {h : Heap} {H : Hp} {b : Addr} {o : Obj} (e : (aB1 h H).get? b = some o) : h.get? b = some o ∧ H b = none := by
  have e' : h.get? b = some o := PySem.W.of_hideAll (trk h H) e
  refine ⟨e', ?_⟩
  cases q : H b with
  | none => rfl
  | some x =>
    have hm : b ∈ trk h H := List.mem_filter.mpr ⟨List.mem_range.mpr (Heap.lt_size e'), by simp [q]⟩
    have z : (aB1 h H).get? b = none := PySem.W.hideAll_none (trk h H) hm
    rw [z] at e; cases e
def be5 (g h : Heap) (L : Addr) : List (Addr × Obj) := (List.range h.objs.size).filterMap fun a => if a = L ∨ (g.get? a).isSome = true then none else (h.get? a).map fun o => (a, o)
def am2 (g h : Heap) (L d : Addr) : List (Addr × Obj) := (be5 g h L).filter fun p => decide (p.1 ≠ d)
structure Mod (K : PySem.W.Frag) (mg : Str → Option Value) (base : Heap) : Prop where
  kin : K.In base
  glob : base.Ns mainGlobals mg
  blt : ∃ mb, base.Ns builtinsNs mb ∧ ∀ x : Str, x ≠ "__name__" → mb x = bootBuiltins x
  nolimit : base.NoLimit
/-- the context: a def's body (or a comprehension's block) running. base: fixed through the whole law; s₀, H₀: the entry; outer: the frames whose slots others may change (a def's callers); stack: all frames that run;
   ex: iterators that were made ahead of the entry and are walked here (a comprehension's); fn: the names whose cells were made at the entry (a def: all; a comprehension's block: its own); calm: not within an except suite; pn: pins that every state bears; xe: what is wanted of an exception that leaves the code -/
structure Cx where
  prog : Program
  w : World
  K : PySem.W.Frag
  mg : Str → Option Value
  base : Heap
  A : Around
  N : List Str
  s₀ : Shared
  H₀ : Hp
  env : Env
  outer : List Env
  stack : List Env
  ex : List Addr
  fn : Str → Bool
  calm : Bool
  pn : List (Addr × Obj)
  xe : Value → Shared → Prop
def frs (l : List Env) : List Addr := l.filterMap (·.frame)
abbrev Cx.fs (X : Cx) : List Addr := frs X.outer
def Vis (sc : Scope) (x : Str) : Prop := sc.names.lookup x = some .local ∨ sc.names.lookup x = some .cell ∨ sc.names.lookup x = some .free
def Loc (sc : Scope) (x : Str) : Prop := sc.names.lookup x = some .local ∨ sc.names.lookup x = some .cell
def bq1 (env : Env) (h : Heap) (m : Str → Option Value) (x : Str) (u : Value) : Prop :=
  (env.kindOf x = some .local ∧ m x = some u) ∨ ((env.kindOf x = some .cell ∨ env.kindOf x = some .free) ∧ ∃ c, env.cells.lookup x = some c ∧ h.IsCell c (some u))
structure Cx.Ok (X : Cx) : Prop where
  mod : Mod X.K X.mg X.base
  kind : X.env.scope.kind = .function
  glob : X.env.globals = mainGlobals
  blt : X.env.builtins = builtinsNs
  above : X.s₀.heap.objs.size ≤ X.env.locals
  inj : ∀ x y c, X.env.cells.lookup x = some c → X.env.cells.lookup y = some c → x = y
  has : ∀ x, (X.env.kindOf x = some .cell ∨ X.env.kindOf x = some .free) → ∃ c, X.env.cells.lookup x = some c
  cab : ∀ x c, X.fn x = true → X.env.cells.lookup x = some c → X.s₀.heap.objs.size ≤ c
  hd : X.calm = true → X.A.handled = none
  frames : X.A.frames = some X.stack
  stk : X.stack = X.outer ∨ (X.stack = X.env :: X.outer ∧ X.env.frame = some X.env.locals)
  exf : ∀ b ∈ X.ex, b ≠ X.env.locals ∧ ∀ x c, X.env.cells.lookup x = some c → c ≠ b
  bs : ∀ b o, X.base.get? b = some o → X.s₀.heap.get? b = some o ∧ X.H₀ b = none
  bsz : X.base.objs.size ≤ X.s₀.heap.objs.size
  noex : ∀ b o, X.base.get? b = some o → b ∉ X.ex
  exfs : ∀ b ∈ X.ex, b ∉ X.fs
  funs : X.s₀.heap.FunFrames X.base X.outer
  frf : ∀ b ∈ X.fs, X.H₀ b = none
structure Inv (X : Cx) (pins : List (Addr × Obj)) (σ : List (Option V)) (H : Hp) (s : Shared) : Prop where
  ok : X.Ok
  os : s.os = X.s₀.os
  bare : AllBare s.gens
  base : Un X.fs X.ex X.H₀ H X.s₀.heap s.heap
  loc : ∃ m, s.heap.Ns X.env.locals m ∧ ∀ (i : Nat) (x : Str) (v : V), X.N[i]? = some x → σ[i]? = some (some v) → Vis X.env.scope x → ∃ u, C8 v u ∧ bq1 X.env s.heap m x u
  cell : ∀ x c, X.env.cells.lookup x = some c → ∃ v, s.heap.IsCell c v
  free : H X.env.locals = none
  freeC : ∀ x c, X.env.cells.lookup x = some c → H c = none
  pin : ∀ p ∈ X.pn ++ pins, s.heap.get? p.1 = some p.2 ∧ H p.1 = none ∧ p.1 ≠ X.env.locals ∧ p.1 ∉ X.fs ∧ ∀ v, p.2.data ≠ .cell v
  hok : HOk X.prog X.w H s.heap
  len : σ.length = X.N.length
section
variable {X : Cx} {pins : List (Addr × Obj)} {σ : List (Option V)} {H H' : Hp} {s : Shared} {h' : Heap}
theorem Cx.Ok.nofr (ok : X.Ok) {b : Addr} {o : Obj} (e : X.base.get? b = some o) : b ∉ X.fs := fun hb => by
  have := (ok.funs.mem hb).1
  rw [e] at this; cases this
theorem Inv.bs (I : Inv X pins σ H s) : ∀ b o, X.base.get? b = some o → s.heap.get? b = some o ∧ H b = none := fun b o e =>
  ⟨I.base.keep b o (I.ok.bs b o e).1 (I.ok.bs b o e).2 (I.ok.nofr e) (I.ok.noex b o e), I.base.free b o (I.ok.bs b o e).1 (I.ok.bs b o e).2 (I.ok.noex b o e)⟩
theorem Inv.bk (I : Inv X pins σ H s) : ∀ b o, X.base.get? b = some o → s.heap.get? b = some o := fun b o e => (I.bs b o e).1
theorem Inv.mod (I : Inv X pins σ H s) : Mod X.K X.mg X.base := I.ok.mod
theorem Inv.kIn (I : Inv X pins σ H s) : X.K.In s.heap := I.ok.mod.kin.keeps I.bk
theorem Inv.lt (I : Inv X pins σ H s) : X.env.locals < s.heap.objs.size := let ⟨_, hn, _⟩ := I.loc; hn.lt
theorem Inv.sz (I : Inv X pins σ H s) : X.s₀.heap.objs.size ≤ s.heap.objs.size := Nat.le_trans I.ok.above (Nat.le_of_lt I.lt)
theorem Inv.nofs (I : Inv X pins σ H s) {a : Addr} (h : s.heap.objs.size ≤ a) : a ∉ X.fs := fun hb => by
  obtain ⟨_, o, ho, _⟩ := I.ok.funs.mem hb
  exact absurd (Nat.lt_of_lt_of_le (Heap.lt_size ho) (Nat.le_trans I.sz h)) (Nat.lt_irrefl _)
theorem Inv.cne (I : Inv X pins σ H s) : ∀ x c, X.env.cells.lookup x = some c → c ≠ X.env.locals := fun x c e z => by
  obtain ⟨v, o, ho, hd⟩ := I.cell x c e
  obtain ⟨m, ⟨o', es, ep, ho', hd', _⟩, _⟩ := I.loc
  rw [z, ho'] at ho; cases ho; rw [hd'] at hd; cases hd
theorem Inv.funs (I : Inv X pins σ H s) : s.heap.FunFrames X.base X.outer := by
  have all : ∀ (l : List Env), (∀ b ∈ frs l, b ∈ X.fs) → X.s₀.heap.FunFrames X.base l → s.heap.FunFrames X.base l := by
    intro l
    induction l with
    | nil => intro _ _; trivial
    | cons env r ih =>
      intro hs hl
      obtain ⟨hk, ⟨L, o, hf, hn, ho, hd⟩, hr⟩ := hl
      have hL : L ∈ X.fs := hs L (by unfold frs; rw [List.filterMap_cons, hf]; exact List.mem_cons_self)
      obtain ⟨sl, e⟩ := I.base.slot L o ho (I.ok.frf L hL) hL fun z => I.ok.exfs L z hL
      exact ⟨hk, ⟨L, _, hf, hn, e, hd⟩, ih (fun b hb => hs b (by unfold frs; rw [List.filterMap_cons, hf]; exact List.mem_cons_of_mem _ hb)) hr⟩
  exact all X.outer (fun _ hb => hb) I.ok.funs
theorem Inv.stack (I : Inv X pins σ H s) : s.heap.FunFrames X.base X.stack := by
  rcases I.ok.stk with e | ⟨e, hf⟩
  · rw [e]; exact I.funs
  · rw [e]
    obtain ⟨m, hn, _⟩ := I.loc
    refine .cons (by rw [I.ok.kind]; decide) hf hn ?_ I.funs
    exact Heap.get?_none_of_le (Nat.le_trans I.ok.bsz I.ok.above)
theorem Inv.stkSub (I : Inv X pins σ H s) : ∀ b ∈ frs X.stack, b ∈ X.env.locals :: X.fs := fun b hb => by
  rcases I.ok.stk with e | ⟨e, hf⟩
  · rw [e] at hb; exact List.mem_cons_of_mem _ hb
  · rw [e] at hb
    unfold frs at hb
    rw [List.filterMap_cons, hf] at hb
    exact hb
theorem Inv.stkFree (I : Inv X pins σ H s) : ∀ b ∈ frs X.stack, H b = none := fun b hb => by
  rcases List.mem_cons.mp (I.stkSub b hb) with e | hb
  · rw [e]; exact I.free
  · obtain ⟨_, o, ho, _⟩ := I.ok.funs.mem hb
    exact I.base.free b o ho (I.ok.frf b hb) fun z => I.ok.exfs b z hb
theorem Inv.step {g' : Array GenState} {t' : Nat} {d' : Drawn} {ch : List Addr} (I : Inv X pins σ H s)
    (hch : ∀ b ∈ ch, (b ∈ X.ex ∨ X.s₀.heap.objs.size ≤ b) ∧ b ≠ X.env.locals ∧ (∀ x c, X.env.cells.lookup x = some c → c ≠ b) ∧ ∀ p ∈ X.pn ++ pins, p.1 ≠ b)
    (keep : ∀ b o, b ≠ X.env.locals → b ∉ X.fs → b ∉ ch → s.heap.get? b = some o → H b = none → h'.get? b = some o)
    (slot : ∀ b o, b ≠ X.env.locals → b ∈ X.fs → b ∉ ch → s.heap.get? b = some o → H b = none → ∃ sl, h'.get? b = some { o with slots := sl }) (free : ∀ b o, b ∉ ch → s.heap.get? b = some o → H b = none → H' b = none)
    (there : ∀ b o, b ∉ ch → s.heap.get? b = some o → ∃ o', h'.get? b = some o')
    (tups : ∀ b xs, H b = some (.tup xs) → H' b = some (.tup xs)) (frzs : ∀ b o u, H b = some (.frz o u) → H' b = some (.frz o u)) (tbls : ∀ b ps, H b = some (.tbl ps) → ∃ more, H' b = some (.tbl (ps ++ more)))
    (ns : ∀ m, s.heap.Ns X.env.locals m → h'.Ns X.env.locals m) (hok : HOk X.prog X.w H' h') (hg : AllBare g') :
    Inv X pins σ H' { s with heap := h', gens := g', drawn := d', toks := t' } := by
  have neL : ∀ b o, X.s₀.heap.get? b = some o → b ≠ X.env.locals := fun b o e => Nat.ne_of_lt (Nat.lt_of_lt_of_le (Heap.lt_size e) I.ok.above)
  have neC : ∀ b o, X.s₀.heap.get? b = some o → b ∉ X.ex → b ∉ ch := fun b o e hx hb => by
    rcases (hch b hb).1 with z | z
    · exact hx z
    · exact absurd (Nat.lt_of_lt_of_le (Heap.lt_size e) z) (Nat.lt_irrefl _)
  have cellK : ∀ x c, X.env.cells.lookup x = some c → ∀ v, s.heap.IsCell c v → h'.IsCell c v := fun x c e v ⟨o, ho, hd⟩ => by
    have nch : c ∉ ch := fun z => (hch c z).2.2.1 x c e rfl
    by_cases hc : c ∈ X.fs
    · obtain ⟨sl, q⟩ := slot c o (I.cne x c e) hc nch ho (I.freeC x c e)
      exact ⟨_, q, hd⟩
    · exact ⟨o, keep c o (I.cne x c e) hc nch ho (I.freeC x c e), hd⟩
  refine ⟨I.ok, I.os, hg, ⟨fun b o e n hb hx => ?_, fun b o e n hb hx => ?_, fun b o e n hx => ?_, fun b o e hx => ?_, fun b xs e => tups b xs (I.base.tups b xs e), fun b o xs e => frzs b o xs (I.base.frzs b o xs e), fun b ps e => ?_⟩, ?_, fun x c e => ?_, ?_, fun x c e => ?_, fun p hp => ?_, hok, I.len⟩
  · exact keep b o (neL b o e) hb (neC b o e hx) (I.base.keep b o e n hb hx) (I.base.free b o e n hx)
  · obtain ⟨sl, e1⟩ := I.base.slot b o e n hb hx
    obtain ⟨sl', e2⟩ := slot b _ (neL b o e) hb (neC b o e hx) e1 (I.base.free b o e n hx)
    exact ⟨sl', e2⟩
  · obtain ⟨o', e1⟩ := I.base.there b o e hx
    exact free b o' (neC b o e hx) e1 (I.base.free b o e n hx)
  · obtain ⟨o', e1⟩ := I.base.there b o e hx
    exact there b o' (neC b o e hx) e1
  · obtain ⟨m1, e1⟩ := I.base.tbls b ps e
    obtain ⟨m2, e2⟩ := tbls b _ e1
    exact ⟨m1 ++ m2, by rw [e2, Array.append_assoc]⟩
  · obtain ⟨m, hn, hl⟩ := I.loc
    refine ⟨m, ns m hn, fun i x v e1 e2 e3 => ?_⟩
    obtain ⟨u, r, l⟩ := hl i x v e1 e2 e3
    refine ⟨u, r, ?_⟩
    rcases l with l | ⟨k, c, e, z⟩
    · exact .inl l
    · exact .inr ⟨k, c, e, cellK x c e _ z⟩
  · obtain ⟨v, z⟩ := I.cell x c e
    exact ⟨v, cellK x c e v z⟩
  · obtain ⟨m, ⟨o, _, _, ho, _⟩, _⟩ := I.loc
    exact free _ o (fun z => (hch _ z).2.1 rfl) ho I.free
  · obtain ⟨v, o, ho, hd⟩ := I.cell x c e
    exact free c o (fun z => (hch c z).2.2.1 x c e rfl) ho (I.freeC x c e)
  · obtain ⟨e, n, ne, nf, d⟩ := I.pin p hp
    have nch : p.1 ∉ ch := fun z => (hch p.1 z).2.2.2 p hp rfl
    exact ⟨keep p.1 p.2 ne nf nch e n, free p.1 p.2 nch e n, ne, nf, d⟩
theorem Inv.un {t' : Nat} (I : Inv X pins σ H s) (u : Un X.fs [] H H' s.heap h') (hok : HOk X.prog X.w H' h') : Inv X pins σ H' { s with heap := h', toks := t' } := by
  obtain ⟨m, ⟨o, es, ep, ho, r⟩, _⟩ := id I.loc
  obtain ⟨sl, hL⟩ := u.any ho I.free (by simp)
  exact I.step (g' := s.gens) (d' := s.drawn) (ch := []) (fun _ z => nomatch z) (fun b o _ hb _ e n => u.keep b o e n hb (by simp)) (fun b o _ hb _ e n => u.slot b o e n hb (by simp)) (fun b o _ e n => u.free b o e n (by simp)) (fun b o _ e => u.there b o e (by simp)) u.tups u.frzs u.tbls (fun m' hm => by
    obtain ⟨o', es', ep', ho', r'⟩ := hm
    rw [ho] at ho'; cases ho'
    exact ⟨_, es', ep', hL, r'⟩) hok I.bare
theorem Inv.call {g' : Array GenState} {t' : Nat} {d' : Drawn} {ch : List Addr} (I : Inv X pins σ H s) (u : Un (frs X.stack) ch H H' s.heap h') (hok : HOk X.prog X.w H' h') (hg : AllBare g')
    (hch : ∀ b ∈ ch, (b ∈ X.ex ∨ X.s₀.heap.objs.size ≤ b) ∧ b ≠ X.env.locals ∧ (∀ x c, X.env.cells.lookup x = some c → c ≠ b) ∧ ∀ p ∈ X.pn ++ pins, p.1 ≠ b) :
    Inv X pins σ H' { s with heap := h', gens := g', drawn := d', toks := t' } := by
  obtain ⟨m, ⟨o, es, ep, ho, r⟩, _⟩ := id I.loc
  obtain ⟨sl, hL⟩ := u.any ho I.free fun z => (hch _ z).2.1 rfl
  exact I.step (ch := ch) hch (fun b o hL hb hc e n => u.keep b o e n (fun z => (List.mem_cons.mp (I.stkSub b z)).elim hL hb) hc) (fun b o _ _ hc e n => u.any e n hc) (fun b o hc e n => u.free b o e n hc) (fun b o hc e => u.there b o e hc) u.tups u.frzs u.tbls (fun m' hm => by
    obtain ⟨o', es', ep', ho', r'⟩ := hm
    rw [ho] at ho'; cases ho'
    exact ⟨_, es', ep', hL, r'⟩) hok hg
theorem Inv.turned {t' : Nat} {it : Addr} (I : Inv X pins σ H s) (k : ∀ b o, b ≠ it → s.heap.get? b = some o → h'.get? b = some o) (hn : H it = none) (hL : it ≠ X.env.locals)
    (h1 : it ∈ X.ex ∨ X.s₀.heap.objs.size ≤ it) (h2 : ∀ x c, X.env.cells.lookup x = some c → c ≠ it) (h3 : ∀ p ∈ X.pn ++ pins, p.1 ≠ it) : Inv X pins σ H { s with heap := h', toks := t' } := by
  have nit : ∀ b u, H b = some u → b ≠ it := fun b u e z => by rw [z, hn] at e; cases e
  refine I.step (g' := s.gens) (d' := s.drawn) (ch := [it]) (fun b hb => ?_) (fun b o _ _ hc e _ => k b o (fun z => hc (by simp [z])) e) (fun b o _ _ hc e _ => ⟨o.slots, k b o (fun z => hc (by simp [z])) e⟩) (fun _ _ _ _ n => n)
    (fun b o hc e => ⟨o, k b o (fun z => hc (by simp [z])) e⟩) (fun _ _ e => e) (fun _ _ _ e => e) (fun b ps e => ⟨#[], by rw [e]; simp⟩) (fun m hm => ?_) (fun b u e => ?_) I.bare
  · have e : b = it := by simpa using hb
    subst e
    exact ⟨h1, hL, h2, h3⟩
  · obtain ⟨o, es, ep, ho, r⟩ := hm
    exact ⟨o, es, ep, k _ o (Ne.symm hL) ho, r⟩
  · refine (I.hok b u e).stay (fun c v hc q => k c v ?_ q) (fun _ q => q) fun _ _ q => q
    rcases hc with z | z
    · rw [z]; exact nit b u e
    · exact nit c _ z
theorem Inv.tok (I : Inv X pins σ H s) (t : Nat) : Inv X pins σ H { s with toks := t } := I.un (h' := s.heap) (t' := t) Un.refl I.hok
theorem Inv.kept {t' : Nat} (I : Inv X pins σ H s) (k : ∀ b u, s.heap.get? b = some u → h'.get? b = some u) : Inv X pins σ H { s with heap := h', toks := t' } := I.un (Un.kept k) (I.hok.kept k)
theorem Inv.laid {a : Addr} {o : HO} {t' : Nat} (I : Inv X pins σ H s) (k : ∀ b u, s.heap.get? b = some u → h'.get? b = some u) (hp : s.heap.objs.size ≤ a) (new : J5 X.prog X.w (upd H a o) h' a o) :
    Inv X pins σ (upd H a o) { s with heap := h', toks := t' } := I.un (Un.laid k hp (I.hok.fresh hp)) (I.hok.laid k hp new)
theorem Inv.write {x e : Addr} {o : HO} {t' : Nat} (I : Inv X pins σ H s) (mu : Mut (H x)) (he : e = x ∨ H e = some (.own x)) (k : ∀ b u, b ≠ e → s.heap.get? b = some u → h'.get? b = some u) (heo : ∃ u, h'.get? e = some u)
    (new : J5 X.prog X.w (upd H x o) h' x o) : Inv X pins σ (upd H x o) { s with heap := h', toks := t' } := I.un (Un.write mu he k heo) (I.hok.write mu he k heo new)
theorem Inv.pins_of {pins' : List (Addr × Obj)} (I : Inv X pins σ H s) (h : ∀ p ∈ pins', s.heap.get? p.1 = some p.2 ∧ H p.1 = none ∧ p.1 ≠ X.env.locals ∧ p.1 ∉ X.fs ∧ ∀ v, p.2.data ≠ .cell v) : Inv X pins' σ H s :=
  ⟨I.ok, I.os, I.bare, I.base, I.loc, I.cell, I.free, I.freeC, fun p hp => (List.mem_append.mp hp).elim (fun z => I.pin p (List.mem_append_left _ z)) (h p), I.hok, I.len⟩
theorem aE6 {N : List Str} (hN : N.Nodup) {i j : Nat} {x : Str} (a : N[i]? = some x) (b : N[j]? = some x) : i = j := by
  obtain ⟨h1, e1⟩ := List.getElem?_eq_some_iff.mp a
  obtain ⟨h2, e2⟩ := List.getElem?_eq_some_iff.mp b
  exact (List.getElem_inj hN).mp (e1.trans e2.symm)
theorem aP1 {M : Model} {A : Around} {E : Value → Shared → Prop} {i : Nat} {x : Str} {v : V} {u : Value} {Q : Unit → Shared → Prop} (I : Inv X pins σ H s) (hN : X.N.Nodup) (hi : X.N[i]? = some x) (hx : Loc X.env.scope x) (r : C8 v u)
    (h : ∀ s', Inv X pins (σ.set i (some v)) H s' → (∃ a, Heap.SameBut a s.heap s'.heap ∧ (a = X.env.locals ∨ X.env.cells.lookup x = some a)) → Q () s') (hf : X.fn x = true ∨ X.env.scope.names.lookup x = some .local := by first | exact .inl rfl | exact .inr rfl | assumption) : wpAny M A (storeName X.env x u) Q E s := by
  obtain ⟨m, hn, hl⟩ := id I.loc
  have hcls : (X.env.scope.kind == .class || (X.env.scope.kind == .module && X.env.locals != X.env.globals)) = false := by rw [I.ok.kind]; rfl
  have hiσ : i < σ.length := by rw [I.len]; exact (List.getElem?_eq_some_iff.mp hi).1
  have cne := I.cne
  have tracked : ∀ {a : Addr} {h' : Heap}, (∃ o, s.heap.get? a = some o ∧ H a = none) → Heap.SameBut a s.heap h' → HOk X.prog X.w H h' := fun {a h'} ha hs b ob e => by
    obtain ⟨_, _, hfree⟩ := ha
    refine (I.hok b ob e).stay (fun c w' hc q => (hs.2 c ?_).trans q) (fun _ q => q) fun _ _ q => q
    rintro rfl
    rcases hc with rfl | hc
    · rw [hfree] at e; cases e
    · rw [hfree] at hc; cases hc
  rcases hx with hk | hk
  · refine wpAny_storeName_local hk hn (fun h' hn' hs => ?_) hcls
    obtain ⟨oL, _, _, hoL, _⟩ := id hn
    refine h _ ⟨I.ok, I.os, I.bare, ⟨fun b o e n hb hx => ?_, fun b o e n hb hx => ?_, I.base.free, fun b o e hx => ?_, I.base.tups, I.base.frzs, I.base.tbls⟩, ⟨_, hn', fun j y v' e1 e2 e3 => ?_⟩, fun y c e => ?_, I.free, I.freeC, fun p hp => ?_, tracked ⟨oL, hoL, I.free⟩ hs, by simpa using I.len⟩ ⟨_, hs, .inl rfl⟩
    · exact (hs.2 b (Nat.ne_of_lt (Nat.lt_of_lt_of_le (Heap.lt_size e) I.ok.above))).trans (I.base.keep b o e n hb hx)
    · obtain ⟨sl, e1⟩ := I.base.slot b o e n hb hx
      exact ⟨sl, (hs.2 b (Nat.ne_of_lt (Nat.lt_of_lt_of_le (Heap.lt_size e) I.ok.above))).trans e1⟩
    · obtain ⟨o', e1⟩ := I.base.there b o e hx
      exact ⟨o', (hs.2 b (Nat.ne_of_lt (Nat.lt_of_lt_of_le (Heap.lt_size e) I.ok.above))).trans e1⟩
    · by_cases hj : j = i
      · subst hj
        rw [hi] at e1; cases e1
        rw [List.getElem?_set_self hiσ] at e2
        cases e2
        exact ⟨u, r, .inl ⟨hk, by simp⟩⟩
      · rw [List.getElem?_set_ne (Ne.symm hj)] at e2
        obtain ⟨u', r', q⟩ := hl j y v' e1 e2 e3
        refine ⟨u', r', ?_⟩
        rcases q with ⟨k, e⟩ | ⟨k, c, e, z⟩
        · refine .inl ⟨k, ?_⟩
          have : y ≠ x := fun e => hj (aE6 hN e1 (e ▸ hi))
          simp [this, e]
        · exact .inr ⟨k, c, e, z.sameBut hs (cne y c e)⟩
    · obtain ⟨w', z⟩ := I.cell y c e
      exact ⟨w', z.sameBut hs (cne y c e)⟩
    · obtain ⟨e, n, ne, nf, d⟩ := I.pin p hp
      exact ⟨(hs.2 p.1 ne).trans e, n, ne, nf, d⟩
  · have hfn : X.fn x = true := by
      rcases hf with z | z
      · exact z
      · rw [z] at hk; cases hk
    obtain ⟨c, hc⟩ := I.ok.has x (.inl hk)
    obtain ⟨w', z⟩ := I.cell x c hc
    refine wpAny_storeName_cell I.ok.kind hk hc z (fun h' hc' hs => ?_)
    obtain ⟨oc, hoc, hocd⟩ := id z
    refine h { s with heap := h' } ⟨I.ok, I.os, I.bare, ⟨fun b o e n hb hx => ?_, fun b o e n hb hx => ?_, I.base.free, fun b o e hx => ?_, I.base.tups, I.base.frzs, I.base.tbls⟩, ⟨m, hn.sameBut hs (Ne.symm (cne x c hc)), fun j y v' e1 e2 e3 => ?_⟩, fun y c' e => ?_, I.free, I.freeC, fun p hp => ?_, tracked ⟨oc, hoc, I.freeC x c hc⟩ hs, by simpa using I.len⟩ ⟨c, hs, .inr hc⟩
    · exact (hs.2 b (Nat.ne_of_lt (Nat.lt_of_lt_of_le (Heap.lt_size e) (I.ok.cab x c hfn hc)))).trans (I.base.keep b o e n hb hx)
    · obtain ⟨sl, e1⟩ := I.base.slot b o e n hb hx
      exact ⟨sl, (hs.2 b (Nat.ne_of_lt (Nat.lt_of_lt_of_le (Heap.lt_size e) (I.ok.cab x c hfn hc)))).trans e1⟩
    · obtain ⟨o', e1⟩ := I.base.there b o e hx
      exact ⟨o', (hs.2 b (Nat.ne_of_lt (Nat.lt_of_lt_of_le (Heap.lt_size e) (I.ok.cab x c hfn hc)))).trans e1⟩
    · by_cases hj : j = i
      · subst hj
        rw [hi] at e1; cases e1
        rw [List.getElem?_set_self hiσ] at e2
        cases e2
        exact ⟨u, r, .inr ⟨.inl hk, c, hc, hc'⟩⟩
      · rw [List.getElem?_set_ne (Ne.symm hj)] at e2
        obtain ⟨u', r', q⟩ := hl j y v' e1 e2 e3
        refine ⟨u', r', ?_⟩
        rcases q with q | ⟨k, c', e, z'⟩
        · exact .inl q
        · refine .inr ⟨k, c', e, z'.sameBut hs ?_⟩
          rintro rfl
          exact hj (aE6 hN e1 (I.ok.inj _ _ _ e hc ▸ hi))
    · by_cases hcc : c' = c
      · subst hcc; exact ⟨_, hc'⟩
      · obtain ⟨w2, z2⟩ := I.cell y c' e
        exact ⟨w2, z2.sameBut hs hcc⟩
    · obtain ⟨e, n, ne, nf, d⟩ := I.pin p hp
      refine ⟨(hs.2 p.1 ?_).trans e, n, ne, nf, d⟩
      intro q
      rw [q, hoc] at e
      have q' : oc = p.2 := Option.some.inj e
      exact d w' (by rw [← q']; exact hocd)
theorem ab6 {M : Model} {A : Around} {E : Value → Shared → Prop} {i : Nat} {x : Str} {v : V} {u : Value} {Q : Unit → Shared → Prop} (I : Inv X pins σ H s) (hN : X.N.Nodup) (hi : X.N[i]? = some x) (hx : Loc X.env.scope x) (r : C8 v u)
    (h : ∀ s', Inv X pins (σ.set i (some v)) H s' → Q () s') (hf : X.fn x = true ∨ X.env.scope.names.lookup x = some .local := by first | exact .inl rfl | exact .inr rfl | assumption) : wpAny M A (storeName X.env x u) Q E s :=
  aP1 I hN hi hx r (fun s' I' _ => h s' I') hf
theorem Inv.call' {s' : Shared} {ch : List Addr} (I : Inv X pins σ H s) (ho : s'.os = s.os) (u : Un (frs X.stack) ch H H' s.heap s'.heap) (hok : HOk X.prog X.w H' s'.heap) (hg : AllBare s'.gens)
    (hch : ∀ b ∈ ch, (b ∈ X.ex ∨ X.s₀.heap.objs.size ≤ b) ∧ b ≠ X.env.locals ∧ (∀ x c, X.env.cells.lookup x = some c → c ≠ b) ∧ ∀ p ∈ X.pn ++ pins, p.1 ≠ b) : Inv X pins σ H' s' := by
  obtain ⟨h', g', d', t', o'⟩ := s'
  have e : o' = s.os := ho
  subst e
  exact I.call (g' := g') (t' := t') (d' := d') u hok hg hch
end
abbrev XK := Value → Option Addr → Hp → Prop
abbrev St := List (Option V)
abbrev VK := V → Hp → Prop
abbrev TE := St → Hp → VK → Prop
abbrev TT := St → Hp → (Bool → Hp → Prop) → Prop
abbrev TA := St → Hp → (List V → Hp → Prop) → Prop
structure ag1 where
  nx : St → Hp → Prop
  rt : VK
  bk : St → Hp → Prop := fun _ _ => False
  ct : St → Hp → Prop := fun _ _ => False
abbrev TS := ag1 → St → Hp → Prop
def EP (X : Cx) (pins : List (Addr × Obj)) (σ : St) (Q : VK) (u : Value) (s' : Shared) : Prop := ∃ v H', Inv X pins σ H' s' ∧ C8 v u ∧ Q v H'
def TP (X : Cx) (pins : List (Addr × Obj)) (σ : St) (Q : Bool → Hp → Prop) (b : Bool) (s' : Shared) : Prop := ∃ H', Inv X pins σ H' s' ∧ Q b H'
def AP (X : Cx) (pins : List (Addr × Obj)) (σ : St) (Q : List V → Hp → Prop) (us : List Value) (s' : Shared) : Prop := ∃ vs H', Inv X pins σ H' s' ∧ t3 vs us ∧ Q vs H'
def SP (X : Cx) (pins : List (Addr × Obj)) (D : ag1) (f : Flow) (s' : Shared) : Prop :=
  match f with
  | .next => ∃ σ' H', Inv X pins σ' H' s' ∧ D.nx σ' H'
  | .brk => ∃ σ' H', Inv X pins σ' H' s' ∧ D.bk σ' H'
  | .cont => ∃ σ' H', Inv X pins σ' H' s' ∧ D.ct σ' H'
  | .ret u => ∃ v σ' H', Inv X pins σ' H' s' ∧ C8 v u ∧ D.rt v H'
def PE (X : Cx) (e : Expr) (t : TE) : Prop :=
  ∀ (pins : List (Addr × Obj)) (s : Shared) (σ : St) (H : Hp) (Q : VK), Inv X pins σ H s → t σ H Q → wpAny (model X.prog X.w) X.A (eval e X.env) (EP X pins σ Q) X.xe s
def PT (X : Cx) (e : Expr) (t : TT) : Prop :=
  ∀ (pins : List (Addr × Obj)) (s : Shared) (σ : St) (H : Hp) (Q : Bool → Hp → Prop), Inv X pins σ H s → t σ H Q → wpAny (model X.prog X.w) X.A (isTrue e X.env (eval e X.env)) (TP X pins σ Q) X.xe s
def PW (X : Cx) (e : Expr) (t : TT) : Prop :=
  ∀ (whole : Sem Value) (pins : List (Addr × Obj)) (s : Shared) (σ : St) (H : Hp) (Q : Bool → Hp → Prop), Inv X pins σ H s → t σ H Q → wpAny (model X.prog X.w) X.A (isTrue e X.env whole) (TP X pins σ Q) X.xe s
theorem PW.pt {X : Cx} {e : Expr} {t : TT} (h : PW X e t) : PT X e t := h _
def PA (X : Cx) (es : List Expr) (t : TA) : Prop :=
  ∀ (pos : Pos) (pins : List (Addr × Obj)) (s : Shared) (σ : St) (H : Hp) (Q : List V → Hp → Prop), Inv X pins σ H s → t σ H Q → wpAny (model X.prog X.w) X.A (spliced (backTo pos (starEach es X.env))) (AP X pins σ Q) X.xe s
def PS (X : Cx) (st : Stmt) (t : TS) : Prop :=
  ∀ (pins : List (Addr × Obj)) (s : Shared) (σ : St) (H : Hp) (D : ag1), Inv X pins σ H s → t D σ H → wpAny (model X.prog X.w) X.A (exec st X.env) (SP X pins D) X.xe s
def PSs (X : Cx) (st : List Stmt) (t : TS) : Prop :=
  ∀ (pins : List (Addr × Obj)) (s : Shared) (σ : St) (H : Hp) (D : ag1), Inv X pins σ H s → t D σ H → wpAny (model X.prog X.w) X.A (execs st X.env) (SP X pins D) X.xe s
theorem thn {α : Type} {t : Sem α} {Q Q' : α → Shared → Prop} {M : Model} {A : Around} {E : Value → Shared → Prop} {s : Shared} (h : wpAny M A t Q E s) (hQ : ∀ a s, Q a s → Q' a s) : wpAny M A t Q' E s := wpAny_mono h hQ fun _ _ x => x
section
variable {X : Cx}
def ag3 (i : Nat) : TE := fun σ H Q => ∃ v, σ[i]? = some (some v) ∧ Q v H
def tC (v : V) : TE := fun _ H Q => Q v H
theorem bj0 {i : Nat} {x : Str} {pos : Pos} (hN : X.N[i]? = some x) (hv : Vis X.env.scope x) (hd : (x == ("__debug__" : Str)) = false := by decide) (hcd : (x == ("__classdict__" : Str)) = false := by decide) : PE X (.Name x pos) (ag3 i) := by
  intro pins s σ H Q I h
  obtain ⟨v, e, h⟩ := h
  obtain ⟨m, hn, hl⟩ := I.loc
  obtain ⟨u, r, l⟩ := hl i x v hN e hv
  have fin : EP X pins σ Q u s := ⟨v, H, I, r, h⟩
  rcases l with ⟨hk, hm⟩ | ⟨hk, c, hc, hcell⟩
  · exact wpAny_Name (wpAny_loadName_local I.ok.kind hk hn hm fin) hd
  · rcases hk with hk | hk
    · exact wpAny_Name (wpAny_loadName_cell I.ok.kind hk hc hcell fin) hd
    · exact wpAny_Name (wpAny_loadName_free I.ok.kind hk hc hcell fin hcd) hd
theorem b9 {i j pos} : PE X (.Constant (.int i) j pos) (tC (.int i)) := fun _ _ _ H _ I h => wpAny_Constant_int ⟨.int i, H, I.tok _, ⟨_, rfl⟩, h⟩
theorem aq3 {b j pos} : PE X (.Constant (.bool b) j pos) (tC (.bl b)) := fun _ _ _ H _ I h => Constant_bool ⟨.bl b, H, I, rfl, h⟩
theorem aV6 {j pos} : PE X (.Constant .none j pos) (tC .non) := fun _ _ _ H _ I h => Constant_none ⟨.non, H, I, rfl, h⟩
theorem bj1 {x j pos} : PE X (.Constant (.str x) j pos) (tC (.str x)) := fun _ _ _ H _ I h => Calls.Constant_str ⟨.str x, H, I.tok _, ⟨_, rfl⟩, h⟩
def Gl (X : Cx) (x : Str) : Prop := X.env.kindOf x = some .globalImplicit
theorem aA8 {E : Value → Shared → Prop} {pins : List (Addr × Obj)} {s : Shared} {σ : St} {H : Hp} {x : Str} {u : Value} {pos : Pos} {Q : Value → Shared → Prop} (I : Inv X pins σ H s) (hg : Gl X x) (hm : X.mg x = some u) (h : Q u s)
    (hd : (x == ("__debug__" : Str)) = false := by decide) : wpAny (model X.prog X.w) X.A (eval (.Name x pos) X.env) Q E s :=
  Calls.Name_function_global I.ok.kind hg (Calls.loadGlobal_global (by rw [I.ok.glob]; exact I.mod.glob.keeps I.bk) hm h) hd
theorem aa1 {E : Value → Shared → Prop} {pins : List (Addr × Obj)} {s : Shared} {σ : St} {H : Hp} {x : Str} {u : Value} {pos : Pos} {Q : Value → Shared → Prop} (I : Inv X pins σ H s) (hg : Gl X x) (hm : X.mg x = none) (hv : bootBuiltins x = some u) (h : Q u s)
    (hn : x ≠ "__name__" := by decide) (hd : (x == ("__debug__" : Str)) = false := by decide) : wpAny (model X.prog X.w) X.A (eval (.Name x pos) X.env) Q E s := by
  obtain ⟨mb, h1, h2⟩ := I.mod.blt
  exact Calls.Name_function_global I.ok.kind hg (Calls.loadGlobal_builtin (by rw [I.ok.glob]; exact I.mod.glob.keeps I.bk) hm (by rw [I.ok.blt]; exact h1.keeps I.bk) ((h2 x hn).trans hv) h) hd
theorem ah4 {x : Str} {v : V} {u : Value} {pos : Pos} (hg : Gl X x) (hm : X.mg x = some u) (r : C8 v u) (hd : (x == ("__debug__" : Str)) = false := by decide) : PE X (.Name x pos) (tC v) :=
  fun _ _ _ H _ I h => aA8 I hg hm ⟨v, H, I, r, h⟩ hd
theorem aL6 {x : Str} {v : V} {u : Value} {pos : Pos} (hg : Gl X x) (hm : X.mg x = none) (hv : bootBuiltins x = some u) (r : C8 v u) (hn : x ≠ "__name__" := by decide) (hd : (x == ("__debug__" : Str)) = false := by decide) : PE X (.Name x pos) (tC v) :=
  fun _ _ _ H _ I h => aa1 I hg hm hv ⟨v, H, I, r, h⟩ hn hd
variable {a b : Expr} {ta tb : TE} {pos : Pos}
def PC (X : Cx) (op : CmpOp) (a b : Expr) (t : TE) : Prop :=
  ∀ (pins : List (Addr × Obj)) (s : Shared) (σ : St) (H : Hp) (Q : VK), Inv X pins σ H s → t σ H Q →
    wpAny (model X.prog X.w) X.A (eval a X.env) (fun v s₁ => wpAny (model X.prog X.w) X.A (eval b X.env) (fun u s₂ => wpAny (model X.prog X.w) X.A (compareOp op v u) (EP X pins σ Q) X.xe s₂) X.xe s₁) X.xe s
def tB (t : TE) : TT := fun σ H Q => t σ H fun x H1 => ∃ c, x = .bl c ∧ Q c H1
theorem aH8 {e : Expr} {t : TE} (h : PE X e t) (he : ∀ whole, isTrue e X.env whole = (do let v ← whole; standAt e.pos; holding [v] (truthy v)) := by intro _; rfl) : PT X e (tB t) := by
  intro pins s σ H Q I hw
  refine isTrue_plain (thn (h pins s σ H _ I hw) fun v s1 ⟨x, H1, I1, r1, q1⟩ => ?_) (he _)
  obtain ⟨d, rfl, q⟩ := q1
  cases r1
  exact wpAny_truthy_bool ⟨H1, I1, q⟩
variable {tA tB' : TT} {am2 : List Expr}
def bh2 (t u : TT) : TT := fun σ H Q => t σ H fun c H1 => if c = true then u σ H1 Q else Q false H1
def tOr (t u : TT) : TT := fun σ H Q => t σ H fun c H1 => if c = true then Q true H1 else u σ H1 Q
def bg7 (t : TT) : TT := fun σ H Q => t σ H fun c H1 => Q (!c) H1
theorem aL5 (ha : PT X a tA) : PW X (.BoolOp .And [a] pos) tA := by
  intro wh pins s σ H Q I h
  refine isTrue_and (thn (ha pins s σ H Q I h) fun c s1 e => ?_)
  cases c with
  | true => exact isTrue_and_nil e
  | false => exact e
theorem aH7 (ha : PT X a tA) : PW X (.BoolOp .Or [a] pos) tA := by
  intro wh pins s σ H Q I h
  refine isTrue_or (thn (ha pins s σ H Q I h) fun c s1 e => ?_)
  cases c with
  | false => exact isTrue_or_nil e
  | true => exact e
theorem aU8 (ha : PT X a tA) (hb : PW X (.BoolOp .And (b :: am2) pos) tB') : PW X (.BoolOp .And (a :: b :: am2) pos) (bh2 tA tB') := by
  intro wh pins s σ H Q I h
  refine isTrue_and (thn (ha pins s σ H _ I h) fun c s1 ⟨H1, I1, q1⟩ => ?_)
  cases c with
  | true => exact hb wh pins s1 σ H1 Q I1 q1
  | false => exact ⟨H1, I1, q1⟩
theorem aU7 (ha : PT X a tA) (hb : PW X (.BoolOp .Or (b :: am2) pos) tB') : PW X (.BoolOp .Or (a :: b :: am2) pos) (tOr tA tB') := by
  intro wh pins s σ H Q I h
  refine isTrue_or (thn (ha pins s σ H _ I h) fun c s1 ⟨H1, I1, q1⟩ => ?_)
  cases c with
  | true => exact ⟨H1, I1, q1⟩
  | false => exact hb wh pins s1 σ H1 Q I1 q1
theorem az7 (ha : PT X a tA) : PT X (.UnaryOp .Not a pos) (bg7 tA) := by
  intro pins s σ H Q I h
  exact isTrue_not (ha pins s σ H (fun c H1 => Q (!c) H1) I h)
def aT3 (ta tb : TE) : TE := fun σ H Q => ta σ H fun x H1 => ∃ c, x = .bl c ∧ if c = true then tb σ H1 Q else Q (.bl false) H1
theorem aI1 {op} {t : TE} (h : PE X a t) : PE X (.BoolOp op [a] pos) t := fun pins s σ H Q I hw => BoolOp_one (h pins s σ H Q I hw)
theorem aq4 (ha : PE X a ta) (hb : PE X (.BoolOp .And (b :: am2) pos) tb) : PE X (.BoolOp .And (a :: b :: am2) pos) (aT3 ta tb) := by
  intro pins s σ H Q I h
  refine BoolOp_and (thn (ha pins s σ H _ I h) fun v s1 ⟨x, H1, I1, r1, q1⟩ => ?_)
  obtain ⟨c, rfl, q1⟩ := q1
  cases r1
  refine wpAny_truthy_bool ?_
  cases c with
  | true => exact hb pins s1 σ H1 Q I1 q1
  | false => exact ⟨.bl false, H1, I1, rfl, q1⟩
def tIf (t : TT) (ta tb : TE) : TE := fun σ H Q => t σ H fun c H1 => if c = true then ta σ H1 Q else tb σ H1 Q
theorem W3 {c : Expr} (hc : PT X c tA) (ha : PE X a ta) (hb : PE X b tb) : PE X (.IfExp c a b pos) (tIf tA ta tb) := by
  intro pins s σ H Q I h
  refine wpAny_IfExp (thn (hc pins s σ H _ I h) fun d s1 ⟨H1, I1, q1⟩ => ?_)
  cases d with
  | true => exact ha pins s1 σ H1 Q I1 q1
  | false => exact hb pins s1 σ H1 Q I1 q1
end
def SqL (K : PySem.W.Frag) (H : Hp) (a : Addr) (xs : List V) : Prop :=
  Rd H a (.lst xs) ∨
    ∃ (o : Obj) (its : Array Value) (n : Nat), K.lookup a = some o ∧ o.cls = .type "list" ∧ o.dict = none ∧ o.data = .seq its n ∧ its.size ≤ sizeLine ∧ t3 xs its.toList
def SqT (K : PySem.W.Frag) (H : Hp) (a : Addr) (xs : List V) : Prop :=
  Rd H a (.tup xs) ∨
    ∃ (o : Obj) (its : Array Value) (n : Nat), K.lookup a = some o ∧ o.cls = .type "tuple" ∧ o.data = .seq its n ∧ its.size ≤ sizeLine ∧ t3 xs its.toList
def bp9 : Value → Option V
  | .none => some .non
  | .bool b => some (.bl b)
  | .int i _ => some (.int i)
  | .str x _ => some (.str x)
  | .bytes b _ => some (.byt b)
  | .float b _ => some (.flt b)
  | .ref a => some (.ref a)
  | .type n => some (.ty n)
  | _ => none
theorem C8.abs {x : V} {u : Value} (r : C8 x u) : bp9 u = some x := by
  cases x with
  | non => cases r; rfl
  | bl _ => cases r; rfl
  | int _ => obtain ⟨t, rfl⟩ := r; rfl
  | str _ => obtain ⟨t, rfl⟩ := r; rfl
  | byt _ => obtain ⟨t, rfl⟩ := r; rfl
  | flt _ => obtain ⟨t, rfl⟩ := r; rfl
  | ref _ => cases r; rfl
  | ty _ => cases r; rfl
theorem C8.inj {x y : V} {u : Value} (r : C8 x u) (q : C8 y u) : x = y := Option.some.inj (r.abs.symm.trans q.abs)
theorem t3.inj : ∀ {xs ys : List V} {us : List Value}, t3 xs us → t3 ys us → xs = ys
  | _, _, _, .nil, .nil => rfl
  | _, _, _, .cons r t, .cons r' t' => by rw [r.inj r', t3.inj t t']
section
variable {X : Cx} {pins : List (Addr × Obj)} {σ : St} {H : Hp} {s : Shared} {a : Addr} {xs ys : List V}
theorem SqL.of {K : PySem.W.Frag} (h : H a = some (.lst xs)) : SqL K H a xs := .inl (.inl h)
theorem SqT.of {K : PySem.W.Frag} (h : H a = some (.tup xs)) : SqT K H a xs := .inl (.inl h)
theorem Inv.list (I : Inv X pins σ H s) (h : SqL X.K H a xs) : ∃ its : List Value, t3 xs its ∧ PlainL s.heap a its.toArray ∧ xs.length ≤ sizeLine := by
  rcases h with h | ⟨o, its, n, hk, hc, hd, hs, hz, r⟩
  · obtain ⟨z, its, n, r, e⟩ := h.ok I.hok
    exact ⟨its, r, ⟨_, n, e, rfl, rfl, rfl⟩, z⟩
  · refine ⟨its.toList, r, ⟨o, n, I.kIn a o hk, hc, hd, by simpa using hs⟩, ?_⟩
    have e := r.length
    simp only [Array.length_toList] at e
    omega
theorem Inv.tuple (I : Inv X pins σ H s) (h : SqT X.K H a xs) : ∃ its : List Value, t3 xs its ∧ IsTup s.heap a its.toArray ∧ xs.length ≤ sizeLine := by
  rcases h with h | ⟨o, its, n, hk, hc, hs, hz, r⟩
  · obtain ⟨z, its, r, p⟩ := h.ok I.hok
    exact ⟨its, r, p, z⟩
  · refine ⟨its.toList, r, ⟨o, I.kIn a o hk, hc, n, by simpa using hs⟩, ?_⟩
    have e := r.length
    simp only [Array.length_toList] at e
    omega
theorem Inv.list_inj (I : Inv X pins σ H s) (h : SqL X.K H a xs) (h' : SqL X.K H a ys) : xs = ys := by
  obtain ⟨its, r, ⟨o, n, e, _, _, d⟩, _⟩ := I.list h
  obtain ⟨its', r', ⟨o', n', e', _, _, d'⟩, _⟩ := I.list h'
  rw [e] at e'; cases e'
  rw [d] at d'
  injection d' with d1 _
  have : its = its' := by simpa using congrArg Array.toList d1
  subst this
  exact r.inj r'
theorem Inv.tuple_inj (I : Inv X pins σ H s) (h : SqT X.K H a xs) (h' : SqT X.K H a ys) : xs = ys := by
  obtain ⟨its, r, ⟨o, e, _, n, d⟩, _⟩ := I.tuple h
  obtain ⟨its', r', ⟨o', e', _, n', d'⟩, _⟩ := I.tuple h'
  rw [e] at e'; cases e'
  rw [d] at d'
  injection d' with d1 _
  have : its = its' := by simpa using congrArg Array.toList d1
  subst this
  exact r.inj r'
end
abbrev Cx.wish (X : Cx) (E : Value → Shared → Prop) : Cx := { X with xe := E }
abbrev Cx.nox (X : Cx) : Cx := X.wish fun _ _ => False
theorem Cx.Ok.wish {X : Cx} (ok : X.Ok) (E : Value → Shared → Prop) : (X.wish E).Ok :=
  ⟨ok.mod, ok.kind, ok.glob, ok.blt, ok.above, ok.inj, ok.has, ok.cab, ok.hd, ok.frames, ok.stk, ok.exf, ok.bs, ok.bsz, ok.noex, ok.exfs, ok.funs, ok.frf⟩
theorem Cx.Ok.unwish {X : Cx} {E : Value → Shared → Prop} (ok : (X.wish E).Ok) : X.Ok :=
  ⟨ok.mod, ok.kind, ok.glob, ok.blt, ok.above, ok.inj, ok.has, ok.cab, ok.hd, ok.frames, ok.stk, ok.exf, ok.bs, ok.bsz, ok.noex, ok.exfs, ok.funs, ok.frf⟩
section
variable {X : Cx} {pins : List (Addr × Obj)} {σ : St} {H : Hp} {s : Shared} {E : Value → Shared → Prop}
theorem Inv.wish (I : Inv X pins σ H s) (E : Value → Shared → Prop) : Inv (X.wish E) pins σ H s := ⟨I.ok.wish E, I.os, I.bare, I.base, I.loc, I.cell, I.free, I.freeC, I.pin, I.hok, I.len⟩
theorem Inv.unwish (I : Inv (X.wish E) pins σ H s) : Inv X pins σ H s := ⟨I.ok.unwish, I.os, I.bare, I.base, I.loc, I.cell, I.free, I.freeC, I.pin, I.hok, I.len⟩
theorem SP.unwish {D : ag1} {f : Flow} {s' : Shared} (h : SP (X.wish E) pins D f s') : SP X pins D f s' := by
  cases f with
  | next => obtain ⟨σ', H', I, q⟩ := h; exact ⟨σ', H', I.unwish, q⟩
  | brk => obtain ⟨σ', H', I, q⟩ := h; exact ⟨σ', H', I.unwish, q⟩
  | cont => obtain ⟨σ', H', I, q⟩ := h; exact ⟨σ', H', I.unwish, q⟩
  | ret u => obtain ⟨v, σ', H', I, r, q⟩ := h; exact ⟨v, σ', H', I.unwish, r, q⟩
theorem PSs.nox {st : List Stmt} {t : TS} (h : PSs X.nox st t) : PSs X st t := fun pins s σ H D I hw =>
  wpAny_mono (h pins s σ H D (I.wish _) hw) (fun _ _ q => q.unwish) fun _ _ z => False.elim z
end
section
variable {X : Cx} {st : Stmt} {am2 : List Stmt} {t u : TS} {e : Expr} {te : TE} {pos : Pos}
def aT0 : TS := fun D σ H => D.nx σ H
def ba2 (t u : TS) : TS := fun D σ H => t { D with nx := u D } σ H
theorem v7 : PSs X [] aT0 := fun _ _ σ H _ I h => wpAny_execs_nil ⟨σ, H, I, h⟩
theorem d5 (h1 : PS X st t) (h2 : PSs X am2 u) : PSs X (st :: am2) (ba2 t u) := by
  intro pins s σ H D I h
  refine wpAny_execs_cons (thn (h1 pins s σ H { D with nx := u D } I h) fun f s1 q => ?_)
  cases f with
  | next =>
    obtain ⟨σ', H', I', q⟩ := q
    exact h2 pins s1 σ' H' D I' q
  | ret v => exact q
  | brk => exact q
  | cont => exact q
theorem d9 (h1 : PS X st t) : PSs X [st] t := by
  intro pins s σ H D I h
  refine wpAny_execs_cons (thn (h1 pins s σ H D I h) fun f s1 q => ?_)
  cases f with
  | next => exact wpAny_execs_nil q
  | ret v => exact q
  | brk => exact q
  | cont => exact q
theorem Inv.quiet {pins : List (Addr × Obj)} {σ : St} {H : Hp} {s : Shared} (I : Inv X pins σ H s) : interactive X.env = false := by simp [interactive, I.ok.kind]
def aT1 (te : TE) : TS := fun D σ H => te σ H fun _ H1 => D.nx σ H1
theorem ao2 (he : PE X e te) (hs : swapsWith e none pos.line X.env = pure false := by rfl) : PS X (.Expr e pos) (aT1 te) := by
  intro pins s σ H D I h
  exact wpAny_Expr_any (thn (he pins s σ H _ I h) fun v s1 ⟨x, H1, I1, r1, q1⟩ => ⟨σ, H1, I1, q1⟩) I.quiet hs
def ba3 (te : TE) : TS := fun D σ H => te σ H D.rt
theorem m5 (he : PE X e te) : PS X (.Return (some e) pos) (ba3 te) := by
  intro pins s σ H D I h
  exact wpAny_Return_some (thn (he pins s σ H _ I h) fun v s1 ⟨x, H1, I1, r1, q1⟩ => ⟨x, σ, H1, I1, r1, q1⟩)
def bg9 (c : TT) (t u : TS) : TS := fun D σ H => c σ H fun b H1 => if b = true then t D σ H1 else u D σ H1
theorem F9 {c : Expr} {a b : List Stmt} {tc : TT} (hc : PT X c tc) (ha : PSs X a t) (hb : PSs X b u) : PS X (.If c a b pos) (bg9 tc t u) := by
  intro pins s σ H D I h
  refine wpAny_If (thn (hc pins s σ H _ I h) fun d s1 ⟨H1, I1, q1⟩ => ?_)
  cases d with
  | true => exact ha pins s1 σ H1 D I1 q1
  | false => exact hb pins s1 σ H1 D I1 q1
def aH1 : TS := fun _ _ _ => False
theorem aE0 : PS X st aH1 := fun _ _ _ _ _ _ h => h.elim
end
abbrev TG := V → St → Hp → (St → Hp → Prop) → Prop
abbrev TGs := List V → St → Hp → (St → Hp → Prop) → Prop
def PG (X : Cx) (target : Expr) (t : TG) : Prop :=
  ∀ (pins : List (Addr × Obj)) (s : Shared) (σ : St) (H : Hp) (v : V) (u : Value) (Q : St → Hp → Prop), Inv X pins σ H s → C8 v u → t v σ H Q →
    wpAny (model X.prog X.w) X.A (assign target X.env u) (fun _ s' => ∃ σ' H', Inv X pins σ' H' s' ∧ Q σ' H') X.xe s
def PGs (X : Cx) (ts : List Expr) (t : TGs) : Prop :=
  ∀ (pins : List (Addr × Obj)) (s : Shared) (σ : St) (H : Hp) (vs : List V) (us : List Value) (Q : St → Hp → Prop), Inv X pins σ H s → t3 vs us → t vs σ H Q →
    wpAny (model X.prog X.w) X.A (assignInOrder ((assignEach ts X.env).map (·.2)) us) (fun _ s' => ∃ σ' H', Inv X pins σ' H' s' ∧ Q σ' H') X.xe s
abbrev bm4 := V → V → V → Hp → (Hp → Prop) → Prop
def bp0 (X : Cx) (t : bm4) : Prop :=
  ∀ (pins : List (Addr × Obj)) (s : Shared) (σ : St) (H : Hp) (o i v : V) (ov iv u : Value) (Q : Hp → Prop), Inv X pins σ H s → C8 o ov → C8 i iv → C8 v u → t o i v H Q →
    wpAny (model X.prog X.w) X.A (setItem ov iv u) (fun _ s' => ∃ H', Inv X pins σ H' s' ∧ Q H') X.xe s
abbrev TIp := V → V → Hp → VK → Prop
def PIp (X : Cx) (op : Operator) (t : TIp) : Prop :=
  ∀ (pins : List (Addr × Obj)) (s : Shared) (σ : St) (H : Hp) (x y : V) (v u : Value) (Q : VK), Inv X pins σ H s → C8 x v → C8 y u → t x y H Q →
    wpAny (model X.prog X.w) X.A (inplaceOp op v u) (EP X pins σ Q) X.xe s
section
variable {X : Cx} {pos : Pos}
def D3 (i : Nat) : TG := fun v σ H Q => Q (σ.set i (some v)) H
theorem i7 {i : Nat} {x : Str} (hN : X.N.Nodup) (hi : X.N[i]? = some x) (hx : Loc X.env.scope x) (hf : X.fn x = true ∨ X.env.scope.names.lookup x = some .local := by first | exact .inl rfl | exact .inr rfl | assumption) : PG X (.Name x pos) (D3 i) := by
  intro pins s σ H v u Q I r h
  exact wpAny_assign_Name (ab6 I hN hi hx r (fun s' I' => ⟨_, H, I', h⟩) hf)
def ae2 : TGs := fun vs σ H Q => vs = [] ∧ Q σ H
def D7 (t : TG) (u : TGs) : TGs := fun vs σ H Q => ∃ v r, vs = v :: r ∧ t v σ H fun σ' H' => u r σ' H' Q
theorem K2 : PGs X [] ae2 := by
  intro pins s σ H vs us Q I r h
  obtain ⟨e, h⟩ := h
  subst e
  cases r
  exact assignInOrder_nil ⟨σ, H, I, h⟩
theorem u0 {e : Expr} {es : List Expr} {t : TG} {u : TGs} (h1 : PG X e t) (h2 : PGs X es u)
    (hs : (assignEach (e :: es) X.env).map (·.2) = assign e X.env :: (assignEach es X.env).map (·.2) := by rfl) : PGs X (e :: es) (D7 t u) := by
  intro pins s σ H vs us Q I r h
  obtain ⟨v, vr, e1, h⟩ := h
  subst e1
  cases r with
  | cons r rr =>
    rw [hs]
    refine assignInOrder_cons (thn (h1 pins s σ H _ _ _ I r h) fun _ s1 ⟨σ1, H1, I1, q1⟩ => ?_)
    exact h2 pins s1 σ1 H1 _ _ Q I1 rr q1
def ae1 (K : PySem.W.Frag) (n : Nat) (t : TGs) : TG := fun v σ H Q => ∃ a xs, v = .ref a ∧ SqT K H a xs ∧ xs.length = n ∧ t xs σ H Q
theorem P4 {es : List Expr} {k : Nat} {t : TGs} {n : Nat} (hc : X.calm = true) (h : PGs X es t)
    (hn : (assignEach es X.env).length = n := by rfl) (hst : (assignEach es X.env).findIdx? (·.1) = none := by rfl) : PG X (.Tuple es k pos) (ae1 X.K n t) := by
  intro pins s σ H v u Q I r hw
  obtain ⟨a, xs, e1, hq, hl, hw⟩ := hw
  subst e1
  cases r
  obtain ⟨its, rv, ht, hz⟩ := I.tuple hq
  refine assign_Tuple_tuple (I.ok.hd hc) ht (by simp [hn, ← hl, rv.length]) hst fun h' hx => ?_
  have I1 : Inv X pins σ H { s with heap := h' } := I.kept (t' := s.toks) fun b o e => hx b o (Nat.ne_of_lt (Heap.lt_size e)) e
  exact h pins _ σ H xs _ Q I1 (by simpa using rv) hw
def bl5 (to ti : TE) (t : bm4) : TG := fun v σ H Q => to σ H fun o H1 => ti σ H1 fun i H2 => t o i v H2 fun H3 => Q σ H3
theorem aI0 {o i : Expr} {to ti : TE} {t : bm4} (ho : PE X o to) (hi : PE X i ti) (hs : bp0 X t)
    (ha : ∀ v, assign (.Subscript o i pos) X.env v = (do
      let ov ← holding [v] (eval o X.env)
      let iv ← holding [v, ov] (eval i X.env)
      standAt pos
      holding [v, ov, iv] (setItem ov iv v)
      release [v, ov, iv] []) := by intro _; rfl) : PG X (.Subscript o i pos) (bl5 to ti t) := by
  intro pins s σ H v u Q I r h
  rw [ha]
  refine wpAny_bind (wpAny_holding (thn (ho pins s σ H _ I h) fun ov s1 ⟨x, H1, I1, r1, q1⟩ => ?_))
  refine wpAny_bind (wpAny_holding (thn (hi pins s1 σ H1 _ I1 q1) fun iv s2 ⟨y, H2, I2, r2, q2⟩ => ?_))
  refine wpAny_bind (wpAny_standAt (wpAny_bind (wpAny_holding (thn (hs pins s2 σ H2 x y v ov iv u _ I2 r1 r2 r q2) fun _ s3 ⟨H3, I3, q3⟩ => ?_))))
  exact wpAny_release ⟨σ, H3, I3, q3⟩
def aT2 (te : TE) (g : TG) : TS := fun D σ H => te σ H fun x H1 => g x σ H1 D.nx
theorem Z8 {tg e : Expr} {te : TE} {g : TG} (he : PE X e te) (hg : PG X tg g) (hs : swapsWithSole [tg] e pos.line X.env = pure false := by rfl) (hw : swappedStores [tg] e X.env = pure none := by rfl)
    (h1 : (assignEach [tg] X.env).map (·.2) = [assign tg X.env] := by rfl) : PS X (.Assign [tg] e pos) (aT2 te g) := by
  intro pins s σ H D I h
  refine wpAny_Assign_stores (thn (he pins s σ H _ I h) fun v s1 ⟨x, H1, I1, r1, q1⟩ => ?_) hs hw
  rw [h1]
  exact thn (hg pins s1 σ H1 x v _ I1 r1 q1) fun _ s2 q => q
theorem i8 {i : Nat} {x : Str} {e : Expr} {te : TE} {pos' : Pos} (hN : X.N.Nodup) (hi : X.N[i]? = some x) (hx : Loc X.env.scope x) (he : PE X e te) (hs : swapsWith e (some (.Name x pos')) pos.line X.env = pure false := by rfl) (hf : X.fn x = true ∨ X.env.scope.names.lookup x = some .local := by first | exact .inl rfl | exact .inr rfl | assumption) :
    PS X (.Assign [.Name x pos'] e pos) (aT2 te (D3 i)) := by
  intro pins s σ H D I h
  refine wpAny_Assign_Name (thn (he pins s σ H _ I h) fun v s1 ⟨y, H1, I1, r1, q1⟩ => ?_) hs
  exact ab6 I1 hN hi hx r1 (fun s2 I2 => ⟨_, H1, I2, q1⟩) hf
def ba4 (i j : Nat) (ta : TA) : TS := fun D σ H => ta σ H fun vs H1 => ∃ v w, vs = [v, w] ∧ D.nx ((σ.set i (some v)).set j (some w)) H1
theorem ac1 {i j : Nat} {x y : Str} {a b : Expr} {ta : TA} {px py pt : Pos} {kt k2 pt2} (hc : X.calm = true) (hN : X.N.Nodup) (hi : X.N[i]? = some x) (hj : X.N[j]? = some y) (hij : i ≠ j)
    (hx : X.env.scope.names.lookup x = some .local) (hy : X.env.scope.names.lookup y = some .local) (ha : PA X [a, b] ta)
    (hw : swappedStores [.Tuple [.Name x px, .Name y py] kt pt] (.Tuple [a, b] k2 pt2) X.env = pure (some [x, y]))
    (hs : swapsWithSole [.Tuple [.Name x px, .Name y py] kt pt] (.Tuple [a, b] k2 pt2) pos.line X.env = pure false := by rfl) :
    PS X (.Assign [.Tuple [.Name x px, .Name y py] kt pt] (.Tuple [a, b] k2 pt2) pos) (ba4 i j ta) := by
  intro pins s σ H D I h
  rw [exec_Assign_arm]
  refine wpAny_bind (wpAny_standAt ?_)
  rw [hs]
  refine wpAny_bind (wpAny_pure ?_)
  rw [if_neg (by decide)]
  refine wpAny_bind (Tuple_ (thn (ha _ pins s σ H _ I h) fun us s1 ⟨vs, H1, I1, r1, q1⟩ => ?_))
  obtain ⟨v, w, e1, q1⟩ := q1
  subst e1
  obtain ⟨u1, u2, rfl, rv, rw'⟩ : ∃ u1 u2, us = [u1, u2] ∧ C8 v u1 ∧ C8 w u2 := by
    cases r1 with
    | cons p q =>
      cases q with
      | cons p' q' =>
        cases q'
        exact ⟨_, _, rfl, p, p'⟩
  refine wpAny_newObj_type ?_ (by show 2 ≤ sizeLine; decide)
  have I2 : Inv X pins σ H1 { s1 with heap := s1.heap.push { cls := .type "tuple", data := .seq [u1, u2].toArray } } := I1.kept (t' := s1.toks) fun b o e => Heap.get?_push_of_some _ e
  rw [hw]
  refine wpAny_bind (wpAny_pure ?_)
  show wpAny (model X.prog X.w) X.A (do rule "assign.swapped-stores"; let items ← unpackItems (.ref s1.heap.objs.size) 2 none; assignInOrder [fun v => bindName X.env y v, fun v => bindName X.env x v] items.reverse; pure Flow.next) _ _ _
  refine wpAny_bind (wpAny_rule (wpAny_bind (unpackItems_tuple (items := #[u1, u2]) (I.ok.hd hc) (IsTup.new s1.heap _) fun h' hx' => ?_)))
  have I3 := I2.kept (h' := h') (t' := s1.toks) fun b o e => hx' b o (Nat.ne_of_lt (Heap.lt_size e)) e
  show wpAny _ _ (assignInOrder [fun v => bindName X.env y v, fun v => bindName X.env x v] [u2, u1] >>= fun _ => pure Flow.next) _ _ _
  refine wpAny_bind (assignInOrder_cons (wpAny_bindName (ab6 I3 hN hj (.inl hy) rw' (fun s2 I4 => ?_) (.inr hy))))
  refine assignInOrder_cons (wpAny_bindName (ab6 I4 hN hi (.inl hx) rv (fun s3 I5 => assignInOrder_nil (wpAny_pure ?_)) (.inr hx)))
  rw [List.set_comm _ _ (Ne.symm hij)] at I5
  exact ⟨_, H1, I5, q1⟩
def bh1 (i : Nat) (te : TE) (ti : TIp) : TS := fun D σ H => ∃ x, σ[i]? = some (some x) ∧ te σ H fun y H1 => ti x y H1 fun z H2 => D.nx (σ.set i (some z)) H2
theorem bi3 {i : Nat} {x : Str} {e : Expr} {te : TE} {op : Operator} {ti : TIp} {pos' : Pos} (hN : X.N.Nodup) (hi : X.N[i]? = some x) (hx : Loc X.env.scope x) (he : PE X e te) (ho : PIp X op ti) (hf : X.fn x = true ∨ X.env.scope.names.lookup x = some .local := by first | exact .inl rfl | exact .inr rfl | assumption) :
    PS X (.AugAssign (.Name x pos') op e pos) (bh1 i te ti) := by
  intro pins s σ H D I h
  obtain ⟨v, e1, h⟩ := h
  obtain ⟨m, hn, hl⟩ := I.loc
  have vis : Vis X.env.scope x := by rcases hx with k | k; exact .inl k; exact .inr (.inl k)
  obtain ⟨u, r, l⟩ := hl i x v hi e1 vis
  refine wpAny_AugAssign_Name ?_
  have go : wpAny (model X.prog X.w) X.A (eval e X.env) (fun w s₂ => wpAny (model X.prog X.w) X.A (inplaceOp op u w) (fun r s₃ => wpAny (model X.prog X.w) X.A (storeName X.env x r) (fun _ => SP X pins D .next) X.xe s₃) X.xe s₂) X.xe s := by
    refine thn (he pins s σ H _ I h) fun w s1 ⟨y, H1, I1, r1, q1⟩ => ?_
    refine thn (ho pins s1 σ H1 v y u w _ I1 r r1 q1) fun z s2 ⟨zv, H2, I2, r2, q2⟩ => ?_
    exact ab6 I2 hN hi hx r2 (fun s3 I3 => ⟨_, H2, I3, q2⟩) hf
  rcases l with ⟨hk, hm⟩ | ⟨hk, c, hc, hcell⟩
  · exact wpAny_loadName_local I.ok.kind hk hn hm go
  · rcases hk with hk | hk
    · exact wpAny_loadName_cell I.ok.kind hk hc hcell go
    · rcases hx with k | k
      · have : X.env.scope.names.lookup x = some .free := hk
        rw [k] at this; cases this
      · have : X.env.scope.names.lookup x = some .free := hk
        rw [k] at this; cases this
end
section
variable {X : Cx} {pos : Pos}
def ap1 (c : TT) (tb : TS) : TS := fun D σ H => ∃ W : Nat → St → Hp → Prop, (∃ m, W m σ H) ∧ ∀ m σ H, W m σ H →
  c σ H fun b H1 => if b = true then ∃ N : St → Hp → Prop, (∀ σ' H', N σ' H' → ∃ m', m' < m ∧ W m' σ' H') ∧ tb { D with nx := N, ct := N, bk := D.nx } σ H1 else D.nx σ H1
theorem ah2 {c : Expr} {body : List Stmt} {tc : TT} {tb : TS} (hp : PassesOwn (model X.prog X.w) X.A X.env X.xe) (hc : PT X c tc) (hb : PSs X body tb) : PS X (.While c body [] pos) (ap1 tc tb) := by
  intro pins s σ H D I h
  obtain ⟨W, ⟨m0, w0⟩, turn⟩ := h
  refine wpAny_While (codeAny_whileLoop (fun n s' => ∃ σ' H', Inv X pins σ' H' s' ∧ W n σ' H') ?_ m0 ⟨σ, H, I, w0⟩)
  rintro n s1 ⟨σ1, H1, I1, w1⟩
  refine wpAny_passesOwn hp (thn (hc pins s1 σ1 H1 _ I1 (turn n σ1 H1 w1)) fun b s2 ⟨H2, I2, q2⟩ => ?_)
  cases b with
  | true =>
    obtain ⟨N, hN, q2⟩ := q2
    rw [if_pos rfl]
    refine wpAny_passesOwn hp (thn (hb pins s2 σ1 H2 _ I2 q2) fun f s3 q3 => ?_)
    cases f with
    | next =>
      obtain ⟨σ3, H3, I3, n3⟩ := q3
      obtain ⟨m', hm, w3⟩ := hN σ3 H3 n3
      exact ⟨m', hm, σ3, H3, I3, w3⟩
    | cont =>
      obtain ⟨σ3, H3, I3, n3⟩ := q3
      obtain ⟨m', hm, w3⟩ := hN σ3 H3 n3
      exact ⟨m', hm, σ3, H3, I3, w3⟩
    | brk => exact q3
    | ret v => exact q3
  | false =>
    rw [if_neg Bool.false_ne_true]
    exact wpAny_execs_nil ⟨σ1, H2, I2, q2⟩
end
structure It where
  go : Nat → Hp → Prop
  yld : Nat → Hp → V → Hp → Prop
  stop : Nat → Hp → Prop
def ak8 (X : Cx) (pins : List (Addr × Obj)) (H : Hp) (b : Addr) : Prop :=
  H b = none ∧ b ≠ X.env.locals ∧ b ∉ X.fs ∧ (b ∈ X.ex ∨ X.s₀.heap.objs.size ≤ b) ∧ (∀ x c, X.env.cells.lookup x = some c → c ≠ b) ∧ ∀ p ∈ X.pn ++ pins, p.1 ≠ b
theorem Inv.fpOk {X : Cx} {pins : List (Addr × Obj)} {σ : St} {H H' : Hp} {s : Shared} {b : Addr} (I : Inv X pins σ H s) (hb : s.heap.objs.size ≤ b) (hn : H' b = none) : ak8 X pins H' b := by
  refine ⟨hn, Nat.ne_of_gt (Nat.lt_of_lt_of_le I.lt hb), I.nofs hb, .inr (Nat.le_trans I.sz hb), fun x c e z => ?_, fun p hp z => ?_⟩
  · obtain ⟨v, q⟩ := I.cell x c e
    exact absurd (Nat.lt_of_lt_of_le q.lt (by rw [z]; exact hb)) (Nat.lt_irrefl _)
  · exact absurd (Nat.lt_of_lt_of_le (Heap.lt_size (I.pin p hp).1) (by rw [z]; exact hb)) (Nat.lt_irrefl _)
structure aK7 (P : Program) (w : World) (K : PySem.W.Frag) (tg : Expr) (J : It) (fp : List Addr) (it : Addr) (tn : Nat → Heap → Prop) : Prop where
  mem : it ∈ fp
  obj : ∀ i h, tn i h → ∀ b ∈ fp, ∃ o, h.get? b = some o ∧ ∀ v, o.data ≠ .cell v
  keep : ∀ i h h', tn i h → (∀ b ∈ fp, ∀ o, h.get? b = some o → h'.get? b = some o) → tn i h'
  item : ∀ (X : Cx), X.prog = P → X.w = w → X.K = K → X.calm = true → ∀ (i : Nat) (pins : List (Addr × Obj)) (s : Shared) (σ : St) (H : Hp) (E : Value → Shared → Prop), Inv X pins σ H s → (∀ b ∈ fp, ak8 X pins H b) → tn i s.heap → J.go i H →
    wpAny (model P w) X.A (pyNext (.ref it)) (fun r s1 => ∃ u, r = some u ∧
      wpAny (model P w) X.A (letOwnedTupleGo tg (.ref it) u) (fun _ s2 => ∃ x H', Inv X pins σ H' s2 ∧ C8 x u ∧ J.yld i H x H' ∧ tn (i + 1) s2.heap ∧ ∀ b ∈ fp, H' b = none) E s1) E s
  done : ∀ (X : Cx), X.prog = P → X.w = w → X.K = K → X.calm = true → ∀ (i : Nat) (pins : List (Addr × Obj)) (s : Shared) (σ : St) (H : Hp) (E : Value → Shared → Prop), Inv X pins σ H s → (∀ b ∈ fp, ak8 X pins H b) → tn i s.heap → J.stop i H →
    wpAny (model P w) X.A (pyNext (.ref it)) (fun r s1 => r = none ∧ Inv X pins σ H s1) E s
  self : ∀ (A : Around) (i : Nat) (s : Shared) (Q : Value → Shared → Prop) (E : Value → Shared → Prop), tn i s.heap → Q (.ref it) s → wpAny (model P w) A (pyIter (.ref it)) Q E s
abbrev TI := St → Hp → (It → Hp → Prop) → Prop
def PIE (X : Cx) (pins : List (Addr × Obj)) (σ : St) (tg : Expr) (R : It → Hp → Prop) (itv : Value) (s2 : Shared) : Prop :=
  ∃ (it : Addr) (fp : List Addr) (tn : Nat → Heap → Prop) (J : It) (H' : Hp), itv = .ref it ∧ Inv X pins σ H' s2 ∧ aK7 X.prog X.w X.K tg J fp it tn ∧ tn 0 s2.heap ∧ (∀ b ∈ fp, ak8 X pins H' b) ∧ R J H'
def PI (X : Cx) (tg iter : Expr) (wi : TI) : Prop :=
  ∀ (pins : List (Addr × Obj)) (s : Shared) (σ : St) (H : Hp) (R : It → Hp → Prop), Inv X pins σ H s → wi σ H R →
    wpAny (model X.prog X.w) X.A (eval iter X.env) (fun v s1 => wpAny (model X.prog X.w) X.A (pyIter v) (PIE X pins σ tg R) X.xe s1) X.xe s
theorem aX5 {M : Model} {A : Around} {E : Value → Shared → Prop} {s : Shared} {tg : Expr} {it : Addr} {u : Value} {o : Obj} {n : String} {vs : Array Value} {Q : Unit → Shared → Prop} (ho : s.heap.get? it = some o) (hc : o.cls = .type n) (hd : o.data = .fields vs)
    (hn : ["enumerate", "zip", "dict_itemiterator", "dict_reverseitemiterator", "odict_iterator", "itertools.zip_longest", "itertools.pairwise"].contains n = false) (hQ : Q () s) : wpAny M A (letOwnedTupleGo tg (.ref it) u) Q E s := by
  unfold letOwnedTupleGo
  cases tg <;> first
    | exact wpAny_pure hQ
    | (cases u <;> first
        | exact wpAny_pure hQ
        | (refine wpAny_bind (wpAny_load ho ?_)
           rw [hc, hd]
           show wpAny M A (if (["enumerate", "zip", "dict_itemiterator", "dict_reverseitemiterator", "odict_iterator", "itertools.zip_longest", "itertools.pairwise"].contains n && vs[0]? == some (rawInt _)) = true then _ else _) Q E s
           rw [if_neg (by intro h; rw [hn, Bool.false_and] at h; cases h)]
           exact wpAny_pure hQ))
def Itl (K : PySem.W.Frag) (a : Addr) : It :=
  ⟨fun i H => ∃ xs x, SqL K H a xs ∧ xs[i]? = some x, fun i H x H' => H' = H ∧ ∀ xs, SqL K H a xs → xs[i]? = some x, fun i H => ∃ xs, SqL K H a xs ∧ xs.length ≤ i⟩
def Itr (lo : Int) (n : Nat) : It := ⟨fun i _ => i < n, fun i H x H' => H' = H ∧ x = .int (lo + i), fun i _ => n ≤ i⟩
theorem aO9 {P : Program} {w : World} {K : PySem.W.Frag} {tg : Expr} (a it : Addr) : aK7 P w K tg (Itl K a) [it] it (fun i h => h.IsListIter it a i) where
  mem := by simp
  obj := fun i h st b hb => by
    have e : b = it := by simpa using hb
    subst e
    obtain ⟨o, e, c, d⟩ := st
    exact ⟨o, e, fun v z => by rw [d] at z; cases z⟩
  keep := fun i h h' st k => st.at fun o e => k it (by simp) o e
  item := by
    intro X hP hw hK hc i pins s σ H E I hf st hg
    subst hP hw hK
    obtain ⟨xs, x, hq, hx⟩ := hg
    obtain ⟨its, rv, p, hz⟩ := I.list hq
    obtain ⟨u, hu, ru⟩ := rv.get hx
    obtain ⟨f0, f1, f2, f3, f4, f5⟩ := hf it (by simp)
    refine wpAny_pyNext_list_item st p.isList (x := u) (by simpa using hu) fun h' st' sb => ?_
    have I1 : Inv X pins σ H { s with heap := h' } := I.turned (t' := s.toks) (fun b o hb e => (sb.2 b hb).trans e) f0 f1 f3 f4 f5
    obtain ⟨o, e, c, d⟩ := id st'
    exact ⟨u, rfl, aX5 (s := { s with heap := h' }) e c d (by decide) ⟨x, H, I1, ru, ⟨rfl, fun ys hy => by rw [I.list_inj hy hq]; exact hx⟩, st', fun b hb => (hf b hb).1⟩⟩
  done := by
    intro X hP hw hK hc i pins s σ H E I hf st hg
    subst hP hw hK
    obtain ⟨xs, hq, hx⟩ := hg
    obtain ⟨its, rv, p, hz⟩ := I.list hq
    obtain ⟨f0, f1, f2, f3, f4, f5⟩ := hf it (by simp)
    have hl := rv.length
    exact wpAny_pyNext_list_end (I.ok.hd hc) st p.isList (by simp; omega) fun h' eb => ⟨rfl, I.turned (t' := s.toks) (fun b o hb e => eb b o hb e) f0 f1 f3 f4 f5⟩
  self := fun _ _ _ _ _ st h => wpAny_pyIter_listiter st h
theorem aG8 {P : Program} {w : World} {K : PySem.W.Frag} {tg : Expr} (it : Addr) (lo : Int) (n : Nat) : aK7 P w K tg (Itr lo n) [it] it (fun i h => IsRangeIter h it (lo + (i : Nat) * 1) ((n : Int) - (i : Nat)) 1) where
  mem := by simp
  obj := fun i h st b hb => by
    have e : b = it := by simpa using hb
    subst e
    exact ⟨_, st, fun v z => by
      have z' : Data.fields _ = Data.cell v := z
      cases z'⟩
  keep := fun i h h' st k => k it (by simp) _ st
  item := by
    intro X hP hw hK hc i pins s σ H E I hf st hg
    subst hP hw hK
    obtain ⟨f0, f1, f2, f3, f4, f5⟩ := hf it (by simp)
    have W := Walks.range (prog := X.prog) (w := X.w) (I.ok.hd hc) it lo 1 n
    refine W.item i s _ _ hg st fun v h' tk hv st' kk => ?_
    obtain ⟨t, rfl⟩ := hv
    have I1 : Inv X pins σ H { s with heap := h', toks := tk } := I.turned (fun b o hb e => kk b o (by simpa using hb) e) f0 f1 f3 f4 f5
    refine ⟨_, rfl, aX5 (s := { s with heap := h', toks := tk }) (n := "range_iterator") st' rfl rfl (by decide) ⟨.int (lo + i), H, I1, ⟨t, ?_⟩, ⟨rfl, rfl⟩, st', fun b hb => (hf b hb).1⟩⟩
    rw [Int.mul_one]
  done := by
    intro X hP hw hK hc i pins s σ H E I hf st hg
    subst hP hw hK
    obtain ⟨f0, f1, f2, f3, f4, f5⟩ := hf it (by simp)
    exact wpAny_pyNext_range_end (I.ok.hd hc) st (by have : n ≤ i := hg; omega) fun h' eb => ⟨rfl, I.turned (t' := s.toks) (fun b o hb e => eb b o hb e) f0 f1 f3 f4 f5⟩
  self := fun _ _ _ _ _ st h => wpAny_pyIter_rangeiter st h
section
variable {X : Cx} {tg : Expr}
def aM4 (K : PySem.W.Frag) (tl : TE) : TI := fun σ H R => tl σ H fun x H1 => ∃ a, x = .ref a ∧ (∃ xs, SqL K H1 a xs) ∧ R (Itl K a) H1
theorem K1 {l : Expr} {tl : TE} (hl : PE X l tl) : PI X tg l (aM4 X.K tl) := by
  intro pins s σ H R I h
  refine thn (hl pins s σ H _ I h) fun v s1 ⟨x, H1, I1, r1, q1⟩ => ?_
  obtain ⟨a, e, ⟨xs, hq⟩, q⟩ := q1
  subst e
  cases r1
  obtain ⟨its, rv, p, hz⟩ := I1.list hq
  refine wpAny_pyIter_list p.isList ?_
  refine ⟨s1.heap.objs.size, [s1.heap.objs.size], _, _, H1, rfl, I1.kept (t' := s1.toks) fun b o e => Heap.get?_push_of_some _ e, aO9 a _, ⟨_, Heap.get?_push_size _ rfl, rfl, rfl⟩, fun b hb => ?_, q⟩
  have e : b = s1.heap.objs.size := by simpa using hb
  subst e
  exact I1.fpOk (Nat.le_refl _) (I1.hok.fresh (Nat.le_refl _))
theorem aD9 {pins : List (Addr × Obj)} {σ : St} {H : Hp} {s : Shared} {R : It → Hp → Prop} {E : Value → Shared → Prop} {lo hi : Int} {t u v : Tok} {tk : Nat} (I : Inv X pins σ H s) (h1 : -(2 ^ 62) ≤ lo) (h2 : lo < 2 ^ 62) (h3 : -(2 ^ 62) ≤ hi) (h4 : hi < 2 ^ 62)
    (q : R (Itr lo (hi - lo).toNat) H) : wpAny (model X.prog X.w) X.A (pyIter (.ref s.heap.objs.size)) (PIE X pins σ tg R) E { s with heap := s.heap.push { cls := .type "range", data := .fields #[.int lo t, .int hi u, .int 1 v] }, toks := tk } := by
  refine wpAny_pyIter_range (IsRange.new ..) (small_one h1 h2 h3 h4) ?_
  have I1 : Inv X pins σ H { s with heap := s.heap.push { cls := .type "range", data := .fields #[.int lo t, .int hi u, .int 1 v] }, toks := tk } := I.kept fun b o e => Heap.get?_push_of_some _ e
  refine ⟨(s.heap.push { cls := .type "range", data := .fields #[.int lo t, .int hi u, .int 1 v] }).objs.size, [(s.heap.push { cls := .type "range", data := .fields #[.int lo t, .int hi u, .int 1 v] }).objs.size], _, _, H, rfl,
    I1.kept (t' := tk) fun b o e => Heap.get?_push_of_some _ e, aG8 _ lo (hi - lo).toNat, ?_, fun b hb => ?_, q⟩
  · have e1 : lo + ((0 : Nat) : Int) * 1 = lo := by simp
    have e2 : (((hi - lo).toNat : Nat) : Int) - ((0 : Nat) : Int) = Builtin.Range.rangeSize lo hi 1 := by rw [rangeSize_one]; split <;> omega
    show IsRangeIter _ _ (lo + ((0 : Nat) : Int) * 1) ((((hi - lo).toNat : Nat) : Int) - ((0 : Nat) : Int)) 1
    rw [e1, e2]
    exact Heap.get?_push_size _ rfl
  · have e : b = (s.heap.push { cls := .type "range", data := .fields #[.int lo t, .int hi u, .int 1 v] }).objs.size := by simpa using hb
    subst e
    exact I1.fpOk (Nat.le_refl _) (I1.hok.fresh (Nat.le_refl _))
def aX1 (ta : TA) : TI := fun σ H R => ta σ H fun vs H1 => ∃ j : Int, vs = [.int j] ∧ -(2 ^ 62) ≤ j ∧ j < 2 ^ 62 ∧ R (Itr 0 j.toNat) H1
def aX0 (ta : TA) : TI := fun σ H R => ta σ H fun vs H1 => ∃ i j : Int, vs = [.int i, .int j] ∧ (-(2 ^ 62) ≤ i ∧ i < 2 ^ 62 ∧ -(2 ^ 62) ≤ j ∧ j < 2 ^ 62) ∧ R (Itr i (j - i).toNat) H1
theorem P3 {a : Expr} {ta : TA} {p pos : Pos} (hg : Gl X "range") (hm : X.mg "range" = none) (ha : PA X [a] ta) (hs : starEach [a] X.env = [(false, eval a X.env)] := by rfl) : PI X tg (.Call (.Name "range" p) [a] [] pos) (aX1 ta) := by
  intro pins s σ H R I h
  refine Call_ (aa1 I hg hm boot_range (PyProof.Rows.callWith_type1 (thn (ha pos pins s σ H _ I h) fun us s1 ⟨vs, H1, I1, r1, q1⟩ => ?_) hs rfl))
  obtain ⟨j, e, q1, q2, q⟩ := q1
  subst e
  cases r1 with
  | cons r rr =>
    cases rr
    obtain ⟨t, rfl⟩ := r
    exact call_range_1 (aD9 I1 (by omega) (by omega) q1 q2 (by simpa using q))
theorem av7 {a b : Expr} {ta : TA} {p pos : Pos} (hg : Gl X "range") (hm : X.mg "range" = none) (ha : PA X [a, b] ta) (hs : starEach [a, b] X.env = [(false, eval a X.env), (false, eval b X.env)] := by rfl) (hs2 : starEach [b] X.env = [(false, eval b X.env)] := by rfl) :
    PI X tg (.Call (.Name "range" p) [a, b] [] pos) (aX0 ta) := by
  intro pins s σ H R I h
  refine Call_ (aa1 I hg hm boot_range (PyProof.Rows.callWith_type1 (thn (ha pos pins s σ H _ I h) fun us s1 ⟨vs, H1, I1, r1, q1⟩ => ?_) (by rw [hs, hs2]) (by rw [hs2]; rfl)))
  obtain ⟨i, j, e, ⟨q1, q2, q3, q4⟩, q⟩ := q1
  subst e
  cases r1 with
  | cons r rr =>
    cases rr with
    | cons r' rr =>
      cases rr
      obtain ⟨t, rfl⟩ := r
      obtain ⟨t', rfl⟩ := r'
      exact call_range_2 (aD9 I1 q1 q2 q3 q4 q)
def bp4 (wi : TI) (g : TG) (tb : TS) : TS := fun D σ H => wi σ H fun J H1 => ∃ W : Nat → Nat → St → Hp → Prop, (∃ m, W 0 m σ H1) ∧ ∀ i m σ H, W i m σ H →
  (J.stop i H ∧ D.nx σ H) ∨ (J.go i H ∧ ∃ N : St → Hp → Prop, (∀ σ' H', N σ' H' → ∃ m', m' < m ∧ W (i + 1) m' σ' H') ∧ ∀ x H', J.yld i H x H' → g x σ H' fun σ2 H2 => tb { D with nx := N, ct := N, bk := D.nx } σ2 H2)
def az8 (fp : List Addr) (h : Heap) : List (Addr × Obj) := fp.filterMap fun b => (h.get? b).map fun o => (b, o)
theorem F8 {fp : List Addr} {h : Heap} {b : Addr} {o : Obj} (hb : b ∈ fp) (e : h.get? b = some o) : (b, o) ∈ az8 fp h := List.mem_filterMap.mpr ⟨b, hb, by rw [e]; rfl⟩
theorem aQ0 {fp : List Addr} {h : Heap} {p : Addr × Obj} (hp : p ∈ az8 fp h) : p.1 ∈ fp ∧ h.get? p.1 = some p.2 := by
  obtain ⟨b, hb, e⟩ := List.mem_filterMap.mp hp
  cases q : h.get? b with
  | none => rw [q] at e; cases e
  | some o =>
    rw [q] at e
    have e' : (b, o) = p := Option.some.inj e
    subst e'
    exact ⟨hb, q⟩
theorem Inv.pinned {pins : List (Addr × Obj)} {σ : St} {H : Hp} {s : Shared} {fp : List Addr} (I : Inv X pins σ H s) (hf : ∀ b ∈ fp, ak8 X pins H b) (ho : ∀ b ∈ fp, ∃ o, s.heap.get? b = some o ∧ ∀ v, o.data ≠ .cell v) : Inv X (pins ++ az8 fp s.heap) σ H s :=
  I.pins_of fun p hp => (List.mem_append.mp hp).elim (fun z => I.pin p (List.mem_append_right _ z)) fun z => by
    obtain ⟨hb, e⟩ := aQ0 z
    obtain ⟨f0, f1, f2, _⟩ := hf p.1 hb
    obtain ⟨o, e', d⟩ := ho p.1 hb
    rw [e] at e'; cases e'
    exact ⟨e, f0, f1, f2, d⟩
theorem Inv.unpinned {pins pl : List (Addr × Obj)} {σ : St} {H : Hp} {s : Shared} (I : Inv X (pins ++ pl) σ H s) : Inv X pins σ H s := I.pins_of fun p hp => I.pin p (List.mem_append_right _ (List.mem_append_left _ hp))
theorem P2 {iter : Expr} {body : List Stmt} {wi : TI} {g : TG} {tb : TS} {pos : Pos} (hp : PassesOwn (model X.prog X.w) X.A X.env X.xe) (hc : X.calm = true) (hi : PI X tg iter wi) (hg : PG X tg g) (hb : PSs X body tb)
    (hs : ∀ x, foldedSetIterable iter X.env x = pure x := by intro _; rfl) : PS X (.For tg iter body [] pos) (bp4 wi g tb) := by
  intro pins s σ H D I h
  refine wpAny_For (thn (hi pins s σ H _ I h) fun v s1 h1 => thn h1 fun itv s2 h2 => ?_) hs
  obtain ⟨it, fp, tn, J, H2, e, I2, T, st2, f2, W, ⟨m0, w0⟩, turn⟩ := h2
  subst e
  -- what stays true of the iterator's objects through the loop
  have stat : ∀ {H' : Hp}, (∀ b ∈ fp, H' b = none) → ∀ b ∈ fp, ak8 X pins H' b := fun hn b hb => ⟨hn b hb, (f2 b hb).2⟩
  refine codeAny_forLoop_any (fun n s' => ∃ i σ' H', Inv X pins σ' H' s' ∧ tn i s'.heap ∧ (∀ b ∈ fp, H' b = none) ∧ W i n σ' H') ?_ m0 ⟨0, σ, H2, I2, st2, fun b hb => (f2 b hb).1, w0⟩
  rintro n s3 ⟨i, σ3, H3, I3, st3, fr3, w3⟩
  rcases turn i n σ3 H3 w3 with ⟨stop, qn⟩ | ⟨go, N, hN, step⟩
  · refine wpAny_passesOwn hp (thn (T.done X rfl rfl rfl hc i pins s3 σ3 H3 X.xe I3 (stat fr3) st3 stop) fun r s4 ⟨hr, I4⟩ => ?_)
    subst hr
    exact wpAny_execs_nil ⟨σ3, H3, I4, qn⟩
  · refine wpAny_passesOwn hp (thn (T.item X rfl rfl rfl hc i pins s3 σ3 H3 X.xe I3 (stat fr3) st3 go) fun r s4 ⟨u, hr, h4⟩ => ?_)
    subst hr
    refine wpAny_passesOwn hp (thn h4 fun _ s5 ⟨x, H5, I5, r5, y5, st5, fr5⟩ => ?_)
    have I5' := I5.pinned (stat fr5) (T.obj _ _ st5)
    refine wpAny_passesOwn hp (thn (hg _ s5 σ3 H5 x u _ I5' r5 (step x H5 y5)) fun _ s6 ⟨σ6, H6, I6, q6⟩ => ?_)
    refine wpAny_passesOwn hp (thn (hb _ s6 σ6 H6 _ I6 q6) fun f s7 q7 => ?_)
    have again : ∀ {σ7 : St} {H7 : Hp}, Inv X (pins ++ az8 fp s5.heap) σ7 H7 s7 → N σ7 H7 → ∃ m, m < n ∧ ∃ i σ' H', Inv X pins σ' H' s7 ∧ tn i s7.heap ∧ (∀ b ∈ fp, H' b = none) ∧ W i m σ' H' := fun {σ7 H7} I7 n7 => by
      obtain ⟨m', hm, w7⟩ := hN σ7 H7 n7
      refine ⟨m', hm, i + 1, σ7, H7, I7.unpinned, T.keep _ _ _ st5 fun b hb o e => (I7.pin (b, o) (List.mem_append_right _ (List.mem_append_right _ (F8 hb e)))).1, fun b hb => ?_, w7⟩
      obtain ⟨o, e, d⟩ := T.obj _ _ st5 b hb
      exact (I7.pin (b, o) (List.mem_append_right _ (List.mem_append_right _ (F8 hb e)))).2.1
    cases f with
    | next => obtain ⟨σ7, H7, I7, n7⟩ := q7; exact again I7 n7
    | cont => obtain ⟨σ7, H7, I7, n7⟩ := q7; exact again I7 n7
    | brk => obtain ⟨σ7, H7, I7, q7⟩ := q7; exact ⟨σ7, H7, I7.unpinned, q7⟩
    | ret v => obtain ⟨x7, σ7, H7, I7, r7, q7⟩ := q7; exact ⟨x7, σ7, H7, I7.unpinned, r7, q7⟩
end
theorem ai0 {K : PySem.W.Frag} {a : Addr} {xs : List V} {g : TG} {tb : TS} {D : ag1} {σ : St} {H : Hp} (Pv : Nat → St → Hp → Prop) (h0 : Pv 0 σ H) (hl : ∀ i σ H, i ≤ xs.length → Pv i σ H → SqL K H a xs)
    (hs : ∀ i x σ H, xs[i]? = some x → Pv i σ H → g x σ H fun σ2 H2 => tb { D with nx := Pv (i + 1), ct := Pv (i + 1), bk := D.nx } σ2 H2) (hd : ∀ σ H, Pv xs.length σ H → D.nx σ H) :
    ∃ W : Nat → Nat → St → Hp → Prop, (∃ m, W 0 m σ H) ∧ ∀ i m σ H, W i m σ H →
      ((Itl K a).stop i H ∧ D.nx σ H) ∨ ((Itl K a).go i H ∧ ∃ N : St → Hp → Prop, (∀ σ' H', N σ' H' → ∃ m', m' < m ∧ W (i + 1) m' σ' H') ∧ ∀ x H', (Itl K a).yld i H x H' → g x σ H' fun σ2 H2 => tb { D with nx := N, ct := N, bk := D.nx } σ2 H2) := by
  refine ⟨fun i m σ H => m = xs.length - i ∧ i ≤ xs.length ∧ Pv i σ H, ⟨xs.length, by simp, Nat.zero_le _, h0⟩, ?_⟩
  rintro i m σ H ⟨rfl, hi, p⟩
  have q := hl i σ H hi p
  by_cases hlt : i < xs.length
  · refine .inr ⟨⟨xs, xs[i], q, by simp [hlt]⟩, Pv (i + 1), fun σ' H' p' => ⟨xs.length - (i + 1), by omega, rfl, hlt, p'⟩, fun x H' y => ?_⟩
    obtain ⟨e, y⟩ := y
    subst e
    exact hs i x σ _ (y xs q) p
  · have e : i = xs.length := by omega
    subst e
    exact .inl ⟨⟨xs, q, Nat.le_refl _⟩, hd σ H p⟩
theorem W9 {lo : Int} {n : Nat} {g : TG} {tb : TS} {D : ag1} {σ : St} {H : Hp} (Pv : Nat → St → Hp → Prop) (h0 : Pv 0 σ H)
    (hs : ∀ i σ H, i < n → Pv i σ H → g (.int (lo + i)) σ H fun σ2 H2 => tb { D with nx := Pv (i + 1), ct := Pv (i + 1), bk := D.nx } σ2 H2) (hd : ∀ σ H, Pv n σ H → D.nx σ H) :
    ∃ W : Nat → Nat → St → Hp → Prop, (∃ m, W 0 m σ H) ∧ ∀ i m σ H, W i m σ H →
      ((Itr lo n).stop i H ∧ D.nx σ H) ∨ ((Itr lo n).go i H ∧ ∃ N : St → Hp → Prop, (∀ σ' H', N σ' H' → ∃ m', m' < m ∧ W (i + 1) m' σ' H') ∧ ∀ x H', (Itr lo n).yld i H x H' → g x σ H' fun σ2 H2 => tb { D with nx := N, ct := N, bk := D.nx } σ2 H2) := by
  refine ⟨fun i m σ H => m = n - i ∧ i ≤ n ∧ Pv i σ H, ⟨n, by simp, Nat.zero_le _, h0⟩, ?_⟩
  rintro i m σ H ⟨rfl, hi, p⟩
  by_cases hlt : i < n
  · refine .inr ⟨hlt, Pv (i + 1), fun σ' H' p' => ⟨n - (i + 1), by omega, rfl, hlt, p'⟩, fun x H' y => ?_⟩
    obtain ⟨e, y⟩ := y
    subst e y
    exact hs i σ _ hlt p
  · have e : i = n := by omega
    subst e
    exact .inl ⟨Nat.le_refl _, hd σ H p⟩
theorem aC4 {c : TT} {tb : TS} {D : ag1} {σ : St} {H : Hp} (Pv : St → Hp → Prop) (μ : St → Hp → Nat) (h0 : Pv σ H)
    (hs : ∀ σ H, Pv σ H → c σ H fun b H1 => if b = true then tb { D with nx := fun σ' H' => Pv σ' H' ∧ μ σ' H' < μ σ H, ct := fun σ' H' => Pv σ' H' ∧ μ σ' H' < μ σ H, bk := D.nx } σ H1 else D.nx σ H1)
    (mono : ∀ σ H Q Q', (∀ b H1, Q b H1 → Q' b H1) → c σ H Q → c σ H Q') : ap1 c tb D σ H := by
  refine ⟨fun m σ H => m = μ σ H ∧ Pv σ H, ⟨_, rfl, h0⟩, ?_⟩
  rintro m σ H ⟨rfl, p⟩
  refine mono σ H _ _ (fun b H1 q => ?_) (hs σ H p)
  cases b with
  | true => exact ⟨_, fun σ' H' ⟨p', l⟩ => ⟨_, l, rfl, p'⟩, q⟩
  | false => exact q
abbrev R2 := V → V → Hp → VK → Prop
def OpR (X : Cx) (f : Value → Value → Sem Value) (r : R2) : Prop :=
  ∀ (pins : List (Addr × Obj)) (s : Shared) (σ : St) (H : Hp) (x y : V) (v u : Value) (Q : VK), Inv X pins σ H s → C8 x v → C8 y u → r x y H Q →
    wpAny (model X.prog X.w) X.A (f v u) (EP X pins σ Q) X.xe s
def UnR (X : Cx) (f : Value → Sem Value) (r : V → Hp → VK → Prop) : Prop :=
  ∀ (pins : List (Addr × Obj)) (s : Shared) (σ : St) (H : Hp) (x : V) (v : Value) (Q : VK), Inv X pins σ H s → C8 x v → r x H Q →
    wpAny (model X.prog X.w) X.A (f v) (EP X pins σ Q) X.xe s
def Y7 (X : Cx) (f : Value) (r : List V → Hp → VK → Prop) : Prop :=
  ∀ (pins : List (Addr × Obj)) (s : Shared) (σ : St) (H : Hp) (xs : List V) (us : List Value) (Q : VK), Inv X pins σ H s → t3 xs us → r xs H Q →
    wpAny (model X.prog X.w) X.A (call f us) (EP X pins σ Q) X.xe s
def bq0 (X : Cx) (r : V → Hp → (Bool → Hp → Prop) → Prop) : Prop :=
  ∀ (pins : List (Addr × Obj)) (s : Shared) (σ : St) (H : Hp) (x : V) (v : Value) (Q : Bool → Hp → Prop), Inv X pins σ H s → C8 x v → r x H Q →
    wpAny (model X.prog X.w) X.A (truthy v) (TP X pins σ Q) X.xe s
def tOp (r : R2) (ta tb : TE) : TE := fun σ H Q => ta σ H fun x H1 => tb σ H1 fun y H2 => r x y H2 Q
def tUn (r : V → Hp → VK → Prop) (ta : TE) : TE := fun σ H Q => ta σ H fun x H1 => r x H1 Q
def rI (C : Int → Int → Prop) (g : Int → Int → V) : R2 := fun x y H Q => ∃ i j, x = .int i ∧ y = .int j ∧ C i j ∧ Q (g i j) H
def rI0 (g : Int → Int → V) : R2 := fun x y H Q => ∃ i j, x = .int i ∧ y = .int j ∧ Q (g i j) H
def rU (g : Int → V) : V → Hp → VK → Prop := fun x H Q => ∃ i, x = .int i ∧ Q (g i) H
section
variable {X : Cx} {a b c : Expr} {ta tb tc : TE} {pos : Pos}
theorem bm1 (ha : PE X a ta) (hb : PE X b tb) {pins : List (Addr × Obj)} {s : Shared} {σ : St} {H : Hp} {R : V → V → Hp → Prop} (I : Inv X pins σ H s)
    (h : ta σ H fun x H1 => tb σ H1 fun y H2 => R x y H2) {Q : Value → Shared → Prop} {f : Value → Value → Sem Value}
    (hf : ∀ v u s2 x y H2, Inv X pins σ H2 s2 → C8 x v → C8 y u → R x y H2 → wpAny (model X.prog X.w) X.A (f v u) Q X.xe s2) :
    wpAny (model X.prog X.w) X.A (eval a X.env) (fun v s₁ => wpAny (model X.prog X.w) X.A (eval b X.env) (fun u s₂ => wpAny (model X.prog X.w) X.A (f v u) Q X.xe s₂) X.xe s₁) X.xe s := by
  refine thn (ha pins s σ H _ I h) fun v s1 ⟨x, H1, I1, r1, q1⟩ => ?_
  refine thn (hb pins s1 σ H1 _ I1 q1) fun u s2 ⟨y, H2, I2, r2, q2⟩ => ?_
  exact hf v u s2 x y H2 I2 r1 r2 q2
theorem i6 {op : Operator} {r : R2} (ho : OpR X (binaryOp op) r) (ha : PE X a ta) (hb : PE X b tb) : PE X (.BinOp a op b pos) (tOp r ta tb) := by
  intro pins s σ H Q I h
  exact wpAny_BinOp (bm1 ha hb I h fun v u s2 x y H2 I2 rx ry q => ho pins s2 σ H2 x y v u Q I2 rx ry q)
theorem aa9 {op : UnaryOp} {r : V → Hp → VK → Prop} (ho : UnR X (unaryOp op) r) (ha : PE X a ta) : PE X (.UnaryOp op a pos) (tUn r ta) := by
  intro pins s σ H Q I h
  exact UnaryOp_ (thn (ha pins s σ H _ I h) fun v s1 ⟨x, H1, I1, r1, q1⟩ => ho pins s1 σ H1 x v Q I1 r1 q1)
theorem opI {f : Value → Value → Sem Value} {C : Int → Int → Prop} {g : Int → Int → Int}
    (rule : ∀ (i j : Int) (t u : Tok) (s : Shared) (Q : Value → Shared → Prop) (E : Value → Shared → Prop), C i j → Q (.int (g i j) s.toks) { s with toks := s.toks + 1 } → wpAny (model X.prog X.w) X.A (f (.int i t) (.int j u)) Q E s) :
    OpR X f (rI C fun i j => .int (g i j)) := by
  intro pins s σ H x y v u Q I rx ry h
  obtain ⟨i, j, rfl, rfl, hc, q⟩ := h
  obtain ⟨t, rfl⟩ := rx
  obtain ⟨t', rfl⟩ := ry
  exact rule i j t t' s _ _ hc ⟨.int (g i j), H, I.tok _, ⟨_, rfl⟩, q⟩
theorem bo0 {f : Value → Value → Sem Value} {g : Int → Int → Int}
    (rule : ∀ (i j : Int) (t u : Tok) (s : Shared) (Q : Value → Shared → Prop) (E : Value → Shared → Prop), Q (.int (g i j) s.toks) { s with toks := s.toks + 1 } → wpAny (model X.prog X.w) X.A (f (.int i t) (.int j u)) Q E s) :
    OpR X f (rI0 fun i j => .int (g i j)) := by
  intro pins s σ H x y v u Q I rx ry h
  obtain ⟨i, j, rfl, rfl, q⟩ := h
  obtain ⟨t, rfl⟩ := rx
  obtain ⟨t', rfl⟩ := ry
  exact rule i j t t' s _ _ ⟨.int (g i j), H, I.tok _, ⟨_, rfl⟩, q⟩
theorem bb8 {f : Value → Value → Sem Value} {g : Int → Int → Bool}
    (rule : ∀ (i j : Int) (t u : Tok) (s : Shared) (Q : Value → Shared → Prop) (E : Value → Shared → Prop), Q (.bool (g i j)) s → wpAny (model X.prog X.w) X.A (f (.int i t) (.int j u)) Q E s) :
    OpR X f (rI0 fun i j => .bl (g i j)) := by
  intro pins s σ H x y v u Q I rx ry h
  obtain ⟨i, j, rfl, rfl, q⟩ := h
  obtain ⟨t, rfl⟩ := rx
  obtain ⟨t', rfl⟩ := ry
  exact rule i j t t' s _ _ ⟨.bl (g i j), H, I, rfl, q⟩
def bn1 (i j : Int) : Prop := 0 ≤ j ∧ j ≤ 1000000 ∧ i.natAbs < 2 ^ 64
theorem J0 : OpR X (binaryOp .Add) (rI0 fun i j => .int (i + j)) := bo0 fun _ _ _ _ _ _ _ q => add_int q
theorem M1 : OpR X (binaryOp .Sub) (rI0 fun i j => .int (i - j)) := bo0 fun _ _ _ _ _ _ _ q => sub_int q
theorem R8 : OpR X (binaryOp .Mod) (rI (fun _ j => j ≠ 0) fun i j => .int (i.fmod j)) := opI fun _ _ _ _ _ _ _ hc q => mod_int' hc q
theorem ac2 : OpR X (binaryOp .Pow) (rI bn1 fun i j => .int (i ^ j.toNat)) := opI fun _ _ _ _ _ _ _ hc q => pow_int_small hc.1 hc.2.1 hc.2.2 q
theorem unI {f : Value → Sem Value} {g : Int → Int}
    (rule : ∀ (i : Int) (t : Tok) (s : Shared) (Q : Value → Shared → Prop) (E : Value → Shared → Prop), Q (.int (g i) s.toks) { s with toks := s.toks + 1 } → wpAny (model X.prog X.w) X.A (f (.int i t)) Q E s) :
    UnR X f (rU fun i => .int (g i)) := by
  intro pins s σ H x v Q I rx h
  obtain ⟨i, rfl, q⟩ := h
  obtain ⟨t, rfl⟩ := rx
  exact rule i t s _ _ ⟨.int (g i), H, I.tok _, ⟨_, rfl⟩, q⟩
theorem Q8 : UnR X (unaryOp .USub) (rU fun i => .int (-i)) := unI fun _ _ _ _ _ q => neg_int q
end
def aT9 : V → V → Bool
  | .non, .non => true | .non, .int _ => true | .int _, .non => true | .non, .bl _ => true | .bl _, .non => true | .non, .str _ => true | .str _, .non => true
  | .int _, .int _ => true | .bl _, .bl _ => true | .str _, .str _ => true | .byt _, .byt _ => true
  | .int _, .str _ => true | .str _, .int _ => true | .bl _, .str _ => true | .str _, .bl _ => true
  | _, _ => false
def rEq : R2 := fun x y H Q => aT9 x y = true ∧ Q (.bl (decide (x = y))) H
def rNe : R2 := fun x y H Q => aT9 x y = true ∧ Q (.bl (!decide (x = y))) H
theorem aN4 {i j : Int} : decide (V.int i = V.int j) = (i == j) := by
  rw [Bool.eq_iff_iff]
  simp
theorem aY5 {i j : Bool} : decide (V.bl i = V.bl j) = (i == j) := by
  rw [Bool.eq_iff_iff]
  simp
theorem aN3 {i j : Str} : decide (V.str i = V.str j) = (i == j) := by
  rw [Bool.eq_iff_iff]
  simp
theorem aN5 {i j : Array UInt8} : decide (V.byt i = V.byt j) = (i.toList == j.toList) := by
  rw [Bool.eq_iff_iff]
  cases i
  cases j
  simp
section
variable {X : Cx} {a b c : Expr} {ta tb tc : TE} {pos : Pos}
theorem x9 {pins : List (Addr × Obj)} {σ : St} {H : Hp} {s : Shared} {Q : VK} {k k' : Bool} (I : Inv X pins σ H s) (q : Q (.bl k) H) (e : k = k') : EP X pins σ Q (.bool k') s := by
  subst e
  exact ⟨.bl k, H, I, rfl, q⟩
theorem T0 : OpR X (compareOp .Eq) rEq := by
  intro pins s σ H x y v u Q I rx ry h
  obtain ⟨hs, q⟩ := h
  cases x with
  | non =>
    cases rx
    cases y with
    | non => cases ry; exact PySem.EqNone.eq_none_none (x9 I q (by simp))
    | bl j => cases ry; exact PySem.EqNone.eq_none_bool (x9 I q (by simp))
    | int j => obtain ⟨t', rfl⟩ := ry; exact PySem.EqNone.eq_none_int (x9 I q (by simp))
    | str j => obtain ⟨t', rfl⟩ := ry; exact PySem.EqNone.eq_none_str (x9 I q (by simp))
    | _ => exact absurd (show false = true from hs) Bool.false_ne_true
  | bl i =>
    cases rx
    cases y with
    | non => cases ry; exact PySem.EqNone.eq_bool_none (x9 I q (by simp))
    | bl j => cases ry; exact eq_bool (x9 I q aY5)
    | str j => obtain ⟨t', rfl⟩ := ry; exact PySem.EqMixed.eq_bool_str (x9 I q (by simp))
    | _ => exact absurd (show false = true from hs) Bool.false_ne_true
  | int i =>
    obtain ⟨t, rfl⟩ := rx
    cases y with
    | non => cases ry; exact PySem.EqNone.eq_int_none (x9 I q (by simp))
    | int j => obtain ⟨t', rfl⟩ := ry; exact eq_int (x9 I q aN4)
    | str j => obtain ⟨t', rfl⟩ := ry; exact PySem.EqMixed.eq_int_str (x9 I q (by simp))
    | _ => exact absurd (show false = true from hs) Bool.false_ne_true
  | str i =>
    obtain ⟨t, rfl⟩ := rx
    cases y with
    | non => cases ry; exact PySem.EqNone.eq_str_none (x9 I q (by simp))
    | bl j => cases ry; exact PySem.EqMixed.eq_str_bool (x9 I q (by simp))
    | int j => obtain ⟨t', rfl⟩ := ry; exact PySem.EqMixed.eq_str_int (x9 I q (by simp))
    | str j => obtain ⟨t', rfl⟩ := ry; exact eq_str (x9 I q aN3)
    | _ => exact absurd (show false = true from hs) Bool.false_ne_true
  | byt i =>
    obtain ⟨t, rfl⟩ := rx
    cases y with
    | byt j => obtain ⟨t', rfl⟩ := ry; exact PySem.W.eq_bytes (x9 I q aN5)
    | _ => exact absurd (show false = true from hs) Bool.false_ne_true
  | _ => cases y <;> exact absurd (show false = true from hs) Bool.false_ne_true
theorem bn8 : OpR X (compareOp .NotEq) rNe := by
  intro pins s σ H x y v u Q I rx ry h
  obtain ⟨hs, q⟩ := h
  cases x with
  | non =>
    cases rx
    cases y with
    | non => cases ry; exact PySem.EqNone.ne_none_none (x9 I q (by simp))
    | bl j => cases ry; exact PySem.EqNone.ne_none_bool (x9 I q (by simp))
    | int j => obtain ⟨t', rfl⟩ := ry; exact PySem.EqNone.ne_none_int (x9 I q (by simp))
    | str j => obtain ⟨t', rfl⟩ := ry; exact PySem.EqNone.ne_none_str (x9 I q (by simp))
    | _ => exact absurd (show false = true from hs) Bool.false_ne_true
  | bl i =>
    cases rx
    cases y with
    | non => cases ry; exact PySem.EqNone.ne_bool_none (x9 I q (by simp))
    | bl j => cases ry; exact ne_bool (x9 I q (congrArg not aY5))
    | str j => obtain ⟨t', rfl⟩ := ry; exact PySem.EqMixed.ne_bool_str (x9 I q (by simp))
    | _ => exact absurd (show false = true from hs) Bool.false_ne_true
  | int i =>
    obtain ⟨t, rfl⟩ := rx
    cases y with
    | non => cases ry; exact PySem.EqNone.ne_int_none (x9 I q (by simp))
    | int j => obtain ⟨t', rfl⟩ := ry; exact ne_int (x9 I q (congrArg not aN4))
    | str j => obtain ⟨t', rfl⟩ := ry; exact PySem.EqMixed.ne_int_str (x9 I q (by simp))
    | _ => exact absurd (show false = true from hs) Bool.false_ne_true
  | str i =>
    obtain ⟨t, rfl⟩ := rx
    cases y with
    | non => cases ry; exact PySem.EqNone.ne_str_none (x9 I q (by simp))
    | bl j => cases ry; exact PySem.EqMixed.ne_str_bool (x9 I q (by simp))
    | int j => obtain ⟨t', rfl⟩ := ry; exact PySem.EqMixed.ne_str_int (x9 I q (by simp))
    | str j => obtain ⟨t', rfl⟩ := ry; exact ne_str (x9 I q (congrArg not aN3))
    | _ => exact absurd (show false = true from hs) Bool.false_ne_true
  | byt i =>
    obtain ⟨t, rfl⟩ := rx
    cases y with
    | byt j => obtain ⟨t', rfl⟩ := ry; exact PySem.W.ne_bytes (x9 I q (congrArg not aN5))
    | _ => exact absurd (show false = true from hs) Bool.false_ne_true
  | _ => cases y <;> exact absurd (show false = true from hs) Bool.false_ne_true
theorem R6 : OpR X (compareOp .Lt) (rI0 fun i j => .bl (decide (i < j))) := bb8 fun _ _ _ _ _ _ _ q => lt_int q
theorem aL8 : OpR X (compareOp .LtE) (rI0 fun i j => .bl (decide (i ≤ j))) := bb8 fun _ _ _ _ _ _ _ q => le_int q
theorem ae8 : OpR X (compareOp .Gt) (rI0 fun i j => .bl (decide (j < i))) := bb8 fun _ _ _ _ _ _ _ q => gt_int q
theorem bn9 : OpR X (compareOp .GtE) (rI0 fun i j => .bl (decide (j ≤ i))) := bb8 fun _ _ _ _ _ _ _ q => ge_int q
theorem bj3 : OpR X (compareOp .Is) (fun x y H Q => y = .non ∧ Q (.bl (decide (x = .non))) H) := by
  intro pins s σ H x y v u Q I rx ry h
  obtain ⟨rfl, q⟩ := h
  cases ry
  refine is_none_gen (x9 I q ?_)
  cases x <;> first
    | (cases rx; rfl)
    | (obtain ⟨t, rfl⟩ := rx; rfl)
theorem j8 (b : Expr) {op : CmpOp} (h : op ≠ .In := by decide) (h2 : op ≠ .NotIn := by decide) : behindInMarks op b = false := by
  have e1 : (op == CmpOp.In) = false := by cases op <;> first | rfl | exact absurd rfl h
  have e2 : (op == CmpOp.NotIn) = false := by cases op <;> first | rfl | exact absurd rfl h2
  cases b <;> simp [behindInMarks, e1, e2]
theorem G2 {op : CmpOp} {r : R2} (ho : OpR X (compareOp op) r) (ha : PE X a ta) (hb : PE X b tb) (hm : behindInMarks op b = false) : PE X (.Compare a [op] [b] pos) (tOp r ta tb) := by
  intro pins s σ H Q I h
  exact wpAny_Compare1 (bm1 ha hb I h fun v u s2 x y H2 I2 rx ry q => ho pins s2 σ H2 x y v u Q I2 rx ry q) hm
def aC6 (t : TE) : TT := fun σ H Q => t σ H fun x H' => ∃ k, x = .bl k ∧ Q k H'
theorem p7 {op : CmpOp} {r : R2} (ho : OpR X (compareOp op) r) (ha : PE X a ta) (hb : PE X b tb) (hm : behindInMarks op b = false) : PT X (.Compare a [op] [b] pos) (aC6 (tOp r ta tb)) := by
  intro pins s σ H Q I h
  refine wpAny_isTrue_Compare1 (thn (ha pins s σ H _ I h) fun v s1 ⟨x, H1, I1, r1, q1⟩ => thn (hb pins s1 σ H1 _ I1 q1) fun u s2 ⟨y, H2, I2, r2, q2⟩ =>
    thn (ho pins s2 σ H2 x y v u _ I2 r1 r2 q2) fun c s3 ⟨z, H3, I3, r3, k, e, q3⟩ => ?_) hm
  subst e
  cases r3
  exact wpAny_truthy_bool ⟨H3, I3, q3⟩
def aH2 (r r' : R2) (ta tb tc : TE) : TE := fun σ H Q => ta σ H fun x H1 => tb σ H1 fun y H2 => r x y H2 fun z H3 => ∃ k, z = .bl k ∧
  (if k = true then tc σ H3 fun w' H4 => r' y w' H4 Q else Q (.bl false) H3)
theorem aU9 {op op' : CmpOp} {r r' : R2} (ho : OpR X (compareOp op) r) (ho' : OpR X (compareOp op') r') (ha : PE X a ta) (hb : PE X b tb) (hc : PE X c tc)
    (hm : lastMarks [op, op'] [b, c] = false := by with_unfolding_all rfl) : PT X (.Compare a [op, op'] [b, c] pos) (aC6 (aH2 r r' ta tb tc)) := by
  intro pins s σ H Q I h
  refine isTrue_chain (thn (ha pins s σ H _ I h) fun v s1 ⟨x, H1, I1, r1, q1⟩ => test_link (thn (hb pins s1 σ H1 _ I1 q1) fun u s2 ⟨y, H2, I2, r2, q2⟩ =>
    thn (ho pins s2 σ H2 x y v u _ I2 r1 r2 q2) fun d s3 ⟨z, H3, I3, r3, k, e, q3⟩ => ?_)) hm
  subst e
  cases r3
  refine wpAny_truthy_bool ?_
  cases k with
  | false =>
    obtain ⟨k', e', q'⟩ := q3
    cases e'
    exact ite_ff ⟨H3, I3, q'⟩
  | true =>
    refine ite_tt (test_last (thn (hc pins s3 σ H3 _ I3 q3) fun w' s4 ⟨z', H4, I4, r4, q4⟩ => thn (ho' pins s4 σ H4 y z' u w' _ I4 r2 r4 q4) fun d' s5 ⟨z2, H5, I5, r5, k2, e2, q5⟩ => ?_))
    subst e2
    cases r5
    exact wpAny_truthy_bool ⟨H5, I5, q5⟩
def aG4 (K : PySem.W.Frag) (x : V) (H : Hp) (k : Bool) : Prop :=
  match x with
  | .non => k = false
  | .bl b => k = b
  | .int i => k = (i != 0)
  | .str y => y.length ≤ sizeLine ∧ k = ((y.length : Int) != 0)
  | .byt y => y.size ≤ sizeLine ∧ k = ((y.size : Int) != 0)
  | .ref p => (∃ xs, SqL K H p xs ∧ k = !xs.isEmpty) ∨ (∃ xs, SqT K H p xs ∧ k = !xs.isEmpty) ∨ ∃ kvs, H p = some (.dK kvs) ∧ k = !kvs.isEmpty
  | _ => False
theorem aJ6 {κ : Type} {kvs : List (κ × V)} {vs : List (κ × Value)} (r : KV kvs vs) : (!vs.isEmpty) = !kvs.isEmpty := by
  cases r <;> rfl
theorem af8 {xs : List V} {its : List Value} (r : t3 xs its) : (!its.toArray.isEmpty) = !xs.isEmpty := by
  cases r <;> simp
theorem ak0 : (sizeLine : Nat) < 2 ^ 63 := by rw [sizeLine_eq]; decide
theorem bg3 : bq0 X (fun x H Q => ∃ k, aG4 X.K x H k ∧ Q k H) := by
  intro pins s σ H x v Q I rx h
  obtain ⟨k, e, q⟩ := h
  have hl := ak0
  have hs : sizeLine = 16777216 := sizeLine_eq
  cases x with
  | non =>
    cases rx
    have e' : k = false := e
    subst e'
    exact truthy_none ⟨H, I, q⟩
  | bl b =>
    cases rx
    have e' : k = b := e
    subst e'
    exact wpAny_truthy_bool ⟨H, I, q⟩
  | int i =>
    obtain ⟨t, rfl⟩ := rx
    have e' : k = (i != 0) := e
    subst e'
    exact PySem.P.truthy_int ⟨H, I, q⟩
  | str y =>
    obtain ⟨t, rfl⟩ := rx
    obtain ⟨hy, e'⟩ : y.length ≤ sizeLine ∧ k = ((y.length : Int) != 0) := e
    subst e'
    exact PySem.P.truthy_str (by omega) ⟨H, I.tok _, q⟩
  | byt y =>
    obtain ⟨t, rfl⟩ := rx
    obtain ⟨hy, e'⟩ : y.size ≤ sizeLine ∧ k = ((y.size : Int) != 0) := e
    subst e'
    exact PySem.W.truthy_bytes (by omega) ⟨H, I.tok _, q⟩
  | ref p =>
    cases rx
    have e' : (∃ xs, SqL X.K H p xs ∧ k = !xs.isEmpty) ∨ (∃ xs, SqT X.K H p xs ∧ k = !xs.isEmpty) ∨ ∃ kvs, H p = some (.dK kvs) ∧ k = !kvs.isEmpty := e
    rcases e' with ⟨xs, hx, e'⟩ | ⟨xs, hx, e'⟩ | ⟨kvs, hx, e'⟩
    · subst e'
      obtain ⟨its, r, pl, hz⟩ := I.list hx
      have hlen := r.length
      exact wpAny_truthy_list pl.isList (by simp only [List.size_toArray]; omega) ⟨H, I.tok _, by rw [af8 r]; exact q⟩
    · subst e'
      obtain ⟨its, r, pl, hz⟩ := I.tuple hx
      have hlen := r.length
      exact truthy_tuple pl (by simp only [List.size_toArray]; omega) ⟨H, I.tok _, by rw [af8 r]; exact q⟩
    · subst e'
      obtain ⟨hz, hS, vs, r, m⟩ : kvs.length ≤ sizeLine ∧ (p == sysModules) = false ∧ ∃ vs, KV kvs vs ∧ s.heap.DictOf (aA6 X.prog X.w) p vs := I.hok p _ hx
      have hlen : kvs.length = vs.length := Paired.length r
      exact wpAny_truthy_dict hS m (by omega) ⟨H, I.tok _, by rw [aJ6 r]; exact q⟩
  | _ => exact (show False from e).elim
theorem ah1 (ha : PE X a ta) (he : ∀ whole, isTrue a X.env whole = (do let v ← whole; standAt a.pos; holding [v] (truthy v))) :
    PT X a (fun σ H Q => ta σ H fun x H' => ∃ k, aG4 X.K x H' k ∧ Q k H') := by
  intro pins s σ H Q I h
  exact isTrue_plain (thn (ha pins s σ H _ I h) fun v s1 ⟨x, H1, I1, r1, q1⟩ => bg3 pins s1 σ H1 x v Q I1 r1 q1) (he _)
theorem ab3 {x : V} {us : List Value} (r : t3 [x] us) : ∃ u, us = [u] ∧ C8 x u := by
  cases r with
  | cons r1 r2 => cases r2; exact ⟨_, rfl, r1⟩
theorem be9 {x y : V} {us : List Value} (r : t3 [x, y] us) : ∃ u w', us = [u, w'] ∧ C8 x u ∧ C8 y w' := by
  cases r with
  | cons r1 r2 =>
    cases r2 with
    | cons r3 r4 => cases r4; exact ⟨_, _, rfl, r1, r3⟩
theorem X9 : Y7 X (.builtin "abs") (fun xs H Q => ∃ i, xs = [.int i] ∧ Q (.int (if i < 0 then -i else i)) H) := by
  intro pins s σ H xs us Q I r h
  obtain ⟨i, rfl, q⟩ := h
  obtain ⟨u, rfl, t, rfl⟩ := ab3 r
  exact call_abs_int fun u tk => ⟨.int (if i < 0 then -i else i), H, I.tok _, ⟨_, rfl⟩, q⟩
theorem aw8 (hc : X.calm = true) : Y7 X (.builtin "max") (fun xs H Q => ∃ i j, xs = [.int i, .int j] ∧ Q (.int (if j > i then j else i)) H) := by
  intro pins s σ H xs us Q I r h
  obtain ⟨i, j, rfl, q⟩ := h
  obtain ⟨u, w', rfl, ⟨t, rfl⟩, ⟨t', rfl⟩⟩ := be9 r
  refine max_two_ints (I.ok.hd hc) fun h' tk k => ⟨_, H, I.kept k, ?_, q⟩
  by_cases hj : j > i
  · rw [if_pos hj, if_pos hj]; exact ⟨_, rfl⟩
  · rw [if_neg hj, if_neg hj]; exact ⟨_, rfl⟩
theorem aS1 (hc : X.calm = true) : Y7 X (.builtin "min") (fun xs H Q => ∃ i j, xs = [.int i, .int j] ∧ Q (.int (if j < i then j else i)) H) := by
  intro pins s σ H xs us Q I r h
  obtain ⟨i, j, rfl, q⟩ := h
  obtain ⟨u, w', rfl, ⟨t, rfl⟩, ⟨t', rfl⟩⟩ := be9 r
  refine min_two_ints (I.ok.hd hc) fun h' tk k => ⟨_, H, I.kept k, ?_, q⟩
  by_cases hj : j < i
  · rw [if_pos hj, if_pos hj]; exact ⟨_, rfl⟩
  · rw [if_neg hj, if_neg hj]; exact ⟨_, rfl⟩
theorem K3 : Y7 X (.type "int") (fun xs H Q => (∃ i, xs = [.int i] ∧ Q (.int i) H) ∨ ∃ k, xs = [.bl k] ∧ Q (.int (if k then 1 else 0)) H) := by
  intro pins s σ H xs us Q I r h
  rcases h with ⟨i, rfl, q⟩ | ⟨k, rfl, q⟩
  · obtain ⟨u, rfl, t, rfl⟩ := ab3 r
    exact call_int_int ⟨.int i, H, I, ⟨_, rfl⟩, q⟩
  · obtain ⟨u, rfl, r1⟩ := ab3 r
    cases r1
    exact call_int_bool ⟨.int (if k then 1 else 0), H, I.tok _, ⟨_, rfl⟩, q⟩
end
structure bm8 (h : Heap) (x dx C : Addr) (mA : Str → Option Value) : Prop where
  obj : h.get? x = some (PySem.W.instObj C dx)
  ns : h.Ns1 dx mA
  ne : dx ≠ x
theorem aQ4 {h : Heap} {dx : Addr} {mA : Str → Option Value} (n : h.Ns1 dx mA) : ∃ od, h.get? dx = some od ∧ ∀ name, PySem.W.lookIn name od = some (mA name) := by
  obtain ⟨o, es, ep, ho, hd, hk, _, hm⟩ := n
  refine ⟨o, ho, fun name => ?_⟩
  have e := hm name
  unfold nsFind findBy at e
  rw [← Array.find?_toList] at e
  unfold PySem.W.lookIn
  rw [hd]
  dsimp only
  split
  · rename_i y q
    rw [q] at e
    exact congrArg some e
  · rename_i q
    rw [q] at e
    have a : es.toList.any (·.refKey) = false := by
      rw [List.any_eq_false]
      intro y hy
      obtain ⟨z, t, hkey⟩ := hk y (Array.mem_toList_iff.mp hy)
      simp [DictEntry.refKey, hkey]
    have a' : ¬ es.toList.any (·.refKey) = true := by rw [a]; exact Bool.false_ne_true
    rw [if_neg a']
    exact congrArg some e
theorem bm8.look {h : Heap} {x dx C : Addr} {mA : Str → Option Value} (I : bm8 h x dx C mA) : ∃ od, PySem.W.InstAt h x (PySem.W.instObj C dx) C (some od) ∧ ∀ name, PySem.W.lookIn name od = some (mA name) :=
  let ⟨od, ho, hl⟩ := aQ4 I.ns
  ⟨od, ⟨I.obj, rfl, rfl, ho⟩, hl⟩
section
variable {P : Program} {w : World} {H H' : Hp} {h h' : Heap} {a C dx : Addr} {fs fs' : List (Str × V)}
theorem bc9 (hok : HOk P w H h) (e : H a = some (.ins C dx fs)) : ∃ mA, bm8 h a dx C mA ∧ (∀ f, bm5 (fs.lookup f) (mA f)) ∧ PySem.Within mA (fs.map (·.1)) ∧ fs.length ≤ 1000 ∧ H dx = some (.own a) := by
  obtain ⟨d, z, ne, ob, mA, n, r, q⟩ := (show J5 P w H h a (.ins C dx fs) from hok a _ e)
  exact ⟨mA, ⟨ob, n, ne⟩, r, q, z, d⟩
end
structure Cls (K : PySem.W.Frag) (C : Addr) : Prop where
  pg : PySem.W.plainGet K C Str.empty = true
  hd : PySem.W.hasDictIn K C = true
  po : PySem.W.plainOver K C = true
  sa : PySem.W.findIn K (.ref C) "__setattr__" = some (some (.builtin "object.__setattr__"))
theorem Cls.get {K : PySem.W.Frag} {C : Addr} (c : Cls K C) (f : Str) : PySem.W.plainGet K C f = true := c.pg
structure Con (K : PySem.W.Frag) (C : Addr) (f : Str) (v : V) (u : Value) : Prop where
  at_ : PySem.W.findIn K (.ref C) f = some (some u)
  rel : C8 v u
  get : PySem.W.specialIn K u "__get__" = some none
  cp : PySem.W.copiedNames.contains f = false
structure Meth (K : PySem.W.Frag) (C : Addr) (m : Str) (f : Addr) : Prop where
  at_ : PySem.W.findIn K (.ref C) m = some (some (.ref f))
  fn : PySem.W.isFn K (.ref f) = true
  kp : PySem.W.keepIn K (.ref f) = true
section
variable {X : Cx} {pins : List (Addr × Obj)} {σ : St} {H : Hp} {s : Shared} {A : Around} {E : Value → Shared → Prop} {Q : Value → Shared → Prop} {c : Value} {b : Bool}
inductive ak7 (K : PySem.W.Frag) (H : Hp) : V → Value → Prop where
  | non : ak7 K H .non (.type "NoneType")
  | bl (x : Bool) : ak7 K H (.bl x) (.type "bool")
  | int (i : Int) : ak7 K H (.int i) (.type "int")
  | str (x : Str) : ak7 K H (.str x) (.type "str")
  | flt (x : UInt64) : ak7 K H (.flt x) (.type "float")
  | lst {a : Addr} {xs : List V} (e : H a = some (.lst xs)) : ak7 K H (.ref a) (.type "list")
  | frz {a : Addr} {o : Obj} {xs : List V} (e : H a = some (.frz o (.lst xs))) : ak7 K H (.ref a) (.type "list")
  | tup {a : Addr} {xs : List V} (e : H a = some (.tup xs)) : ak7 K H (.ref a) (.type "tuple")
  | dK {a : Addr} {kvs : List (Key × V)} (e : H a = some (.dK kvs)) : ak7 K H (.ref a) (.type "dict")
  | dT {a : Addr} {kvs : List (List Key × V)} (e : H a = some (.dT kvs)) : ak7 K H (.ref a) (.type "dict")
  | ins {a C dx : Addr} {fs : List (Str × V)} (e : H a = some (.ins C dx fs)) (cl : Cls K C) (ha : PySem.W.findIn K (.ref C) "__class__" = some (some (.builtin "object.__class__")))
      (hn : PySem.W.specialIn K (.builtin "object.__class__") "__get__" = some (some (.builtin "getset_descriptor.__get__"))) (htk : PySem.W.takesIn K (.builtin "object.__class__") = some true)
      (hm : PySem.W.mroIn K C (.type "object") = some true) : ak7 K H (.ref a) (.ref C)
theorem aQ7 {x : V} {u t : Value} (I : Inv X pins σ H s) (rx : C8 x u) (ty : ak7 X.K H x t) (e : PySem.W.kitOne X.K t c = some b) (h : ∀ tk, Q (.bool b) { s with toks := tk }) :
    wpAny (model X.prog X.w) A (call (.builtin "isinstance") [u, c]) Q E s := by
  cases ty with
  | non => cases (show u = Value.none from rx); exact PySem.W.kia_one PySem.W.kitx_none I.kIn True.intro e (fun z => nomatch z) h
  | bl y => cases (show u = Value.bool y from rx); exact PySem.W.kia_one PySem.W.kitx_bool I.kIn True.intro e (fun z => nomatch z) h
  | int i => obtain ⟨t, q⟩ := (show ∃ t, u = Value.int i t from rx); cases q; exact PySem.W.kia_one PySem.W.kitx_int I.kIn True.intro e (fun z => nomatch z) h
  | str y => obtain ⟨t, q⟩ := (show ∃ t, u = Value.str y t from rx); cases q; exact PySem.W.kia_one PySem.W.kitx_str I.kIn True.intro e (fun z => nomatch z) h
  | flt y => obtain ⟨t, q⟩ := (show ∃ t, u = Value.float y t from rx); cases q; exact PySem.W.kia_one PySem.W.kitx_float I.kIn True.intro e (fun z => nomatch z) h
  | @lst a xs ea =>
    cases (show u = Value.ref a from rx)
    obtain ⟨_, _, n, _, h1⟩ := (show J5 X.prog X.w H s.heap a (.lst xs) from I.hok a _ ea)
    exact PySem.W.kia_one PySem.W.kitx_list I.kIn ⟨_, h1, rfl⟩ e (fun z => nomatch z) h
  | @frz a ob xs ea =>
    cases (show u = Value.ref a from rx)
    obtain ⟨_, _, _, n, _, h1⟩ := (show J5 X.prog X.w H s.heap a (.frz ob (.lst xs)) from I.hok a _ ea)
    exact PySem.W.kia_one PySem.W.kitx_list I.kIn ⟨_, h1, rfl⟩ e (fun z => nomatch z) h
  | @tup a xs ea =>
    cases (show u = Value.ref a from rx)
    obtain ⟨_, _, _, p⟩ := (show J5 X.prog X.w H s.heap a (.tup xs) from I.hok a _ ea)
    obtain ⟨o, h1, h2, _⟩ := p
    exact PySem.W.kia_one PySem.W.kitx_tuple I.kIn ⟨o, h1, h2⟩ e (fun z => nomatch z) h
  | @dK a kvs ea =>
    cases (show u = Value.ref a from rx)
    obtain ⟨_, _, vs, _, p⟩ := (show J5 X.prog X.w H s.heap a (.dK kvs) from I.hok a _ ea)
    obtain ⟨o, es, ep, h1, h2, _⟩ := p
    exact PySem.W.kia_one PySem.W.kitx_dict I.kIn ⟨o, h1, h2.1⟩ e (fun z => nomatch z) h
  | @dT a kvs ea =>
    cases (show u = Value.ref a from rx)
    obtain ⟨_, _, xs, _, o, es, ep, h1, h2, _⟩ := (show J5 X.prog X.w H s.heap a (.dT kvs) from I.hok a _ ea)
    exact PySem.W.kia_one PySem.W.kitx_dict I.kIn ⟨o, h1, h2.1⟩ e (fun z => nomatch z) h
  | @ins a C dx fs ea cl ha hn htk hm =>
    cases (show u = Value.ref a from rx)
    obtain ⟨mA, O, _⟩ := bc9 I.hok ea
    obtain ⟨od, J, _⟩ := O.look
    exact PySem.W.kia_one (PySem.W.kitx_own (cl.get _) cl.hd ha hn htk hm) I.kIn J e (fun z => nomatch z) h
end
structure Y2 (k : Nat) (A : Around) : Prop where
  hd : A.handled = none
  dp : A.depth + 3 * k + 5 < recursionLimit
  un : A.units + 16 * k + 200 < cLine
theorem Y2.mono {j k : Nat} {A : Around} (r : Y2 k A) (h : j ≤ k) : Y2 j A := ⟨r.hd, by have := r.dp; omega, by have := r.un; omega⟩
theorem Y2.deeper {k : Nat} {A : Around} (r : Y2 (k + 1) A) (env : Env) : Y2 k (A.deeper env) :=
  ⟨r.hd, by have := r.dp; show A.depth + 1 + 3 * k + 5 < _; omega, by have := r.un; show A.units + 3 + 16 * k + 200 < _; omega⟩
theorem Y2.depth {k : Nat} {A : Around} (r : Y2 k A) : A.depth < recursionLimit := by have := r.dp; omega
theorem Y2.units {k : Nat} {A : Around} (r : Y2 k A) : A.units + 64 < cLine := by have := r.un; omega
def aH0 : TA := fun _ H Q => Q [] H
def ag4 (ta : TE) (tr : TA) : TA := fun σ H Q => ta σ H fun x H1 => tr σ H1 fun xs H2 => Q (x :: xs) H2
section
variable {X : Cx} {e : Expr} {es : List Expr} {te : TE} {t : TA} {pos : Pos}
theorem b8 : PA X [] aH0 := fun _ _ _ _ H Q I h => Calls.spliced_nil ⟨[], H, I, .nil, h⟩
theorem b7 (ha : PE X e te) (hr : PA X es t) (hs : starEach (e :: es) X.env = (false, eval e X.env) :: starEach es X.env := by rfl) : PA X (e :: es) (ag4 te t) := by
  intro pos pins s σ H Q I h
  rw [hs]
  show wpAny _ _ (spliced ((false, eval e X.env) :: backTo pos (starEach es X.env))) _ _ s
  refine Calls.spliced_cons (thn (ha pins s σ H _ I h) fun u s1 ⟨x, H1, I1, r1, q1⟩ => ?_)
  exact thn (hr pos pins s1 σ H1 _ I1 q1) fun us s2 ⟨xs, H2, I2, r2, q2⟩ => ⟨x :: xs, H2, I2, .cons r1 r2, q2⟩
def ba1 (t : TA) : TE := fun σ H Q => t σ H fun xs H1 => xs.length ≤ sizeLine ∧ ∀ p, H1 p = none → Q (.ref p) (upd H1 p (.tup xs))
def bg8 (t : TA) : TE := fun σ H Q => t σ H fun xs H1 => xs.length ≤ sizeLine ∧ ∀ p, H1 p = none → Q (.ref p) (upd H1 p (.lst xs))
theorem q8 {x1} (h : PA X es t) : PE X (.Tuple es x1 pos) (ba1 t) := by
  intro pins s σ H Q I hq
  refine wpAny_Tuple_spliced (thn (h pos pins s σ H _ I hq) fun us s1 ⟨xs, H1, I1, r, z, q⟩ => ⟨by rw [← r.length]; exact z, ?_⟩)
  have hf : H1 s1.heap.objs.size = none := I1.hok.fresh (Nat.le_refl _)
  refine ⟨.ref s1.heap.objs.size, upd H1 s1.heap.objs.size (.tup xs), I1.laid (t' := s1.toks) (fun b u e => Heap.get?_push_of_some _ e) (Nat.le_refl _) ?_, rfl, q _ hf⟩
  exact ⟨z, us, r, ⟨_, Heap.get?_push_size _ rfl, rfl, _, rfl⟩⟩
theorem D0 (h : PA X es t) : PE X (.List es pos) (bg8 t) := by
  intro pins s σ H Q I hq
  refine wpAny_List_spliced (thn (h pos pins s σ H _ I hq) fun us s1 ⟨xs, H1, I1, r, z, q⟩ => ⟨by rw [← r.length]; exact z, ?_⟩)
  have hf : H1 s1.heap.objs.size = none := I1.hok.fresh (Nat.le_refl _)
  refine ⟨.ref s1.heap.objs.size, upd H1 s1.heap.objs.size (.lst xs), I1.laid (t' := s1.toks) (fun b u e => Heap.get?_push_of_some _ e) (Nat.le_refl _) ?_, rfl, q _ hf⟩
  exact ⟨z, us, 0, r, Heap.get?_push_size _ rfl⟩
end
abbrev Sp := List V → Hp → VK → XK → Prop
abbrev CXT := List Env → Hp → Shared → XK → Value → Shared → Prop
structure ba0 (P : Program) (w : World) (K : PySem.W.Frag) (mg : Str → Option Value) (base : Heap) (A : Around) (outer : List Env) (s : Shared) (H : Hp) : Prop where
  frames : A.frames = some outer
  mod : Mod K mg base
  bs : ∀ b o, base.get? b = some o → s.heap.get? b = some o ∧ H b = none
  bsz : base.objs.size ≤ s.heap.objs.size
  funs : s.heap.FunFrames base outer
  frf : ∀ b ∈ frs outer, H b = none
  hok : HOk P w H s.heap
  bare : AllBare s.gens
def CE (outer : List Env) (P : Program) (w : World) (H : Hp) (s : Shared) (Q : VK) (u : Value) (s' : Shared) : Prop :=
  ∃ v H', s'.os = s.os ∧ AllBare s'.gens ∧ Un (frs outer) [] H H' s.heap s'.heap ∧ HOk P w H' s'.heap ∧ C8 v u ∧ Q v H'
def CR (CX : CXT) (outer : List Env) (P : Program) (w : World) (H : Hp) (s : Shared) (Q : VK) (E : XK) (r : Result) (s' : Shared) : Prop :=
  match r with
  | .ok (.ret u) => CE outer P w H s Q u s'
  | .ok _ => False
  | .error e => CX outer H s E e s'
structure Y6 (P : Program) (w : World) (K : PySem.W.Frag) (mg : Str → Option Value) (base : Heap) (CX : CXT) (k : Nat) (f : Addr) (fd : FuncData) (ps : List Str) (sp : Sp) : Prop where
  len : ∀ vs H Q E, sp vs H Q E → vs.length = ps.length
  run : ∀ (A : Around) (outer : List Env) (s : Shared) (H : Hp) (args : Args) (us : List Value) (vs : List V) (Q : VK) (E : XK), Y2 k A → ba0 P w K mg base A outer s H → BindsTo s fd args (ps.zip us) → t3 vs us → sp vs H Q E →
    codeAny (model P w) A (.call (.ref f) args) (CR CX outer P w H s Q E) s
theorem Y6.mono {P : Program} {w : World} {K : PySem.W.Frag} {mg : Str → Option Value} {base : Heap} {CX : CXT} {j k : Nat} {f : Addr} {fd : FuncData} {ps : List Str} {sp : Sp} (F : Y6 P w K mg base CX j f fd ps sp) (h : j ≤ k) :
    Y6 P w K mg base CX k f fd ps sp := ⟨F.len, fun A outer s H args us vs Q E hr => F.run A outer s H args us vs Q E (hr.mono h)⟩
theorem Y6.imp {P : Program} {w : World} {K : PySem.W.Frag} {mg : Str → Option Value} {base : Heap} {CX : CXT} {k : Nat} {f : Addr} {fd : FuncData} {ps : List Str} {sp sp' : Sp} (F : Y6 P w K mg base CX k f fd ps sp)
    (h : ∀ vs H Q E, sp' vs H Q E → sp vs H Q E) : Y6 P w K mg base CX k f fd ps sp' :=
  ⟨fun vs H Q E q => F.len vs H Q E (h _ _ _ _ q), fun A outer s H args us vs Q E hr he hb hv hs => F.run A outer s H args us vs Q E hr he hb hv (h _ _ _ _ hs)⟩
section
variable {X : Cx} {pins : List (Addr × Obj)} {σ : St} {H : Hp} {s s' : Shared}
theorem Inv.env0 (I : Inv X pins σ H s) : ba0 X.prog X.w X.K X.mg X.base X.A X.stack s H :=
  ⟨I.ok.frames, I.ok.mod, I.bs, Nat.le_trans I.ok.bsz I.sz, I.stack, I.stkFree, I.hok, I.bare⟩
theorem Inv.after {Q : VK} {u : Value} (I : Inv X pins σ H s) (h : CE X.stack X.prog X.w H s Q u s') : EP X pins σ Q u s' := by
  obtain ⟨v, H', os, bare, un, hok, r, q⟩ := h
  obtain ⟨hh, g, d, t, os'⟩ := s'
  obtain rfl : os' = s.os := os
  exact ⟨v, H', I.call (h' := hh) (g' := g) (d' := d) (t' := t) (ch := []) un hok bare (fun b z => absurd z (by simp)), r, q⟩
end
def bf0 (sp : Sp) (dvs : List V) (E : XK) (t : TA) : TE := fun σ H Q => t σ H fun vs H1 => sp (vs ++ dvs) H1 Q E
def ai5 (K : PySem.W.Frag) (fd : FuncData) (ps : List Str) (ds : List Value) : Prop :=
  ∀ (s : Shared) (us : List Value), K.In s.heap → (us ++ ds).length = ps.length → BindsTo s fd ⟨us, []⟩ (ps.zip (us ++ ds))
theorem ai5.all {K : PySem.W.Frag} {fd : FuncData} {ps : List Str} (h : ∀ us : List Value, us.length = ps.length → bindArgs fd ⟨us, []⟩ = pure (ps.zip us)) : ai5 K fd ps [] := fun s us _ hl => by
  rw [List.append_nil] at hl ⊢
  exact .of_eq (h us hl)
def aC2 (CX : CXT) (X : Cx) (E : XK) : Prop := ∀ (pins : List (Addr × Obj)) (σ : St) (H : Hp) (s : Shared) (e : Value) (s' : Shared), Inv X pins σ H s → CX X.stack H s E e s' → X.xe e s'
section
variable {X : Cx} {CX : CXT} {k : Nat} {f C : Addr} {fd : FuncData} {ps : List Str} {sp : Sp} {dvs : List V} {ds : List Value} {E : XK} {x m : Str} {p pos apos : Pos} {e o : Expr} {es : List Expr} {ta : TE} {t : TA}
theorem bh6 {pins : List (Addr × Obj)} {σ : St} {H : Hp} {s : Shared} {Q : VK} {us : List Value} {vs : List V} (F : Y6 X.prog X.w X.K X.mg X.base CX k f fd ps sp) (hr : Y2 k X.A) (hb : ai5 X.K fd ps ds) (hd : t3 dvs ds) (hx : aC2 CX X E)
    (I : Inv X pins σ H s) (r : t3 vs us) (h : sp (vs ++ dvs) H Q E) : wpAny (model X.prog X.w) X.A (call (.ref f) us) (EP X pins σ Q) X.xe s := by
  have r2 : t3 (vs ++ dvs) (us ++ ds) := r.append hd
  have hl : (us ++ ds).length = ps.length := by rw [← r2.length]; exact F.len _ _ _ _ h
  refine wpAny_call (codeAny_mono (F.run X.A X.stack s H ⟨us, []⟩ (us ++ ds) (vs ++ dvs) Q E hr I.env0 (hb s us I.kIn hl) r2 h) fun r s' hq => ?_)
  cases r with
  | error e => exact hx pins σ H s e s' I hq
  | ok fl =>
    cases fl with
    | ret u => exact I.after hq
    | next => exact False.elim hq
    | brk => exact False.elim hq
    | cont => exact False.elim hq
theorem bb7 (F : Y6 X.prog X.w X.K X.mg X.base CX k f fd ps sp) (hr : Y2 k X.A) (hg : Gl X x) (hm : X.mg x = some (.ref f)) (hk : PySem.W.keepIn X.K (.ref f) = true) (hb : ai5 X.K fd ps ds) (hd : t3 dvs ds) (hx : aC2 CX X E)
    (ha : PA X (e :: es) t) (hdb : (x == ("__debug__" : Str)) = false := by decide) (he : starEach (e :: es) X.env = (false, eval e X.env) :: starEach es X.env := by rfl) (hpl : (backTo pos (starEach es X.env)).any (·.1) = false := by rfl) :
    PE X (.Call (.Name x p) (e :: es) [] pos) (bf0 sp dvs E t) := by
  intro pins s σ H Q I h
  refine wpAny_Call_Name_kw (aA8 I hg hm ?_ hdb)
  refine PySem.W.callWith_K (h₀ := X.base) I.ok.mod.kin hk (thn (ha pos pins s σ H _ I h) fun us s1 ⟨vs, H1, I1, r, q⟩ => ⟨I1.kIn, ?_⟩) he hpl
  exact bh6 F hr hb hd hx I1 r q
structure Mk (K : PySem.W.Frag) (C f : Addr) : Prop where
  makes : PySem.W.makesIn K C = true
  init : PySem.W.findIn K (.ref C) "__init__" = some (some (.ref f))
  fn : PySem.W.isFn K (.ref f) = true
  kp : PySem.W.keepIn K (.ref C) = true
end
section
variable {X : Cx} {CX : CXT} {k : Nat} {f C : Addr} {fd : FuncData} {ps ks : List Str} {sp : Sp} {E : XK} {x m : Str} {p pos apos kpos : Pos} {e o : Expr} {es : List Expr} {kws : List Keyword} {te ta : TE} {t tk : TA} {nm : Option Str}
structure KBinds (K : PySem.W.Frag) (fd : FuncData) (ps ks : List Str) (g : List Value → List Value → List Value) (gV : List V → List V → List V) : Prop where
  to : ∀ (s : Shared) (us ws : List Value), K.In s.heap → (g us ws).length = ps.length → BindsTo s fd ⟨us, ks.zip ws⟩ (ps.zip (g us ws))
  rel : ∀ {vs : List V} {us : List Value} {zs : List V} {ws : List Value}, t3 vs us → t3 zs ws → t3 (gV vs zs) (g us ws)
variable {g : List Value → List Value → List Value} {gV : List V → List V → List V}
end
structure m8 (N P : List Str) (sc : Scope) : Prop where
  kind : sc.kind = .function
  co : sc.isCoroutine = false
  gen : sc.isGenerator = false
  nd : N.Nodup
  pre : N.take P.length = P
  par : ∀ x ∈ P, sc.names.lookup x = some .local ∨ sc.names.lookup x = some .cell
  nofree : ∀ y ∈ sc.names, y.2 ≠ .free
theorem aw9 {kindOf : Str → Option NameKind} {x : Str} : ∀ {binds : List (Str × Value)} {m : Str → Option Value}, (∀ v, (x, v) ∉ binds) → bindL kindOf binds m x = m x
  | [], _, _ => rfl
  | (n, v) :: r, m, h => by
    unfold bindL
    rw [aw9 fun w hw => h w (List.mem_cons_of_mem _ hw)]
    split
    · have : x ≠ n := by rintro rfl; exact h v List.mem_cons_self
      simp [this]
    · rfl
theorem ax1 {kindOf : Str → Option NameKind} {x : Str} : ∀ {binds : List (Str × Value)} {m : Str → Option Value}, (∀ v, (x, v) ∉ binds) → bindC kindOf binds m x = m x
  | [], _, _ => rfl
  | (n, v) :: r, m, h => by
    unfold bindC
    rw [ax1 fun w hw => h w (List.mem_cons_of_mem _ hw)]
    split
    · rfl
    · have : x ≠ n := by rintro rfl; exact h v List.mem_cons_self
      simp [this]
theorem ax0 {kindOf : Str → Option NameKind} {x : Str} {v : Value} : ∀ {P : List Str} {vs : List Value} {i : Nat} {m : Str → Option Value}, P.Nodup → P[i]? = some x → vs[i]? = some v → kindOf x = some .local →
    bindL kindOf (P.zip vs) m x = some v
  | [], _, _, _, _, h, _, _ => by simp at h
  | _ :: _, [], _, _, _, _, h, _ => by simp at h
  | p :: P, w :: vs, 0, m, nd, h1, h2, hk => by
    simp at h1 h2; subst h1; subst h2
    show bindL kindOf ((p, w) :: P.zip vs) m p = _
    unfold bindL
    rw [aw9 fun v hv => (List.nodup_cons.mp nd).1 (List.of_mem_zip hv).1, if_pos hk]
    simp
  | p :: P, w :: vs, i + 1, m, nd, h1, h2, hk => by
    show bindL kindOf ((p, w) :: P.zip vs) m x = _
    unfold bindL
    exact ax0 (i := i) (List.nodup_cons.mp nd).2 (by simpa using h1) (by simpa using h2) hk
theorem ax2 {kindOf : Str → Option NameKind} {x : Str} {v : Value} : ∀ {P : List Str} {vs : List Value} {i : Nat} {m : Str → Option Value}, P.Nodup → P[i]? = some x → vs[i]? = some v → kindOf x ≠ some .local →
    bindC kindOf (P.zip vs) m x = some v
  | [], _, _, _, _, h, _, _ => by simp at h
  | _ :: _, [], _, _, _, _, h, _ => by simp at h
  | p :: P, w :: vs, 0, m, nd, h1, h2, hk => by
    simp at h1 h2; subst h1; subst h2
    show bindC kindOf ((p, w) :: P.zip vs) m p = _
    unfold bindC
    rw [ax1 fun v hv => (List.nodup_cons.mp nd).1 (List.of_mem_zip hv).1, if_neg hk]
    simp
  | p :: P, w :: vs, i + 1, m, nd, h1, h2, hk => by
    show bindC kindOf ((p, w) :: P.zip vs) m x = _
    unfold bindC
    exact ax2 (i := i) (List.nodup_cons.mp nd).2 (by simpa using h1) (by simpa using h2) hk
def start (N : List Str) (vs : List V) : St := vs.map some ++ List.replicate (N.length - vs.length) none
def au6 (CX : CXT) (P : Program) (w : World) (K : PySem.W.Frag) (mg : Str → Option Value) (base : Heap) (N : List Str) (qual : Str) (scope : Scope) (f : Addr) (cd : Value) (A : Around) (outer : List Env) (s : Shared) (H : Hp) (E : XK) : Cx where
  prog := P
  w := w
  K := K
  mg := mg
  base := base
  A := A.deeper (envOfC qual scope s.heap.objs.size f cd)
  N := N
  s₀ := s
  H₀ := H
  env := envOfC qual scope s.heap.objs.size f cd
  outer := outer
  stack := envOfC qual scope s.heap.objs.size f cd :: outer
  ex := []
  calm := true
  fn := fun _ => true
  pn := []
  xe := fun e s' => wpAny (model P w) (A.deeper (envOfC qual scope s.heap.objs.size f cd)) (leaving (envOfC qual scope s.heap.objs.size f cd) e) (fun _ s'' => CX outer H s E e s'') (fun e' s'' => CX outer H s E e' s'') s'
theorem aG1 {sc : Scope} {n : Nat} {x : Str} (h : sc.names.lookup x = some .cell) : ∃ c, (cellsFrom n sc.names []).lookup x = some c := by
  have q := PySem.W.cellsFrom_some sc.names n [] (.inl h)
  exact Option.isSome_iff_exists.mp q
theorem aQ9 {CX : CXT} {P : Program} {w : World} {K : PySem.W.Frag} {mg : Str → Option Value} {base : Heap} {N ps : List Str} {qual : Str} {scope : Scope} {f : Addr} {cd : Value} {A : Around} {outer : List Env} {s s1 : Shared} {H : Hp} {E : XK} {us : List Value} {vs : List V}
    (S : m8 N ps scope) (hd : A.handled = none) (e0 : ba0 P w K mg base A outer s H) (hl : vs.length = ps.length) (r : t3 vs us)
    (x : InCallC s s.heap.objs.size (bindL (envOfC qual scope s.heap.objs.size f cd).kindOf (ps.zip us) fun _ => none) (cellsFrom (s.heap.objs.size + 1) scope.names []) (bindC (envOfC qual scope s.heap.objs.size f cd).kindOf (ps.zip us) fun _ => none) s1) :
    Inv (au6 CX P w K mg base N qual scope f cd A outer s H E) [] (start N vs) H s1 := by
  have hpl : ps.length ≤ N.length := by have := congrArg List.length S.pre; rw [List.length_take] at this; omega
  obtain ⟨h1, tk, rfl, hk⟩ := x.done
  have noA : ∀ b : Addr, b ∉ (au6 CX P w K mg base N qual scope f cd A outer s H E).ex := fun b z => absurd (show b ∈ ([] : List Addr) from z) (by simp)
  refine ⟨⟨e0.mod, S.kind, rfl, rfl, Nat.le_refl _, fun y z c h1 h2 => ?_, fun y hy => ?_, fun y c _ h => ?_, fun _ => hd, Around.frames_deeper e0.frames, .inr ⟨rfl, rfl⟩, fun b z => absurd z (noA b), e0.bs, e0.bsz, fun b _ _ => noA b, fun b z => absurd z (noA b), e0.funs, e0.frf⟩,
    rfl, e0.bare, Un.kept hk, ⟨_, x.toInCall.ns, fun i y v h1 h2 h3 => ?_⟩, fun y c h => ⟨_, x.cell y c h⟩, e0.hok.fresh (Nat.le_refl _), fun y c h => ?_, fun p hp => absurd (show p ∈ ([] : List (Addr × Obj)) from hp) (by simp), e0.hok.kept hk, ?_⟩
  · exact name_of_addr x.apart (PySem.mem_of_lookup h1) (PySem.mem_of_lookup h2)
  · have hy : scope.names.lookup y = some .cell ∨ scope.names.lookup y = some .free := hy
    rcases hy with hy | hy
    · exact aG1 hy
    · exact absurd rfl (S.nofree _ (PySem.mem_of_lookup hy))
  · exact Nat.le_of_lt (x.above y c (PySem.mem_of_lookup h))
  · have hi : i < vs.length := by
      unfold start at h2
      by_cases hi : i < vs.length
      · exact hi
      · rw [List.getElem?_append_right (by simpa using hi)] at h2
        rw [List.getElem?_replicate] at h2
        split at h2 <;> cases h2
    have ha : vs[i]? = some v := by
      unfold start at h2
      rw [List.getElem?_append_left (by simpa using hi), List.getElem?_map] at h2
      cases e : vs[i]? with
      | none => rw [e] at h2; cases h2
      | some a => rw [e] at h2; cases h2; rfl
    obtain ⟨u, hu, rv⟩ := r.get ha
    have hp : ps[i]? = some y := by
      rw [← S.pre, List.getElem?_take_of_lt (by omega)]; exact h1
    have ndP : ps.Nodup := by rw [← S.pre]; exact S.nd.sublist (List.take_sublist _ _)
    refine ⟨u, rv, ?_⟩
    rcases S.par y (List.mem_of_getElem? hp) with k | k
    · exact .inl ⟨k, ax0 ndP hp hu k⟩
    · obtain ⟨c, e⟩ := aG1 (n := s.heap.objs.size + 1) k
      refine .inr ⟨.inl k, c, e, ?_⟩
      have q := x.cell y c e
      rw [ax2 ndP hp hu (by show scope.names.lookup y ≠ _; rw [k]; decide)] at q
      exact q
  · exact e0.hok.fresh (Nat.le_of_lt (x.above y c (PySem.mem_of_lookup h)))
  · unfold start
    show _ = N.length
    rw [List.length_append, List.length_map, List.length_replicate]
    omega
theorem bf8 {CX : CXT} {P : Program} {w : World} {K : PySem.W.Frag} {mg : Str → Option Value} {base : Heap} {k : Nat} {f : Addr} {name qual : Str} {params : Arguments} {body : List Stmt} {scope : Scope} {dV kV doc pm cdv ct oc : Value} {an od : Option Addr}
    {osl : Array (Option Value)} {N ps : List Str} {sp : Sp} (lk : K.lookup f = some ⟨oc, od, .func (PySem.W.fnOf name qual params body scope dV kV doc pm an cdv ct), osl⟩) (hcd : PySem.W.codeIn K cdv qual = true) (S : m8 N ps scope)
    (len : ∀ vs H Q E, sp vs H Q E → vs.length = ps.length)
    (hbody : ∀ (A : Around) (outer : List Env) (s : Shared) (H : Hp) (vs : List V) (Q : VK) (E : XK), Y2 k (A.deeper (envOfC qual scope s.heap.objs.size f cdv)) → sp vs H Q E →
      ∃ t, PSs (au6 CX P w K mg base N qual scope f cdv A outer s H E) body t ∧ t { nx := fun _ H' => Q .non H', rt := Q } (start N vs) H) :
    Y6 P w K mg base CX (k + 1) f (PySem.W.fnOf name qual params body scope dV kV doc pm an cdv ct) ps sp := by
  refine ⟨len, fun A outer s H args us vs Q E hr e0 hb r hsp => ?_⟩
  have hl := len _ _ _ _ hsp
  have KX : K.In s.heap := e0.mod.kin.keeps fun b o e => (e0.bs b o e).1
  have lim : s.heap.NoLimit := e0.mod.nolimit.keeps fun b o e => (e0.bs b o e).1
  have hkind : ∀ y ∈ ps.zip us, scope.names.lookup y.1 = some .local ∨ (scope.names.lookup y.1 = some .cell ∧ ((cellsFrom (s.heap.objs.size + 1) scope.names []).lookup y.1).isSome = true) := fun ⟨n, v⟩ hy => by
    rcases S.par n (List.of_mem_zip hy).1 with q | q
    · exact .inl q
    · exact .inr ⟨q, PySem.W.cellsFrom_some _ _ _ (.inl q)⟩
  refine codeAny_call_function hr.depth (KX _ _ lk) rfl S.co S.gen rfl (PySem.W.codeRec_of KX hcd) (hb _ _ _ _ ?_)
  refine wpAny_newFunctionEnv_cells S.kind hkind fun env he s1 x => ?_
  subst he
  refine ⟨lim.keeps x.toInCall.keep, codeAny_func ?_⟩
  obtain ⟨t, ht, hq⟩ := hbody A outer s H vs Q E (hr.deeper _) hsp
  have I : Inv (au6 CX P w K mg base N qual scope f cdv A outer s H E) [] (start N vs) H s1 := aQ9 S hr.hd e0 hl r x
  refine wpAny_mono (ht [] s1 (start N vs) H _ I hq) (fun fl s' hs => ?_) fun e s' hs => hs
  have fin : ∀ {σ' : St} {H' : Hp} {v : V} {u : Value}, Inv (au6 CX P w K mg base N qual scope f cdv A outer s H E) [] σ' H' s' → C8 v u → Q v H' → CE outer P w H s Q u s' :=
    fun {σ' H' v u} J rv q => ⟨v, H', J.os, J.bare, J.base, J.hok, rv, q⟩
  cases fl with
  | ret u =>
    obtain ⟨v, σ', H', J, rv, q⟩ := hs
    exact fin J rv q
  | next =>
    obtain ⟨σ', H', J, q⟩ := hs
    exact fin (v := V.non) (u := Value.none) J rfl q
  | brk =>
    obtain ⟨_, _, _, q⟩ := hs
    exact False.elim q
  | cont =>
    obtain ⟨_, _, _, q⟩ := hs
    exact False.elim q
section
variable {X : Cx} {x : Str} {p pos : Pos} {e : Expr} {es : List Expr} {t : TA} {id T : String} {r : List V → Hp → VK → Prop}
def tCB (r : List V → Hp → VK → Prop) (t : TA) : TE := fun σ H Q => t σ H fun vs H1 => r vs H1 Q
theorem j2 (hc : Y7 X (.builtin id) r) (hg : Gl X x) (hm : X.mg x = none) (hv : bootBuiltins x = some (.builtin id)) (ha : PA X (e :: es) t) (hn : x ≠ "__name__" := by decide) (hdb : (x == ("__debug__" : Str)) = false := by decide)
    (he : starEach (e :: es) X.env = (false, eval e X.env) :: starEach es X.env := by rfl) (hpl : (backTo pos (starEach es X.env)).any (·.1) = false := by rfl) : PE X (.Call (.Name x p) (e :: es) [] pos) (tCB r t) := by
  intro pins s σ H Q I h
  refine wpAny_Call_Name_kw (aa1 I hg hm hv ?_ hn hdb)
  exact PyProof.Rows.callWith_builtin1 (thn (ha pos pins s σ H _ I h) fun us s1 ⟨vs, H1, I1, r1, q1⟩ => hc pins s1 σ H1 vs us Q I1 r1 q1) he hpl
theorem B6 (hc : Y7 X (.type T) r) (hg : Gl X x) (hm : X.mg x = none) (hv : bootBuiltins x = some (.type T)) (ha : PA X (e :: es) t) (hn : x ≠ "__name__" := by decide) (hdb : (x == ("__debug__" : Str)) = false := by decide)
    (he : starEach (e :: es) X.env = (false, eval e X.env) :: starEach es X.env := by rfl) (hpl : (backTo pos (starEach es X.env)).any (·.1) = false := by rfl) : PE X (.Call (.Name x p) (e :: es) [] pos) (tCB r t) := by
  intro pins s σ H Q I h
  refine wpAny_Call_Name_kw (aa1 I hg hm hv ?_ hn hdb)
  exact PyProof.Rows.callWith_type1 (thn (ha pos pins s σ H _ I h) fun us s1 ⟨vs, H1, I1, r1, q1⟩ => hc pins s1 σ H1 vs us Q I1 r1 q1) he hpl
end
end L2
namespace HT
open PySem PyProof.Rows
section
open PySem.SeqAt
open PySem.AutoSeq1 (wpAny_loadPart')
open PySem.MeetsSeq PySem.MeetsSeq2 PySem.MeetsSeq3
end
section
variable {prog : Program} {w : World} {A : Around} {E : Value → Shared → Prop} {s : Shared}
def sIx (n d : Nat) : Option Int → Nat
  | none => d
  | some v => if v < 0 then (v + (n : Int)).toNat else min v.toNat n
end
end HT
namespace L2
open PySem PySem.Spec PyProof.Rows
abbrev TO := St → Hp → (Option Int → Hp → Prop) → Prop
def PO (X : Cx) (e : Option Expr) (t : TO) : Prop :=
  ∀ (pins : List (Addr × Obj)) (s : Shared) (σ : St) (H : Hp) (Q : Option Int → Hp → Prop), Inv X pins σ H s → t σ H Q →
    wpAny (model X.prog X.w) X.A (evalPart e X.env) (fun u s' => ∃ o H', Inv X pins σ H' s' ∧ IsPart u o ∧ Q o H') X.xe s
def ay4 : TO := fun _ H Q => Q none H
def aS9 (t : TE) : TO := fun σ H Q => t σ H fun x H1 => ∃ i, x = .int i ∧ Q (some i) H1
section
variable {X : Cx} {e : Expr} {te : TE} {lo hi : Option Expr} {tl th : TO} {pos p2 : Pos}
theorem P9 : PO X none ay4 := by
  intro pins s σ H Q I h
  rw [evalPart_none]
  exact wpAny_pure ⟨none, H, I, .none, h⟩
theorem K7 (h : PE X e te) : PO X (some e) (aS9 te) := by
  intro pins s σ H Q I hw
  rw [evalPart_some]
  refine thn (h pins s σ H _ I hw) fun u s1 ⟨x, H1, I1, r1, q1⟩ => ?_
  obtain ⟨i, rfl, q⟩ := q1
  obtain ⟨t, rfl⟩ := r1
  exact ⟨some i, H1, I1, .int i t, q⟩
def SlR (X : Cx) (r : V → Option Int → Option Int → Hp → VK → Prop) : Prop :=
  ∀ (pins : List (Addr × Obj)) (s : Shared) (σ : St) (H : Hp) (x : V) (v vl vu : Value) (lo hi : Option Int) (sl : Addr) (Q : VK), Inv X pins σ H s → C8 x v → s.heap.IsSliceOf sl vl vu .none → IsPart vl lo → IsPart vu hi → r x lo hi H Q →
    ∃ T id, typeLookup (.type T) "__getitem__" = pure (some (.builtin id)) ∧ s.TypeIs v T ∧ wpAny (model X.prog X.w) X.A (getItem v (.ref sl)) (EP X pins σ Q) X.xe s
def tSl (r : V → Option Int → Option Int → Hp → VK → Prop) (te : TE) (tl th : TO) : TE := fun σ H Q => te σ H fun x H1 => tl σ H1 fun l H2 => th σ H2 fun u H3 => r x l u H3 Q
theorem Q6 {r : V → Option Int → Option Int → Hp → VK → Prop} (hr : SlR X r) (he : PE X e te) (hl : PO X lo tl) (hu : PO X hi th) : PE X (.Subscript e (.Slice lo hi none p2) pos) (tSl r te tl th) := by
  intro pins s σ H Q I h
  refine Subscript_ (thn (he pins s σ H _ I h) fun v s1 ⟨x, H1, I1, r1, q1⟩ => ?_)
  refine wpAny_Slice (thn (hl pins s1 σ H1 _ I1 q1) fun vl s2 ⟨l, H2, I2, pl, q2⟩ => thn (hu pins s2 σ H2 _ I2 q2) fun vu s3 ⟨u, H3, I3, pu, q3⟩ => ?_)
  rw [evalPart_none]
  refine wpAny_pure ?_
  have I4 : Inv X pins σ H3 { s3 with heap := s3.heap.push { cls := .type "slice", data := .fields #[vl, vu, .none] } } := I3.kept (t' := s3.toks) fun b ob q => Heap.get?_push_of_some _ q
  obtain ⟨T, id, hT, ht, hg⟩ := hr pins { s3 with heap := s3.heap.push { cls := .type "slice", data := .fields #[vl, vu, .none] } } σ H3 x v vl vu l u s3.heap.objs.size Q I4 r1 (Heap.IsSliceOf.new ..) pl pu q3
  show wpAny (model X.prog X.w) X.A (subscriptTail e (.Slice lo hi none p2) v (.ref s3.heap.objs.size)) (EP X pins σ Q) X.xe { s3 with heap := s3.heap.push { cls := .type "slice", data := .fields #[vl, vu, .none] } }
  exact tail_any (ops := [.ref s3.heap.objs.size, v]) ht hT hg (by with_unfolding_all rfl)
def ae4 (xs : List V) (lo hi : Option Int) : List V := (xs.drop (HT.sIx xs.length 0 lo)).take (HT.sIx xs.length xs.length hi - HT.sIx xs.length 0 lo)
theorem ac9 (xs : List V) (lo hi : Option Int) : (ae4 xs lo hi).length ≤ xs.length := by
  unfold ae4
  rw [List.length_take, List.length_drop]
  omega
end
def ixN (n : Nat) (i : Int) : Option Nat := if 0 ≤ i then (if i < n then some i.toNat else none) else if -(n : Int) ≤ i then some (i + n).toNat else none
def atI {α : Type} (xs : List α) (i : Int) : Option α := (ixN xs.length i).bind fun j => xs[j]?
theorem aM1 {n : Nat} {i : Int} {j : Nat} (h : ixN n i = some j) : seqIndex? i n = some j ∧ j < n ∧ -(n : Int) ≤ i ∧ i < n := by
  unfold ixN at h
  by_cases h0 : 0 ≤ i
  · rw [if_pos h0] at h
    by_cases h1 : i < n
    · rw [if_pos h1] at h
      have e : i.toNat = j := Option.some.inj h
      exact ⟨by rw [seqIndex_of h0 h1, e], by omega, by omega, h1⟩
    · rw [if_neg h1] at h; cases h
  · rw [if_neg h0] at h
    by_cases h1 : -(n : Int) ≤ i
    · rw [if_pos h1] at h
      have e : (i + n).toNat = j := Option.some.inj h
      exact ⟨by rw [seqIndex_neg (by omega) h1, e], by omega, h1, by omega⟩
    · rw [if_neg h1] at h; cases h
theorem aO0 {α : Type} {xs : List α} {i : Int} {v : α} (h : atI xs i = some v) : ∃ j, seqIndex? i xs.length = some j ∧ xs[j]? = some v ∧ j < xs.length ∧ -(xs.length : Int) ≤ i ∧ i < xs.length := by
  unfold atI at h
  cases e : ixN xs.length i with
  | none => rw [e] at h; cases h
  | some j =>
    rw [e] at h
    obtain ⟨h1, h2, h3, h4⟩ := aM1 e
    exact ⟨j, h1, h, h2, h3, h4⟩
theorem G3 {α : Type} {xs : List α} {j : Nat} {v : α} (h : xs[j]? = some v) : atI xs (j : Int) = some v := by
  have hj : j < xs.length := (List.getElem?_eq_some_iff.mp h).1
  have e : ixN xs.length (j : Int) = some j := by
    unfold ixN
    rw [if_pos (by omega), if_pos (by omega)]; simp
  unfold atI; rw [e]; exact h
def be7 (b : Expr) : Prop := ∀ o i, subscripted b false o i = operate [o, i] (getItem o i)
def IxR (X : Cx) (r : R2) : Prop :=
  ∀ (value slice : Expr) (pins : List (Addr × Obj)) (s : Shared) (σ : St) (H : Hp) (x y : V) (v u : Value) (Q : VK), Inv X pins σ H s → C8 x v → C8 y u → r x y H Q →
    subscripted slice false v u = operate [v, u] (getItem v u) → wpAny (model X.prog X.w) X.A (subscriptTail value slice v u) (EP X pins σ Q) X.xe s
def MtR (X : Cx) (id : String) (r : V → List V → Hp → VK → Prop) : Prop :=
  ∀ (pins : List (Addr × Obj)) (s : Shared) (σ : St) (H : Hp) (x : V) (xs : List V) (v : Value) (us : List Value) (Q : VK), Inv X pins σ H s → C8 x v → t3 xs us → r x xs H Q →
    wpAny (model X.prog X.w) X.A (call (.builtin id) (v :: us)) (EP X pins σ Q) X.xe s
section
variable {X : Cx} {a b : Expr} {ta tb : TE} {pos : Pos}
theorem t9 {r : R2} (hr : IxR X r) (ha : PE X a ta) (hb : PE X b tb) (hs : be7 b) : PE X (.Subscript a b pos) (tOp r ta tb) := by
  intro pins s σ H Q I h
  exact Subscript_ (bm1 ha hb I h fun v u s2 x y H2 I2 rx ry q => hr a b pins s2 σ H2 x y v u Q I2 rx ry q (hs _ _))
def bb2 (K : PySem.W.Frag) : R2 := fun x y H Q => ∃ p xs i v, x = .ref p ∧ y = .int i ∧ SqL K H p xs ∧ atI xs i = some v ∧ Q v H
def aP6 (K : PySem.W.Frag) : R2 := fun x y H Q => ∃ p xs i v, x = .ref p ∧ y = .int i ∧ SqT K H p xs ∧ atI xs i = some v ∧ Q v H
theorem v8 : IxR X (bb2 X.K) := by
  intro value slice pins s σ H x y v u Q I rx ry h hs
  obtain ⟨p, xs, i, z, rfl, rfl, hq, he, q⟩ := h
  cases rx
  obtain ⟨t, rfl⟩ := ry
  obtain ⟨its, r, pl, hz⟩ := I.list hq
  obtain ⟨j, h1, h2, h3, h4, h5⟩ := aO0 he
  obtain ⟨w, ew, rw'⟩ := r.get h2
  have hl := r.length
  have hn := ak0
  have fin : EP X pins σ Q w s := ⟨z, H, I, rw', q⟩
  by_cases h0 : 0 ≤ i
  · have hj : i.toNat = j := by
      rw [seqIndex_of h0 h5] at h1
      exact Option.some.inj h1
    exact item_listR pl.isList h0 (by omega) (by rw [hj]; simpa using ew) fin hs
  · have hj : (i + (its.toArray.size : Int)).toNat = j := by
      rw [seqIndex_neg (by omega) h4] at h1
      rw [List.size_toArray, ← hl]
      exact Option.some.inj h1
    exact subscriptTail_builtinR (x := w) pl.isList.typeIs slot_list_getitem.lookup
      (wpAny_getItem_list_neg (Q := fun r s' => r = w ∧ EP X pins σ Q r s') pl.isList (by omega) (by rw [List.size_toArray] <;> omega) (by omega) (by rw [hj]; simpa using ew) ⟨rfl, fin⟩) hs
theorem y7 : IxR X (aP6 X.K) := by
  intro value slice pins s σ H x y v u Q I rx ry h hs
  obtain ⟨p, xs, i, z, rfl, rfl, hq, he, q⟩ := h
  cases rx
  obtain ⟨t, rfl⟩ := ry
  obtain ⟨its, r, pl, hz⟩ := I.tuple hq
  obtain ⟨j, h1, h2, h3, h4, h5⟩ := aO0 he
  obtain ⟨w, ew, rw'⟩ := r.get h2
  have hl := r.length
  have hn := ak0
  have fin : EP X pins σ Q w s := ⟨z, H, I, rw', q⟩
  exact subscriptTail_builtinR (x := w) pl.typeIs slot_tuple_getitem.lookup
    (getItem_tuple (j := j) (Q := fun r s' => r = w ∧ EP X pins σ Q r s') pl (by omega) (by omega) (by rw [List.size_toArray, ← hl]; exact h1) (by simpa using ew) ⟨rfl, fin⟩) hs
theorem aJ3 (its : List Value) (n j : Nat) (u : Value) : Obj.mapSeq (·.setIfInBounds j u) { cls := .type "list", data := .seq its.toArray n } = { cls := .type "list", data := .seq (its.set j u).toArray n } := by
  simp [Obj.mapSeq]
theorem Inv.lst {pins : List (Addr × Obj)} {σ : St} {H : Hp} {s : Shared} {p : Addr} {xs : List V} (I : Inv X pins σ H s) (h : H p = some (.lst xs)) :
    ∃ (its : List Value) (n : Nat), t3 xs its ∧ s.heap.get? p = some { cls := .type "list", data := .seq its.toArray n } ∧ xs.length ≤ sizeLine := by
  obtain ⟨z, its, n, r, e⟩ := I.hok p _ h
  exact ⟨its, n, r, e, z⟩
theorem Inv.lstUpd {pins : List (Addr × Obj)} {σ : St} {H : Hp} {s : Shared} {p : Addr} {xs ys : List V} {its its' : List Value} {n n' : Nat} {f : Obj → Obj} (I : Inv X pins σ H s) (h : H p = some (.lst xs))
    (ho : s.heap.get? p = some { cls := .type "list", data := .seq its.toArray n }) (hf : f { cls := .type "list", data := .seq its.toArray n } = { cls := .type "list", data := .seq its'.toArray n' }) (r : t3 ys its') (hz : ys.length ≤ sizeLine) (t : Nat) :
    Inv X pins σ (upd H p (.lst ys)) { s with heap := s.heap.update p f, toks := t } := by
  have e : (s.heap.update p f).get? p = some { cls := .type "list", data := .seq its'.toArray n' } := by
    rw [Heap.get?_update_self f ho (by rw [hf] <;> rfl), hf]
  refine I.write (x := p) (e := p) (by rw [h]; trivial) (.inl rfl) (fun b u hb q => (Heap.get?_update_other _ _ (Ne.symm hb)).trans q) ⟨_, e⟩ ?_
  exact ⟨hz, its', n', r, e⟩
def aU2 : V → V → V → Hp → (Hp → Prop) → Prop := fun o i v H Q => ∃ p xs k j, o = .ref p ∧ i = .int k ∧ H p = some (.lst xs) ∧ ixN xs.length k = some j ∧ Q (upd H p (.lst (xs.set j v)))
theorem ap5 : bp0 X aU2 := by
  intro pins s σ H o i v ov iv u Q I ro ri rv h
  obtain ⟨p, xs, k, j, rfl, rfl, hp, hj, q⟩ := h
  cases ro
  obtain ⟨t, rfl⟩ := ri
  obtain ⟨its, n, r, ho, hz⟩ := I.lst hp
  obtain ⟨h1, h2, h3, h4⟩ := aM1 hj
  have hl := r.length
  have hn := ak0
  have I' : Inv X pins σ (upd H p (.lst (xs.set j v))) { s with heap := s.heap.update p (Obj.mapSeq (·.setIfInBounds j u)) } :=
    I.lstUpd hp ho (aJ3 its n j u) (r.set rv j) (by rw [List.length_set]; exact hz) s.toks
  by_cases h0 : 0 ≤ k
  · have hk : k.toNat = j := by
      rw [seqIndex_of h0 h4] at h1
      exact Option.some.inj h1
    exact PySem.W.ki_setAt ho h0 (by omega) (by rw [List.size_toArray, ← hl]; exact h4) (by rw [hk]; exact ⟨_, I', q⟩)
  · have hk : (k + (its.toArray.size : Int)).toNat = j := by
      rw [seqIndex_neg (by omega) h3] at h1
      rw [List.size_toArray, ← hl]
      exact Option.some.inj h1
    exact PySem.W.ki_setBack ho (by omega) (by rw [List.size_toArray, ← hl]; exact h3) (by omega) (by rw [hk]; exact ⟨_, I', q⟩)
theorem ay9 (lo hi : Option Int) (n : Nat) : (sliceBounds lo hi none n).1 = ((HT.sIx n 0 lo : Nat) : Int) ∧ (sliceBounds lo hi none n).2.1 = ((HT.sIx n n hi : Nat) : Int) ∧ (sliceBounds lo hi none n).2.2 = 1 := by
  refine ⟨?_, ?_, rfl⟩
  · cases lo with
    | none => simp [sliceBounds, HT.sIx]
    | some i =>
      simp only [sliceBounds, HT.sIx, Option.getD_none, show (1 : Int) > 0 by decide, if_true]
      by_cases h : i < 0
      · simp only [h, if_true] <;> omega
      · simp only [h, if_false] <;> omega
  · cases hi with
    | none => simp [sliceBounds, HT.sIx]
    | some i =>
      simp only [sliceBounds, HT.sIx, Option.getD_none, show (1 : Int) > 0 by decide, if_true]
      by_cases h : i < 0
      · simp only [h, if_true] <;> omega
      · simp only [h, if_false] <;> omega
theorem at7 (its : List Value) (lo hi : Option Int) : slicePick its.toArray lo hi none = ((its.drop (HT.sIx its.length 0 lo)).take (HT.sIx its.length its.length hi - HT.sIx its.length 0 lo)).toArray := by
  obtain ⟨h1, h2, h3⟩ := ay9 lo hi its.toArray.size
  unfold slicePick
  rw [h1, h2, h3]
  simp only [sliceRange_one, pick_run, List.size_toArray] <;> rfl
def aU1 (K : PySem.W.Frag) : V → Option Int → Option Int → Hp → VK → Prop := fun x lo hi H Q => ∃ a xs, x = .ref a ∧ SqL K H a xs ∧ ∀ p, H p = none → Q (.ref p) (upd H p (.lst (ae4 xs lo hi)))
theorem T3 : SlR X (aU1 X.K) := by
  intro pins s σ H x v vl vu lo hi sl Q I rx hs pl pu h
  obtain ⟨a, xs, rfl, hx, q⟩ := h
  cases rx
  obtain ⟨its, r, ht, hz⟩ := I.list hx
  have hlen := r.length
  refine ⟨"list", _, slot_list_getitem.lookup, ht.isList.typeIs, ?_⟩
  refine wpAny_getItem_list_slice ht.isList hs pl pu .none (by simp) ?_ (by rw [List.size_toArray] <;> omega)
  rw [at7, ← hlen]
  refine ⟨.ref s.heap.objs.size, _, I.laid (t' := s.toks) (o := .lst (ae4 xs lo hi)) (fun b ob q => Heap.get?_push_of_some _ q) (Nat.le_refl _) ?_, rfl, q _ (I.hok.fresh (Nat.le_refl _))⟩
  exact ⟨Nat.le_trans (ac9 xs lo hi) hz, _, 0, (r.drop (HT.sIx xs.length 0 lo)).take (HT.sIx xs.length xs.length hi - HT.sIx xs.length 0 lo), Heap.get?_push_size _ rfl⟩
def aF2 : V → Bool
  | .non => true
  | .bl _ => true
  | .int _ => true
  | .str _ => true
  | _ => false
def eqV : V → V → Bool
  | .non, .non => true
  | .bl a, .bl b => a == b
  | .bl a, .int b => (if a then 1 else 0) == b
  | .int a, .bl b => a == (if b then 1 else 0)
  | .int a, .int b => a == b
  | .str a, .str b => a == b
  | _, _ => false
theorem bl7 {A : Around} {s : Shared} {y x : V} {u v : Value} (ry : C8 y u) (rx : C8 x v) (fy : aF2 y = true) (fx : aF2 x = true) : SeqAt.EqAt A s u v (eqV y x) := by
  cases y with
  | non =>
    cases ry
    cases x with
    | non => cases rx; exact SeqAt.EqAt.same _
    | bl b => cases rx; exact SeqAt.EqAt.none_bool b
    | int b => obtain ⟨t, rfl⟩ := rx; exact SeqAt.EqAt.none_int b t
    | str b => obtain ⟨t, rfl⟩ := rx; exact SeqAt.EqAt.none_str b t
    | _ => exact absurd (show false = true from fx) Bool.false_ne_true
  | bl a =>
    cases ry
    cases x with
    | non => cases rx; exact SeqAt.EqAt.bool_none a
    | bl b => cases rx; exact SeqAt.EqAt.bool_bool a b
    | int b => obtain ⟨t, rfl⟩ := rx; exact SeqAt.EqAt.bool_int a b t
    | str b => obtain ⟨t, rfl⟩ := rx; exact SeqAt.EqAt.bool_str a b t
    | _ => exact absurd (show false = true from fx) Bool.false_ne_true
  | int a =>
    obtain ⟨t', rfl⟩ := ry
    cases x with
    | non => cases rx; exact SeqAt.EqAt.int_none a t'
    | bl b => cases rx; exact SeqAt.EqAt.int_bool a t' b
    | int b => obtain ⟨t, rfl⟩ := rx; exact SeqAt.EqAt.int_int a t' b t
    | str b => obtain ⟨t, rfl⟩ := rx; exact SeqAt.EqAt.int_str a t' b t
    | _ => exact absurd (show false = true from fx) Bool.false_ne_true
  | str a =>
    obtain ⟨t', rfl⟩ := ry
    cases x with
    | non => cases rx; exact SeqAt.EqAt.str_none a t'
    | bl b => cases rx; exact SeqAt.EqAt.str_bool a t' b
    | int b => obtain ⟨t, rfl⟩ := rx; exact SeqAt.EqAt.str_int a t' b t
    | str b => obtain ⟨t, rfl⟩ := rx; exact SeqAt.EqAt.str_str a t' b t
    | _ => exact absurd (show false = true from fx) Bool.false_ne_true
  | _ => exact absurd (show false = true from fy) Bool.false_ne_true
theorem j0 : Y7 X (.builtin "len") (fun xs H Q => ∃ p ys, xs = [.ref p] ∧ (SqL X.K H p ys ∨ SqT X.K H p ys) ∧ Q (.int ys.length) H) := by
  intro pins s σ H xs us Q I r h
  obtain ⟨p, ys, rfl, hq, q⟩ := h
  obtain ⟨u, rfl, rx⟩ := ab3 r
  cases rx
  have hn := ak0
  rcases hq with hq | hq
  · obtain ⟨its, r', pl, hz⟩ := I.list hq
    have hlen := r'.length
    exact Calls.call_len_list pl.isList (by simp only [List.size_toArray] <;> omega) ⟨.int ys.length, H, I.tok _, ⟨s.toks + 1, by rw [List.size_toArray, hlen]⟩, q⟩
  · obtain ⟨its, r', pl, hz⟩ := I.tuple hq
    have hlen := r'.length
    exact len_tuple pl (by simp only [List.size_toArray] <;> omega) ⟨.int ys.length, H, I.tok _, ⟨s.toks + 1, by rw [List.size_toArray, hlen]⟩, q⟩
theorem O7 : Y7 X (.type "list") (fun xs H Q => ∃ p ys, xs = [.ref p] ∧ (SqL X.K H p ys ∨ SqT X.K H p ys) ∧ ∀ l, H l = none → Q (.ref l) (upd H l (.lst ys))) := by
  intro pins s σ H xs us Q I r h
  obtain ⟨p, ys, rfl, hq, q⟩ := h
  obtain ⟨u, rfl, rx⟩ := ab3 r
  cases rx
  have fin : ∀ (its : List Value), t3 ys its → ys.length ≤ sizeLine → ∀ (h' : Heap) (c' : Nat), (∀ b o', s.heap.get? b = some o' → h'.get? b = some o') →
      h'.get? s.heap.objs.size = some { cls := .type "list", dict := none, data := .seq its.toArray c', slots := #[] } → EP X pins σ Q (.ref s.heap.objs.size) { s with heap := h' } := fun its r' hz h' c' kp e =>
    ⟨.ref s.heap.objs.size, _, I.laid (t' := s.toks) kp (Nat.le_refl _) (show J5 X.prog X.w _ h' _ (.lst ys) from ⟨hz, its, c', r', e⟩), rfl, q _ (I.hok.fresh (Nat.le_refl _))⟩
  rcases hq with hq | hq
  · obtain ⟨its, r', pl, hz⟩ := I.list hq
    have hlen := r'.length
    obtain ⟨o, ho, hc, n, hd⟩ := pl.isList
    exact call_list_seq p (.inl rfl) ho hc hd (fun h' c' kp e => fin its r' hz h' c' kp e) (by simp only [List.size_toArray] <;> omega)
  · obtain ⟨its, r', pl, hz⟩ := I.tuple hq
    have hlen := r'.length
    obtain ⟨o, ho, hc, n, hd⟩ := pl
    exact call_list_seq p (.inr rfl) ho hc hd (fun h' c' kp e => fin its r' hz h' c' kp e) (by simp only [List.size_toArray] <;> omega)
theorem au8 : Y7 X (.type "tuple") (fun xs H Q => ∃ p ys, xs = [.ref p] ∧ ((SqL X.K H p ys ∧ ∀ l, H l = none → Q (.ref l) (upd H l (.tup ys))) ∨ (SqT X.K H p ys ∧ Q (.ref p) H))) := by
  intro pins s σ H xs us Q I r h
  obtain ⟨p, ys, rfl, h⟩ := h
  obtain ⟨u, rfl, rx⟩ := ab3 r
  cases rx
  rcases h with ⟨hq, q⟩ | ⟨hq, q⟩
  · obtain ⟨its, r', pl, hz⟩ := I.list hq
    have hlen := r'.length
    refine call_tuple_list pl.isList (fun h' kp => ?_) (by simp only [List.size_toArray] <;> omega)
    have I1 : Inv X pins σ H { s with heap := h' } := I.kept (t' := s.toks) kp
    have I2 : Inv X pins σ (upd H h'.objs.size (.tup ys)) { s with heap := h'.push { cls := .type "tuple", data := .seq its.toArray } } :=
      I1.laid (t' := s.toks) (fun b o e => Heap.get?_push_of_some _ e) (Nat.le_refl _) (show J5 X.prog X.w _ _ _ (.tup ys) from ⟨hz, its, r', IsTup.new _ _⟩)
    exact ⟨.ref h'.objs.size, _, I2, rfl, q _ (I1.hok.fresh (Nat.le_refl _))⟩
  · obtain ⟨its, r', pl, hz⟩ := I.tuple hq
    exact call_tuple_same pl ⟨.ref p, H, I, rfl, q⟩
def tyV (K : PySem.W.Frag) (T : String) (x : V) (H : Hp) : Prop := match x with
  | .str _ => T = "str"
  | .int _ => T = "int"
  | .ref p => (T = "list" ∧ ∃ xs, SqL K H p xs) ∨ (T = "tuple" ∧ ∃ o, K.lookup p = some o ∧ o.cls = .type "tuple" ∧ o.dict = none) ∨
      (T = "dict" ∧ ((∃ kvs, H p = some (.dK kvs)) ∨ ∃ kvs, H p = some (.dT kvs))) ∨ (T = "set" ∧ ∃ S n, H p = some (.set S n))
  | _ => False
theorem aS6 {pins : List (Addr × Obj)} {σ : St} {H : Hp} {s : Shared} {T : String} {x : V} {v : Value} (I : Inv X pins σ H s) (r : C8 x v) (ty : tyV X.K T x H) :
    s.TypeIs v T ∧ ∀ a, v = .ref a → ∃ ob, s.heap.get? a = some ob ∧ ob.dict = none := by
  cases x with
  | str z =>
    obtain ⟨t, rfl⟩ := r
    cases (show T = "str" from ty)
    exact ⟨typeIs_str s z t, fun _ e => nomatch e⟩
  | int i =>
    obtain ⟨t, rfl⟩ := r
    cases (show T = "int" from ty)
    exact ⟨typeIs_int s i t, fun _ e => nomatch e⟩
  | ref p =>
    cases r
    rcases ty with ⟨rfl, xs, hq⟩ | ⟨rfl, o, hk, hc, hd⟩ | ⟨rfl, hk⟩ | ⟨rfl, S, n, hk⟩
    · obtain ⟨its, _, pl, _⟩ := I.list hq
      refine ⟨pl.isList.typeIs, fun a e => ?_⟩
      cases e
      obtain ⟨o, n, e, c, hd, _⟩ := pl
      exact ⟨o, e, hd⟩
    · refine ⟨⟨o, I.kIn p o hk, hc⟩, fun a e => ?_⟩
      cases e
      exact ⟨o, I.kIn _ o hk, hd⟩
    · have z : ∃ o, s.heap.get? p = some o ∧ o.ExactDict := by
        rcases hk with ⟨kvs, hk⟩ | ⟨kvs, hk⟩
        · obtain ⟨_, _, _, _, o, _, _, e, ex, _⟩ := I.hok p _ hk
          exact ⟨o, e, ex⟩
        · obtain ⟨_, _, _, _, o, _, _, e, ex, _⟩ := I.hok p _ hk
          exact ⟨o, e, ex⟩
      obtain ⟨o, e, ex⟩ := z
      refine ⟨⟨o, e, ex.1⟩, fun a e2 => ?_⟩
      cases e2
      exact ⟨o, e, ex.2.1⟩
    · obtain ⟨o, _, _, _, e, ex, _⟩ := I.hok p _ hk
      refine ⟨⟨o, e, ex.1⟩, fun a e2 => ?_⟩
      cases e2
      exact ⟨o, e, ex.2.1⟩
  | _ => exact False.elim ty
def bh0 (K : PySem.W.Frag) (T : String) (r : V → List V → Hp → VK → Prop) (to : TE) : TE := fun σ H Q => to σ H fun x H1 => tyV K T x H1 ∧ r x [] H1 Q
def tBM (K : PySem.W.Frag) (T : String) (r : V → List V → Hp → VK → Prop) (to : TE) (t : TA) : TE := fun σ H Q => to σ H fun x H1 => tyV K T x H1 ∧ t σ H1 fun xs H2 => r x xs H2 Q
variable {o e : Expr} {es : List Expr} {to : TE} {t : TA} {name : Str} {apos cpos : Pos} {T id : String} {r : V → List V → Hp → VK → Prop}
theorem aI2 (pa : PlainAttrs T) (slot : Slot T name id) (hty : typeOf (.builtin id) = pure (.type "method_descriptor")) (hm : MtR X id r) (ho : PE X o to)
    (hbase : attributeBase o name X.env (eval o X.env) = eval o X.env := by rfl) (hline : (apos.endLine == cpos.line) = true := by rfl) : PE X (.Call (.Attribute o name apos) [] [] cpos) (bh0 X.K T r to) := by
  intro pins s σ H Q I h
  refine wpAny_Call_method0_late hbase hline (thn (ho pins s σ H _ I h) fun v s1 ⟨x, H1, I1, r1, ty, q1⟩ => ?_)
  obtain ⟨h1, h2⟩ := aS6 I1 r1 ty
  exact ⟨T, id, pa, slot, hty, h1, h2, Calls.callWith_builtin rfl (PySem.evalArgs_none (hm pins s1 σ H1 x [] v [] Q I1 r1 .nil q1))⟩
theorem aV7 (pa : PlainAttrs T) (slot : Slot T name id) (hty : typeOf (.builtin id) = pure (.type "method_descriptor")) (hm : MtR X id r) (ho : PE X o to) (ha : PA X (e :: es) t)
    (hbase : attributeBase o name X.env (eval o X.env) = eval o X.env := by rfl)
    (hfew : ((backTo cpos (starEach (e :: es) X.env)).all (fun x => !x.1) && (backToKw cpos (keywordEach [] X.env)).all (fun x => x.1.isSome)
      && decide ((e :: es).length + ([] : List Keyword).length + (if ([] : List Keyword).isEmpty then 0 else 1) < 30)) = true := by rfl)
    (hline : (apos.endLine == cpos.line) = true := by rfl) (hs : starEach (e :: es) X.env = (false, eval e X.env) :: starEach es X.env := by rfl) (hplain : (backTo cpos (starEach es X.env)).any (·.1) = false := by rfl) :
    PE X (.Call (.Attribute o name apos) (e :: es) [] cpos) (tBM X.K T r to t) := by
  intro pins s σ H Q I h
  refine wpAny_Call_method_late hbase hfew hline rfl (thn (ho pins s σ H _ I h) fun v s1 ⟨x, H1, I1, r1, ty, q1⟩ => ?_)
  obtain ⟨h1, h2⟩ := aS6 I1 r1 ty
  refine ⟨T, id, pa, slot, hty, h1, h2, ?_⟩
  have hA := ha cpos pins s1 σ H1 _ I1 q1
  rw [hs] at hA ⊢
  refine Calls.callWith_builtin (by show (false || (backTo cpos (starEach es X.env)).any (·.1)) = false; rw [hplain] <;> rfl) (Calls.evalArgs_plain ?_)
  exact thn hA fun us s2 ⟨vs, H2, I2, r2, q2⟩ => hm pins s2 σ H2 x vs v us Q I2 r1 r2 q2
/- xs.append(e), list.index on a module's tuple .. are MtR facts of 06m -/
end
def MtM (X : Cx) (id : String) (r : V → List V → Hp → VK → Prop) : Prop :=
  ∀ (pins : List (Addr × Obj)) (s : Shared) (σ : St) (H : Hp) (x : V) (xs : List V) (v : Value) (us : List Value) (Q : VK), Inv X pins σ H s → C8 x v → t3 xs us → r x xs H Q →
    wpAny (model X.prog X.w) X.A (call (.builtin id) (v :: us)) (EP X pins σ Q) X.xe s
theorem t3.one : ∀ {x : V} {us : List Value}, t3 [x] us → ∃ u, us = [u] ∧ C8 x u
  | _, _, .cons r .nil => ⟨_, rfl, r⟩
theorem t3.two : ∀ {x y : V} {us : List Value}, t3 [x, y] us → ∃ u v, us = [u, v] ∧ C8 x u ∧ C8 y v
  | _, _, _, .cons r (.cons q .nil) => ⟨_, _, rfl, r, q⟩
theorem t3.zero : ∀ {us : List Value}, t3 [] us → us = []
  | _, .nil => rfl
theorem t3.dropLast {xs : List V} {us : List Value} (h : t3 xs us) : t3 xs.dropLast us.dropLast := by
  induction h with
  | nil => exact .nil
  | cons r t ih =>
    cases t with
    | nil => exact .nil
    | cons q t' => exact .cons r ih
theorem t3.rep {xs : List V} {us : List Value} (h : t3 xs us) : ∀ k : Nat, t3 (List.replicate k xs).flatten (List.replicate k us).flatten
  | 0 => .nil
  | k + 1 => by
    rw [List.replicate_succ, List.replicate_succ, List.flatten_cons, List.flatten_cons]
    exact t3.append h (t3.rep h k)
theorem aK0 {α : Type} (l : List α) : l.eraseIdx (l.length - 1) = l.dropLast := by
  induction l with
  | nil => rfl
  | cons a r ih =>
    cases r with
    | nil => rfl
    | cons b r =>
      have e : (a :: b :: r).length - 1 = ((b :: r).length - 1) + 1 := by
        have h1 : (a :: b :: r).length = r.length + 2 := rfl
        have h2 : (b :: r).length = r.length + 1 := rfl
        omega
      rw [e, List.eraseIdx_cons_succ, ih]
      all_goals rfl
theorem aw3 (its : List Value) : ∀ (k : Nat) (acc : List Value),
    List.foldl (fun x1 x2 => x1 ++ x2) acc.toArray (List.replicate k its.toArray) = (acc ++ (List.replicate k its).flatten).toArray
  | 0, acc => by simp
  | k + 1, acc => by
    have e : acc.toArray ++ its.toArray = (acc ++ its).toArray := by simp
    have e2 : (acc ++ its) ++ (List.replicate k its).flatten = acc ++ (List.replicate (k + 1) its).flatten := by
      rw [List.replicate_succ, List.flatten_cons, List.append_assoc]
    rw [← e2, ← aw3 its k (acc ++ its), ← e, List.replicate_succ, List.foldl_cons]
section
variable {X : Cx} {pins : List (Addr × Obj)} {σ : St} {H : Hp} {s : Shared} {l b : Addr} {xs ys zs : List V}
theorem Inv.lset {its its' : List Value} {n : Nat} {f : Array Value → Array Value} {t' : Nat} (I : Inv X pins σ H s) (hH : H l = some (.lst xs))
    (e : s.heap.get? l = some { cls := .type "list", data := .seq its.toArray n }) (hf : f its.toArray = its'.toArray) (hv : t3 ys its') (hz : ys.length ≤ sizeLine) :
    Inv X pins σ (upd H l (.lst ys)) { s with heap := s.heap.update l (Obj.mapSeq f), toks := t' } := by
  have q := PySem.IsL.update e f
  rw [hf] at q
  refine I.write (x := l) (e := l) (by rw [hH]; exact trivial) (.inl rfl) (fun b' u hb hu => (Heap.get?_update_other s.heap (Obj.mapSeq f) (Ne.symm hb)).trans hu) ⟨_, q⟩ ?_
  exact ⟨hz, its', _, hv, q⟩
theorem Inv.lnew {its : List Value} {t' : Nat} (I : Inv X pins σ H s) (hv : t3 ys its) (hz : ys.length ≤ sizeLine) :
    Inv X pins σ (upd H s.heap.objs.size (.lst ys)) { s with heap := s.heap.push { cls := .type "list", data := .seq its.toArray }, toks := t' } :=
  I.laid (fun _ _ q => Heap.get?_push_of_some _ q) (Nat.le_refl _) ⟨hz, its, 0, hv, Heap.get?_push_size _ rfl⟩
theorem Inv.fresh (I : Inv X pins σ H s) : H s.heap.objs.size = none := I.hok.fresh (Nat.le_refl _)
theorem Inv.lstM (I : Inv X pins σ H s) (hH : H l = some (.lst xs)) : xs.length ≤ sizeLine ∧ ∃ (its : List Value) (n : Nat), t3 xs its ∧ xs.length = its.length ∧ s.heap.get? l = some { cls := .type "list", data := .seq its.toArray n } := by
  obtain ⟨z, its, n, r, e⟩ := I.hok l _ hH
  exact ⟨z, its, n, r, r.length, e⟩
theorem aW1 {n : Nat} (h : n ≤ sizeLine) : Builtin.List.listTooLong n = false := by
  unfold Builtin.List.listTooLong
  exact decide_eq_false (by omega)
end
section
variable {X : Cx}
def az5 : V → List V → Hp → VK → Prop := fun x vs H Q => ∃ l xs y, x = .ref l ∧ vs = [y] ∧ H l = some (.lst xs) ∧ xs.length < sizeLine ∧ Q .non (upd H l (.lst (xs ++ [y])))
theorem S7 : MtM X "list.append" az5 := by
  intro pins s σ H x vs v us Q I rx rv h
  obtain ⟨l, xs, y, rfl, rfl, hH, hz, q⟩ := h
  cases rx
  obtain ⟨u, rfl, ru⟩ := rv.one
  obtain ⟨z, its, n, r, hl, e⟩ := I.lstM hH
  refine call_meets F.slot_list_append ⟨_, e, rfl⟩ F.entry_list_append (F.args_list_append_2 _ _) (PySem.list_append l its.toArray n u (by rw [List.size_toArray]; omega)) ⟨e, ?_⟩
  refine ⟨.non, _, I.lset (its' := its ++ [u]) hH e (by simp) (r.append (.cons ru .nil)) ?_, rfl, q⟩
  rw [List.length_append, List.length_singleton]
  omega
def rExtend : V → List V → Hp → VK → Prop := fun x vs H Q => ∃ l b xs zs, x = .ref l ∧ vs = [.ref b] ∧ H l = some (.lst xs) ∧ H b = some (.lst zs) ∧ xs.length + zs.length ≤ sizeLine ∧ Q .non (upd H l (.lst (xs ++ zs)))
def bh8 : V → List V → Hp → VK → Prop := fun x vs H Q => ∃ l xs y, x = .ref l ∧ vs = [] ∧ H l = some (.lst xs) ∧ xs[xs.length - 1]? = some y ∧ Q y (upd H l (.lst xs.dropLast))
theorem bk2 : MtM X "list.pop" bh8 := by
  intro pins s σ H x vs v us Q I rx rv h
  obtain ⟨l, xs, y, rfl, rfl, hH, hy, q⟩ := h
  cases rx
  have hus := rv.zero
  subst hus
  obtain ⟨z, its, n, r, hl, e⟩ := I.lstM hH
  obtain ⟨u, hu, ru⟩ := r.get hy
  have hy' : its.toArray[its.toArray.size - 1]? = some u := by
    show its.toArray[its.length - 1]? = some u
    rw [← Array.getElem?_toList, ← hl]
    exact hu
  refine call_meets F.slot_list_pop ⟨_, e, rfl⟩ F.entry_list_pop (F.args_list_pop_1 _) (MeetsSeq.list_pop_last l its.toArray n u hy' (by rw [List.size_toArray]; omega)) ⟨e, ?_⟩
  refine ⟨y, _, I.lset (its' := its.dropLast) hH e ?_ r.dropLast ?_, ru, q⟩
  · show its.toArray.eraseIdxIfInBounds (its.toArray.size - 1) = its.dropLast.toArray
    rw [List.size_toArray, List.eraseIdxIfInBounds_toArray, aK0]
  · rw [List.length_dropLast]
    omega
def bi1 : R2 := fun x y H Q => ∃ l b xs zs, x = .ref l ∧ y = .ref b ∧ H l = some (.lst xs) ∧ H b = some (.lst zs) ∧ xs.length + zs.length ≤ sizeLine ∧ ∀ p, H p = none → Q (.ref p) (upd H p (.lst (xs ++ zs)))
theorem aj4 : OpR X (binaryOp .Add) bi1 := by
  intro pins s σ H x y v u Q I rx ry h
  obtain ⟨l, b, xs, zs, rfl, rfl, hH, hB, hz, q⟩ := h
  cases rx
  cases ry
  obtain ⟨z, its, n, r, hl, e⟩ := I.lstM hH
  obtain ⟨z2, its2, n2, r2, hl2, e2⟩ := I.lstM hB
  refine PySem.P.add_list e e2 ?_ (by rw [List.size_toArray, List.size_toArray]; omega)
  have ea : its.toArray ++ its2.toArray = (its ++ its2).toArray := by simp
  rw [ea]
  exact ⟨.ref _, _, I.lnew (t' := s.toks) (r.append r2) (by rw [List.length_append]; omega), rfl, q _ I.fresh⟩
def bh7 : R2 := fun x y H Q => ∃ l k xs, x = .ref l ∧ y = .int k ∧ H l = some (.lst xs) ∧ -(2 ^ 63) ≤ k ∧ k < 2 ^ 63 ∧ xs.length * k.toNat ≤ sizeLine ∧
  ∀ p, H p = none → Q (.ref p) (upd H p (.lst (List.replicate k.toNat xs).flatten))
theorem bc5 {α : Type} (xs : List α) (k : Nat) : (List.replicate k xs).flatten.length = k * xs.length := by
  induction k with
  | zero => simp
  | succ k ih => rw [List.replicate_succ, List.flatten_cons, List.length_append, ih, Nat.succ_mul, Nat.add_comm]
theorem aV8 : OpR X (binaryOp .Mult) bh7 := by
  intro pins s σ H x y v u Q I rx ry h
  obtain ⟨l, k, xs, rfl, rfl, hH, h1, h2, hz, q⟩ := h
  cases rx
  obtain ⟨t, rfl⟩ := ry
  obtain ⟨z, its, n, r, hl, e⟩ := I.lstM hH
  have hlen : its.toArray.size * k.toNat ≤ sizeLine := by rw [List.size_toArray, ← hl]; exact hz
  have hcap : ¬ its.toArray.size * k.toNat > (2 ^ 63 - 1) / 8 := by
    have : (sizeLine : Nat) ≤ (2 ^ 63 - 1) / 8 := by decide
    omega
  have hfit : ¬ (!Builtin.List.listFitsIndex k) = true := by
    rw [fitsIndex_both h1 h2]
    exact Bool.false_ne_true
  have hlong : ¬ Builtin.List.listTooLong (its.toArray.size * k.toNat) = true := by
    rw [aW1 hlen]
    exact Bool.false_ne_true
  have hnew : List.foldl (fun x1 x2 => x1 ++ x2) #[] (List.replicate (if its.toArray.isEmpty = true then 0 else k.toNat) its.toArray) = (List.replicate k.toNat its).flatten.toArray := by
    have f0 : ∀ m : Nat, List.foldl (fun x1 x2 => x1 ++ x2) #[] (List.replicate m its.toArray) = (List.replicate m its).flatten.toArray := fun m => by
      have := aw3 its m []
      rw [List.nil_append] at this
      exact this
    rw [f0]
    cases its with
    | nil => simp
    | cons a r' => rw [if_neg (by simp)]
  refine wpAny_binaryOp_repeat_ref (T := "list") (U := "int") (by decide) ⟨_, e, rfl⟩ (fun s' => typeIs_int s' k t) noFill_list_mul F.fills_int_mul F.slot_int_rmul repeat_list F.slot_int_index.lookup
    (call_meets F.slot_int_rmul (typeIs_int s k t) F.entry_int_rmul (F.args_int_rmul_2 _ _) (int___rmul___int_list k t l its.toArray n)
      ⟨e, rfl, ⟨_, e, rfl⟩, call_meets F.slot_list_mul ⟨_, e, rfl⟩ F.entry_list_mul (F.args_list_mul_2 _ _) (AutoListH.list___mul___list_int_3 l its.toArray n k t hfit hcap hlong) ⟨e, ?_⟩⟩)
  rw [hnew]
  exact ⟨.ref _, _, I.lnew (t' := s.toks) (r.rep k.toNat) (by rw [bc5, Nat.mul_comm]; exact hz), rfl, q _ I.fresh⟩
end
end L2
namespace Att
open PySem PySem.W PySem.Calls PyProof.Rows
theorem am5 {P : Params} {h : Heap} : ∀ (ns : List Int) (vs : List Value), WellAll P h vs (ns.map WData.int) → IntsAre vs ns := by
  intro ns
  induction ns with
  | nil =>
    intro vs w
    rw [List.map_nil] at w
    cases w
    exact .nil
  | cons n ns ih =>
    intro vs w
    rw [List.map_cons] at w
    cases w with
    | cons a b =>
      cases a
      exact .cons _ _ (ih _ b)
theorem aP4 {l : OpenLaw} {n : Nat} (hn : l.most = some n) {P : Params} {h : Heap} {args : List WData} {vals : List Value}
    (hpre : l.row.toRowW.claim.pre args = true) (hwl : WellAll P h vals args) :
    ∃ a vs ns, vals = [Value.ref a] ∧ args = [WData.list (ns.map WData.int)] ∧ h.get? a = some { cls := .type "list", data := .seq vs.toArray } ∧ IntsAre vs ns ∧ ns.length ≤ n := by
  have hsh : WShape.hasAll [] args [.list .int] = true := (pre_splitW hpre).1
  have hc : l.pre.holds [] { args := args } = true := (pre_splitW hpre).2
  obtain ⟨d, r, rfl, h1, h2⟩ := hasAllW_cons hsh
  obtain rfl := hasAllW_nil h2
  obtain ⟨xs, rfl, h3⟩ := hasW_list h1
  obtain ⟨ns, rfl⟩ := items_int h3
  have hlen : ns.length ≤ n := by
    unfold OpenLaw.pre at hc
    have h4 : (WTm.not (.lt (.lit (.int (n : Int))) (.len (.arg 0)))).holds [] { args := [.list (ns.map .int)] } = true := by
      have h4 := (holds_andW hc).1
      rw [hn] at h4
      exact h4
    have h5 := condW_of h4 (w_not (w_lt w_lit (w_len_list (w_arg rfl))))
    rw [List.length_map] at h5
    refine Nat.le_of_not_lt fun q => ?_
    have q' : (n : Int) < ((ns.length : Nat) : Int) := by omega
    first
      | (rw [decide_eq_true q'] at h5; exact absurd h5 (by decide))
      | (simp at h5; omega)
  cases hwl with
  | cons w1 w2 =>
    cases w2
    cases w1 with
    | list ho hall => exact ⟨_, _, ns, rfl, rfl, ho, am5 ns _ hall, hlen⟩
theorem aP8 (l : OpenLaw) (args : List WData) : l.row.toRowW.claim.post args (.bool true) args = true :=
  postW_of (r := l.row.toRowW) (X := (true == true))
    (show WShape.has [] (.bool true) .bool = true by first | rfl | decide | simp [WShape.has, WShape.arms, WShape.armsAll])
    (show (WTm.eq .res (.lit (.bool true))).value [] { args := args, res := some (.bool true), after := args } = some (.bool (true == true)) from w_eq_bool (w_res rfl) w_lit) rfl
theorem attach_call {l : OpenLaw} {n : Nat} {q : Program} {loose : List Str} {XP : (Str → Option Value) → Heap → Prop} {YP : World → Heap → Prop} {d : DefRec}
    (hn : l.most = some n) (hdf : d.params.defaults = [])
    (call : ∀ (w : World) (s₀ s₁ : Shared) (mg mb : Str → Option Value) (fa : Addr) (o : Obj) (pm cd doc : Value) (a : Addr) (vs : List Value) (ns : List Int),
      Ground q loose [] XP w s₀ mg mb s₁.heap → YP w s₁.heap →
      s₁.heap.get? fa = some o → o.data = .func (docDef d.name d.params d.body d.scope pm cd doc) → s₁.heap.CodeRec cd d.name → mg d.name = some (.ref fa) →
      s₁.heap.get? a = some { cls := .type "list", data := .seq vs.toArray } → IntsAre vs ns → ns.length ≤ n → s₁.gens = #[] →
      codeAny (model l.prog w) callerA (.call (.ref fa) ⟨[.ref a], []⟩) (fun r s' => r = .ok (.ret (.bool true)) ∧ OldK s₁.heap s'.heap ∧ s'.os = s₁.os ∧ AllBare s'.gens) s₁) :
    WalkO q loose XP YP l.row.toRowW d [] (fun f vs => PySem.call f vs) := by
  intro w s₀ s₁ mg mb G Y fa o pm cd doc dV kV ho hd hcd hD hmg hg args vals as hpre hlay hrd hwl hlo
  obtain rfl : dV = .none := Dflts.none hD hdf
  obtain rfl : kV = .none := Dflts.noKw hD
  obtain ⟨a, vs, ns, rfl, rfl, hobj, hints, hlen⟩ := aP4 hn hpre hwl
  refine enter_call (codeAny_mono (call w s₀ s₁ mg mb fa o pm cd doc a vs ns G Y ho (fd_plain hd) hcd hmg hobj hints hlen hg) fun r s' hq => ?_)
  obtain ⟨rfl, h2, h3, h4⟩ := hq
  exact ⟨.inl ⟨.bool true, .bool true, [], rfl, fun _ => rfl, .bool true, aP8 l _, fun _ => ⟨List.Pairwise.nil, fun _ hm => (nomatch hm)⟩⟩, h2, h3, h4⟩
end Att
namespace L2
open PySem PySem.Spec PyProof.Rows
theorem av0 : ∀ {vs : List Value} {ns : List Int}, IntsAre vs ns → t3 (ns.map V.int) vs
  | _, _, .nil => .nil
  | _, _, .cons n t h => .cons ⟨t, rfl⟩ (av0 h)
def bm7 (H : Hp) : Prop := ∀ b, H b = none ∨ ∃ o xs, H b = some (.frz o (.lst xs))
theorem aW6 {P : Program} {w : World} {K : PySem.W.Frag} {mg mb : Str → Option Value} {CX : CXT} {k : Nat} {fa a : Addr} {fd : FuncData} {x : Str} {sp : Sp} {s₁ : Shared} {vs : List Value} {ns : List Int}
    (KX : K.In s₁.heap) (hns : s₁.heap.Ns mainGlobals mg) (hb : s₁.heap.Ns builtinsNs mb) (hbb : ∀ x : Str, x ≠ "__name__" → mb x = bootBuiltins x) (hlim : s₁.heap.NoLimit) (hg : s₁.gens = #[])
    (ha : s₁.heap.get? a = some { cls := .type "list", data := .seq vs.toArray }) (hi : IntsAre vs ns) (hl : ns.length ≤ sizeLine) (hr : Y2 k callerA)
    (F : ∀ base : Heap, K.In base → base.Ns mainGlobals mg → Y6 P w K mg base CX k fa fd [x] sp) (hbind : ∀ (s : Shared) (u : Value), BindsTo s fd ⟨[u], []⟩ [(x, u)])
    (hsp : ∀ H : Hp, bm7 H → SqL K H a (ns.map V.int) → sp [.ref a] H (fun v _ => v = .bl true) fun _ _ _ => False)
    (hCX : ∀ H e s', CX [] H s₁ (fun _ _ _ => False) e s' → False) :
    codeAny (model P w) callerA (.call (.ref fa) ⟨[.ref a], []⟩) (fun r s' => r = .ok (.ret (.bool true)) ∧ OldK s₁.heap s'.heap ∧ s'.os = s₁.os ∧ AllBare s'.gens) s₁ := by
  have rv := av0 hi
  have lenV := hi.length
  -- from an abstract heap in which nothing but the script may be tracked
  have core : ∀ H : Hp, bm7 H → SqL K H a (ns.map V.int) → HOk P w H s₁.heap → (∀ b, H b ≠ none → b = a) → (H a ≠ none → K.lookup a = none) →
      codeAny (model P w) callerA (.call (.ref fa) ⟨[.ref a], []⟩) (fun r s' => r = .ok (.ret (.bool true)) ∧ OldK s₁.heap s'.heap ∧ s'.os = s₁.os ∧ AllBare s'.gens) s₁ := by
    intro H hO hS hok hA hK
    have base_of : ∀ {b : Addr} {o : Obj}, s₁.heap.get? b = some o → H b = none → (aB1 s₁.heap H).get? b = some o := fun e n => aX4 e n
    have noA : ∀ {b : Addr} {o : Obj} {es : Array DictEntry} {ep : Nat}, s₁.heap.get? b = some o → o.data = .dict es ep → H b = none := fun {b o es ep} e d => by
      cases q : H b with
      | none => rfl
      | some u =>
        have e' : b = a := hA b (by rw [q]; simp)
        subst e'
        rw [ha] at e; cases e
        have d' : Data.seq vs.toArray _ = Data.dict es ep := d
        cases d'
    have nsK : ∀ {b : Addr} {m : Str → Option Value}, s₁.heap.Ns b m → (aB1 s₁.heap H).Ns b m := fun {b m} ⟨o, es, ep, e, d, r⟩ => ⟨o, es, ep, base_of e (noA e d), d, r⟩
    have hKb : K.In (aB1 s₁.heap H) := fun b o e => base_of (KX b o e) (by
      cases q : H b with
      | none => rfl
      | some u =>
        have e' : b = a := hA b (by rw [q]; simp)
        subst e'
        rw [hK (by rw [q]; simp)] at e; cases e)
    have hM : Mod K mg (aB1 s₁.heap H) := ⟨hKb, nsK hns, ⟨mb, nsK hb, hbb⟩, let ⟨mc, h1, h2⟩ := hlim; ⟨mc, nsK h1, h2⟩⟩
    have e0 : ba0 P w K mg (aB1 s₁.heap H) callerA [] s₁ H := ⟨rfl, hM, fun b o e => bc1 e, Nat.le_of_eq (aR0 _ _), trivial, fun b hb => absurd (show b ∈ ([] : List Addr) from hb) (by simp), hok, .of_eq hg⟩
    refine codeAny_mono ((F _ hKb (nsK hns)).run callerA [] s₁ H ⟨[.ref a], []⟩ [.ref a] [.ref a] _ _ hr e0 (hbind s₁ (.ref a)) (.cons rfl .nil) (hsp H hO hS)) fun r s' h => ?_
    cases r with
    | error e => exact (hCX H e s' h).elim
    | ok fl =>
      cases fl with
      | next => exact False.elim h
      | brk => exact False.elim h
      | cont => exact False.elim h
      | ret u =>
        obtain ⟨v, H', os, bare, un, hok', r', q⟩ := h
        have q' : v = .bl true := q
        subst q'
        obtain rfl : u = Value.bool true := r'
        refine ⟨rfl, OldK.of_keep fun b o e => ?_, os, bare⟩
        cases q : H b with
        | none => exact un.keep b o e q (by intro z; exact absurd (show b ∈ ([] : List Addr) from z) (by simp)) (by simp)
        | some u =>
          rcases hO b with z | ⟨ob, xs, z⟩
          · rw [q] at z; cases z
          · have z2 := un.frzs b ob _ z
            obtain ⟨e1, _⟩ := hok b _ z
            obtain ⟨e2, _⟩ := hok' b _ z2
            rw [e] at e1; cases e1
            exact e2
  cases hk : K.lookup a with
  | some o =>
    -- the script is one of the module's own objects
    have e := KX a o hk
    rw [ha] at e
    cases e
    refine core (fun _ => none) (fun _ => .inl rfl) (.inr ⟨_, vs.toArray, _, hk, rfl, rfl, rfl, by rw [List.size_toArray, lenV]; exact hl, by simpa using rv⟩) (fun b u z => by have z' : (none : Option HO) = some u := z; cases z') (fun b z => absurd rfl z) fun z => absurd rfl z
  | none =>
    refine core (fun b => if b = a then some (.frz { cls := .type "list", data := .seq vs.toArray } (.lst (ns.map V.int))) else none) (fun b => ?_) (.inl (.inr ⟨{ cls := .type "list", data := .seq vs.toArray }, if_pos rfl⟩)) (fun b u z => ?_) (fun b z => ?_) fun _ => hk
    · by_cases hb : b = a
      · exact .inr ⟨_, _, if_pos hb⟩
      · exact .inl (if_neg hb)
    · by_cases hb : b = a
      · have z' := (if_pos hb).symm.trans z
        cases z'
        subst hb
        exact ⟨ha, by rw [List.length_map]; exact hl, vs, _, rv, ha⟩
      · have z' := (if_neg hb).symm.trans z
        cases z'
    · by_cases hb : b = a
      · exact hb
      · exact absurd (if_neg hb) z
abbrev KOf {K : PySem.W.Frag} {h : Heap} (_ : K.In h) : PySem.W.Frag := K
theorem aL0 {l : PySem.W.OpenLaw} {n k : Nat} {q : Program} {loose : List Str} {XP : (Str → Option Value) → Heap → Prop} {YP : World → Heap → Prop} {d : DefRec} {K : Params → PySem.W.Frag} {CX : World → CXT} {sp : World → Sp} {x : Str}
    (hn : l.most = some n) (hn2 : n ≤ sizeLine) (hdf : d.params.defaults = []) (hr : Y2 k callerA)
    (hY : ∀ (w : World) (h : Heap), YP w h → (K w.params).In h)
    (F : ∀ (w : World) (mg : Str → Option Value) (fa : Addr) (h : Heap), (K w.params).In h → h.Ns mainGlobals mg → mg d.name = some (.ref fa) →
      ∃ fd : FuncData, (∀ (s : Shared) (u : Value), BindsTo s fd ⟨[u], []⟩ [(x, u)]) ∧
        ∀ base : Heap, (K w.params).In base → base.Ns mainGlobals mg → Y6 l.prog w (K w.params) mg base (CX w) k fa fd [x] (sp w))
    (hsp : ∀ (w : World) (H : Hp) (a : Addr) (ns : List Int), ns.length ≤ n → bm7 H → SqL (K w.params) H a (ns.map V.int) → sp w [.ref a] H (fun v _ => v = .bl true) fun _ _ _ => False)
    (hCX : ∀ (w : World) (H : Hp) (s : Shared) (e : Value) (s' : Shared), CX w [] H s (fun _ _ _ => False) e s' → False) :
    PySem.W.WalkO q loose XP YP l.row.toRowW d [] (fun f vs => PySem.call f vs) := by
  refine Att.attach_call hn hdf fun w s₀ s₁ mg mb fa o pm cd doc a vs ns G Y ho hd hcd hmg hobj hints hlen hg => ?_
  have KX := hY w _ Y
  obtain ⟨fd, hb, hF⟩ := F w mg fa _ KX G.T.g hmg
  exact aW6 KX G.T.g G.T.b G.T.builtins G.T.nolimit hg hobj hints (Nat.le_trans hlen hn2) hr hF hb (fun H hO hS => hsp w H a ns hlen hO hS) fun H e s' => hCX w H s₁ e s'
end L2
/- THE LAST THEOREM (shape; LID, My.* are yours):
   My.Adr: a structure of the addresses that your layer names (classes, functions); My.Txt K t: a structure (Prop) of the equations over K;
   My.txt_mk : {K} {implicit addresses ..} (e1 : nsIn K mainGlobals "law" = some (some (.ref f))) (e2 : K.lookup f = some ⟨oc, od, .func (fnOf "law" "law" params body scope dV kV doc pm an cdv ct), sl⟩) (e3 : codeIn K cdv "law" = true) .. : ∃ t, My.Txt K t
set_option maxRecDepth 100000 in
set_option maxHeartbeats 0 in
theorem PySem.Challenge.cw_LID_holds : PySem.Challenge.rw_LID.Holds := by
  w_on; o_law; k_head; (case hw => w_witness2)
  k_fill
  refine L2.aL0 (l := PySem.Challenge.rw_LID) (n := 63) (k := 40) (x := "script") (CX := fun w => ..) (sp := fun _ => My.sp_law) rfl (by decide) rfl ⟨rfl, by decide, by decide⟩ (fun w h Y => PySem.W.kIn_of Y) ?F ?S ?C
  case F =>
    intro w mg fa h KX G hmg
    have T : ∃ t, My.Txt (L2.KOf KX) t := by
      dsimp only [L2.KOf]                          -- K must stand as «<heap const> w.params» for k_is
      refine' My.txt_mk ?e1 ?e2 ?e3 ..
      (case e1 => PySem.W.k_is)                    -- in the order: a name -> its address -> its object -> its parts
      (case e2 => PySem.W.k_is)
      ..
    obtain ⟨t, T⟩ := T
    have e0 := hmg.symm.trans (PySem.W.mg_of KX G T.law)
    cases e0                                       -- fa is the law's own address
    exact ⟨_, fun s u => .of_eq rfl, fun base kb nb => My.law_fn T kb nb⟩     -- if «.of_eq rfl» comes too early: refine' ⟨_, ?b, fun base kb nb => My.law_fn T kb nb⟩; exact fun s u => .of_eq rfl
  case S => exact fun w H a ns hl hO hS => ..
  case C => exact ..
(the tactic k_is has no namespace: write k_is) -/
namespace L2
open PySem PySem.Spec PyProof.Rows
def m6 (s : Stmt) : Arguments := match s with
  | .FunctionDef _ a _ _ _ _ _ _ _ _ => a
  | _ => { posonlyargs := [], args := [], vararg := none, kwonlyargs := [], kw_defaults := [], kwarg := none, defaults := [] }
def j6 (s : Stmt) : List Stmt := match s with
  | .FunctionDef _ _ b _ _ _ _ _ _ _ => b
  | _ => []
def d7 (s : Stmt) : Scope := match s with
  | .FunctionDef _ _ _ _ _ _ sc _ _ _ => sc
  | _ => { kind := .function, names := [], isGenerator := false, isCoroutine := false }
abbrev CX0 : CXT := fun _ _ _ _ _ _ => False
abbrev E0 : XK := fun _ _ _ => False
theorem j3 {X : Cx} : aC2 CX0 X E0 := fun _ _ _ _ _ _ _ h => h.elim
structure Fun (K : PySem.W.Frag) (x qual : Str) (st : Stmt) (f : Addr) (fd : FuncData) : Prop where
  ex : ∃ (oc : Value) (od : Option Addr) (kV doc pm : Value) (an : Option Addr) (cdv ct : Value) (osl : Array (Option Value)),
    fd = PySem.W.fnOf x qual (m6 st) (j6 st) (d7 st) .none kV doc pm an cdv ct ∧ K.lookup f = some ⟨oc, od, .func fd, osl⟩ ∧ PySem.W.codeIn K cdv qual = true
  kp : PySem.W.keepIn K (.ref f) = true
section
variable {P : Program} {w : World} {K : PySem.W.Frag} {mg : Str → Option Value} {base : Heap}
theorem Fun.ok {x qual : Str} {st : Stmt} {f : Addr} {fd : FuncData} {N ps : List Str} {k : Nat} {sp : Sp} (F : Fun K x qual st f fd) (S : m8 N ps (d7 st)) (len : ∀ vs H Q E, sp vs H Q E → vs.length = ps.length)
    (hbody : ∀ (cdv : Value) (A : Around) (outer : List Env) (s : Shared) (H : Hp) (vs : List V) (Q : VK) (E : XK), Y2 k (A.deeper (envOfC qual (d7 st) s.heap.objs.size f cdv)) → sp vs H Q E →
      ∃ t, PSs (au6 CX0 P w K mg base N qual (d7 st) f cdv A outer s H E).nox (j6 st) t ∧ t { nx := fun _ H' => Q .non H', rt := Q } (start N vs) H) : Y6 P w K mg base CX0 (k + 1) f fd ps sp := by
  obtain ⟨oc, od, kV, doc, pm, an, cdv, ct, osl, rfl, lk, hcd⟩ := F.ex
  refine bf8 lk hcd S len fun A outer s H vs Q E hr hsp => ?_
  obtain ⟨t, h, q⟩ := hbody cdv A outer s H vs Q E hr hsp
  exact ⟨t, h.nox, q⟩
theorem Fun.binds {x qual : Str} {st : Stmt} {f : Addr} {fd : FuncData} {ps : List Str} (F : Fun K x qual st f fd)
    (h : ∀ (kV doc pm : Value) (an : Option Addr) (cdv ct : Value) (us : List Value), us.length = ps.length → bindArgs (PySem.W.fnOf x qual (m6 st) (j6 st) (d7 st) .none kV doc pm an cdv ct) ⟨us, []⟩ = pure (ps.zip us)) : ai5 K fd ps [] := by
  obtain ⟨oc, od, kV, doc, pm, an, cdv, ct, osl, rfl, lk, hcd⟩ := F.ex
  exact .all (h kV doc pm an cdv ct)
theorem v9 {x qual : Str} {st : Stmt} {f : Addr} {oc : Value} {od an : Option Addr} {osl : Array (Option Value)} {kV doc pm cdv ct : Value} (l : K.lookup f = some ⟨oc, od, .func (PySem.W.fnOf x qual (m6 st) (j6 st) (d7 st) .none kV doc pm an cdv ct), osl⟩)
    (c : PySem.W.codeIn K cdv qual = true) (k : PySem.W.keepIn K (.ref f) = true) : Fun K x qual st f (PySem.W.fnOf x qual (m6 st) (j6 st) (d7 st) .none kV doc pm an cdv ct) := ⟨⟨oc, od, kV, doc, pm, an, cdv, ct, osl, rfl, l, c⟩, k⟩
end
section
variable {X : Cx}
theorem pv (i : Nat) {x : Str} {pos : Pos} (hN : X.N[i]? = some x := by rfl) (hv : Vis X.env.scope x := by first | exact Or.inl rfl | exact Or.inr (Or.inl rfl) | exact Or.inr (Or.inr rfl)) (hd : (x == ("__debug__" : Str)) = false := by decide)
    (hcd : (x == ("__classdict__" : Str)) = false := by decide) : PE X (.Name x pos) (ag3 i) := bj0 hN hv hd hcd
end
theorem G4 {c A B : Prop} [Decidable c] (h1 : c → A) (h2 : ¬ c → B) : if c then A else B := by
  by_cases h : c
  · rw [if_pos h]
    exact h1 h
  · rw [if_neg h]
    exact h2 h
def d8 (H H' : Hp) : Prop := ∀ b o, H b = some o → H' b = some o
theorem d8.refl (H : Hp) : d8 H H := fun _ _ h => h
theorem d8.trans {H H1 H2 : Hp} (a : d8 H H1) (b : d8 H1 H2) : d8 H H2 := fun c o h => b c o (a c o h)
theorem d8.free {H H' : Hp} (e : d8 H H') {l : Addr} (h : H' l = Option.none) : H l = Option.none := by
  cases q : H l with
  | none => rfl
  | some o =>
    rw [e l o q] at h
    cases h
theorem d8.seq {K : PySem.W.Frag} {H H' : Hp} {a : Addr} {xs : List V} (e : d8 H H') (h : SqL K H a xs) : SqL K H' a xs := by
  rcases h with (h | ⟨o, h⟩) | h
  · exact .inl (.inl (e _ _ h))
  · exact .inl (.inr ⟨o, e _ _ h⟩)
  · exact .inr h
section
variable {P : Program} {w : World} {H : Hp} {h : Heap} {a : Addr} {o : HO}
theorem J5.there (x : J5 P w H h a o) : ∃ ob, h.get? a = some ob := by
  cases o with
  | lst xs => obtain ⟨_, _, _, _, e⟩ := x; exact ⟨_, e⟩
  | tup xs => obtain ⟨_, _, _, ob, e, _⟩ := x; exact ⟨_, e⟩
  | dK kvs => obtain ⟨_, _, _, _, o, _, _, e, _⟩ := x; exact ⟨_, e⟩
  | dT kvs => obtain ⟨_, _, _, _, o, _, _, e, _⟩ := x; exact ⟨_, e⟩
  | set S n => obtain ⟨o, _, _, _, e, _⟩ := x; exact ⟨_, e⟩
  | ins C dx fs => obtain ⟨_, _, _, e, _⟩ := x; exact ⟨_, e⟩
  | own y => obtain ⟨_, e⟩ := x; exact ⟨_, e⟩
  | xd fs => obtain ⟨_, ⟨_, _, _, e, _⟩, _⟩ := x; exact ⟨_, e⟩
  | rng lo hi => obtain ⟨_, _, _, e⟩ := x; exact ⟨_, e⟩
  | frz ob u => obtain ⟨e, _⟩ := x; exact ⟨_, e⟩
  | tbl ps => exact ⟨_, (show h.get? a = some _ from x)⟩
  | met f y => exact ⟨_, (show h.get? a = some _ from x)⟩
  | ext φ => obtain ⟨_, e, _⟩ := x; exact e
end
def CXR (P : Program) (w : World) : CXT := fun outer H s E e s' => ∃ (a : Addr) (cls a0 : Value) (H' : Hp) (B : Heap), e = .ref a ∧ s'.os = s.os ∧ AllBare s'.gens ∧
  Heap.FlyingW B outer a cls a0 s'.heap ∧ (∀ b o, s.heap.get? b = some o → H b = none → b ∉ frs outer → B.get? b = some o) ∧ (∀ b o, s.heap.get? b = some o → b ∉ frs outer → ∃ o', B.get? b = some o') ∧
  HOk P w H' B ∧ Un (frs outer) [] H H' s.heap s'.heap ∧ H' a = none ∧ E cls none H'
def aZ7 (X : Cx) (R : Value → Hp → Prop) : Prop := ∀ (pins : List (Addr × Obj)) (σ : St) (H : Hp) (s : Shared) (h' : Heap) (e : Addr) (cls : Value) (vs : List Value), Inv X pins σ H s → Heap.MadeExcOf s.heap h' e cls vs → R cls H →
  X.xe (.ref e) { s with heap := h' }
section
variable {CX : CXT} {P : Program} {w : World} {K : PySem.W.Frag} {mg : Str → Option Value} {base : Heap} {N : List Str} {qual : Str} {scope : Scope} {f : Addr} {cd : Value} {A : Around} {outer : List Env} {s₀ : Shared} {H₀ : Hp} {E : XK}
abbrev cxR (P : Program) (w : World) (K : PySem.W.Frag) (mg : Str → Option Value) (base : Heap) (N : List Str) (qual : Str) (scope : Scope) (f : Addr) (cd : Value) (A : Around) (outer : List Env) (s₀ : Shared) (H₀ : Hp) (E : XK) : Cx := au6 (CXR P w) P w K mg base N qual scope f cd A outer s₀ H₀ E
theorem bl4 {X : Cx} {pins : List (Addr × Obj)} {σ : St} {H : Hp} {s : Shared} (I : Inv X pins σ H s) : HOk X.prog X.w H (PySem.W.hideAll s.heap (frs X.stack)) := fun b u e => by
  refine (I.hok b u e).stay (fun c v hc q => PySem.W.hideAll_get _ q fun hm => ?_) (fun _ q => q) fun _ _ q => q
  have z := I.stkFree c hm
  rcases hc with rfl | hc
  · rw [z] at e; cases e
  · rw [z] at hc; cases hc
theorem aP5 : aZ7 (cxR P w K mg base N qual scope f cd A outer s₀ H₀ E) (fun cls H' => E cls none H') := by
  intro pins σ H s h' e cls vs I hx hE
  have frS := I.stack
  have hin : ∀ env ∈ (cxR P w K mg base N qual scope f cd A outer s₀ H₀ E).stack, ∀ b, env.frame = some b → b ∈ frs (cxR P w K mg base N qual scope f cd A outer s₀ H₀ E).stack := fun env he b hb => List.mem_filterMap.mpr ⟨env, he, hb⟩
  have lo : ∀ b o, s₀.heap.get? b = some o → b ∉ frs outer → b ∉ frs (cxR P w K mg base N qual scope f cd A outer s₀ H₀ E).stack := fun b o q hb hm => by
    rcases List.mem_cons.mp (I.stkSub b hm) with z | z
    · exact absurd z (Nat.ne_of_lt (Nat.lt_of_lt_of_le (Heap.lt_size q) I.ok.above))
    · exact hb z
  refine wpAny_leaves_madeW (base := PySem.W.hideAll s.heap (frs (cxR P w K mg base N qual scope f cd A outer s₀ H₀ E).stack)) I.ok.frames rfl (fun b o q => PySem.W.of_hideAll _ q) (PySem.W.funFrames_hide frS hin) hx fun h2 t x1 x2 x3 x4 => ?_
  have hk : ∀ b o, s.heap.get? b = some o → b ∉ frs (cxR P w K mg base N qual scope f cd A outer s₀ H₀ E).stack → h2.get? b = some o := fun b o q hb => x1.1 b o (PySem.W.hideAll_get _ q hb)
  have hfr : ∀ b o, s.heap.get? b = some o → b ∈ frs (cxR P w K mg base N qual scope f cd A outer s₀ H₀ E).stack → ∃ sl, h2.get? b = some { o with slots := sl } := fun b o q hb => by
    obtain ⟨_, ob, hob, hnf⟩ := frS.mem hb
    rw [q] at hob; cases hob
    exact x4 b o (hx.keeps b o q) hnf
  have hany : ∀ b o, s.heap.get? b = some o → ∃ o', h2.get? b = some o' := fun b o q => by
    by_cases hb : b ∈ frs (cxR P w K mg base N qual scope f cd A outer s₀ H₀ E).stack
    · obtain ⟨sl, z⟩ := hfr b o q hb; exact ⟨_, z⟩
    · exact ⟨_, hk b o q hb⟩
  have nx : ∀ b : Addr, b ∉ (cxR P w K mg base N qual scope f cd A outer s₀ H₀ E).ex := fun b z => absurd (show b ∈ ([] : List Addr) from z) (by simp)
  refine ⟨e, cls, .ref t, H, _, rfl, I.os, I.bare, x1, fun b o q n hb => PySem.W.hideAll_get _ (I.base.keep b o q n hb (nx b)) (lo b o q hb), fun b o q hb => ?_, bl4 I, ⟨fun b o q n hb _ => ?_, fun b o q n hb _ => ?_, fun b o q n _ => I.base.free b o q n (nx b), fun b o q _ => ?_, I.base.tups, I.base.frzs, I.base.tbls⟩, ?_, hE⟩
  · obtain ⟨o', z⟩ := I.base.there b o q (nx b)
    exact ⟨o', PySem.W.hideAll_get _ z (lo b o q hb)⟩
  · exact hk b o (I.base.keep b o q n hb (nx b)) (lo b o q hb)
  · obtain ⟨sl, z⟩ := I.base.slot b o q n hb (nx b)
    have hm : b ∈ frs (cxR P w K mg base N qual scope f cd A outer s₀ H₀ E).stack := by
      show b ∈ frs (_ :: outer)
      unfold frs at hb ⊢
      rw [List.filterMap_cons]
      exact List.mem_cons_of_mem _ hb
    obtain ⟨sl', z'⟩ := hfr b _ z hm
    exact ⟨sl', z'⟩
  · obtain ⟨o', z⟩ := I.base.there b o q (nx b)
    exact hany b o' z
  · cases q : H e with
    | none => rfl
    | some u =>
      obtain ⟨ob, z⟩ := (I.hok e u q).there
      rw [hx.new] at z; cases z
end
structure be8 (K : PySem.W.Frag) (C : Addr) (bm : List Value) (newId : String) : Prop where
  ok : PySem.W.excIn K C bm newId = true
theorem be8.obj {K : PySem.W.Frag} {C : Addr} {bm : List Value} {newId : String} (O : be8 K C bm newId) {h : Heap} (X : K.In h) :
    ∃ tl N nm q bs hdct sn sub ab col dd k0 k1 k2 k3 k5 mN, h.get? C = some (excClassObj nm q C N bs tl hdct sn sub ab col dd k0 k1 k2 k3 k5 newId) ∧ h.Ns N mN ∧ mN "__init__" = none ∧ OwnTail h bm tl := by
  have q := O.ok
  unfold PySem.W.excIn at q
  split at q
  · rename_i dd cd sl ho
    split at q
    · rename_i C' bm' k0 k1 k2 k3 n k5 hm hs
      simp only [Bool.and_eq_true, beq_iff_eq, Bool.not_eq_true'] at q
      obtain ⟨⟨⟨⟨⟨rfl, rfl⟩, hdel⟩, ht⟩, hok⟩, hni⟩ := q
      obtain ⟨nm, bs, mro, ns, qn, hd, sn, sub, ab, col, del⟩ := cd
      dsimp only at hm hdel hok hni
      subst hm hdel
      have hsl : sl = #[k0, k1, k2, k3, some (.builtin n), k5] := by
        obtain ⟨l⟩ := sl
        simp only at hs
        rw [hs]
      subst hsl
      exact ⟨bm', ns, nm, qn, bs, hd, sn, sub, ab, col, dd, k0, k1, k2, k3, k5, _, X _ _ ho, .of_isNs (PySem.W.isNs_of_in X hok), PySem.W.nsMap_none_of_in X hok hni, PySem.W.tail_of_in X ht⟩
    · cases q
  · cases q
section
variable {X : Cx} {x : Str} {C : Addr} {bm : List Value} {newId B initId : String} {e : Expr} {es : List Expr} {te : TA} {np cpos pos : Pos} {R : Value → Hp → Prop}
def aG9 (C : Addr) (te : TA) (R : Value → Hp → Prop) : TS := fun _ σ H => te σ H fun vs H1 => vs.length ≤ sizeLine ∧ R (.ref C) H1
theorem aV0 (O : be8 X.K C bm newId) (FB : ExcBaseFacts B newId initId bm) (hc : X.calm = true) (hg : Gl X x) (hm : X.mg x = some (.ref C)) (hr : aZ7 X R) (he : PA X (e :: es) te)
    (hst : starEach (e :: es) X.env = (false, eval e X.env) :: starEach es X.env := by rfl) (hplain : (backTo cpos (starEach es X.env)).any (·.1) = false := by rfl) (hd : (x == ("__debug__" : Str)) = false := by decide) :
    PS X (.Raise (some (.Call (.Name x np) (e :: es) [] cpos)) none pos) (aG9 C te R) := by
  intro pins s σ H D I h
  obtain ⟨tl, N, nm, q, bs, hdct, sn, sub, ab, col, dd, k0, k1, k2, k3, k5, mN, hC, hN, hni, T⟩ := O.obj I.ok.mod.kin
  refine wpAny_Raise_call_subT (C := C) (nm := nm) (q := q) (N := N) (bs := bs) (bm := tl) (hdct := hdct) (sn := sn) (sub := sub) (ab := ab) (col := col) (dd := dd) (k0 := k0) (k1 := k1) (k2 := k2) (k3 := k3) (k5 := k5)
    FB (mN := mN) (T.hasType FB.hasBase) (I.ok.hd hc) (by rw [hst]; show (false || (backTo cpos (starEach es X.env)).any (·.1)) = false; rw [hplain]; rfl) hni (aA8 I hg hm ⟨rfl, ?_⟩ hd)
  have hA := he cpos pins s σ H _ I h
  rw [hst] at hA ⊢
  refine Calls.evalArgs_plain (thn hA fun us s2 ⟨vs, H1, I1, r1, hl, q1⟩ => ⟨rfl, ?_, I1.bk _ _ hC, hN.keeps I1.bk, T.keeps I1.bk, fun h' a hx => hr pins σ H1 s2 h' a _ us I1 hx q1⟩)
  show us.length ≤ sizeLine
  rw [← r1.length]; exact hl
end
section
variable {X : Cx} {pins : List (Addr × Obj)} {σ : St} {H H' : Hp} {s s' : Shared}
def Exc (cls : Value) (a : Addr) : HO := .ext fun h => ∃ o vs, h.get? a = some o ∧ o.cls = cls ∧ o.data = .fields vs
end
abbrev Cx.body (X : Cx) (xe : Value → Shared → Prop) (pn : List (Addr × Obj)) : Cx := { X with xe := xe, pn := pn }
abbrev Cx.suite (X : Cx) (a : Addr) : Cx := { X with A := X.A.mark (some (.ref a)), calm := false, xe := fun _ _ => False }
structure bo9 (k : Nat) (A : Around) : Prop where
  dp : A.depth + 3 * k + 5 < recursionLimit
  un : A.units + 16 * k + 200 < cLine
structure bp1 (P : Program) (w : World) (K : PySem.W.Frag) (mg : Str → Option Value) (base : Heap) (k : Nat) (f : Addr) (fd : FuncData) (ps : List Str) (sp : Sp) : Prop where
  len : ∀ vs H Q E, sp vs H Q E → vs.length = ps.length
  run : ∀ (A : Around) (outer : List Env) (s : Shared) (H : Hp) (args : Args) (us : List Value) (vs : List V) (Q : VK) (E : XK), bo9 k A → ba0 P w K mg base A outer s H → BindsTo s fd args (ps.zip us) → t3 vs us → sp vs H Q E →
    codeAny (model P w) A (.call (.ref f) args) (CR CX0 outer P w H s Q E) s
section
variable {X : Cx} {CX : CXT} {k : Nat} {f : Addr} {fd : FuncData} {ps : List Str} {sp : Sp} {E : XK} {x : Str} {p pos : Pos} {e : Expr} {es : List Expr} {t : TA}
structure FnV (P : Program) (w : World) (K : PySem.W.Frag) (mg : Str → Option Value) (base : Heap) (k : Nat) (f : Addr) (sp : Sp) : Prop where
  ex : ∃ fd ps, Y6 P w K mg base (CXR P w) k f fd ps sp ∧ ai5 K fd ps []
  kp : PySem.W.keepIn K (.ref f) = true
end
end L2
-- the class of an exception, isinstance, great numbers
set_option maxRecDepth 100000
namespace L2
open PySem PySem.W PySem.Spec PyProof.Rows Builtin Builtin.ObjectAttr Builtin.Getset_descriptor
section
variable {prog : Program} {w : World} {A : Around} {E : Value → Shared → Prop} {s : Shared} {K : Frag} {a C : Addr} {o : Obj}
theorem au5 {R : Result → Shared → Prop} {tp : Value} (X : K.In s.heap) (hx : s.heap.get? a = some o) (hc : o.cls = .ref C) (hm : mroIn K C (.type "object") = some true)
    (h : R (.ok (.ret (.ref C))) s) : codeAny (model prog w) A (.call (.builtin "getset_descriptor.__get__") ⟨[.builtin "object.__class__", .ref a, tp], []⟩) R s := by
  obtain ⟨hh, g, dr, t, os⟩ := s
  have L0 : Looks (model prog w) hh (typeOf (.ref a)) (.ref C) := hc ▸ (Looks.ld hx).andThen .now
  have L1 := looks_mroIn (M := model prog w) X hm
  refine codeAny_call_builtin KF.slot_gs.plain KF.entry_gs (KF.slot_gs.check _ _ _ _ _ _ _ _ KF.type_class (KF.args_gs _ _ _) ?_)
  unfold Builtin.«getset_descriptor.__get__» descrGet
  rw [dga_obj]
  refine wpAny_bind (wpAny_pure ?_)
  unfold descrGetter descrCheckInstance descrNameAndClass isInstance
  simp only [KF.owner_class]
  repeat lk
  refine ⟨Code.quiet_builtin _ (by decide +kernel), codeAny_builtin KF.entry_class ?_⟩
  unfold Builtin.«object.__class__» shownTypeOf
  repeat lk
  exact h
theorem aR3 {tk : Tok} {Q : Fin → Shared → Prop} (X : K.In s.heap) (hx : s.heap.get? a = some o) (hc : o.cls = .ref C) (g3 : findIn K (.ref C) "__class__" = some (some (.builtin "object.__class__"))) (hm : mroIn K C (.type "object") = some true)
    (hq : Q (.done (.ret (.ref C))) s) : wpAny (model prog w) A (Builtin.«object.__getattribute__» ⟨[.ref a, .str "__class__" tk], []⟩) Q E s := by
  obtain ⟨hh, g, dr, t, os⟩ := s
  have L0 : Looks (model prog w) hh (typeOf (.ref a)) (.ref C) := hc ▸ (Looks.ld hx).andThen .now
  have L1 := looks_findIn (M := model prog w) X g3
  have f5 : typeOf (.builtin "object.__class__") = pure (.type "getset_descriptor") := KF.type_class
  have f6 := F.slot_gs_get.lookup
  have f7 := F.slot_gs_set.lookup
  repeat (any_goals (first | assumption | (with_reducible refine wpAny_loadPart_at hx ?_; rw [hc]) | with_reducible refine L1.at ?_ | wp_step))
  refine au5 X hx hc hm ?_
  repeat (any_goals (first | assumption | wp_step))
theorem aR5 {M : Model} {nameV : Value} {Q : Unit → Shared → Prop} (X : K.In s.heap) (hx : s.heap.get? a = some o) (hc : o.cls = .ref C) (hmB : mroIn K C (.type "BaseException") = some true) (hq : Q () s) :
    wpAny M A (checkBuiltinCall "BaseException.__getattribute__" ⟨[.ref a, nameV], []⟩) Q E s := by
  obtain ⟨hh, g, d, t, os⟩ := s
  have L3 := looks_mroIn (M := M) X hmB
  have hk : builtinKind "BaseException.__getattribute__" = some .slot := by decide +kernel
  have hsplit : splitId "BaseException.__getattribute__" = some ("BaseException", "__getattribute__") := by decide +kernel
  have ha := F.args_bexc_ga (.ref a) nameV
  simp only [checkBuiltinCall, hk, hsplit]
  refine wpAny_bind ?_
  · unfold isInstance
    repeat (first | (with_reducible refine wpAny_loadPart_at hx ?_; rw [hc]) | with_reducible refine L3.at ?_ | wp_step)
    exact hq
theorem aR4 {Q : Option Value → Shared → Prop} (X : K.In s.heap) (hx : s.heap.get? a = some o) (hc : o.cls = .ref C) (g1 : findIn K (.ref C) "__getattribute__" = some (some (.builtin "BaseException.__getattribute__"))) (g2 : findIn K (.ref C) "__getattr__" = some none)
    (g3 : findIn K (.ref C) "__class__" = some (some (.builtin "object.__class__"))) (hm : mroIn K C (.type "object") = some true) (hmB : mroIn K C (.type "BaseException") = some true) 
    (h : Q (some (.ref C)) { s with toks := s.toks + 1 }) : wpAny (model prog w) A (getAttr? (.ref a) "__class__") Q E s := by
  obtain ⟨hh, g, d, t, os⟩ := s
  have L0 : Looks (model prog w) hh (typeOf (.ref a)) (.ref C) := hc ▸ (Looks.ld hx).andThen .now
  have L1 := looks_findIn (M := model prog w) X g1
  have L2 := looks_findIn (M := model prog w) X g2
  have L3 := looks_mroIn (M := model prog w) X hmB
  unfold getAttr? getAttrBy? getAttrBy
  refine wpAny_bind (wpAny_mkText (wpAny_bind (wpAny_attempt (wpAny_holding (wpAny_bind (L0.at (wpAny_bind (L1.at ?_))))))))
  have hx2 : (Value.builtin "BaseException.__getattribute__" == Value.builtin "object.__getattribute__") = false := by decide +kernel
  have hx1 : (onTheHeap (Value.ref C) && Value.builtin "BaseException.__getattribute__" == Value.builtin "object.__getattribute__") = false := by rw [hx2]; rfl
  show wpAny _ _ (if (onTheHeap (Value.ref C) && Value.builtin "BaseException.__getattribute__" == Value.builtin "object.__getattribute__") = true then _ else _) _ _ _
  rw [if_neg (by rw [hx1]; decide)]
  have f3 := PySem.F.attr_ValueError.ga.bind (.ref a)
  have hx0 : (false && onTheHeap (Value.builtin "BaseException.__getattribute__")) = false := rfl
  unfold getAttrByItsOwn hookBefore
  repeat (any_goals (first | assumption | (with_reducible refine wpAny_loadPart_at hx ?_; rw [hc]) | with_reducible refine L1.at ?_ | with_reducible refine L2.at ?_ | wp_step))
  refine codeAny_call_builtin PySem.F.attr_ValueError.ga.plain F.entry_bexc_ga (aR5 X hx hc hmB (aR3 X hx hc g3 hm ?_))
  dsimp only
  unfold handedOut
  exact wpAny_pure (wpAny_pure h)
structure ag0 (K : Frag) (C : Addr) : Prop where
  cl : (clsIn K C).isSome = true
  g1 : findIn K (.ref C) "__getattribute__" = some (some (.builtin "BaseException.__getattribute__"))
  g2 : findIn K (.ref C) "__getattr__" = some none
  g3 : findIn K (.ref C) "__class__" = some (some (.builtin "object.__class__"))
  hm : mroIn K C (.type "object") = some true
  hB : mroIn K C (.type "BaseException") = some true
theorem aW8 (c : ag0 K C) : KitX K (.ref a) (.ref C) (fun h => ∃ o, h.get? a = some o ∧ o.cls = .ref C) where
  ty := fun _ _ _ ⟨o, hx, hc⟩ => hc ▸ (Looks.ld hx).andThen .now
  it := fun _ _ X _ => by
    obtain ⟨cdD, hcD⟩ := Option.isSome_iff_exists.mp c.cl
    unfold clsIn at hcD
    split at hcD
    · rename_i c' d' cd' sl' ho
      intro A' Q' E' s' k q
      unfold isType loadHead
      exact wpAny_bind (wpAny_loadPart (k _ _ (X _ _ ho)) (wpAny_pure q))
    · cases hcD
  ne := fun h tp dd its n sl X htp => by
    obtain ⟨cdD, hcD⟩ := Option.isSome_iff_exists.mp c.cl
    refine Bool.eq_false_iff.mpr fun q => ?_
    have e : C = tp := Value.ref.inj (beq_iff_eq.mp q)
    subst e
    unfold clsIn at hcD
    split at hcD
    · rename_i c' d' cd' sl' ho
      have z := (X _ _ ho).symm.trans htp
      cases z
    · cases hcD
  ca := fun X ⟨o, hx, hc⟩ k => aR4 X hx hc c.g1 c.g2 c.g3 c.hm c.hB k
end
section
variable {X : Cx}
def bo5 : V → Value
  | .ty n => .type n
  | .ref a => .ref a
  | _ => .none
def isC : V → Prop
  | .ty _ => True
  | .ref _ => True
  | _ => False
inductive TyX (K : Frag) (H : Hp) : V → Value → Prop where
  | of {x : V} {t : Value} (h : ak7 K H x t) : TyX K H x t
  | exc {a C : Addr} (e : H a = some (Exc (.ref C) a)) (c : ag0 K C) : TyX K H (.ref a) (.ref C)
  | sqt {a : Addr} {xs : List V} (h : SqT K H a xs) : TyX K H (.ref a) (.type "tuple")
  | sql {a : Addr} {xs : List V} (h : SqL K H a xs) : TyX K H (.ref a) (.type "list")
def bh9 (K : Frag) : List V → Hp → VK → Prop := fun xs H Q => ∃ x c t b, xs = [x, c] ∧ isC c ∧ TyX K H x t ∧ kitOne K t (bo5 c) = some b ∧ Q (.bl b) H
theorem al9 : Y7 X (.builtin "isinstance") (bh9 X.K) := by
  intro pins s σ H us vs Q I r h
  obtain ⟨x, c, t, b, rfl, ic, ty, e, q⟩ := h
  obtain ⟨u, cu, rfl, rx, rc⟩ := t3.two r
  have ec : cu = bo5 c := by
    cases c with
    | ty n => exact rc
    | ref a => exact rc
    | _ => exact False.elim ic
  subst ec
  have fin : ∀ tk, EP X pins σ Q (.bool b) { s with toks := tk } := fun tk => ⟨.bl b, H, I.tok tk, rfl, q⟩
  cases ty with
  | of ty => exact aQ7 I rx ty e fin
  | @exc a C ea cl =>
    cases (show u = Value.ref a from rx)
    obtain ⟨⟨o, _, h1, h2, _⟩, _⟩ := (show J5 X.prog X.w H s.heap a (Exc (.ref C) a) from I.hok a _ ea)
    exact kia_one (aW8 cl) I.kIn ⟨o, h1, h2⟩ e (fun z => nomatch z) fin
  | @sqt a xs h =>
    cases (show u = Value.ref a from rx)
    obtain ⟨_, _, ⟨o, h1, h2, _⟩, _⟩ := I.tuple h
    exact kia_one kitx_tuple I.kIn ⟨o, h1, h2⟩ e (fun z => nomatch z) fin
  | @sql a xs h =>
    cases (show u = Value.ref a from rx)
    obtain ⟨_, _, ⟨o, n, h1, h2, _⟩, _⟩ := I.list h
    exact kia_one kitx_list I.kIn ⟨o, h1, h2⟩ e (fun z => nomatch z) fin
theorem C5 : OpR X (binaryOp .Mult) (rI IntMulOk fun i j => .int (i * j)) := opI fun _ _ _ _ _ _ _ hc q => mul_int q hc
def at6 (_ j : Int) : Prop := j ≠ 0 ∧ j.natAbs.log2 < 9000
theorem J1 : OpR X (binaryOp .FloorDiv) (rI at6 fun i j => .int (i.fdiv j)) := opI fun _ _ _ _ _ _ _ hc q => floordiv_int hc.1 q (.inl (PyProof.noPylong_of_log2 hc.2))
end
open PySem PySem.Spec PyProof.Rows
inductive D where
  | v (x : V)
  | tup (ds : List D)
  | lst (ds : List D)
mutual
def eqD : D → D → Bool
  | .v x, .v y => eqV x y
  | .tup a, .tup b => Q9 a b
  | .lst a, .lst b => Q9 a b
  | _, _ => false
def Q9 : List D → List D → Bool
  | [], [] => true
  | x :: xs, y :: ys => eqD x y && Q9 xs ys
  | _, _ => false
end
mutual
def okD : D → D → Bool
  | .v _, .v _ => true
  | .tup a, .tup b => aj5 a b
  | .lst a, .lst b => aj5 a b
  | _, _ => false
def aj5 : List D → List D → Bool
  | x :: xs, y :: ys => okD x y && aj5 xs ys
  | _, _ => true
end
mutual
def dpD : D → Nat
  | .v _ => 0
  | .tup a => aB7 a + 1
  | .lst a => aB7 a + 1
def aB7 : List D → Nat
  | [] => 0
  | x :: xs => max (dpD x) (aB7 xs)
end
mutual
inductive IsD (K : PySem.W.Frag) (H : Hp) : V → D → Prop where
  | v {x : V} (f : aF2 x = true) : IsD K H x (.v x)
  | tup {p : Addr} {xs : List V} {ds : List D} (h : SqT K H p xs) (t : ad1 K H xs ds) : IsD K H (.ref p) (.tup ds)
  | lst {p : Addr} {xs : List V} {ds : List D} (h : SqL K H p xs) (t : ad1 K H xs ds) : IsD K H (.ref p) (.lst ds)
inductive ad1 (K : PySem.W.Frag) (H : Hp) : List V → List D → Prop where
  | nil : ad1 K H [] []
  | cons {x : V} {xs : List V} {d : D} {ds : List D} (h : IsD K H x d) (t : ad1 K H xs ds) : ad1 K H (x :: xs) (d :: ds)
end
theorem ad1.length {K : PySem.W.Frag} {H : Hp} : ∀ {xs : List V} {ds : List D}, ad1 K H xs ds → xs.length = ds.length
  | _, _, .nil => rfl
  | _, _, .cons _ t => congrArg (· + 1) t.length
theorem aX8 : ∀ {x : V}, aF2 x = true → eqV x x = true
  | .non, _ => rfl
  | .bl a, _ => by simp [eqV]
  | .int a, _ => by simp [eqV]
  | .str a, _ => by simp [eqV]
  | .byt _, h => absurd (show false = true from h) Bool.false_ne_true
  | .flt _, h => absurd (show false = true from h) Bool.false_ne_true
  | .ref _, h => absurd (show false = true from h) Bool.false_ne_true
  | .ty _, h => absurd (show false = true from h) Bool.false_ne_true
section
variable {X : Cx} {pins : List (Addr × Obj)} {σ : St} {H : Hp} {s : Shared}
mutual
theorem ar7 (I : Inv X pins σ H s) : ∀ {x : V} {d d' : D}, IsD X.K H x d → IsD X.K H x d' → okD d d' = true → eqD d d' = true
  | _, _, _, .v f, .v _, _ => by rw [eqD]; exact aX8 f
  | _, _, _, .tup h t, .tup h' t', ok => by
    have e := I.tuple_inj h h'
    subst e
    rw [eqD]
    rw [okD] at ok
    exact ak2 I t t' ok
  | _, _, _, .lst h t, .lst h' t', ok => by
    have e := I.list_inj h h'
    subst e
    rw [eqD]
    rw [okD] at ok
    exact ak2 I t t' ok
  | _, _, _, .v f, .tup _ _, _ => absurd (show false = true from f) Bool.false_ne_true
  | _, _, _, .v f, .lst _ _, _ => absurd (show false = true from f) Bool.false_ne_true
  | _, _, _, .tup _ _, .v f, _ => absurd (show false = true from f) Bool.false_ne_true
  | _, _, _, .lst _ _, .v f, _ => absurd (show false = true from f) Bool.false_ne_true
  | _, _, _, .tup _ _, .lst _ _, ok => by simp [okD] at ok
  | _, _, _, .lst _ _, .tup _ _, ok => by simp [okD] at ok
theorem ak2 (I : Inv X pins σ H s) : ∀ {xs : List V} {ds ds' : List D}, ad1 X.K H xs ds → ad1 X.K H xs ds' → aj5 ds ds' = true → Q9 ds ds' = true
  | _, _, _, .nil, .nil, _ => by rw [Q9]
  | _, _, _, .cons h t, .cons h' t', ok => by
    rw [aj5, Bool.and_eq_true] at ok
    rw [Q9, ar7 I h h' ok.1, ak2 I t t' ok.2]
    rfl
end
def ac7 (ds ds' : List D) (j : Nat) : Bool := match ds[j]?, ds'[j]? with
  | some d, some d' => eqD d d'
  | _, _ => true
theorem ad0 (n : Nat) (e : Nat → Bool) : (List.range (n + 1)).all e = (e 0 && (List.range n).all fun j => e (j + 1)) := by
  rw [List.range_succ_eq_map, List.all_cons, List.all_map]; rfl
theorem ad9 : ∀ (ds ds' : List D), ((List.range (min ds.length ds'.length)).all (ac7 ds ds') && ds.length == ds'.length) = Q9 ds ds'
  | [], [] => by rw [Q9]; rfl
  | [], _ :: _ => by simp [Q9]
  | _ :: _, [] => by simp [Q9]
  | x :: xs, y :: ys => by
    have ih := ad9 xs ys
    rw [Q9, ← ih]
    have e1 : min (x :: xs).length (y :: ys).length = min xs.length ys.length + 1 := by simp only [List.length_cons]; omega
    rw [e1, ad0]
    have e2 : ((x :: xs).length == (y :: ys).length) = (xs.length == ys.length) := by
      by_cases h : xs.length = ys.length <;> simp [h]
    rw [e2, Bool.and_assoc]
    rfl
theorem ae9 (ds ds' : List D) (h : ds.length = ds'.length) : (List.range ds.length).all (ac7 ds ds') = Q9 ds ds' := by
  rw [← ad9, ← h, Nat.min_self]; simp
theorem ar6 : ∀ (ds ds' : List D), ds.length ≠ ds'.length → Q9 ds ds' = false
  | [], [], h => absurd rfl h
  | [], _ :: _, _ => by simp [Q9]
  | _ :: _, [], _ => by simp [Q9]
  | x :: xs, y :: ys, h => by
    rw [Q9, ar6 xs ys (fun e => h (by simp [e]))]; simp
theorem av5 (I : Inv X pins σ H s) {p p' : Addr} {xs ys : List V} {ds ds' : List D} {A : Around} (h : SqT X.K H p xs) (t : ad1 X.K H xs ds) (h' : SqT X.K H p' ys) (t' : ad1 X.K H ys ds') (hu : A.units < cLine)
    (q : ∀ {us vs : List Value}, t3 xs us → t3 ys vs → ∀ (j : Nat) (h1 : j < us.length) (h2 : j < vs.length), SeqAt.EqAt A.in1 s us[j] vs[j] (ac7 ds ds' j)) : SeqAt.RcAt A s (.ref p) (.ref p') (Q9 ds ds') := by
    obtain ⟨its, r1, i1, _⟩ := I.tuple h
    obtain ⟨its', r2, i2, _⟩ := I.tuple h'
    have z := SeqAt.RcAt.tuples (A := A) (items := its.toArray) (items2 := its'.toArray) (e := ac7 ds ds') i1 i2 hu (fun j h1 h2 => q r1 r2 j (by simpa using h1) (by simpa using h2))
    have e1 : its.toArray.size = ds.length := by rw [List.size_toArray, ← r1.length, t.length]
    have e2 : its'.toArray.size = ds'.length := by rw [List.size_toArray, ← r2.length, t'.length]
    rw [e1, e2, ad9] at z
    exact z
theorem av6 (I : Inv X pins σ H s) {p p' : Addr} {xs ys : List V} {ds ds' : List D} {A : Around} (h : SqL X.K H p xs) (t : ad1 X.K H xs ds) (h' : SqL X.K H p' ys) (t' : ad1 X.K H ys ds') (hu : A.units < cLine)
    (q : ∀ {us vs : List Value}, t3 xs us → t3 ys vs → ∀ (j : Nat) (h1 : j < us.length) (h2 : j < vs.length), SeqAt.EqAt A.in1 s us[j] vs[j] (ac7 ds ds' j)) : SeqAt.RcAt A s (.ref p) (.ref p') (Q9 ds ds') := by
    obtain ⟨its, r1, i1, _⟩ := I.list h
    obtain ⟨its', r2, i2, _⟩ := I.list h'
    have e1 : its.toArray.size = ds.length := by rw [List.size_toArray, ← r1.length, t.length]
    have e2 : its'.toArray.size = ds'.length := by rw [List.size_toArray, ← r2.length, t'.length]
    by_cases hl : ds.length = ds'.length
    · have z := SeqAt.RcAt.lists (A := A) (items := its.toArray) (items2 := its'.toArray) (e := ac7 ds ds') i1.isList i2.isList (by rw [e1, e2, hl]) hu (fun j h1 h2 => q r1 r2 j (by simpa using h1) (by simpa using h2))
      rw [e1, ae9 ds ds' hl] at z
      exact z
    · rw [ar6 ds ds' hl]
      exact SeqAt.RcAt.lists_lengths i1.isList i2.isList (by rw [e1, e2]; simpa using hl) hu
mutual
theorem bl8 (I : Inv X pins σ H s) : ∀ {x y : V} {d d' : D} {u v : Value} {A : Around}, IsD X.K H x d → IsD X.K H y d' → okD d d' = true → C8 x u → C8 y v → A.units + dpD d < cLine → SeqAt.EqAt A s u v (eqD d d')
  | _, _, _, _, _, _, _, .v f, .v f', _, r, r', _ => by rw [eqD]; exact bl7 r r' f f'
  | _, _, _, _, u, v, A, .tup (p := p) h t, .tup (p := p') h' t', ok, r, r', hu => by
    cases (show u = Value.ref p from r)
    cases (show v = Value.ref p' from r')
    by_cases hp : p = p'
    · subst hp
      rw [ar7 I (.tup h t) (.tup h' t') ok]
      exact SeqAt.EqAt.same _
    · rw [okD] at ok
      rw [dpD] at hu
      rw [eqD]
      exact SeqAt.EqAt.of_refs hp (av5 I h t h' t' (by omega) fun r1 r2 j h1 h2 => aa3 (A := A.in1) I t t' ok r1 r2 (by show A.units + 1 + _ < _; omega) j h1 h2)
  | _, _, _, _, u, v, A, .lst (p := p) h t, .lst (p := p') h' t', ok, r, r', hu => by
    cases (show u = Value.ref p from r)
    cases (show v = Value.ref p' from r')
    by_cases hp : p = p'
    · subst hp
      rw [ar7 I (.lst h t) (.lst h' t') ok]
      exact SeqAt.EqAt.same _
    · rw [okD] at ok
      rw [dpD] at hu
      rw [eqD]
      exact SeqAt.EqAt.of_refs hp (av6 I h t h' t' (by omega) fun r1 r2 j h1 h2 => aa3 (A := A.in1) I t t' ok r1 r2 (by show A.units + 1 + _ < _; omega) j h1 h2)
  | _, _, _, _, _, _, _, .v _, .tup _ _, ok, _, _, _ => by simp [okD] at ok
  | _, _, _, _, _, _, _, .v _, .lst _ _, ok, _, _, _ => by simp [okD] at ok
  | _, _, _, _, _, _, _, .tup _ _, .v _, ok, _, _, _ => by simp [okD] at ok
  | _, _, _, _, _, _, _, .lst _ _, .v _, ok, _, _, _ => by simp [okD] at ok
  | _, _, _, _, _, _, _, .tup _ _, .lst _ _, ok, _, _, _ => by simp [okD] at ok
  | _, _, _, _, _, _, _, .lst _ _, .tup _ _, ok, _, _, _ => by simp [okD] at ok
theorem aa3 (I : Inv X pins σ H s) : ∀ {xs ys : List V} {ds ds' : List D} {us vs : List Value} {A : Around}, ad1 X.K H xs ds → ad1 X.K H ys ds' → aj5 ds ds' = true → t3 xs us → t3 ys vs → A.units + aB7 ds < cLine →
    ∀ (j : Nat) (h1 : j < us.length) (h2 : j < vs.length), SeqAt.EqAt A s us[j] vs[j] (ac7 ds ds' j)
  | _, _, _, _, _, _, _, .nil, _, _, .nil, _, _ => fun j h1 _ => absurd h1 (Nat.not_lt_zero _)
  | _, _, _, _, _, _, _, .cons _ _, .nil, _, _, .nil, _ => fun j _ h2 => absurd h2 (Nat.not_lt_zero _)
  | _, _, _, _, _, _, A, .cons h t, .cons h' t', ok, .cons r rs, .cons r' rs', hu => fun j h1 h2 => by
    rw [aj5, Bool.and_eq_true] at ok
    rw [aB7] at hu
    cases j with
    | zero => exact bl8 I h h' ok.1 r r' (by omega)
    | succ j => exact aa3 I t t' ok.2 rs rs' (by omega) j (by simpa using h1) (by simpa using h2)
end
def D.isV : D → Bool
  | .v _ => true
  | _ => false
def bp6 (K : PySem.W.Frag) : R2 := fun x y H Q => ∃ d d', d.isV = false ∧ IsD K H x d ∧ IsD K H y d' ∧ okD d d' = true ∧ dpD d ≤ 60 ∧ Q (.bl (eqD d d')) H
theorem aI5 (hu : X.A.units + 64 < cLine) : OpR X (compareOp .Eq) (bp6 X.K) := by
  intro pins s σ H x y v u Q I rx ry h
  obtain ⟨d, d', nf, h1, h2, ok, dp, q⟩ := h
  have fin : EP X pins σ Q (.bool (eqD d d')) s := ⟨.bl _, H, I, rfl, q⟩
  cases h1 with
  | v f =>
    cases h2 with
    | v f' => exact absurd (show true = false from nf) (by decide)
    | tup _ _ => simp [okD] at ok
    | lst _ _ => simp [okD] at ok
  | @tup p xs ds h t =>
    cases h2 with
    | v f' => simp [okD] at ok
    | @tup p' ys ds' h' t' =>
      cases (show v = Value.ref p from rx)
      cases (show u = Value.ref p' from ry)
      rw [okD] at ok
      rw [dpD] at dp
      rw [eqD] at fin
      exact av5 I h t h' t' (by omega) (fun r1 r2 j h1 h2 => aa3 (A := X.A.in1) I t t' ok r1 r2 (by show X.A.units + 1 + _ < _; omega) j h1 h2) X.prog X.w X.xe _ fin
    | lst _ _ => simp [okD] at ok
  | @lst p xs ds h t =>
    cases h2 with
    | v f' => simp [okD] at ok
    | tup _ _ => simp [okD] at ok
    | @lst p' ys ds' h' t' =>
      cases (show v = Value.ref p from rx)
      cases (show u = Value.ref p' from ry)
      rw [okD] at ok
      rw [dpD] at dp
      rw [eqD] at fin
      exact av6 I h t h' t' (by omega) (fun r1 r2 j h1 h2 => aa3 (A := X.A.in1) I t t' ok r1 r2 (by show X.A.units + 1 + _ < _; omega) j h1 h2) X.prog X.w X.xe _ fin
end
open PySem PySem.Spec PyProof.Rows
section
variable {X : Cx}
def az4 : V → List V → Hp → VK → Prop := fun x vs H Q => ∃ i, x = .int i ∧ vs = [] ∧ Q (.int (Builtin.Int.intBits i)) H
theorem aw1 : MtM X "int.bit_length" az4 := by
  intro pins s σ H x vs v us Q I rx rv h
  obtain ⟨i, rfl, rfl, q⟩ := h
  obtain ⟨t, rfl⟩ := rx
  cases t3.zero rv
  exact call_int_bit_length ⟨.int _, H, I.tok _, ⟨_, rfl⟩, q⟩
end
open PySem PySem.Spec PyProof.Rows
structure Df (K : PySem.W.Frag) (mg : Str → Option Value) (x : Str) (st : Stmt) (ps : List Str) (f : Addr) : Prop where
  ex : ∃ fd, Fun K x x st f fd ∧ ai5 K fd ps []
  m : mg x = some (.ref f)
structure Def (P : Program) (w : World) (K : PySem.W.Frag) (mg : Str → Option Value) (base : Heap) (CX : CXT) (k : Nat) (x : Str) (f : Addr) (ps : List Str) (sp : Sp) : Prop where
  ex : ∃ fd, Y6 P w K mg base CX k f fd ps sp ∧ ai5 K fd ps []
  m : mg x = some (.ref f)
  kp : PySem.W.keepIn K (.ref f) = true
structure DefX (P : Program) (w : World) (K : PySem.W.Frag) (mg : Str → Option Value) (base : Heap) (k : Nat) (x : Str) (f : Addr) (ps : List Str) (sp : Sp) : Prop where
  ex : ∃ fd, bp1 P w K mg base k f fd ps sp ∧ ai5 K fd ps []
  m : mg x = some (.ref f)
  kp : PySem.W.keepIn K (.ref f) = true
section
variable {P : Program} {w : World} {K : PySem.W.Frag} {mg : Str → Option Value} {base : Heap} {k : Nat} {x : Str} {f : Addr} {ps N : List Str} {sp : Sp} {st : Stmt} {CX : CXT}
theorem Df.ok (d : Df K mg x st ps f) (S : m8 N ps (d7 st)) (len : ∀ vs H Q E, sp vs H Q E → vs.length = ps.length)
    (hbody : ∀ (cdv : Value) (A : Around) (outer : List Env) (s : Shared) (H : Hp) (vs : List V) (Q : VK) (E : XK), Y2 k (A.deeper (envOfC x (d7 st) s.heap.objs.size f cdv)) → sp vs H Q E →
      ∃ t, PSs (au6 CX0 P w K mg base N x (d7 st) f cdv A outer s H E).nox (j6 st) t ∧ t { nx := fun _ H' => Q .non H', rt := Q } (start N vs) H) : Def P w K mg base CX0 (k + 1) x f ps sp := by
  obtain ⟨fd, F, b⟩ := d.ex
  exact ⟨⟨fd, F.ok S len hbody, b⟩, d.m, F.kp⟩
theorem Df.okR (d : Df K mg x st ps f) (S : m8 N ps (d7 st)) (len : ∀ vs H Q E, sp vs H Q E → vs.length = ps.length)
    (hbody : ∀ (cdv : Value) (A : Around) (outer : List Env) (s : Shared) (H : Hp) (vs : List V) (Q : VK) (E : XK), Y2 k (A.deeper (envOfC x (d7 st) s.heap.objs.size f cdv)) → sp vs H Q E →
      ∃ t, PSs (cxR P w K mg base N x (d7 st) f cdv A outer s H E) (j6 st) t ∧ t { nx := fun _ H' => Q .non H', rt := Q } (start N vs) H) : Def P w K mg base (CXR P w) (k + 1) x f ps sp := by
  obtain ⟨fd, F, b⟩ := d.ex
  have kp := F.kp
  obtain ⟨oc, od, kV, doc, pm, an, cdv, ct, osl, rfl, lk, hcd⟩ := F.ex
  exact ⟨⟨_, bf8 lk hcd S len fun A outer s H vs Q E hr hsp => hbody cdv A outer s H vs Q E hr hsp, b⟩, d.m, kp⟩
theorem Def.imp {sp' : Sp} (d : Def P w K mg base CX k x f ps sp) (h : ∀ vs H Q E, sp' vs H Q E → sp vs H Q E) : Def P w K mg base CX k x f ps sp' :=
  let ⟨fd, F, b⟩ := d.ex
  ⟨⟨fd, F.imp h, b⟩, d.m, d.kp⟩
end
section
variable {X : Cx} {CX : CXT} {k j : Nat} {f : Addr} {ps : List Str} {sp : Sp} {E : XK} {x : Str} {p pos : Pos} {e : Expr} {es : List Expr} {t : TA}
def ba5 (sp : Sp) (E : XK) (t : TA) : TE := fun σ H Q => t σ H fun vs H1 => sp vs H1 Q E
theorem i3 (d : Def X.prog X.w X.K X.mg X.base CX j x f ps sp) (hr : Y2 k X.A) (ha : PA X (e :: es) t) (hx : aC2 CX X E) (hj : j ≤ k := by decide) (hg : Gl X x := by rfl)
    (hdb : (x == ("__debug__" : Str)) = false := by decide) (he : starEach (e :: es) X.env = (false, eval e X.env) :: starEach es X.env := by rfl) (hpl : (backTo pos (starEach es X.env)).any (·.1) = false := by rfl) :
    PE X (.Call (.Name x p) (e :: es) [] pos) (ba5 sp E t) := by
  obtain ⟨fd, F, b⟩ := d.ex
  have z := bb7 (E := E) (es := es) (e := e) (p := p) (pos := pos) (F.mono hj) hr hg d.m d.kp b .nil hx ha hdb he hpl
  intro pins s σ H Q I h
  refine z pins s σ H Q I ?_
  unfold bf0
  simpa only [List.append_nil, ba5] using h
end
theorem d8.new {H : Hp} {p : Addr} (h : H p = none) (o : HO) : d8 H (upd H p o) := fun b u q => by rw [j5 (m9 q h)]; exact q
theorem d8.tup {K : PySem.W.Frag} {H H' : Hp} {a : Addr} {xs : List V} (e : d8 H H') (h : SqT K H a xs) : SqT K H' a xs := by
  rcases h with h | h
  · rcases h with h | ⟨o, h⟩
    · exact .inl (.inl (e _ _ h))
    · exact .inl (.inr ⟨o, e _ _ h⟩)
  · exact .inr h
open PySem PySem.Spec PyProof.Rows
section
variable {prog : Program} {w : World} {A : Around} {R : Result → Shared → Prop} {s : Shared}
theorem ak4 {elt target iter : Expr} {scope : Scope} {pos : Pos} {it acc : Value} {env : Env} (I : Nat → Shared → Prop)
    (turn : ∀ n s, I n s → wpAny (model prog w) A (pyNext it) (fun r s₁ => match r with
      | none => R (.ok .next) s₁
      | some v => wpAny (model prog w) A (letOwnedTupleGo target it v) (fun _ s₁' => wpAny (model prog w) A (assign target env v) (fun _ s₂ => wpAny (model prog w) A (eval elt env) (fun x s₃ =>
          wpAny (model prog w) A (call (.builtin "list.append") [acc, x]) (fun _ s₄ => ∃ m, m < n ∧ I m s₄) (fun _ _ => False) s₃)
          (fun _ _ => False) s₂) (fun _ _ => False) s₁') (fun _ _ => False) s₁) (fun _ _ => False) s)
    (n : Nat) (h : I n s) :
    codeAny (model prog w) A (.compLoop (.ListComp elt [⟨target, iter, [], 0⟩] scope pos) 0 it acc env) R s := by
  refine codeAny_loop rfl I (fun n s hI => ?_) n h
  show wpAny _ _ ((compTurn (.ListComp elt [⟨target, iter, [], 0⟩] scope pos) 0 it acc env).onRaise (fun x => do noteFrame x env; theTreesLotGoes x)) _ _ s
  refine wpAny_noted ?_
  rw [compTurn_list1]
  have no : ∀ {P : Value → Shared → Prop} (e : Value) (s : Shared), False → P e s := fun _ _ h => h.elim
  refine wpAny_bind (wpAny_standAt (wpAny_bind (wpAny_mono (turn n s hI) (fun r s₁ h₁ => ?_) no)))
  cases r with
  | none => exact wpAny_pure h₁
  | some v =>
    refine wpAny_bind (wpAny_mono h₁ (fun _ s₁' h₁' => ?_) no)
    exact wpAny_bind (wpAny_mono h₁' (fun _ s₂ h₂ => wpAny_bind (wpAny_bind (wpAny_mono h₂ (fun x s₃ h₃ => wpAny_bind (wpAny_mono h₃
      (fun _ s₄ h₄ => wpAny_pure (wpAny_pure ⟨rfl, h₄⟩)) no)) no))) no)
end
abbrev Cx.block (X : Cx) (scope : Scope) (cl : List (Str × Addr)) (C : Addr) (Nc : List Str) (s₂ : Shared) (H₂ : Hp) (fp : List Addr) (pins : List (Addr × Obj)) : Cx :=
  { X with N := Nc, s₀ := s₂, H₀ := H₂, env := compEnvC scope cl C X.env, outer := X.stack, ex := fp, fn := fun _ => false, pn := X.pn ++ pins, xe := fun _ _ => False }
def O8 (caps : List (Option Nat)) (σ : St) : St := caps.map fun o => o.bind fun j => (σ[j]?).join
def aL2 (wi : TI) (caps : List (Option Nat)) (g : TG) (te : TE) : TE := fun σ H Q => wi σ H fun J H1 => ∀ D, H1 D = none → ∃ W : Nat → Nat → St → Hp → Prop, (∃ m, W 0 m (O8 caps σ) (upd H1 D (.lst []))) ∧
  ∀ i m σc H2, W i m σc H2 → (J.stop i H2 ∧ Q (.ref D) H2) ∨
    (J.go i H2 ∧ ∀ x H3, J.yld i H2 x H3 → g x σc H3 fun σ4 H4 => te σ4 H4 fun y H5 => ∃ ys, H5 D = some (.lst ys) ∧ ys.length < sizeLine ∧ ∃ m', m' < m ∧ W (i + 1) m' σ4 (upd H5 D (.lst (ys ++ [y]))))
section
variable {X : Cx}
structure aa8 (X : Cx) (scope : Scope) (cl : List (Str × Addr)) (Nc : List Str) (caps : List (Option Nat)) : Prop where
  clos : closureFor scope X.env = pure cl
  sub : ∀ x c, cl.lookup x = some c → X.env.cells.lookup x = some c
  has : ∀ x, (relabel scope X.env).names.lookup x = some .cell ∨ (relabel scope X.env).names.lookup x = some .free → ∃ c, cl.lookup x = some c
  nocell : ∀ x ∈ scope.names, x.2 ≠ .cell
  kind : scope.kind = .function
  names : ∀ x ∈ scope.names, x.2 = .local → scope.names.lookup x.1 = some .local
  len : caps.length = Nc.length
  cap : ∀ (i j : Nat) (x : Str), caps[i]? = some (some j) → Nc[i]? = some x → X.N[j]? = some x ∧ Vis X.env.scope x ∧ X.env.kindOf x ≠ some .local ∧ ((relabel scope X.env).names.lookup x = some .cell ∨ (relabel scope X.env).names.lookup x = some .free)
theorem Inv.sameC {pins : List (Addr × Obj)} {σ : St} {H H' : Hp} {s s' : Shared} {h'' : Heap} {fp : List Addr} {C : Addr} (I : Inv X pins σ H s) (hf : ∀ b ∈ fp, ak8 X pins H b) (os : s'.os = s.os) (bare : AllBare s'.gens)
    (un : Un (frs X.stack) fp H H' s.heap s'.heap) (hok : HOk X.prog X.w H' s'.heap) (hC : s.heap.objs.size ≤ C) (hCn : H' C = none) (sb : Heap.SameBut C s'.heap h'') : Inv X pins σ H' { s' with heap := h'' } := by
  have ne : ∀ b o, s.heap.get? b = some o → b ≠ C := fun b o e => Nat.ne_of_lt (Nat.lt_of_lt_of_le (Heap.lt_size e) hC)
  refine I.call' (s' := { s' with heap := h'' }) (ch := fp) os ⟨fun b o e n h1 h2 => (sb.2 b (ne b o e)).trans (un.keep b o e n h1 h2), fun b o e n h1 h2 => ?_, un.free, fun b o e h2 => ?_, un.tups, un.frzs, un.tbls⟩ (fun b u e => ?_) bare (fun b hb => ?_)
  · obtain ⟨sl, z⟩ := un.slot b o e n h1 h2
    exact ⟨sl, (sb.2 b (ne b o e)).trans z⟩
  · obtain ⟨o', z⟩ := un.there b o e h2
    exact ⟨o', (sb.2 b (ne b o e)).trans z⟩
  · refine (hok b u e).stay (fun c v hc q => (sb.2 c ?_).trans q) (fun _ q => q) fun _ _ q => q
    rintro rfl
    rcases hc with rfl | hc
    · rw [hCn] at e; cases e
    · rw [hCn] at hc; cases hc
  · obtain ⟨_, f1, _, f3, f4, f5⟩ := hf b hb
    exact ⟨f3, f1, f4, f5⟩
theorem O6 {elt tg iter : Expr} {scope : Scope} {pos : Pos} {cl : List (Str × Addr)} {Nc : List Str} {caps : List (Option Nat)} {wi : TI} {g : TG} {te : TE} (hc : X.calm = true) (cp : aa8 X scope cl Nc caps) (hi : PI X tg iter wi)
    (hg : ∀ C s₂ H₂ fp pins, PG (X.block scope cl C Nc s₂ H₂ fp pins) tg g) (he : ∀ C s₂ H₂ fp pins, PE (X.block scope cl C Nc s₂ H₂ fp pins) elt te) (hs : ∀ x, foldedSetIterable iter X.env x = pure x := by intro _; rfl) :
    PE X (.ListComp elt [⟨tg, iter, [], 0⟩] scope pos) (aL2 wi caps g te) := by
  intro pins s σ H Q I h
  rw [eval_ListComp]
  refine wpAny_comprehension_free (use := none) rfl hs cp.clos cp.kind cp.names ?_
  refine thn (hi pins s σ H _ I h) fun v s1 h1 => thn h1 fun itv s2 h2 => ?_
  obtain ⟨it, fp, tn, J, H2, e, I2, T, st2, f2, hW⟩ := h2
  subst e
  refine wpAny_newObj_type ?_ (by show 0 ≤ sizeLine; exact Nat.zero_le _)
  refine wpAny_newFunctionEnv cp.nocell (by intro y hy; simp at hy) (fun h4 hns hsb => ?_) cp.kind
  dsimp only at hns hsb ⊢
  generalize hH3 : s2.heap.push { cls := .type "list", dict := none, data := .seq ([] : List Value).toArray } = H3 at hns hsb ⊢
  have hCe : H3.objs.size = s2.heap.objs.size + 1 := by rw [← hH3, Heap.size_push]
  have ab2 : ∀ b o, s2.heap.get? b = some o → b ≠ H3.objs.size := fun b o e => by rw [hCe]; exact Nat.ne_of_lt (Nat.lt_succ_of_lt (Heap.lt_size e))
  have old : ∀ b o, s2.heap.get? b = some o → h4.get? b = some o := fun b o e => hsb.extBut b o (ab2 b o e) (Heap.get?_push_of_some _ (hH3 ▸ Heap.get?_push_of_some _ e))
  have hD : h4.get? s2.heap.objs.size = some { cls := .type "list", dict := none, data := .seq ([] : List Value).toArray } :=
    hsb.extBut _ _ (by rw [hCe]; exact Nat.ne_of_lt (Nat.lt_succ_self _)) (Heap.get?_push_of_some _ (hH3 ▸ Heap.get?_push_size _ rfl))
  have hDn : H2 s2.heap.objs.size = none := I2.fresh
  have hCn : H2 H3.objs.size = none := I2.hok.fresh (by rw [hCe]; exact Nat.le_succ _)
  have hCs : s2.heap.objs.size ≤ H3.objs.size := by rw [hCe]; exact Nat.le_succ _
  have hDC : s2.heap.objs.size ≠ H3.objs.size := by rw [hCe]; exact Nat.ne_of_lt (Nat.lt_succ_self _)
  have fpl : ∀ b ∈ fp, ∃ o, s2.heap.get? b = some o := fun b hb => let ⟨o, e, _⟩ := T.obj _ _ st2 b hb; ⟨o, e⟩
  have fpC : ∀ b ∈ fp, b ≠ H3.objs.size := fun b hb => let ⟨o, e⟩ := fpl b hb; ab2 b o e
  have fpD : ∀ b ∈ fp, b ≠ s2.heap.objs.size := fun b hb => let ⟨o, e⟩ := fpl b hb; Nat.ne_of_lt (Heap.lt_size e)
  have stkN : ∀ b, b ≠ X.env.locals → b ∉ X.fs → b ∉ frs X.stack := fun b h1 h2 z => (List.mem_cons.mp (I2.stkSub b z)).elim h1 h2
  obtain ⟨W, ⟨m0, w0⟩, turn⟩ := hW s2.heap.objs.size hDn
  have okB : (X.block scope cl H3.objs.size Nc s2 H2 fp pins).Ok := by
    refine ⟨I2.ok.mod, ?_, I2.ok.glob, I2.ok.blt, hCs, fun x y c h1 h2 => I2.ok.inj x y c (cp.sub x c h1) (cp.sub y c h2), fun x hx => cp.has x hx, fun x c h => (by cases h), I2.ok.hd, I2.ok.frames, .inl rfl, fun b hb => ⟨fpC b hb, fun x c h => (f2 b hb).2.2.2.2.1 x c (cp.sub x c h)⟩, I2.bs, Nat.le_trans I2.ok.bsz I2.sz, fun b o e hb => ?_, fun b hb => stkN b (f2 b hb).2.1 (f2 b hb).2.2.1, I2.stack, I2.stkFree⟩
    · exact cp.kind
    · rcases (f2 b hb).2.2.2.1 with z | z
      · exact I2.ok.noex b o e z
      · exact absurd (Nat.lt_of_lt_of_le (Heap.lt_size e) (Nat.le_trans I2.ok.bsz z)) (Nat.lt_irrefl _)
  have hokB : HOk X.prog X.w (upd H2 s2.heap.objs.size (.lst [])) h4 := I2.hok.laid old (Nat.le_refl _) ⟨Nat.zero_le _, [], _, .nil, hD⟩
  have IB : Inv (X.block scope cl H3.objs.size Nc s2 H2 fp pins) [] (O8 caps σ) (upd H2 s2.heap.objs.size (.lst [])) { s2 with heap := h4, toks := s2.toks + ([] : List (Str × Value)).length } := by
    refine ⟨okB, rfl, I2.bare, Un.laid old (Nat.le_refl _) hDn, ⟨_, hns, fun i x v e1 e2 e3 => ?_⟩, fun x c e => ?_, (show upd H2 s2.heap.objs.size (.lst []) H3.objs.size = none by rw [j5 (Ne.symm hDC)]; exact hCn), fun x c e => ?_, fun p hp => ?_, hokB, ?_⟩
    · unfold O8 at e2
      rw [List.getElem?_map] at e2
      cases hcap : caps[i]? with
      | none => rw [hcap] at e2; cases e2
      | some o =>
        rw [hcap] at e2
        cases o with
        | none => cases e2
        | some j =>
          have hj : σ[j]? = some (some v) := by
            have e2' : (σ[j]?).join = some v := Option.some.inj e2
            cases q : σ[j]? with
            | none => rw [q] at e2'; cases e2'
            | some z => rw [q] at e2'; exact congrArg some e2'
          obtain ⟨n1, n2, n3, n4⟩ := cp.cap i j x hcap e1
          obtain ⟨m, hm, hl⟩ := I2.loc
          obtain ⟨u, r, q⟩ := hl j x v n1 hj n2
          rcases q with ⟨k, _⟩ | ⟨k, c, ec, z⟩
          · exact absurd k n3
          · obtain ⟨c', ec'⟩ := cp.has x n4
            have := cp.sub x c' ec'
            rw [ec] at this; cases this
            obtain ⟨oc, ho, hd⟩ := z
            exact ⟨u, r, .inr ⟨n4, c, ec', oc, old _ _ ho, hd⟩⟩
    · obtain ⟨v, oc, ho, hd⟩ := I2.cell x c (cp.sub x c e)
      exact ⟨v, oc, old _ _ ho, hd⟩
    · obtain ⟨v, oc, ho, hd⟩ := I2.cell x c (cp.sub x c e)
      rw [j5 (Nat.ne_of_lt (Heap.lt_size ho))]
      exact I2.freeC x c (cp.sub x c e)
    · have hp' : p ∈ X.pn ++ pins := by simpa using hp
      obtain ⟨e1, e2, e3, e4, e5⟩ := I2.pin p hp'
      exact ⟨old _ _ e1, by rw [j5 (Nat.ne_of_lt (Heap.lt_size e1))]; exact e2, ab2 _ _ e1, stkN _ e3 e4, e5⟩
    · show (O8 caps σ).length = Nc.length
      unfold O8
      rw [List.length_map]; exact cp.len
  have stat : ∀ {H' : Hp}, (∀ b ∈ fp, H' b = none) → ∀ b ∈ fp, ak8 (X.block scope cl H3.objs.size Nc s2 H2 fp pins) [] H' b := fun hn b hb =>
    ⟨hn b hb, fpC b hb, stkN b (f2 b hb).2.1 (f2 b hb).2.2.1, .inl hb, fun x c h => (f2 b hb).2.2.2.2.1 x c (cp.sub x c h), fun p hp => (f2 b hb).2.2.2.2.2 p (by simpa using hp)⟩
  have loop : ∀ s5 : Shared, s5 = { s2 with heap := h4, toks := s2.toks + ([] : List (Str × Value)).length } →
      codeAny (model X.prog X.w) X.A (.compLoop (.ListComp elt [⟨tg, iter, [], 0⟩] scope pos) 0 (.ref it) (.ref s2.heap.objs.size) (compEnvC scope cl H3.objs.size X.env))
        (compPost (model X.prog X.w) X.A X.xe none (EP X pins σ Q) (.ref s2.heap.objs.size) H3.objs.size) s5 := by
    rintro s5 rfl
    refine ak4 (fun n s' => ∃ i σ' H', Inv (X.block scope cl H3.objs.size Nc s2 H2 fp pins) [] σ' H' s' ∧ tn i s'.heap ∧ (∀ b ∈ fp, H' b = none) ∧ W i n σ' H') ?_ m0 ⟨0, _, _, IB, T.keep _ _ _ st2 fun b hb o e => old b o e, fun b hb => by rw [j5 (fpD b hb)]; exact (f2 b hb).1, w0⟩
    rintro n s6 ⟨i, σ6, H6, I6, st6, fr6, w6⟩
    rcases turn i n σ6 H6 w6 with ⟨stop, qn⟩ | ⟨go, step⟩
    · refine thn (T.done (X.block scope cl H3.objs.size Nc s2 H2 fp pins) rfl rfl rfl hc i [] s6 σ6 H6 _ I6 (stat fr6) st6 stop) fun r s7 ⟨hr, I7⟩ => ?_
      subst hr
      obtain ⟨m7, hn7, _⟩ := id I7.loc
      exact ⟨m7, hn7, fun h' sb => ⟨.ref s2.heap.objs.size, H6, I2.sameC f2 I7.os I7.bare I7.base I7.hok hCs I7.free sb, rfl, qn⟩⟩
    · refine thn (T.item (X.block scope cl H3.objs.size Nc s2 H2 fp pins) rfl rfl rfl hc i [] s6 σ6 H6 _ I6 (stat fr6) st6 go) fun r s7 ⟨u, hr, h7⟩ => ?_
      subst hr
      refine thn h7 fun _ s8 ⟨x, H8, I8, r8, y8, st8, fr8⟩ => ?_
      have I8' := I8.pinned (stat fr8) (T.obj _ _ st8)
      refine thn (hg _ _ _ _ _ _ s8 σ6 H8 x u _ I8' r8 (step x H8 y8)) fun _ s9 ⟨σ9, H9, I9, q9⟩ => ?_
      refine thn (he _ _ _ _ _ _ s9 σ9 H9 _ I9 q9) fun u10 s10 ⟨v10, H10, I10, r10, ys, hys, hlen, m', hm', w'⟩ => ?_
      refine thn (S7 _ s10 σ9 H10 (.ref s2.heap.objs.size) [v10] (.ref s2.heap.objs.size) [u10] (fun _ H11 => H11 = upd H10 s2.heap.objs.size (.lst (ys ++ [v10]))) I10 rfl (.cons r10 .nil) ⟨_, ys, v10, rfl, rfl, hys, hlen, rfl⟩) fun _ s11 ⟨_, H11, I11, _, hH11⟩ => ?_
      subst hH11
      refine ⟨m', hm', i + 1, σ9, _, I11.unpinned, T.keep _ _ _ st8 fun b hb o e => (I11.pin (b, o) (List.mem_append_right _ (List.mem_append_right _ (F8 hb e)))).1, fun b hb => ?_, w'⟩
      obtain ⟨o, e, d⟩ := T.obj _ _ st8 b hb
      exact (I11.pin (b, o) (List.mem_append_right _ (List.mem_append_right _ (F8 hb e)))).2.1
  exact codeAny_compStart_list (loop _ rfl) (T.self _ 0 _ _ _ (T.keep _ _ _ st2 fun b hb o e => old b o e) (loop _ rfl))
end
open PySem PySem.Spec PyProof.Rows
def Q5 (scope osc : Scope) : List (Str × NameKind) := scope.names.map fun (n, k) => if (k == .free && osc.kind == .function && osc.names.lookup n == some .cell) then (n, .cell) else (n, k)
def aQ8 (o : Option NameKind) : Bool := o == some .cell || o == some .free
def aY9 (scope osc : Scope) (N ks Nc : List Str) (caps : List (Option Nat)) : Bool :=
  ((Q5 scope osc).all fun y => !(y.2 == .cell || y.2 == .free) || ks.contains y.1) && (scope.names.all fun y => y.2 != .cell) && scope.kind == .function &&
  (scope.names.all fun y => y.2 != .local || scope.names.lookup y.1 == some .local) && caps.length == Nc.length &&
  ((caps.zip Nc).all fun p => match p.1 with
    | none => true
    | some j => N[j]? == some p.2 && aQ8 (osc.names.lookup p.2) && aQ8 ((Q5 scope osc).lookup p.2))
theorem af7 {α β : Type} [BEq α] [LawfulBEq α] : ∀ {l : List (α × β)} {x : α} {v : β}, l.lookup x = some v → (x, v) ∈ l
  | [], _, _, h => by simp at h
  | (a, b) :: r, x, v, h => by
    rw [List.lookup_cons] at h
    split at h
    · rename_i e
      have := eq_of_beq e
      subst this
      cases h
      exact List.mem_cons_self
    · exact List.mem_cons_of_mem _ (af7 h)
theorem Q3 {β : Type} : ∀ {l : List (Str × β)} {x : Str}, x ∈ l.map (·.1) → ∃ c, l.lookup x = some c
  | [], _, h => by simp at h
  | (a, b) :: r, x, h => by
    rw [List.lookup_cons]
    by_cases e : x = a
    · subst e; exact ⟨b, by simp⟩
    · have : (x == a) = false := by simpa using e
      rw [this]
      rcases List.mem_cons.mp h with z | z
      · exact absurd z e
      · exact Q3 z
theorem ao4 {o : Option NameKind} (h : aQ8 o = true) : o = some .cell ∨ o = some .free := by
  unfold aQ8 at h
  simp only [Bool.or_eq_true, beq_iff_eq] at h
  exact h
theorem aa8.of {X : Cx} {scope osc : Scope} {cl : List (Str × Addr)} {N ks Nc : List Str} {caps : List (Option Nat)} (clos : closureFor scope X.env = pure cl) (hN : X.N = N) (hosc : X.env.scope = osc) (hks : cl.map (·.1) = ks)
    (sub : ∀ x c, cl.lookup x = some c → X.env.cells.lookup x = some c) (ok : aY9 scope osc N ks Nc caps = true) : aa8 X scope cl Nc caps := by
  unfold aY9 at ok
  simp only [Bool.and_eq_true, List.all_eq_true, beq_iff_eq, Bool.or_eq_true, Bool.not_eq_true', bne_iff_ne, ne_eq] at ok
  obtain ⟨⟨⟨⟨⟨o1, o2⟩, o3⟩, o4⟩, o5⟩, o6⟩ := ok
  have er : (relabel scope X.env).names = Q5 scope osc := by subst hosc; rfl
  have kof : ∀ x, X.env.kindOf x = osc.names.lookup x := fun x => by subst hosc; rfl
  refine ⟨clos, sub, fun x h => ?_, fun x hx => o2 x hx, o3, fun x hx hl => ?_, o5, fun i j x h1 h2 => ?_⟩
  · rw [er] at h
    refine Q3 ?_
    rw [hks]
    have key : ∀ k, (Q5 scope osc).lookup x = some k → (k = .cell ∨ k = .free) → x ∈ ks := fun k hk hcf => by
      rcases o1 (x, k) (af7 hk) with z | z
      · rcases hcf with rfl | rfl <;> simp at z
      · simpa using z
    rcases h with h | h
    · exact key _ h (.inl rfl)
    · exact key _ h (.inr rfl)
  · rcases o4 x hx with z | z
    · exact absurd hl z
    · exact z
  · have hm : (some j, x) ∈ caps.zip Nc := by
      have : (caps.zip Nc)[i]? = some (some j, x) := by
        rw [List.getElem?_zip_eq_some]; exact ⟨h1, h2⟩
      exact List.mem_of_getElem? this
    have z := o6 _ hm
    simp only [Bool.and_eq_true, beq_iff_eq] at z
    obtain ⟨⟨z1, z2⟩, z3⟩ := z
    have c2 := ao4 z2
    have c3 := ao4 z3
    refine ⟨by rw [hN]; exact z1, ?_, ?_, ?_⟩
    · rw [hosc]
      rcases c2 with c | c
      · exact .inr (.inl c)
      · exact .inr (.inr c)
    · rw [kof]
      rcases c2 with c | c <;> rw [c] <;> decide
    · rw [er]; exact c3
open PySem PySem.Spec PyProof.Rows
section
variable {X : Cx} {pins : List (Addr × Obj)} {σ : St} {H : Hp} {s : Shared}
theorem Inv.turnLaid {h' : Heap} {t' : Nat} {fp : List Addr} {a : Addr} {o : HO} (I : Inv X pins σ H s) (hf : ∀ b ∈ fp, ak8 X pins H b)
    (k : ∀ b u, b ∉ fp → s.heap.get? b = some u → h'.get? b = some u) (hp : s.heap.objs.size ≤ a) (new : J5 X.prog X.w (upd H a o) h' a o) : Inv X pins σ (upd H a o) { s with heap := h', toks := t' } := by
  have hn : H a = none := I.hok.fresh hp
  have nf : ∀ b u, H b = some u → b ∉ fp := fun b u e z => by rw [(hf b z).1] at e; cases e
  have ne : ∀ b u, s.heap.get? b = some u → b ≠ a := fun b u e => Nat.ne_of_lt (Nat.lt_of_lt_of_le (Heap.lt_size e) hp)
  refine I.step (g' := s.gens) (d' := s.drawn) (ch := fp) (fun b hb => ?_) (fun b o _ _ hc e _ => k b o hc e) (fun b o _ _ hc e _ => ⟨o.slots, k b o hc e⟩) (fun b o _ e n => by rw [j5 (ne b o e)]; exact n)
    (fun b o hc e => ⟨o, k b o hc e⟩) (fun b xs e => by rw [j5 (m9 e hn)]; exact e) (fun b o u e => by rw [j5 (m9 e hn)]; exact e) (fun b ps e => ⟨#[], by rw [j5 (m9 e hn), e]; simp⟩) (fun m hm => ?_) (fun b u e => ?_) I.bare
  · obtain ⟨_, f1, _, f3, f4, f5⟩ := hf b hb
    exact ⟨f3, f1, f4, f5⟩
  · obtain ⟨o, es, ep, ho, r⟩ := hm
    exact ⟨o, es, ep, k _ o (fun z => (hf _ z).2.1 rfl) ho, r⟩
  · by_cases hb : b = a
    · subst hb; rw [d6] at e; cases e; exact new
    · rw [j5 hb] at e
      refine (I.hok b u e).stay (fun c v hc q => k c v ?_ q) (fun c q => by rw [j5 (m9 q hn)]; exact q) fun c xs q => by rw [j5 (m9 q hn)]; exact q
      rcases hc with z | z
      · rw [z]; exact nf b u e
      · exact nf c _ z
end
def Ite (K : PySem.W.Frag) (a : Addr) : It :=
  ⟨fun i H => ∃ xs x, SqL K H a xs ∧ xs[i]? = some x, fun i H y H' => ∀ xs, SqL K H a xs → ∃ x p, xs[i]? = some x ∧ H p = none ∧ y = .ref p ∧ H' = upd H p (.tup [.int i, x]), fun i H => ∃ xs, SqL K H a xs ∧ xs.length ≤ i⟩
theorem aP0 {P : Program} {w : World} {K : PySem.W.Frag} {elts : List Expr} {k : Nat} {tpos : Pos} (a e it : Addr) (hei : e ≠ it) :
    aK7 P w K (.Tuple elts k tpos) (Ite K a) [e, it] e (fun i h => (∃ old, IsEnum h e it ((i : Nat) : Int) old) ∧ h.IsListIter it a i) where
  mem := by simp
  obj := fun i h st b hb => by
    obtain ⟨⟨old, he⟩, hit⟩ := st
    rcases (by simpa using hb : b = e ∨ b = it) with z | z
    · subst z
      exact ⟨_, he, fun v z => by cases z⟩
    · subst z
      obtain ⟨o, e, c, d⟩ := hit
      exact ⟨o, e, fun v z => by rw [d] at z; cases z⟩
  keep := fun i h h' st k => ⟨let ⟨old, he⟩ := st.1; ⟨old, k e (by simp) _ he⟩, st.2.at fun o e => k it (by simp) o e⟩
  item := by
    intro X hP hw hK hc i pins s σ H E I hf st hg
    subst hP hw hK
    obtain ⟨xs, x, hq, hx⟩ := hg
    obtain ⟨its, rv, p, hz⟩ := I.list hq
    obtain ⟨u, hu, ru⟩ := rv.get hx
    obtain ⟨⟨old, he⟩, hit⟩ := st
    have helt : e < s.heap.objs.size := Heap.lt_size he
    have hilt : it < s.heap.objs.size := by obtain ⟨_, x, _⟩ := id hit; exact Heap.lt_size x
    refine wpAny_pyNext_enum_item he hit p.isList (x := u) (by simpa using hu) hei fun h' ho hit' hT hsz kk => ?_
    refine ⟨_, rfl, ?_⟩
    refine wpAny_letOwnedTupleGo_enum (s := { s with heap := h', toks := s.toks + 1 }) ho fun h'' he' sb => ?_
    have hT' : h''.get? s.heap.objs.size = some { cls := .type "tuple", data := .seq #[.int i s.toks, u] } := (sb.2 _ (Nat.ne_of_gt helt)).trans hT
    refine ⟨.ref s.heap.objs.size, upd H s.heap.objs.size (.tup [.int i, x]), I.turnLaid (fp := [e, it]) (t' := s.toks + 1) hf (fun b v hb q => ?_) (Nat.le_refl _) ?_, rfl, ?_, ?_, fun b hb => ?_⟩
    · have h1 : b ≠ e := fun z => hb (by simp [z])
      have h2 : b ≠ it := fun z => hb (by simp [z])
      exact (sb.2 b h1).trans (kk b v h1 h2 q)
    · exact ⟨(show 2 ≤ sizeLine by decide +kernel), [.int i s.toks, u], .cons ⟨_, rfl⟩ (.cons ru .nil), _, hT', rfl, _, rfl⟩
    · intro ys hy
      rw [I.list_inj hy hq]
      exact ⟨x, _, hx, I.fresh, rfl, rfl⟩
    · refine ⟨⟨u, by have := he'; simpa using this⟩, hit'.at fun o q => (sb.2 it hei.symm).trans q⟩
    · have hlt : b < s.heap.objs.size := by
        rcases (by simpa using hb : b = e ∨ b = it) with z | z
        · rw [z]; exact helt
        · rw [z]; exact hilt
      rw [j5 (Nat.ne_of_lt hlt)]
      exact (hf b hb).1
  done := by
    intro X hP hw hK hc i pins s σ H E I hf st hg
    subst hP hw hK
    obtain ⟨xs, hq, hx⟩ := hg
    obtain ⟨its, rv, p, hz⟩ := I.list hq
    obtain ⟨⟨old, he⟩, hit⟩ := st
    obtain ⟨f0, f1, f2, f3, f4, f5⟩ := hf it (by simp)
    have hl := rv.length
    exact wpAny_pyNext_enum_end (I.ok.hd hc) he hit p.isList (by simp; omega) fun h' eb => ⟨rfl, I.turned (t' := s.toks) (fun b o hb e => eb b o hb e) f0 f1 f3 f4 f5⟩
  self := fun _ _ _ _ _ st h => by
    obtain ⟨⟨old, he⟩, _⟩ := st
    exact wpAny_pyIter_enum he h
section
variable {X : Cx}
def aX2 (K : PySem.W.Frag) (ta : TA) : TI := fun σ H R => ta σ H fun vs H1 => ∃ a, vs = [.ref a] ∧ (∃ xs, SqL K H1 a xs) ∧ R (Ite K a) H1
theorem az9 {elts : List Expr} {k : Nat} {tpos : Pos} {l : Expr} {ta : TA} {p pos : Pos} (hg : Gl X "enumerate") (hm : X.mg "enumerate" = none) (ha : PA X [l] ta) (hs : starEach [l] X.env = [(false, eval l X.env)] := by rfl) :
    PI X (.Tuple elts k tpos) (.Call (.Name "enumerate" p) [l] [] pos) (aX2 X.K ta) := by
  intro pins s σ H R I h
  refine Call_ (aa1 I hg hm (u := .type "enumerate") (by decide +kernel) (PyProof.Rows.callWith_type1 (thn (ha pos pins s σ H _ I h) fun us s1 ⟨vs, H1, I1, r1, q1⟩ => ?_) hs rfl))
  obtain ⟨a, e, ⟨xs, hq⟩, q⟩ := q1
  subst e
  obtain ⟨u, rfl, rx⟩ := ab3 r1
  cases rx
  obtain ⟨its, rv, p, hz⟩ := I1.list hq
  refine call_enumerate_list p.isList fun h' he hit hsz kk => ?_
  refine wpAny_pyIter_enum he ?_
  have I2 : Inv X pins σ H1 { s1 with heap := h' } := I1.kept (t' := s1.toks) kk
  refine ⟨s1.heap.objs.size + 1, [s1.heap.objs.size + 1, s1.heap.objs.size], _, _, H1, rfl, I2, aP0 a _ _ (Nat.succ_ne_self _), ⟨⟨_, he⟩, hit⟩, fun b hb => ?_, q⟩
  have hb' : s1.heap.objs.size ≤ b := by
    rcases (by simpa using hb : b = s1.heap.objs.size + 1 ∨ b = s1.heap.objs.size) with z | z
    · rw [z]; exact Nat.le_succ _
    · rw [z]; exact Nat.le_refl _
  obtain ⟨f0, f1, f2, f3, f4, f5⟩ := I1.fpOk (H' := H1) hb' (I1.hok.fresh hb')
  exact ⟨f0, f1, f2, f3, f4, f5⟩
end
def ba6 (wi : TI) (caps : List (Option Nat)) (g : TG) (tt : TT) (te : TE) : TE := fun σ H Q => wi σ H fun J H1 => ∀ D, H1 D = none → ∃ W : Nat → Nat → St → Hp → Prop, (∃ m, W 0 m (O8 caps σ) (upd H1 D (.lst []))) ∧
  ∀ i m σc H2, W i m σc H2 → (J.stop i H2 ∧ Q (.ref D) H2) ∨
    (J.go i H2 ∧ ∀ x H3, J.yld i H2 x H3 → g x σc H3 fun σ4 H4 => tt σ4 H4 fun b H4' => if b = true then te σ4 H4' fun y H5 => ∃ ys, H5 D = some (.lst ys) ∧ ys.length < sizeLine ∧ ∃ m', m' < m ∧ W (i + 1) m' σ4 (upd H5 D (.lst (ys ++ [y])))
      else ∃ m', m' < m ∧ W (i + 1) m' σ4 H4')
open PySem PySem.Spec PyProof.Rows
section
variable {X : Cx}
theorem au9 (bs : List Bool) : (List.range bs.length).all (fun i => (bs[i]?).getD true) = bs.all id := by
  induction bs with
  | nil => rfl
  | cons b bs ih =>
    rw [List.length_cons, ad0, List.all_cons, ← ih]
    rfl
theorem aG2 (hc : X.calm = true) : Y7 X (.builtin "all") (fun xs H Q => ∃ (p : Addr) (bs : List Bool), xs = [.ref p] ∧ SqL X.K H p (bs.map V.bl) ∧ Q (.bl (bs.all id)) H) := by
  intro pins s σ H xs us Q I r h
  obtain ⟨p, bs, rfl, hq, q⟩ := h
  obtain ⟨u, rfl, rx⟩ := ab3 r
  cases rx
  obtain ⟨its, r', pl, hz⟩ := I.list hq
  have hlen : its.length = bs.length := by rw [← r'.length, List.length_map]
  have hp : p ≠ s.heap.objs.size := by
    obtain ⟨o, ho, _⟩ := pl.isList
    exact Nat.ne_of_lt (Heap.lt_size ho)
  refine call_all_walk (wpAny_pyIter_list pl.isList ?_)
  refine ⟨s.heap.objs.size, _, _, _, _, _, fun i => (bs[i]?).getD true, rfl, Walks.list (A := X.A.in1) (I.ok.hd hc) _ p hp its.toArray, ⟨⟨_, Heap.get?_push_size _ rfl, rfl, rfl⟩, pl.isList.at fun o e => Heap.get?_push_of_some _ e⟩, ?_, ?_⟩
  · intro i v s' Q' E' hv hQ
    have hv' : its[i]? = some v := by simpa using hv
    have hi : i < bs.length := by rw [← hlen]; exact (List.getElem?_eq_some_iff.mp hv').1
    obtain ⟨u, hu, ru⟩ := r'.get (i := i) (x := .bl bs[i]) (by rw [List.getElem?_map, List.getElem?_eq_getElem hi]; rfl)
    rw [hv'] at hu
    cases hu
    cases ru
    simp only [List.getElem?_eq_getElem hi] at hQ
    exact wpAny_truthy_bool hQ
  · intro h' tk kk
    have e : (List.range its.toArray.size).all (fun i => (bs[i]?).getD true) = bs.all id := by rw [List.size_toArray, hlen, au9]
    rw [e]
    refine ⟨.bl _, H, I.kept (t' := tk) fun b o e => kk b o ?_ (Heap.get?_push_of_some _ e), rfl, q⟩
    intro z
    have : b = s.heap.objs.size := by simpa using z
    exact absurd (Heap.lt_size e) (by rw [this]; exact Nat.lt_irrefl _)
def bp5 (K : PySem.W.Frag) : R2 := fun x y H Q => ∃ d d', d.isV = false ∧ IsD K H x d ∧ IsD K H y d' ∧ okD d d' = true ∧ dpD d ≤ 60 ∧ Q (.bl (!eqD d d')) H
theorem bj2 (hu : X.A.units + 64 < cLine) : OpR X (compareOp .NotEq) (bp5 X.K) := by
  intro pins s σ H x y v u Q I rx ry h
  obtain ⟨d, d', nf, h1, h2, ok, dp, q⟩ := h
  have fin : EP X pins σ Q (.bool (!eqD d d')) s := ⟨.bl _, H, I, rfl, q⟩
  cases h1 with
  | v f =>
    cases h2 with
    | v f' => exact absurd (show true = false from nf) (by decide)
    | tup _ _ => simp [okD] at ok
    | lst _ _ => simp [okD] at ok
  | @tup p xs ds h t =>
    cases h2 with
    | v f' => simp [okD] at ok
    | @tup p' ys ds' h' t' =>
      cases (show v = Value.ref p from rx)
      cases (show u = Value.ref p' from ry)
      rw [okD] at ok
      rw [dpD] at dp
      rw [eqD] at fin
      obtain ⟨its, r1, i1, _⟩ := I.tuple h
      obtain ⟨its', r2, i2, _⟩ := I.tuple h'
      have q' : ∀ (j : Nat) (h1 : j < its.length) (h2 : j < its'.length), SeqAt.EqAt X.A.in1 s its[j] its'[j] (ac7 ds ds' j) := fun j h1 h2 => aa3 (A := X.A.in1) I t t' ok r1 r2 (by show X.A.units + 1 + _ < _; omega) j h1 h2
      have z := SeqAt.RcNeAt.tuples (A := X.A) (items := its.toArray) (items2 := its'.toArray) (e := ac7 ds ds') i1 i2 (by omega) (fun j h1 h2 => q' j (by simpa using h1) (by simpa using h2))
      have e1 : its.toArray.size = ds.length := by rw [List.size_toArray, ← r1.length, t.length]
      have e2 : its'.toArray.size = ds'.length := by rw [List.size_toArray, ← r2.length, t'.length]
      rw [e1, e2, ad9] at z
      exact PySem.EqBoolInt.of_rcne z fin
    | lst _ _ => simp [okD] at ok
  | @lst p xs ds h t =>
    cases h2 with
    | v f' => simp [okD] at ok
    | tup _ _ => simp [okD] at ok
    | @lst p' ys ds' h' t' =>
      cases (show v = Value.ref p from rx)
      cases (show u = Value.ref p' from ry)
      rw [okD] at ok
      rw [dpD] at dp
      rw [eqD] at fin
      obtain ⟨its, r1, i1, _⟩ := I.list h
      obtain ⟨its', r2, i2, _⟩ := I.list h'
      have q' : ∀ (j : Nat) (h1 : j < its.length) (h2 : j < its'.length), SeqAt.EqAt X.A.in1 s its[j] its'[j] (ac7 ds ds' j) := fun j h1 h2 => aa3 (A := X.A.in1) I t t' ok r1 r2 (by show X.A.units + 1 + _ < _; omega) j h1 h2
      have e1 : its.toArray.size = ds.length := by rw [List.size_toArray, ← r1.length, t.length]
      have e2 : its'.toArray.size = ds'.length := by rw [List.size_toArray, ← r2.length, t'.length]
      by_cases hl : ds.length = ds'.length
      · have z := SeqAt.RcNeAt.lists (A := X.A) (items := its.toArray) (items2 := its'.toArray) (e := ac7 ds ds') i1.isList i2.isList (by rw [e1, e2, hl]) (by omega) (fun j h1 h2 => q' j (by simpa using h1) (by simpa using h2))
        rw [e1, ae9 ds ds' hl] at z
        exact PySem.EqBoolInt.of_rcne z fin
      · rw [ar6 ds ds' hl] at fin
        exact PySem.EqBoolInt.of_rcne (SeqAt.RcNeAt.lists_lengths (A := X.A) i1.isList i2.isList (by rw [e1, e2]; simpa using hl) (by omega)) fin
def aq1 (xs : List V) (lo hi st : Option Int) : List V :=
  (sliceRange (sliceBounds lo hi st xs.length).1 (sliceBounds lo hi st xs.length).2.1 (sliceBounds lo hi st xs.length).2.2).filterMap (xs[·]?)
theorem t3.picks {xs : List V} {us : List Value} (r : t3 xs us) : ∀ ks : List Nat, t3 (ks.filterMap (xs[·]?)) (ks.filterMap (us[·]?))
  | [] => .nil
  | k :: ks => by
    rw [List.filterMap_cons, List.filterMap_cons]
    cases h : xs[k]? with
    | none => rw [r.none_of h]; exact r.picks ks
    | some x =>
      obtain ⟨u, hu, ru⟩ := r.get h
      rw [hu]
      exact .cons ru (r.picks ks)
def bg6 (K : PySem.W.Frag) (te : TE) (tl th tk : TO) : TE := fun σ H Q => te σ H fun x H1 => tl σ H1 fun l H2 => th σ H2 fun u H3 => tk σ H3 fun k H4 =>
  ∃ a xs, x = .ref a ∧ SqL K H4 a xs ∧ k ≠ some 0 ∧ ∀ p, H4 p = none → Q (.ref p) (upd H4 p (.lst (aq1 xs l u k)))
theorem av8 {e : Expr} {te : TE} {lo hi : Option Expr} {st : Expr} {tl th tk : TO} {pos p2 : Pos} (he : PE X e te) (hl : PO X lo tl) (hu : PO X hi th) (hk : PO X (some st) tk) : PE X (.Subscript e (.Slice lo hi (some st) p2) pos) (bg6 X.K te tl th tk) := by
  intro pins s σ H Q I h
  refine Subscript_ (thn (he pins s σ H _ I h) fun v s1 ⟨x, H1, I1, r1, q1⟩ => ?_)
  refine wpAny_Slice (thn (hl pins s1 σ H1 _ I1 q1) fun vl s2 ⟨l, H2, I2, pl, q2⟩ => thn (hu pins s2 σ H2 _ I2 q2) fun vu s3 ⟨u, H3, I3, pu, q3⟩ => thn (hk pins s3 σ H3 _ I3 q3) fun vk s4 ⟨k, H4, I4, pk, q4⟩ => ?_)
  obtain ⟨a, xs, rfl, hq, h0, q⟩ := q4
  cases r1
  have I5 : Inv X pins σ H4 { s4 with heap := s4.heap.push { cls := .type "slice", data := .fields #[vl, vu, vk] } } := I4.kept (t' := s4.toks) fun b ob q => Heap.get?_push_of_some _ q
  obtain ⟨its, r, ht, hz⟩ := I5.list hq
  have hlen := r.length
  show wpAny (model X.prog X.w) X.A (subscriptTail e (.Slice lo hi (some st) p2) (.ref a) (.ref s4.heap.objs.size)) (EP X pins σ Q) X.xe { s4 with heap := s4.heap.push { cls := .type "slice", data := .fields #[vl, vu, vk] } }
  refine tail_any (ops := [.ref a, .ref s4.heap.objs.size]) (s := { s4 with heap := s4.heap.push { cls := .type "slice", data := .fields #[vl, vu, vk] } }) (T := "list") ht.isList.typeIs slot_list_getitem.lookup ?_ (by with_unfolding_all rfl)
  refine wpAny_getItem_list_slice ht.isList (Heap.IsSliceOf.new ..) pl pu pk h0 ?_ (by rw [List.size_toArray] <;> omega)
  have ep : (slicePick its.toArray l u k) = ((sliceRange (sliceBounds l u k xs.length).1 (sliceBounds l u k xs.length).2.1 (sliceBounds l u k xs.length).2.2).filterMap (its[·]?)).toArray := by
    unfold slicePick
    rw [List.size_toArray, ← hlen]
    simp
  rw [ep]
  have hv : t3 (aq1 xs l u k) ((sliceRange (sliceBounds l u k xs.length).1 (sliceBounds l u k xs.length).2.1 (sliceBounds l u k xs.length).2.2).filterMap (its[·]?)) := t3.picks r _
  have hsz := slicePick_size_le its.toArray l u k
  rw [ep, List.size_toArray, List.size_toArray, ← hv.length] at hsz
  refine ⟨.ref _, _, I5.laid (t' := s4.toks) (o := .lst (aq1 xs l u k)) (fun b ob q => Heap.get?_push_of_some _ q) (Nat.le_refl _) ?_, rfl, q _ (I5.hok.fresh (Nat.le_refl _))⟩
  exact ⟨by omega, _, 0, hv, Heap.get?_push_size _ rfl⟩
end
def G6 (D : Addr) (n : Nat) (Pv : Nat → St → Hp → Prop) (i : Nat) (σ4 : St) (y : V) (H5 : Hp) : Prop :=
  ∃ ys, H5 D = some (.lst ys) ∧ ys.length < sizeLine ∧ ∃ m', m' < n - i ∧ (m' = n - (i + 1) ∧ i + 1 ≤ n ∧ Pv (i + 1) σ4 (upd H5 D (.lst (ys ++ [y]))))
theorem G6.mk {D : Addr} {n : Nat} {Pv : Nat → St → Hp → Prop} {i : Nat} {σ4 : St} {y : V} {H5 : Hp} {ys : List V} (hi : i < n) (h : H5 D = some (.lst ys)) (hl : ys.length < sizeLine) (p : Pv (i + 1) σ4 (upd H5 D (.lst (ys ++ [y])))) : G6 D n Pv i σ4 y H5 :=
  ⟨ys, h, hl, _, by omega, rfl, hi, p⟩
section
variable {K : PySem.W.Frag} {a D : Addr} {xs : List V} {g : TG} {te : TE} {σ0 : St} {H0 : Hp} {Q : VK}
theorem aR7 (Pv : Nat → St → Hp → Prop) (h0 : Pv 0 σ0 H0) (hl : ∀ i σ H, i ≤ xs.length → Pv i σ H → SqL K H a xs)
    (hs : ∀ i x σ H, xs[i]? = some x → Pv i σ H → g x σ H fun σ4 H4 => te σ4 H4 fun y H5 => G6 D xs.length Pv i σ4 y H5) (hd : ∀ σ H, Pv xs.length σ H → Q (.ref D) H) :
    ∃ W : Nat → Nat → St → Hp → Prop, (∃ m, W 0 m σ0 H0) ∧ ∀ i m σc H2, W i m σc H2 → ((Itl K a).stop i H2 ∧ Q (.ref D) H2) ∨
      ((Itl K a).go i H2 ∧ ∀ x H3, (Itl K a).yld i H2 x H3 → g x σc H3 fun σ4 H4 => te σ4 H4 fun y H5 => ∃ ys, H5 D = some (.lst ys) ∧ ys.length < sizeLine ∧ ∃ m', m' < m ∧ W (i + 1) m' σ4 (upd H5 D (.lst (ys ++ [y])))) := by
  refine ⟨fun i m σ H => m = xs.length - i ∧ i ≤ xs.length ∧ Pv i σ H, ⟨xs.length, by simp, Nat.zero_le _, h0⟩, ?_⟩
  rintro i m σ H ⟨rfl, hi, p⟩
  have q := hl i σ H hi p
  by_cases hlt : i < xs.length
  · refine .inr ⟨⟨xs, xs[i], q, List.getElem?_eq_getElem hlt⟩, ?_⟩
    rintro x H3 ⟨rfl, hx⟩
    exact hs i x σ _ (hx xs q) p
  · have e : i = xs.length := by omega
    subst e
    exact .inl ⟨⟨xs, q, Nat.le_refl _⟩, hd σ H p⟩
theorem aK3 {lo : Int} {n : Nat} (Pv : Nat → St → Hp → Prop) (h0 : Pv 0 σ0 H0)
    (hs : ∀ i σ H, i < n → Pv i σ H → g (.int (lo + i)) σ H fun σ4 H4 => te σ4 H4 fun y H5 => G6 D n Pv i σ4 y H5) (hd : ∀ σ H, Pv n σ H → Q (.ref D) H) :
    ∃ W : Nat → Nat → St → Hp → Prop, (∃ m, W 0 m σ0 H0) ∧ ∀ i m σc H2, W i m σc H2 → ((Itr lo n).stop i H2 ∧ Q (.ref D) H2) ∨
      ((Itr lo n).go i H2 ∧ ∀ x H3, (Itr lo n).yld i H2 x H3 → g x σc H3 fun σ4 H4 => te σ4 H4 fun y H5 => ∃ ys, H5 D = some (.lst ys) ∧ ys.length < sizeLine ∧ ∃ m', m' < m ∧ W (i + 1) m' σ4 (upd H5 D (.lst (ys ++ [y])))) := by
  refine ⟨fun i m σ H => m = n - i ∧ i ≤ n ∧ Pv i σ H, ⟨n, by simp, Nat.zero_le _, h0⟩, ?_⟩
  rintro i m σ H ⟨rfl, hi, p⟩
  by_cases hlt : i < n
  · refine .inr ⟨hlt, ?_⟩
    rintro x H3 ⟨rfl, rfl⟩
    exact hs i σ _ hlt p
  · have e : i = n := by omega
    subst e
    exact .inl ⟨Nat.le_refl _, hd σ H p⟩
end
end L2
namespace R
theorem af6 {n d : Int} (hd : 0 < d) (hc : Int.gcd n d = 1) : (Rat.divInt n d).num = n ∧ ((Rat.divInt n d).den : Int) = d := by
  obtain ⟨k, rfl⟩ : ∃ k : Nat, d = k := ⟨d.toNat, by omega⟩
  have hk : k ≠ 0 := by omega
  have hc' : n.natAbs.Coprime k := by
    rw [Int.gcd_eq_natAbs_gcd_natAbs] at hc
    simpa [Nat.Coprime] using hc
  have e : (⟨n, k, hk, hc'⟩ : Rat) = Rat.divInt n k := Rat.mk_eq_divInt
  rw [← e]
  exact ⟨rfl, rfl⟩
theorem ai2 {n d t b : Int} (hd : 0 < d) (hc : Int.gcd n d = 1) (hb : b ≠ 0) (h : n * b = t * d) : n = (Rat.divInt t b).num ∧ d = ((Rat.divInt t b).den : Int) := by
  have e : Rat.divInt n d = Rat.divInt t b := (Rat.divInt_eq_divInt_iff (by omega) hb).mpr h
  obtain ⟨h1, h2⟩ := af6 hd hc
  rw [e] at h1 h2
  exact ⟨h1.symm, h2.symm⟩
theorem o8 {g n : Int} (hg : g ≠ 0) : (g * n).fdiv g = n := by
  rw [Int.mul_comm]; exact Int.mul_fdiv_cancel n hg
theorem aa2 {t b : Int} (hb : b ≠ 0) : 0 < Int.gcd t b := Int.gcd_pos_of_ne_zero_right t hb
theorem au7 {t b n d : Int} (hb : b ≠ 0) (h1 : t = (Int.gcd t b : Int) * n) (h2 : b = (Int.gcd t b : Int) * d) : Int.gcd n d = 1 := by
  have hg := aa2 (t := t) hb
  have e : Int.gcd ((Int.gcd t b : Int) * n) ((Int.gcd t b : Int) * d) = Int.gcd t b * Int.gcd n d := by
    rw [Int.gcd_mul_left]; simp
  rw [← h1, ← h2] at e
  exact Nat.eq_of_mul_eq_mul_left hg (by rw [← e, Nat.mul_one])
theorem aj9 {t b g : Int} (hb : b ≠ 0) (hg : g = if b < 0 then -(Int.gcd t b : Int) else (Int.gcd t b : Int)) : t.fdiv g = (Rat.divInt t b).num ∧ b.fdiv g = ((Rat.divInt t b).den : Int) := by
  have hp : (0 : Int) < Int.gcd t b := by have := aa2 (t := t) hb; omega
  obtain ⟨n, hn⟩ := Int.gcd_dvd_left t b
  obtain ⟨d, hd⟩ := Int.gcd_dvd_right t b
  have hc := au7 hb hn hd
  by_cases hs : b < 0
  · rw [if_pos hs] at hg
    subst hg
    have hg0 : (-(Int.gcd t b : Int)) ≠ 0 := by omega
    have e1 : t = -(Int.gcd t b : Int) * (-n) := by rw [Int.neg_mul_neg]; exact hn
    have e2 : b = -(Int.gcd t b : Int) * (-d) := by rw [Int.neg_mul_neg]; exact hd
    have f1 : t.fdiv (-(Int.gcd t b : Int)) = -n := by conv => lhs; arg 1; rw [e1]
                                                       exact o8 hg0
    have f2 : b.fdiv (-(Int.gcd t b : Int)) = -d := by conv => lhs; arg 1; rw [e2]
                                                       exact o8 hg0
    rw [f1, f2]
    have hd0 : 0 < -d := by
      rcases Int.lt_or_le d 0 with z | z
      · omega
      · have := Int.mul_nonneg (Int.le_of_lt hp) z; omega
    refine ai2 hd0 (by rw [Int.gcd_neg, Int.neg_gcd]; exact hc) hb ?_
    conv => lhs; rw [hd]
    conv => rhs; rw [hn]
    generalize (Int.gcd t b : Int) = g
    grind
  · rw [if_neg hs] at hg
    subst hg
    have hg0 : ((Int.gcd t b : Int)) ≠ 0 := by omega
    have f1 : t.fdiv (Int.gcd t b : Int) = n := by conv => lhs; arg 1; rw [hn]
                                                   exact o8 hg0
    have f2 : b.fdiv (Int.gcd t b : Int) = d := by conv => lhs; arg 1; rw [hd]
                                                   exact o8 hg0
    rw [f1, f2]
    have hd0 : 0 < d := by
      rcases Int.lt_or_le 0 d with z | z
      · exact z
      · have := Int.mul_nonneg (Int.le_of_lt hp) (show 0 ≤ -d by omega); rw [Int.mul_neg] at this; omega
    refine ai2 hd0 hc hb ?_
    conv => lhs; rw [hd]
    conv => rhs; rw [hn]
    generalize (Int.gcd t b : Int) = g
    grind
theorem M8 (q : Rat) : (0 : Int) < q.den := by have := q.den_nz; omega
theorem aK6 (p q : Rat) : p + q = Rat.divInt (p.num * q.den + q.num * p.den) (p.den * q.den) := by
  have h1 := M8 p
  have h2 := M8 q
  conv => lhs; rw [← Rat.num_divInt_den p, ← Rat.num_divInt_den q]
  exact Rat.divInt_add_divInt _ _ (by omega) (by omega)
theorem aJ0 (p q : Rat) : p * q = Rat.divInt (p.num * q.num) (p.den * q.den) := by
  conv => lhs; rw [← Rat.num_divInt_den p, ← Rat.num_divInt_den q]
  exact Rat.divInt_mul_divInt _ _
theorem aF0 (a b : Int) : Int.gcd b (a.fmod b) = Int.gcd a b := by
  have e := Int.mul_fdiv_add_fmod a b
  rw [Int.gcd_comm a b]
  conv => rhs; rw [← e]
  rw [show b * a.fdiv b + a.fmod b = a.fmod b + a.fdiv b * b by rw [Int.mul_comm, Int.add_comm]]
  simp
theorem ac3 (a : Int) {b : Int} (hb : b ≠ 0) : (a.fmod b).natAbs < b.natAbs := by
  rcases Int.lt_or_le b 0 with h | h
  · have e := Int.neg_fmod_neg a b
    have h1 := Int.fmod_nonneg_of_pos (-a) (show 0 < -b by omega)
    have h2 := Int.fmod_lt_of_pos (-a) (show 0 < -b by omega)
    omega
  · have h1 := Int.fmod_nonneg_of_pos a (show 0 < b by omega)
    have h2 := Int.fmod_lt_of_pos a (show 0 < b by omega)
    omega
open PySem L2 PyProof.Rows
section
variable {P : Program} {w : World} {K : PySem.W.Frag} {mg : Str → Option Value} {base : Heap}
theorem P5 {a : Int} {m : Nat} (h : a.natAbs < 2 ^ m) : Builtin.Int.intBits a ≤ m := by
  unfold Builtin.Int.intBits
  split
  · exact Nat.zero_le _
  · rename_i hz
    have h0 : a.natAbs ≠ 0 := by
      intro z
      have : a = 0 := by omega
      simp [this] at hz
    have := (Nat.log2_lt h0).mpr h
    omega
theorem W4 {a b : Int} {m n : Nat} (ha : a.natAbs < 2 ^ m) (hb : b.natAbs < 2 ^ n) (h : m + n ≤ 134217728 := by decide) : IntMulOk a b := IntMulOk.of_le (P5 ha) (P5 hb) h
theorem ab1 {j : Int} (h0 : j ≠ 0) (h : j.natAbs < 2 ^ 9000) : at6 i j := ⟨h0, (Nat.log2_lt (by omega)).mpr h⟩
theorem i5 {m n : Nat} (h : m ≤ n) : 2 ^ m ≤ 2 ^ n := Nat.pow_le_pow_right (by decide) h
theorem T9 {a : Nat} {m n : Nat} (h : a < 2 ^ m) (hm : m ≤ n := by decide) : a < 2 ^ n := Nat.lt_of_lt_of_le h (i5 hm)
def B7 (q : Rat) : List V := [.int q.num, .int (q.den : Int)]
structure Bd (q : Rat) : Prop where
  n : q.num.natAbs < 2 ^ 3000
  d : q.den < 2 ^ 3000
def Num (K : PySem.W.Frag) (H : Hp) (v : V) (q : Rat) : Prop := ∃ p, v = .ref p ∧ SqT K H p (B7 q)
def aK8 (H : Hp) (Q : VK) (q : Rat) : Prop := ∀ r H', d8 H H' → H' r = some (.tup (B7 q)) → Q (.ref r) H'
theorem Num.same {K : PySem.W.Frag} {H H' : Hp} {v : V} {q : Rat} (n : Num K H v q) (e : d8 H H') : Num K H' v q := let ⟨p, h1, h2⟩ := n; ⟨p, h1, e.tup h2⟩
theorem v3 : (2 : Nat) ≤ sizeLine := by decide
theorem aj0 : (1 : Nat) ≤ sizeLine := by decide
theorem aJ7 {a b : Int} {n : Nat} (hb : b ≠ 0) (h : b.natAbs < n) : ((Int.gcd a b : Nat) : Int).natAbs < n := by
  have h1 : Int.gcd a b ∣ b.natAbs := by
    have := Int.natAbs_dvd_natAbs.mpr (Int.gcd_dvd_right a b)
    simpa using this
  have h2 := Nat.le_of_dvd (by omega) h1
  simp only [Int.natAbs_natCast]
  omega
theorem aB3 {a g : Int} (hg : 0 < g) (hd : g ∣ a) : (a.fdiv g).natAbs ≤ a.natAbs := by
  obtain ⟨n, rfl⟩ := hd
  rw [o8 (by omega), Int.natAbs_mul]
  exact Nat.le_mul_of_pos_left _ (by omega)
theorem ar2 {q : Rat} : q.num = 0 ↔ q = 0 := by
  constructor
  · intro h; exact Rat.num_eq_zero.mp h
  · intro h; rw [h]; rfl
theorem at0 (q : Rat) : atI (B7 q) 0 = some (.int q.num) := rfl
theorem at1 (q : Rat) : atI (B7 q) 1 = some (.int (q.den : Int)) := rfl
theorem bk1 {a b : Int} (h : a.natAbs < 2 ^ 64) : IntMulOk a b := IntMulOk.of_left (P5 h)
theorem aE7 {a b : Int} (h : b.natAbs < 2 ^ 64) : IntMulOk a b := IntMulOk.of_right (P5 h)
def aD1 : Sp := fun vs H Q _ => ∃ t b : Int, vs = [.int t, .int b] ∧ b ≠ 0 ∧ b.natAbs < 2 ^ 6000 ∧ aK8 H Q (Rat.divInt t b)
def v4 (H : Hp) (u : Addr) : Prop := ∃ g m p : Int, H u = some (.lst [.int g, .int m, .int p]) ∧ 0 ≤ g ∧ 0 ≤ m ∧ m < 2 ^ 40 ∧ 0 < p ∧ p < 2 ^ 40
def w4 (u : Addr) (H H' : Hp) : Prop := ∀ b o, H b = some o → b ≠ u → H' b = some o
theorem d8.x {H H' : Hp} (s : d8 H H') (u : Addr) : w4 u H H' := fun b o h _ => s b o h
theorem w4.trans {u : Addr} {H H1 H2 : Hp} (a : w4 u H H1) (b : w4 u H1 H2) : w4 u H H2 := fun c o h n => b c o (a c o h n) n
theorem w4.upd (u : Addr) (H : Hp) (o : HO) : w4 u H (upd H u o) := fun b p h n => by rw [j5 n]; exact h
theorem d8.urn {H H' : Hp} {u : Addr} (s : d8 H H') (h : v4 H u) : v4 H' u := let ⟨g, m, p, h1, r⟩ := h; ⟨g, m, p, s _ _ h1, r⟩
def bf2 (K : PySem.W.Frag) : Sp := fun vs H Q _ => ∃ (a : Addr) (ns : List Int) (k : Int), vs = [.ref a, .int k] ∧ SqL K H a (ns.map V.int) ∧ 0 ≤ k ∧ k < 64 ∧ ∀ r H', d8 H H' → H r = none → v4 H' r → Q (.ref r) H'
def bi4 : List V := [.int 1899999979, .int 1899998977, .int 1899997949, .int 1899996929, .int 1899995927, .int 1899994903, .int 1899993877, .int 1899992839]
theorem aV2 {k : Int} (h0 : 0 ≤ k) : ∃ p : Int, atI bi4 (k.fmod 8) = some (.int p) ∧ 1899992839 ≤ p ∧ p ≤ 1899999979 := by
  have h1 := Int.fmod_nonneg_of_pos k (show (0 : Int) < 8 by decide)
  have h2 := Int.fmod_lt_of_pos k (show (0 : Int) < 8 by decide)
  have h3 : k.fmod 8 = 0 ∨ k.fmod 8 = 1 ∨ k.fmod 8 = 2 ∨ k.fmod 8 = 3 ∨ k.fmod 8 = 4 ∨ k.fmod 8 = 5 ∨ k.fmod 8 = 6 ∨ k.fmod 8 = 7 := by omega
  rcases h3 with h | h | h | h | h | h | h | h <;> rw [h] <;> exact ⟨_, rfl, by decide, by decide⟩
theorem aS2 {ns : List Int} {k : Int} (h0 : 0 ≤ k) (h : k < (ns.length : Int)) : ∃ v : Int, atI (ns.map V.int) k = some (.int v) := by
  have hk : k.toNat < ns.length := by omega
  have ek : k = ((k.toNat : Nat) : Int) := by omega
  have q : atI (ns.map V.int) ((k.toNat : Nat) : Int) = some (.int ns[k.toNat]) := G3 (by rw [List.getElem?_map, List.getElem?_eq_getElem hk] <;> rfl)
  rw [← ek] at q
  exact ⟨_, q⟩
def N3 : Sp := fun vs H Q _ => ∃ (u : Addr) (n : Int), vs = [.ref u, .int n] ∧ v4 H u ∧ 0 < n ∧ n < 2 ^ 40 ∧ ∀ r H', 0 ≤ r → r < n → w4 u H H' → v4 H' u → Q (.int r) H'
structure Sm (q : Rat) : Prop where
  n : q.num.natAbs ≤ 10 ^ 12
  d : q.den ≤ 10 ^ 12
theorem ad7 {t b : Int} (hb : b ≠ 0) : (Rat.divInt t b).num.natAbs ≤ t.natAbs ∧ (Rat.divInt t b).den ≤ b.natAbs := by
  have hp := aa2 (t := t) hb
  obtain ⟨e1, e2⟩ := aj9 (t := t) (b := b) (g := if b < 0 then -(Int.gcd t b : Int) else (Int.gcd t b : Int)) hb rfl
  have key : ∀ x : Int, (Int.gcd t b : Int) ∣ x → (x.fdiv (if b < 0 then -(Int.gcd t b : Int) else (Int.gcd t b : Int))).natAbs ≤ x.natAbs := by
    rintro x ⟨n, hn⟩
    split
    · have : x = -(Int.gcd t b : Int) * (-n) := by rw [Int.neg_mul_neg]; exact hn
      rw [this, o8 (by omega), Int.natAbs_mul]
      exact Nat.le_mul_of_pos_left _ (by omega)
    · rw [hn, o8 (by omega), Int.natAbs_mul]
      exact Nat.le_mul_of_pos_left _ (by omega)
  have k1 := key t (Int.gcd_dvd_left t b)
  have k2 := key b (Int.gcd_dvd_right t b)
  rw [e1] at k1
  rw [e2] at k2
  exact ⟨k1, by omega⟩
theorem bn3 {t b : Int} (hb : b ≠ 0) (h1 : t.natAbs ≤ 10 ^ 12) (h2 : b.natAbs ≤ 10 ^ 12) : Sm (Rat.divInt t b) := by
  obtain ⟨e1, e2⟩ := ad7 (t := t) hb
  exact ⟨by omega, by omega⟩
theorem Z0 {H : Hp} {u l : Addr} (hu : v4 H u) (hl : H l = none) : l ≠ u := by
  obtain ⟨g, m, p, h, r⟩ := hu
  exact (m9 h hl).symm
theorem P6 {H : Hp} {u l : Addr} {o : HO} (hu : v4 H u) (hl : H l = none) : v4 (upd H l o) u := by
  obtain ⟨g, m, p, h, r⟩ := hu
  exact ⟨g, m, p, by rw [j5 (m9 h hl)]; exact h, r⟩
def spNumber : Sp := fun vs H Q _ => ∃ u kd, vs = [.ref u, .int kd] ∧ v4 H u ∧ ∀ r q H', Sm q → w4 u H H' → v4 H' u → H' r = some (.tup (B7 q)) → Q (.ref r) H'
def V5 (q : Rat) : D := .tup [.v (.int q.num), .v (.int (q.den : Int))]
theorem aM3 {H : Hp} {a : Addr} {q : Rat} (h : SqT K H a (B7 q)) : IsD K H (.ref a) (V5 q) := .tup h (.cons (.v rfl) (.cons (.v rfl) .nil))
theorem bd4 (q : Rat) : eqD (V5 q) (V5 q) = true := by simp [V5, eqD, Q9, eqV]
theorem bc0 (p q : Rat) : okD (V5 p) (V5 q) = true := by simp [V5, okD, aj5]
end
open PySem L2 PyProof.Rows
inductive z9 (H : Hp) : List V → List Rat → Prop where
  | nil : z9 H [] []
  | cons {p : Addr} {q : Rat} {vs : List V} {qs : List Rat} (h : H p = some (.tup (B7 q))) (t : z9 H vs qs) : z9 H (.ref p :: vs) (q :: qs)
def aa7 (H H' : Hp) : Prop := ∀ b xs, H b = some (.tup xs) → H' b = some (.tup xs)
theorem _root_.L2.d8.tups {H H' : Hp} (s : d8 H H') : aa7 H H' := fun b xs h => s b _ h
theorem w4.tups {u : Addr} {H H' : Hp} (s : w4 u H H') (hu : v4 H u) : aa7 H H' := fun b xs h => by
  obtain ⟨g, m, p, e, _⟩ := hu
  exact s b _ h (bf5 h e (by intro z; cases z))
theorem aa7.lst {H : Hp} {a : Addr} {xs : List V} {o : HO} (h : H a = some (.lst xs)) : aa7 H (upd H a o) := fun b ys e => by
  rw [j5 (bf5 e h (by intro z; cases z))]; exact e
theorem aa7.new {H : Hp} {a : Addr} {o : HO} (h : H a = none) : aa7 H (upd H a o) := (d8.new h o).tups
theorem z9.mono {H H' : Hp} (e : aa7 H H') : ∀ {vs : List V} {qs : List Rat}, z9 H vs qs → z9 H' vs qs
  | _, _, .nil => .nil
  | _, _, .cons h t => .cons (e _ _ h) (t.mono e)
theorem z9.length {H : Hp} : ∀ {vs : List V} {qs : List Rat}, z9 H vs qs → vs.length = qs.length
  | _, _, .nil => rfl
  | _, _, .cons _ t => congrArg (· + 1) t.length
theorem z9.take {H : Hp} : ∀ {vs : List V} {qs : List Rat} (m : Nat), z9 H vs qs → z9 H (vs.take m) (qs.take m)
  | _, _, 0, _ => by simp; exact .nil
  | _, _, _ + 1, .nil => .nil
  | _, _, m + 1, .cons h t => .cons h (t.take m)
theorem z9.append {H : Hp} : ∀ {vs ws : List V} {qs rs : List Rat}, z9 H vs qs → z9 H ws rs → z9 H (vs ++ ws) (qs ++ rs)
  | _, _, _, _, .nil, b => b
  | _, _, _, _, .cons h t, b => .cons h (t.append b)
theorem z9.get {H : Hp} : ∀ {vs : List V} {qs : List Rat} {i : Nat} {q : Rat}, z9 H vs qs → qs[i]? = some q → ∃ p, vs[i]? = some (.ref p) ∧ H p = some (.tup (B7 q))
  | _, _, _, _, .nil, e => by simp at e
  | _, _, 0, _, .cons h t, e => by
    have := Option.some.inj e
    subst this
    exact ⟨_, rfl, h⟩
  | _, _, i + 1, _, .cons h t, e => by
    obtain ⟨p, e1, e2⟩ := t.get (i := i) (by simpa using e)
    exact ⟨p, by simpa using e1, e2⟩
theorem z9.getV {H : Hp} : ∀ {vs : List V} {qs : List Rat} {i : Nat} {v : V}, z9 H vs qs → vs[i]? = some v → ∃ p q, v = .ref p ∧ qs[i]? = some q ∧ H p = some (.tup (B7 q))
  | _, _, _, _, .nil, e => by simp at e
  | _, _, 0, _, .cons h t, e => by
    have := Option.some.inj e
    subst this
    exact ⟨_, _, rfl, rfl, h⟩
  | _, _, i + 1, _, .cons h t, e => by
    obtain ⟨p, q, e0, e1, e2⟩ := t.getV (i := i) (by simpa using e)
    exact ⟨p, q, e0, by simpa using e1, e2⟩
theorem z9.isDs {K : PySem.W.Frag} {H : Hp} : ∀ {vs : List V} {qs : List Rat}, z9 H vs qs → ad1 K H vs (qs.map V5)
  | _, _, .nil => .nil
  | _, _, .cons h t => .cons (aM3 (SqT.of h)) t.isDs
theorem bb1 {p q : Rat} (h1 : p.num = q.num) (h2 : p.den = q.den) : p = q := by
  cases p; cases q; simp at h1 h2; subst h1 h2; rfl
theorem aX9 (p q : Rat) : eqD (V5 p) (V5 q) = decide (p = q) := by
  by_cases h : p = q
  · subst h; rw [bd4]; simp
  · rw [decide_eq_false h]
    simp only [V5, eqD, Q9, eqV, Bool.and_true]
    by_cases h1 : p.num = q.num
    · have h2 : p.den ≠ q.den := fun z => h (bb1 h1 z)
      have : ((p.den : Int) == (q.den : Int)) = false := by
        rw [beq_eq_false_iff_ne]; intro z; exact h2 (by omega)
      rw [this, Bool.and_false]
    · have : (p.num == q.num) = false := by rw [beq_eq_false_iff_ne]; exact h1
      rw [this, Bool.false_and]
theorem aw4 : ∀ ps qs : List Rat, Q9 (ps.map V5) (qs.map V5) = decide (ps = qs)
  | [], [] => by simp [Q9]
  | [], _ :: _ => by simp [Q9]
  | _ :: _, [] => by simp [Q9]
  | p :: ps, q :: qs => by
    rw [List.map_cons, List.map_cons, Q9, aX9, aw4 ps qs]
    by_cases h1 : p = q <;> by_cases h2 : ps = qs <;> simp [h1, h2]
theorem aw0 : ∀ ps qs : List Rat, aj5 (ps.map V5) (qs.map V5) = true
  | [], [] => by simp [aj5]
  | [], _ :: _ => by simp [aj5]
  | _ :: _, [] => by simp [aj5]
  | p :: ps, q :: qs => by rw [List.map_cons, List.map_cons, aj5, bc0, aw0 ps qs]; rfl
theorem aw6 : ∀ qs : List Rat, aB7 (qs.map V5) ≤ 1
  | [] => by simp [aB7]
  | q :: qs => by
    have h1 : dpD (V5 q) ≤ 1 := by simp [V5, dpD, aB7]
    have h2 := aw6 qs
    rw [List.map_cons, aB7]
    omega
def Q7 (qs : List Rat) : D := .lst (qs.map V5)
theorem T1 {K : PySem.W.Frag} {H : Hp} {a : Addr} {vs : List V} {qs : List Rat} (h : SqL K H a vs) (n : z9 H vs qs) : IsD K H (.ref a) (Q7 qs) := .lst h n.isDs
theorem ai3 (ps qs : List Rat) : eqD (Q7 ps) (Q7 qs) = decide (ps = qs) := by unfold Q7; rw [eqD, aw4]
theorem ah7 (ps qs : List Rat) : okD (Q7 ps) (Q7 qs) = true := by unfold Q7; rw [okD, aw0]
theorem ao6 (qs : List Rat) : dpD (Q7 qs) ≤ 2 := by unfold Q7; rw [dpD]; have := aw6 qs; omega
structure J3 (qs : List Rat) (m : Nat) : Prop where
  le : m ≤ qs.length
  zero : ∀ (i : Nat) (q : Rat), m ≤ i → qs[i]? = some q → q = 0
  last : m ≠ 0 → ∀ q, qs[m - 1]? = some q → q ≠ 0
theorem J3.self {qs : List Rat} {m : Nat} (a : J3 qs m) : J3 (qs.take m) m := by
  have hl : (qs.take m).length = m := by rw [List.length_take]; have := a.le; omega
  refine ⟨by omega, fun i q hi e => ?_, fun h q e => ?_⟩
  · rw [List.getElem?_eq_none (by omega)] at e; cases e
  · rw [List.getElem?_take_of_lt (by omega)] at e
    exact a.last h q e
def evs {α : Type} : List α → List α
  | [] => []
  | [x] => [x]
  | x :: _ :: r => x :: evs r
def ods {α : Type} (xs : List α) : List α := evs xs.tail
theorem as5 (vs : List V) {m : Nat} (h : m ≤ vs.length) : ae4 vs none (some (m : Int)) = vs.take m := by
  unfold ae4
  have e1 : HT.sIx vs.length 0 none = 0 := by simp [HT.sIx]
  have e2 : HT.sIx vs.length vs.length (some (m : Int)) = m := by
    simp only [HT.sIx]
    split <;> omega
  rw [e1, e2]; simp
end R
set_option maxRecDepth 100000
namespace L2
open PySem PySem.Spec PyProof.Rows
def WhN (Pv : St → Hp → Prop) (μ : St → Hp → Nat) (m : Nat) : St → Hp → Prop := fun σ' H' => ∃ m', m' < m ∧ (m' = μ σ' H' ∧ Pv σ' H')
theorem WhN.mk {Pv : St → Hp → Prop} {μ : St → Hp → Nat} {m : Nat} {σ' : St} {H' : Hp} (h : Pv σ' H') (l : μ σ' H' < m) : WhN Pv μ m σ' H' := ⟨_, l, rfl, h⟩
def WhB (tb : TS) (D : ag1) (Pv : St → Hp → Prop) (μ : St → Hp → Nat) (m : Nat) (σ : St) (H1 : Hp) : Prop :=
  ∃ N : St → Hp → Prop, (∀ σ' H', N σ' H' → ∃ m', m' < m ∧ (m' = μ σ' H' ∧ Pv σ' H')) ∧ tb { D with nx := N, ct := N, bk := D.nx } σ H1
theorem WhB.mk {tb : TS} {D : ag1} {Pv : St → Hp → Prop} {μ : St → Hp → Nat} {m : Nat} {σ : St} {H1 : Hp} (h : tb { D with nx := WhN Pv μ m, ct := WhN Pv μ m, bk := D.nx } σ H1) : WhB tb D Pv μ m σ H1 := ⟨_, fun _ _ n => n, h⟩
theorem ao8 {c : TT} {tb : TS} {D : ag1} {σ : St} {H : Hp} (Pv : St → Hp → Prop) (μ : St → Hp → Nat) (h0 : Pv σ H)
    (hs : ∀ σ H, Pv σ H → c σ H fun b H1 => if b = true then WhB tb D Pv μ (μ σ H) σ H1 else D.nx σ H1) : ap1 c tb D σ H := by
  refine ⟨fun m σ H => m = μ σ H ∧ Pv σ H, ⟨_, rfl, h0⟩, ?_⟩
  rintro m σ H ⟨rfl, p⟩
  exact hs σ H p
theorem d8.over {H H1 : Hp} {l : Addr} (s : d8 H H1) (hl : H l = none) (o : HO) : d8 H (upd H1 l o) := fun b u h => by
  rw [j5 (m9 h hl)]; exact s b u h
def at5 (J : It) (D : Addr) (σ0 : St) (H0 : Hp) (g : TG) (te : TE) (Q : VK) : Prop := ∃ W : Nat → Nat → St → Hp → Prop, (∃ m, W 0 m σ0 H0) ∧
  ∀ i m σc H2, W i m σc H2 → (J.stop i H2 ∧ Q (.ref D) H2) ∨
    (J.go i H2 ∧ ∀ x H3, J.yld i H2 x H3 → g x σc H3 fun σ4 H4 => te σ4 H4 fun y H5 => ∃ ys, H5 D = some (.lst ys) ∧ ys.length < sizeLine ∧ ∃ m', m' < m ∧ W (i + 1) m' σ4 (upd H5 D (.lst (ys ++ [y]))))
theorem aC7 (wi : TI) (caps : List (Option Nat)) (g : TG) (te : TE) : aL2 wi caps g te = fun σ H Q => wi σ H fun J H1 => ∀ D, H1 D = none → at5 J D (O8 caps σ) (upd H1 D (.lst [])) g te Q := rfl
def bn0 (J : It) (D : Addr) (σ0 : St) (H0 : Hp) (g : TG) (tt : TT) (te : TE) (Q : VK) : Prop := ∃ W : Nat → Nat → St → Hp → Prop, (∃ m, W 0 m σ0 H0) ∧
  ∀ i m σc H2, W i m σc H2 → (J.stop i H2 ∧ Q (.ref D) H2) ∨
    (J.go i H2 ∧ ∀ x H3, J.yld i H2 x H3 → g x σc H3 fun σ4 H4 => tt σ4 H4 fun b H4' => if b = true then te σ4 H4' fun y H5 => ∃ ys, H5 D = some (.lst ys) ∧ ys.length < sizeLine ∧ ∃ m', m' < m ∧ W (i + 1) m' σ4 (upd H5 D (.lst (ys ++ [y])))
      else ∃ m', m' < m ∧ W (i + 1) m' σ4 H4')
theorem ap2 (wi : TI) (caps : List (Option Nat)) (g : TG) (tt : TT) (te : TE) : ba6 wi caps g tt te = fun σ H Q => wi σ H fun J H1 => ∀ D, H1 D = none → bn0 J D (O8 caps σ) (upd H1 D (.lst [])) g tt te Q := rfl
section
variable {K : PySem.W.Frag} {a D : Addr} {xs : List V} {g : TG} {te : TE} {σ0 : St} {H0 : Hp} {Q : VK}
theorem U7 (xs : List V) (Pv : Nat → St → Hp → Prop) (h0 : Pv 0 σ0 H0) (hl : ∀ i σ H, i ≤ xs.length → Pv i σ H → SqL K H a xs)
    (hs : ∀ i x σ H, xs[i]? = some x → Pv i σ H → g x σ H fun σ4 H4 => te σ4 H4 fun y H5 => G6 D xs.length Pv i σ4 y H5) (hd : ∀ σ H, Pv xs.length σ H → Q (.ref D) H) : at5 (Itl K a) D σ0 H0 g te Q := aR7 Pv h0 hl hs hd
theorem ai4 {lo : Int} {n : Nat} (Pv : Nat → St → Hp → Prop) (h0 : Pv 0 σ0 H0)
    (hs : ∀ i σ H, i < n → Pv i σ H → g (.int (lo + i)) σ H fun σ4 H4 => te σ4 H4 fun y H5 => G6 D n Pv i σ4 y H5) (hd : ∀ σ H, Pv n σ H → Q (.ref D) H) : at5 (Itr lo n) D σ0 H0 g te Q := aK3 Pv h0 hs hd
end
theorem D8 {cells : List (Str × Addr)} : ∀ (x : Str) (c : Addr), ([] : List (Str × Addr)).lookup x = some c → cells.lookup x = some c := fun x c h => by cases h
theorem w8 {cells cl : List (Str × Addr)} {k : Str} {a : Addr} (h : cells.lookup k = some a) (r : ∀ (x : Str) (c : Addr), cl.lookup x = some c → cells.lookup x = some c) : ∀ (x : Str) (c : Addr), ((k, a) :: cl).lookup x = some c → cells.lookup x = some c := fun x c e => by
  rw [List.lookup_cons] at e
  split at e
  · rename_i q
    have := eq_of_beq q
    subst this
    cases e
    exact h
  · exact r x c e
end L2
namespace R
open PySem L2 PyProof.Rows
theorem v4.other {H : Hp} {u l : Addr} {o : HO} (h : v4 H u) (ne : l ≠ u) : v4 (upd H l o) u := by
  obtain ⟨g, m, p, e, r⟩ := h
  exact ⟨g, m, p, by rw [j5 ne.symm]; exact e, r⟩
theorem aW2 {H : Hp} {p l : Addr} {o : HO} (h : upd H p o l = none) : H l = none := by
  by_cases q : l = p
  · subst q; rw [d6] at h; cases h
  · rw [j5 q] at h; exact h
theorem bk0 {H : Hp} {p l : Addr} {o : HO} (h : upd H p o l = none) : l ≠ p := fun q => by
  subst q; rw [d6] at h; cases h
end R
set_option maxRecDepth 100000
namespace L2
open PySem PySem.Spec PyProof.Rows
def Itz (K : PySem.W.Frag) (a b : Addr) : It :=
  ⟨fun i H => ∃ xs ys x y, SqL K H a xs ∧ SqL K H b ys ∧ xs[i]? = some x ∧ ys[i]? = some y,
   fun i H v H' => ∀ xs ys, SqL K H a xs → SqL K H b ys → ∃ x y p, xs[i]? = some x ∧ ys[i]? = some y ∧ H p = none ∧ v = .ref p ∧ H' = upd H p (.tup [x, y]),
   fun i H => ∃ xs ys, SqL K H a xs ∧ SqL K H b ys ∧ (xs.length ≤ i ∨ ys.length ≤ i)⟩
theorem aS7 {P : Program} {w : World} {K : PySem.W.Frag} {elts : List Expr} {k : Nat} {tpos : Pos} (a b z TI TO i1 i2 : Addr) (D : ZipApart z TI TO i1 i2 a b) :
    aK7 P w K (.Tuple elts k tpos) (Itz K a b) [z, TI, TO, i1, i2] z (fun i h => IsZip h z TI TO .none ∧ IsPair h TI (.ref i1) (.ref i2) ∧ (∃ a b, IsPair h TO a b) ∧ h.IsListIter i1 a i ∧ h.IsListIter i2 b i) where
  mem := by simp
  obj := fun i h st c hc => by
    obtain ⟨hz, hTI, ⟨p, q, hTO⟩, h1, h2⟩ := st
    rcases (by simpa using hc : c = z ∨ c = TI ∨ c = TO ∨ c = i1 ∨ c = i2) with e | e | e | e | e <;> subst e
    · exact ⟨_, hz, fun v z => by cases z⟩
    · exact ⟨_, hTI, fun v z => by cases z⟩
    · exact ⟨_, hTO, fun v z => by cases z⟩
    · obtain ⟨o, e, c, d⟩ := h1
      exact ⟨o, e, fun v z => by rw [d] at z; cases z⟩
    · obtain ⟨o, e, c, d⟩ := h2
      exact ⟨o, e, fun v z => by rw [d] at z; cases z⟩
  keep := fun i h h' st k => by
    obtain ⟨hz, hTI, ⟨p, q, hTO⟩, h1, h2⟩ := st
    exact ⟨k z (by simp) _ hz, k TI (by simp) _ hTI, ⟨p, q, k TO (by simp) _ hTO⟩, h1.at fun o e => k i1 (by simp) o e, h2.at fun o e => k i2 (by simp) o e⟩
  item := by
    intro X hP hw hK hc i pins s σ H E I hf st hg
    subst hP hw hK
    obtain ⟨xs, ys, x, y, hq, hq', hx, hy⟩ := hg
    obtain ⟨its, rv, p, hlz⟩ := I.list hq
    obtain ⟨its', rv', p', hlz'⟩ := I.list hq'
    obtain ⟨u, hu, ru⟩ := rv.get hx
    obtain ⟨u', hu', ru'⟩ := rv'.get hy
    obtain ⟨hz, hTI, ⟨pa, pb, hTO⟩, h1, h2⟩ := st
    have zlt : z < s.heap.objs.size := Heap.lt_size hz
    refine wpAny_pyNext_zip_item D hz hTI hTO h1 h2 p.isList p'.isList (x := u) (y := u') (by simpa using hu) (by simpa using hu') fun h' a1 a2 a3 a4 a5 a6 kk => ?_
    refine ⟨_, rfl, ?_⟩
    refine wpAny_letOwnedTupleGo_zip (s := { s with heap := h' }) a1 fun h'' hz'' sb => ?_
    have up : ∀ c o, c ≠ z → h'.get? c = some o → h''.get? c = some o := fun c o n q => (sb.2 c n).trans q
    have hT' : h''.get? s.heap.objs.size = some { cls := .type "tuple", data := .seq #[u, u'] } := up _ _ (Nat.ne_of_gt zlt) a5
    refine ⟨.ref s.heap.objs.size, upd H s.heap.objs.size (.tup [x, y]), I.turnLaid (fp := [z, TI, TO, i1, i2]) (t' := s.toks) hf (fun c v hb q => ?_) (Nat.le_refl _) ?_, rfl, ?_, ?_, fun c hb => ?_⟩
    · have n1 : c ≠ z := fun e => hb (by simp [e])
      have n2 : c ≠ TO := fun e => hb (by simp [e])
      have n3 : c ≠ i1 := fun e => hb (by simp [e])
      have n4 : c ≠ i2 := fun e => hb (by simp [e])
      exact up c v n1 (kk c v n1 n2 n3 n4 q)
    · exact ⟨(show 2 ≤ sizeLine by decide +kernel), [u, u'], .cons ru (.cons ru' .nil), _, hT', rfl, _, rfl⟩
    · intro vs ws hv hw
      rw [I.list_inj hv hq, I.list_inj hw hq']
      exact ⟨x, y, _, hx, hy, I.fresh, rfl, rfl⟩
    · refine ⟨hz'', up _ _ D.TIz (kk _ _ D.TIz D.TITO D.TIi1 D.TIi2 hTI), ⟨u, u', up _ _ D.TOz a2⟩, a3.at fun o q => up _ o D.i1z q, a4.at fun o q => up _ o D.i2z q⟩
    · have hlt : c < s.heap.objs.size := by
        have l1 : i1 < s.heap.objs.size := by obtain ⟨_, e, _⟩ := h1; exact Heap.lt_size e
        have l2 : i2 < s.heap.objs.size := by obtain ⟨_, e, _⟩ := h2; exact Heap.lt_size e
        rcases (by simpa using hb : c = z ∨ c = TI ∨ c = TO ∨ c = i1 ∨ c = i2) with e | e | e | e | e <;> rw [e]
        · exact zlt
        · exact Heap.lt_size hTI
        · exact Heap.lt_size hTO
        · exact l1
        · exact l2
      rw [j5 (Nat.ne_of_lt hlt)]
      exact (hf c hb).1
  done := by
    intro X hP hw hK hc i pins s σ H E I hf st hg
    subst hP hw hK
    obtain ⟨xs, ys, hq, hq', hend⟩ := hg
    obtain ⟨its, rv, p, hlz⟩ := I.list hq
    obtain ⟨its', rv', p', hlz'⟩ := I.list hq'
    obtain ⟨hz, hTI, ⟨pa, pb, hTO⟩, h1, h2⟩ := st
    have l1 := rv.length
    have l2 := rv'.length
    refine wpAny_pyNext_zip_end (I.ok.hd hc) D hz hTI hTO h1 h2 p.isList p'.isList ?_ fun h' kk => ⟨rfl, ?_⟩
    · rcases hend with e | e
      · exact .inl (by simp; omega)
      · exact .inr (by simp; omega)
    · have nf : ∀ b u, H b = some u → b ∉ [z, TI, TO, i1, i2] := fun b u e q => by rw [(hf b q).1] at e; cases e
      have k : ∀ b u, b ∉ [z, TI, TO, i1, i2] → s.heap.get? b = some u → h'.get? b = some u := fun c o hb q => kk c o (fun e => hb (by simp [e])) (fun e => hb (by simp [e])) (fun e => hb (by simp [e])) (fun e => hb (by simp [e])) q
      refine I.step (t' := s.toks) (g' := s.gens) (d' := s.drawn) (ch := [z, TI, TO, i1, i2]) (fun b hb => ?_) (fun b o _ _ hc e _ => k b o hc e) (fun b o _ _ hc e _ => ⟨o.slots, k b o hc e⟩) (fun b o _ e n => n)
        (fun b o hc e => ⟨o, k b o hc e⟩) (fun b xs e => e) (fun b o u e => e) (fun b ps e => ⟨#[], by rw [e]; simp⟩) (fun m hm => ?_) (fun b u e => ?_) I.bare
      · obtain ⟨_, f1, _, f3, f4, f5⟩ := hf b hb
        exact ⟨f3, f1, f4, f5⟩
      · obtain ⟨o, es, ep, ho, r⟩ := hm
        exact ⟨o, es, ep, k _ o (fun q => (hf _ q).2.1 rfl) ho, r⟩
      · refine (I.hok b u e).stay (fun c v hc q => k c v ?_ q) (fun c q => q) fun c xs q => q
        rcases hc with q | q
        · rw [q]; exact nf b u e
        · exact nf c _ q
  self := fun _ _ _ _ _ st h => wpAny_pyIter_zip st.1 h
section
variable {X : Cx}
def bl2 (K : PySem.W.Frag) (ta : TA) : TI := fun σ H R => ta σ H fun vs H1 => ∃ a b, vs = [.ref a, .ref b] ∧ (∃ xs, SqL K H1 a xs) ∧ (∃ ys, SqL K H1 b ys) ∧ R (Itz K a b) H1
theorem aV4 {elts : List Expr} {k : Nat} {tpos : Pos} {l l' : Expr} {ta : TA} {p pos : Pos} (hg : Gl X "zip") (hm : X.mg "zip" = none) (ha : PA X [l, l'] ta) (hs : starEach [l, l'] X.env = [(false, eval l X.env), (false, eval l' X.env)] := by rfl) (hs2 : starEach [l'] X.env = [(false, eval l' X.env)] := by rfl) :
    PI X (.Tuple elts k tpos) (.Call (.Name "zip" p) [l, l'] [] pos) (bl2 X.K ta) := by
  intro pins s σ H R I h
  refine Call_ (aa1 I hg hm (u := .type "zip") (by decide +kernel) (PyProof.Rows.callWith_type1 (thn (ha pos pins s σ H _ I h) fun us s1 ⟨vs, H1, I1, r1, q1⟩ => ?_) (by rw [hs, hs2]) (by rw [hs2]; rfl)))
  obtain ⟨a, b, e, ⟨xs, hq⟩, ⟨ys, hq'⟩, q⟩ := q1
  subst e
  obtain ⟨u, u', rfl, rx, rx'⟩ := t3.two r1
  cases rx
  cases rx'
  obtain ⟨its, rv, p, hz⟩ := I1.list hq
  obtain ⟨its', rv', p', hz'⟩ := I1.list hq'
  have a1 : a < s1.heap.objs.size := by obtain ⟨_, e, _⟩ := p.isList; exact Heap.lt_size e
  have a2 : b < s1.heap.objs.size := by obtain ⟨_, e, _⟩ := p'.isList; exact Heap.lt_size e
  refine call_zip_2 p.isList p'.isList fun h' hz hTI hTO hi1 hi2 hsz kk => ?_
  refine wpAny_pyIter_zip hz ?_
  have I2 : Inv X pins σ H1 { s1 with heap := h' } := I1.kept (t' := s1.toks) kk
  refine ⟨_, _, _, _, H1, rfl, I2, aS7 a b _ _ _ _ _ (zipApart_new a1 a2), ⟨hz, hTI, ⟨_, _, hTO⟩, hi1, hi2⟩, fun c hb => ?_, q⟩
  have hb' : s1.heap.objs.size ≤ c := by
    rcases (by simpa using hb : c = s1.heap.objs.size + 4 ∨ c = s1.heap.objs.size + 2 ∨ c = s1.heap.objs.size + 3 ∨ c = s1.heap.objs.size ∨ c = s1.heap.objs.size + 1) with e | e | e | e | e <;> rw [e]
    · exact Nat.le_add_right _ _
    · exact Nat.le_add_right _ _
    · exact Nat.le_add_right _ _
    · exact Nat.le_refl _
    · exact Nat.le_add_right _ _
  obtain ⟨f0, f1, f2, f3, f4, f5⟩ := I1.fpOk (H' := H1) hb' (I1.hok.fresh hb')
  exact ⟨f0, f1, f2, f3, f4, f5⟩
end
section
variable {prog : Program} {w : World} {A : Around} {E : Value → Shared → Prop} {s : Shared}
theorem aC0 {id : String} {b : Builtin} {args : List Value} {kw : List (Str × Value)} {Q : Value → Shared → Prop} (hk : builtinKind id = none) (hp : plainId id = true)
    (hb : entryFor table id = some b) (ha : argsOk id ⟨args, kw⟩)
    (hc : wpAny (model prog w) A.in1 (b ⟨args, kw⟩) (fun fin s' => match fin with
      | .done f => (match (Except.ok f : Result) with | .ok (.ret v) => Q v s' | .ok _ => False | .error e => E e s')
      | .again c' => c'.quiet = true ∧ codeAny (model prog w) A c' (fun r s' => match r with | .ok (.ret v) => Q v s' | .ok _ => False | .error e => E e s') s') E s) :
    wpAny (model prog w) A (call (.builtin id) args kw) Q E s := by
  refine wpAny_call (codeAny_call_builtin hp hb ?_)
  simp only [checkBuiltinCall, hk]
  cases hsig : Manifest.signature? id with
  | none => exact wpAny_pure hc
  | some sig =>
    have ha' : Bind.checkArgs id sig ⟨args, kw⟩ = pure () := by simpa only [argsOk, hsig] using ha
    simp only [ha']
    exact wpAny_pure hc
variable {R : Result → Shared → Prop} {I : Addr} {fp wr : List Addr} {n : Nat} {P : Nat → Value → Prop} {St : Nat → Heap → Prop}
end
end L2
set_option maxRecDepth 100000
namespace R
open PySem L2 PyProof.Rows
structure BdN (k : Nat) (q : Rat) : Prop where
  n : q.num.natAbs < 2 ^ k
  d : q.den < 2 ^ k
theorem BdN.mono {m n : Nat} {q : Rat} (h : BdN m q) (l : m ≤ n) : BdN n q := ⟨Nat.lt_of_lt_of_le h.n (i5 l), Nat.lt_of_lt_of_le h.d (i5 l)⟩
theorem Sm.bdN {q : Rat} (s : Sm q) : BdN 40 q := ⟨Nat.lt_of_le_of_lt s.n (by decide), Nat.lt_of_le_of_lt s.d (by decide)⟩
structure SmW (q : Rat) : Prop where
  n : q.num.natAbs < 2 ^ 42
  d : q.den < 2 ^ 40
def aa6 : List Rat → List Rat → List Rat
  | [], q => q
  | x :: p, [] => x :: p
  | x :: p, y :: q => (x + y) :: aa6 p q
theorem as7 : ∀ p q : List Rat, (aa6 p q).length = max p.length q.length
  | [], q => by simp [aa6]
  | x :: p, [] => by simp [aa6]
  | x :: p, y :: q => by simp only [aa6, List.length_cons, as7 p q]; omega
theorem as8 : ∀ (p q : List Rat) (i : Nat), i < max p.length q.length → (aa6 p q)[i]? = some ((p[i]?).getD 0 + (q[i]?).getD 0)
  | [], q, i, h => by
    have : i < q.length := by simpa using h
    simp only [aa6, List.getElem?_nil, Option.getD_none, List.getElem?_eq_getElem this, Option.getD_some]
    congr 1; grind
  | x :: p, [], i, h => by
    have : i < (x :: p).length := by simpa using h
    simp only [aa6, List.getElem?_nil, Option.getD_none, List.getElem?_eq_getElem this, Option.getD_some]
    congr 1; grind
  | x :: p, y :: q, 0, h => rfl
  | x :: p, y :: q, i + 1, h => by
    simp only [aa6, List.getElem?_cons_succ]
    exact as8 p q i (by simp only [List.length_cons] at h; omega)
section
variable {α β : Type}
def Y0 [Add α] : List α → Nat → α → List α
  | [], _, _ => []
  | y :: r, 0, x => (y + x) :: r
  | y :: r, k + 1, x => y :: Y0 r k x
theorem ax7 [Add α] : ∀ (f : List α) (k : Nat) (x : α), (Y0 f k x).length = f.length
  | [], _, _ => rfl
  | _ :: _, 0, _ => rfl
  | _ :: r, k + 1, x => by simp [Y0, ax7 r k x]
theorem ax5 [Add α] : ∀ (f : List α) (k : Nat) (x y : α), f[k]? = some y → f.set k (y + x) = Y0 f k x
  | [], _, _, _, h => by simp at h
  | z :: r, 0, x, y, h => by cases h; rfl
  | z :: r, k + 1, x, y, h => by
    rw [List.set_cons_succ, Y0, ax5 r k x y (by simpa using h)]
theorem am1 [Add α] : ∀ (f : List α) (k i : Nat) (x : α), i ≠ k → (Y0 f k x)[i]? = f[i]?
  | [], _, _, _, _ => rfl
  | _ :: _, 0, 0, _, h => absurd rfl h
  | _ :: _, 0, i + 1, _, _ => rfl
  | _ :: _, k + 1, 0, _, _ => rfl
  | _ :: r, k + 1, i + 1, x, h => by
    simp only [Y0, List.getElem?_cons_succ]; exact am1 r k i x (by omega)
theorem as9 [Add α] : ∀ (f : List α) (k : Nat) (x y : α), f[k]? = some y → (Y0 f k x)[k]? = some (y + x)
  | [], _, _, _, h => by simp at h
  | z :: r, 0, x, y, h => by cases h; rfl
  | z :: r, k + 1, x, y, h => by simp only [Y0, List.getElem?_cons_succ]; exact as9 r k x y (by simpa using h)
def M4 [Add α] [Mul α] (z : α) (f : List α) (i : Nat) (x : α) (q : List α) : Nat → List α
  | 0 => f
  | j + 1 => Y0 (M4 z f i x q j) (i + j) (x * (q[j]?).getD z)
def J2 [Add α] [Mul α] (z : α) (f p q : List α) : Nat → List α
  | 0 => f
  | i + 1 => M4 z (J2 z f p q i) i ((p[i]?).getD z) q q.length
theorem ak1 [Add α] [Mul α] (z : α) (f : List α) (i : Nat) (x : α) (q : List α) : ∀ j, (M4 z f i x q j).length = f.length
  | 0 => rfl
  | j + 1 => by rw [M4, ax7, ak1 z f i x q j]
theorem aj3 [Add α] [Mul α] (z : α) (f p q : List α) : ∀ n, (J2 z f p q n).length = f.length
  | 0 => rfl
  | n + 1 => by rw [J2, ak1, aj3 z f p q n]
end
def M3 (p q : List Rat) : List Rat := if p = [] ∨ q = [] then [] else J2 0 (List.replicate (p.length + q.length - 1) 0) p q p.length
def scl (s : Rat) (ws : List Int) : List Rat := ws.map fun w : Int => s * (w : Rat)
theorem ah8 {p q : List Rat} (hp : p ≠ []) (hq : q ≠ []) : (M3 p q).length = p.length + q.length - 1 := by
  unfold M3
  rw [if_neg (by simp [hp, hq]), aj3, List.length_replicate]
def i9 (qs : List Rat) : Nat := qs.foldl (fun b q => Nat.lcm b q.den) 1
theorem aQ6 (qs : List Rat) (q : Rat) : i9 (qs ++ [q]) = Nat.lcm (i9 qs) q.den := by simp [i9]
theorem al5 : ∀ (qs : List Rat) (b m : Nat), b ∣ m → (∀ q ∈ qs, q.den ∣ m) → qs.foldl (fun b q => Nat.lcm b q.den) b ∣ m
  | [], _, _, h, _ => h
  | q :: qs, b, m, h, k => al5 qs _ m (Nat.lcm_dvd h (k q List.mem_cons_self)) fun r hr => k r (List.mem_cons_of_mem _ hr)
theorem ar4 {qs : List Rat} {m : Nat} (h : ∀ q ∈ qs, q.den ∣ m) : i9 qs ∣ m := al5 qs 1 m (Nat.one_dvd _) h
theorem ai1 : ∀ (qs : List Rat) (b : Nat), b ∣ qs.foldl (fun b q => Nat.lcm b q.den) b
  | [], _ => Nat.dvd_refl _
  | q :: qs, b => Nat.dvd_trans (Nat.dvd_lcm_left _ _) (ai1 qs _)
theorem al3 : ∀ (qs : List Rat) (b : Nat) (q : Rat), q ∈ qs → q.den ∣ qs.foldl (fun b q => Nat.lcm b q.den) b
  | r :: qs, b, q, h => by
    rcases List.mem_cons.mp h with e | e
    · subst e; exact Nat.dvd_trans (Nat.dvd_lcm_right _ _) (ai1 qs _)
    · exact al3 qs _ q e
theorem K8 {qs : List Rat} {q : Rat} (h : q ∈ qs) : q.den ∣ i9 qs := al3 qs 1 q h
def G0 (ws : List Int) : Nat := ws.foldl (fun c w => Int.gcd w c) 0
theorem aR1 (ws : List Int) (w : Int) : G0 (ws ++ [w]) = Int.gcd w (G0 ws) := by simp [G0]
theorem al7 : ∀ (ws : List Int) (c : Nat), (ws.foldl (fun c w => Int.gcd w c) c ∣ c) ∧ ∀ w ∈ ws, ((ws.foldl (fun c w => Int.gcd w c) c : Nat) : Int) ∣ w
  | [], c => ⟨Nat.dvd_refl _, by simp⟩
  | w :: ws, c => by
    obtain ⟨h1, h2⟩ := al7 ws (Int.gcd w c)
    have a1 : Int.gcd w c ∣ c := by have := Int.gcd_dvd_right w (c : Int); exact Int.natCast_dvd_natCast.mp this
    refine ⟨Nat.dvd_trans h1 a1, fun v hv => ?_⟩
    rcases List.mem_cons.mp hv with e | e
    · subst e
      exact Int.dvd_trans (Int.natCast_dvd_natCast.mpr h1) (Int.gcd_dvd_left v (c : Int))
    · exact h2 v e
theorem T2 {ws : List Int} {w : Int} (h : w ∈ ws) : ((G0 ws : Nat) : Int) ∣ w := (al7 ws 0).2 w h
theorem al6 : ∀ (ws : List Int), ws.foldl (fun c w => Int.gcd w c) 1 = 1
  | [] => rfl
  | w :: ws => by
    rw [List.foldl_cons]
    have : Int.gcd w ((1 : Nat) : Int) = 1 := by simp
    rw [this, al6 ws]
theorem aX6 {ws : List Int} (i : Nat) (h : G0 (ws.take i) = 1) : G0 ws = 1 := by
  have e : ws = ws.take i ++ ws.drop i := (List.take_append_drop i ws).symm
  rw [e]
  unfold G0 at h ⊢
  rw [List.foldl_append, h, al6]
def j1 (B : Nat) (qs : List Rat) : List Int := qs.map fun q => q.num * (B : Int).fdiv (q.den : Int)
theorem ao7 {B : Nat} {q : Rat} (hB : 0 < B) (h : q.den ∣ B) : q = Rat.divInt (q.num * (B : Int).fdiv (q.den : Int)) B := by
  obtain ⟨e, he⟩ := h
  have hd : (q.den : Int) ≠ 0 := by have := q.den_nz; omega
  have e1 : (B : Int).fdiv (q.den : Int) = (e : Int) := by
    rw [he, Int.natCast_mul]; exact o8 hd
  rw [e1]
  conv => lhs; rw [← Rat.num_divInt_den q]
  rw [Rat.divInt_eq_divInt_iff hd (by omega), he, Int.natCast_mul]
  grind
end R
namespace L2
open PySem PySem.Spec PyProof.Rows
section
variable {K : PySem.W.Frag} {a b D : Addr} {xs ys : List V} {g : TG} {te : TE} {σ0 : St} {H0 : Hp} {Q : VK}
theorem aY6 (xs ys : List V) (Pv : Nat → St → Hp → Prop) (h0 : Pv 0 σ0 H0) (hl : ∀ i σ H, Pv i σ H → SqL K H a xs ∧ SqL K H b ys)
    (hs : ∀ i x y σ H p, xs[i]? = some x → ys[i]? = some y → Pv i σ H → H p = none → g (.ref p) σ (upd H p (.tup [x, y])) fun σ4 H4 => te σ4 H4 fun v H5 => G6 D (min xs.length ys.length) Pv i σ4 v H5)
    (hd : ∀ σ H, Pv (min xs.length ys.length) σ H → Q (.ref D) H) : at5 (Itz K a b) D σ0 H0 g te Q := by
  refine ⟨fun i m σ H => m = min xs.length ys.length - i ∧ i ≤ min xs.length ys.length ∧ Pv i σ H, ⟨_, rfl, Nat.zero_le _, h0⟩, ?_⟩
  rintro i m σ H ⟨rfl, hi, p⟩
  obtain ⟨q, q'⟩ := hl i σ H p
  by_cases hlt : i < min xs.length ys.length
  · have h1 : i < xs.length := by omega
    have h2 : i < ys.length := by omega
    refine .inr ⟨⟨xs, ys, xs[i], ys[i], q, q', List.getElem?_eq_getElem h1, List.getElem?_eq_getElem h2⟩, ?_⟩
    intro v H3 hy
    obtain ⟨x, y, r, e1, e2, hr, rfl, rfl⟩ := hy xs ys q q'
    exact hs i x y σ _ r e1 e2 p hr
  · have e : i = min xs.length ys.length := by omega
    subst e
    exact .inl ⟨⟨xs, ys, q, q', by omega⟩, hd σ H p⟩
theorem bd9 (xs : List V) (Pv : Nat → St → Hp → Prop) (h0 : Pv 0 σ0 H0) (hl : ∀ i σ H, Pv i σ H → SqL K H a xs)
    (hs : ∀ i x σ H p, xs[i]? = some x → Pv i σ H → H p = none → g (.ref p) σ (upd H p (.tup [.int i, x])) fun σ4 H4 => te σ4 H4 fun v H5 => G6 D xs.length Pv i σ4 v H5)
    (hd : ∀ σ H, Pv xs.length σ H → Q (.ref D) H) : at5 (Ite K a) D σ0 H0 g te Q := by
  refine ⟨fun i m σ H => m = xs.length - i ∧ i ≤ xs.length ∧ Pv i σ H, ⟨_, rfl, Nat.zero_le _, h0⟩, ?_⟩
  rintro i m σ H ⟨rfl, hi, p⟩
  have q := hl i σ H p
  by_cases hlt : i < xs.length
  · refine .inr ⟨⟨xs, xs[i], q, List.getElem?_eq_getElem hlt⟩, ?_⟩
    intro x H3 hy
    obtain ⟨y, r, hy1, hr, rfl, rfl⟩ := hy xs q
    exact hs i y σ _ r hy1 p hr
  · have e : i = xs.length := by omega
    subst e
    exact .inl ⟨⟨xs, q, Nat.le_refl _⟩, hd σ H p⟩
theorem aF1 {tb : TS} {E : ag1} {σ : St} {H : Hp} (xs : List V) (Pv : Nat → St → Hp → Prop) (h0 : Pv 0 σ H) (hl : ∀ i σ H, Pv i σ H → SqL K H a xs)
    (hs : ∀ i x σ H p, xs[i]? = some x → Pv i σ H → H p = none → g (.ref p) σ (upd H p (.tup [.int i, x])) fun σ2 H2 => tb { E with nx := Pv (i + 1), ct := Pv (i + 1), bk := E.nx } σ2 H2) (hd : ∀ σ H, Pv xs.length σ H → E.nx σ H) :
    ∃ W : Nat → Nat → St → Hp → Prop, (∃ m, W 0 m σ H) ∧ ∀ i m σ H, W i m σ H →
      ((Ite K a).stop i H ∧ E.nx σ H) ∨ ((Ite K a).go i H ∧ ∃ N : St → Hp → Prop, (∀ σ' H', N σ' H' → ∃ m', m' < m ∧ W (i + 1) m' σ' H') ∧ ∀ x H', (Ite K a).yld i H x H' → g x σ H' fun σ2 H2 => tb { E with nx := N, ct := N, bk := E.nx } σ2 H2) := by
  refine ⟨fun i m σ H => m = xs.length - i ∧ i ≤ xs.length ∧ Pv i σ H, ⟨_, rfl, Nat.zero_le _, h0⟩, ?_⟩
  rintro i m σ H ⟨rfl, hi, p⟩
  have q := hl i σ H p
  by_cases hlt : i < xs.length
  · refine .inr ⟨⟨xs, xs[i], q, List.getElem?_eq_getElem hlt⟩, Pv (i + 1), fun σ' H' n => ⟨_, by omega, rfl, hlt, n⟩, ?_⟩
    intro x H3 hy
    obtain ⟨y, r, hy1, hr, rfl, rfl⟩ := hy xs q
    exact hs i y σ _ r hy1 p hr
  · have e : i = xs.length := by omega
    subst e
    exact .inl ⟨⟨xs, q, Nat.le_refl _⟩, hd σ H p⟩
end
theorem aQ1 {h : Heap} {a : Addr} {m : Str → Option Value} {o : Obj} (n : h.Ns a m) (e : h.get? a = some o) (v : Option Value) (z : o.data = .cell v) : False := by
  obtain ⟨o', es, ep, e', r⟩ := n
  rw [e] at e'
  cases e'
  have d := r.1
  rw [d] at z; cases z
section
variable {X : Cx}
theorem Z7 {elt tg iter : Expr} {scope : Scope} {pos spos py : Pos} {y : Str} {i₀ : Nat} {cl : List (Str × Addr)} {Nc : List Str} {caps : List (Option Nat)} {wi : TI} {g : TG} {te : TE} (hN : X.N.Nodup) (hi₀ : X.N[i₀]? = some y) (hx : Loc X.env.scope y) (hc : X.calm = true) (cp : aa8 X scope cl Nc caps) (hi : PI X tg iter wi)
    (hg : ∀ C s₂ H₂ fp pins, PG (X.block scope cl C Nc s₂ H₂ fp pins) tg g) (he : ∀ C s₂ H₂ fp pins, PE (X.block scope cl C Nc s₂ H₂ fp pins) elt te) (hs : ∀ x, foldedSetIterable iter X.env x = pure x := by intro _; rfl) (hsw : swapsWith (.ListComp elt [⟨tg, iter, [], 0⟩] scope pos) (some (.Name y py)) spos.line X.env = pure true := by rfl)
    (hf : X.fn y = true ∨ X.env.scope.names.lookup y = some .local := by first | exact .inl rfl | exact .inr rfl | assumption) :
    PS X (.Assign [.Name y py] (.ListComp elt [⟨tg, iter, [], 0⟩] scope pos) spos) (aT2 (aL2 wi caps g te) (D3 i₀)) := by
  intro pins s σ H DD I h
  rw [exec_Assign_Name_used _ _ _ _ hsw]
  refine wpAny_bind (wpAny_standAt (wpAny_bind ?_))
  show wpAny _ X.A (do let _ ← comprehension (.ListComp elt [⟨tg, iter, [], 0⟩] scope pos) scope X.env _ (newList []) false (eval iter X.env) (some (assign (.Name y py) X.env))) _ _ s
  refine wpAny_bind (wpAny_mono (wpAny_comprehension_free (use := some (assign (.Name y py) X.env)) (Q := fun _ s' => SP X pins DD .next s') rfl hs cp.clos cp.kind cp.names ?_) (fun _ s' hq => wpAny_pure (wpAny_pure hq)) fun _ _ e => e)
  refine thn (hi pins s σ H _ I h) fun v s1 h1 => thn h1 fun itv s2 h2 => ?_
  obtain ⟨it, fp, tn, J, H2, e, I2, T, st2, f2, hW⟩ := h2
  subst e
  refine wpAny_newObj_type ?_ (by show 0 ≤ sizeLine; exact Nat.zero_le _)
  refine wpAny_newFunctionEnv cp.nocell (by intro y hy; simp at hy) (fun h4 hns hsb => ?_) cp.kind
  dsimp only at hns hsb ⊢
  generalize hH3 : s2.heap.push { cls := .type "list", dict := none, data := .seq ([] : List Value).toArray } = H3 at hns hsb ⊢
  have hCe : H3.objs.size = s2.heap.objs.size + 1 := by rw [← hH3, Heap.size_push]
  have ab2 : ∀ b o, s2.heap.get? b = some o → b ≠ H3.objs.size := fun b o e => by rw [hCe]; exact Nat.ne_of_lt (Nat.lt_succ_of_lt (Heap.lt_size e))
  have old : ∀ b o, s2.heap.get? b = some o → h4.get? b = some o := fun b o e => hsb.extBut b o (ab2 b o e) (Heap.get?_push_of_some _ (hH3 ▸ Heap.get?_push_of_some _ e))
  have hD : h4.get? s2.heap.objs.size = some { cls := .type "list", dict := none, data := .seq ([] : List Value).toArray } :=
    hsb.extBut _ _ (by rw [hCe]; exact Nat.ne_of_lt (Nat.lt_succ_self _)) (Heap.get?_push_of_some _ (hH3 ▸ Heap.get?_push_size _ rfl))
  have hDn : H2 s2.heap.objs.size = none := I2.fresh
  have hCn : H2 H3.objs.size = none := I2.hok.fresh (by rw [hCe]; exact Nat.le_succ _)
  have hCs : s2.heap.objs.size ≤ H3.objs.size := by rw [hCe]; exact Nat.le_succ _
  have hDC : s2.heap.objs.size ≠ H3.objs.size := by rw [hCe]; exact Nat.ne_of_lt (Nat.lt_succ_self _)
  have fpl : ∀ b ∈ fp, ∃ o, s2.heap.get? b = some o := fun b hb => let ⟨o, e, _⟩ := T.obj _ _ st2 b hb; ⟨o, e⟩
  have fpC : ∀ b ∈ fp, b ≠ H3.objs.size := fun b hb => let ⟨o, e⟩ := fpl b hb; ab2 b o e
  have fpD : ∀ b ∈ fp, b ≠ s2.heap.objs.size := fun b hb => let ⟨o, e⟩ := fpl b hb; Nat.ne_of_lt (Heap.lt_size e)
  have stkN : ∀ b, b ≠ X.env.locals → b ∉ X.fs → b ∉ frs X.stack := fun b h1 h2 z => (List.mem_cons.mp (I2.stkSub b z)).elim h1 h2
  obtain ⟨W, ⟨m0, w0⟩, turn⟩ := hW s2.heap.objs.size hDn
  have okB : (X.block scope cl H3.objs.size Nc s2 H2 fp pins).Ok := by
    refine ⟨I2.ok.mod, ?_, I2.ok.glob, I2.ok.blt, hCs, fun x y c h1 h2 => I2.ok.inj x y c (cp.sub x c h1) (cp.sub y c h2), fun x hx => cp.has x hx, fun x c h => (by cases h), I2.ok.hd, I2.ok.frames, .inl rfl, fun b hb => ⟨fpC b hb, fun x c h => (f2 b hb).2.2.2.2.1 x c (cp.sub x c h)⟩, I2.bs, Nat.le_trans I2.ok.bsz I2.sz, fun b o e hb => ?_, fun b hb => stkN b (f2 b hb).2.1 (f2 b hb).2.2.1, I2.stack, I2.stkFree⟩
    · exact cp.kind
    · rcases (f2 b hb).2.2.2.1 with z | z
      · exact I2.ok.noex b o e z
      · exact absurd (Nat.lt_of_lt_of_le (Heap.lt_size e) (Nat.le_trans I2.ok.bsz z)) (Nat.lt_irrefl _)
  have hokB : HOk X.prog X.w (upd H2 s2.heap.objs.size (.lst [])) h4 := I2.hok.laid old (Nat.le_refl _) ⟨Nat.zero_le _, [], _, .nil, hD⟩
  have IB : Inv (X.block scope cl H3.objs.size Nc s2 H2 fp pins) [] (O8 caps σ) (upd H2 s2.heap.objs.size (.lst [])) { s2 with heap := h4, toks := s2.toks + ([] : List (Str × Value)).length } := by
    refine ⟨okB, rfl, I2.bare, Un.laid old (Nat.le_refl _) hDn, ⟨_, hns, fun i x v e1 e2 e3 => ?_⟩, fun x c e => ?_, (show upd H2 s2.heap.objs.size (.lst []) H3.objs.size = none by rw [j5 (Ne.symm hDC)]; exact hCn), fun x c e => ?_, fun p hp => ?_, hokB, ?_⟩
    · unfold O8 at e2
      rw [List.getElem?_map] at e2
      cases hcap : caps[i]? with
      | none => rw [hcap] at e2; cases e2
      | some o =>
        rw [hcap] at e2
        cases o with
        | none => cases e2
        | some j =>
          have hj : σ[j]? = some (some v) := by
            have e2' : (σ[j]?).join = some v := Option.some.inj e2
            cases q : σ[j]? with
            | none => rw [q] at e2'; cases e2'
            | some z => rw [q] at e2'; exact congrArg some e2'
          obtain ⟨n1, n2, n3, n4⟩ := cp.cap i j x hcap e1
          obtain ⟨m, hm, hl⟩ := I2.loc
          obtain ⟨u, r, q⟩ := hl j x v n1 hj n2
          rcases q with ⟨k, _⟩ | ⟨k, c, ec, z⟩
          · exact absurd k n3
          · obtain ⟨c', ec'⟩ := cp.has x n4
            have := cp.sub x c' ec'
            rw [ec] at this; cases this
            obtain ⟨oc, ho, hd⟩ := z
            exact ⟨u, r, .inr ⟨n4, c, ec', oc, old _ _ ho, hd⟩⟩
    · obtain ⟨v, oc, ho, hd⟩ := I2.cell x c (cp.sub x c e)
      exact ⟨v, oc, old _ _ ho, hd⟩
    · obtain ⟨v, oc, ho, hd⟩ := I2.cell x c (cp.sub x c e)
      rw [j5 (Nat.ne_of_lt (Heap.lt_size ho))]
      exact I2.freeC x c (cp.sub x c e)
    · have hp' : p ∈ X.pn ++ pins := by simpa using hp
      obtain ⟨e1, e2, e3, e4, e5⟩ := I2.pin p hp'
      exact ⟨old _ _ e1, by rw [j5 (Nat.ne_of_lt (Heap.lt_size e1))]; exact e2, ab2 _ _ e1, stkN _ e3 e4, e5⟩
    · show (O8 caps σ).length = Nc.length
      unfold O8
      rw [List.length_map]; exact cp.len
  have stat : ∀ {H' : Hp}, (∀ b ∈ fp, H' b = none) → ∀ b ∈ fp, ak8 (X.block scope cl H3.objs.size Nc s2 H2 fp pins) [] H' b := fun hn b hb =>
    ⟨hn b hb, fpC b hb, stkN b (f2 b hb).2.1 (f2 b hb).2.2.1, .inl hb, fun x c h => (f2 b hb).2.2.2.2.1 x c (cp.sub x c h), fun p hp => (f2 b hb).2.2.2.2.2 p (by simpa using hp)⟩
  have loop : ∀ s5 : Shared, s5 = { s2 with heap := h4, toks := s2.toks + ([] : List (Str × Value)).length } →
      codeAny (model X.prog X.w) X.A (.compLoop (.ListComp elt [⟨tg, iter, [], 0⟩] scope pos) 0 (.ref it) (.ref s2.heap.objs.size) (compEnvC scope cl H3.objs.size X.env))
        (compPost (model X.prog X.w) X.A X.xe (some (assign (.Name y py) X.env)) (fun _ s' => SP X pins DD .next s') (.ref s2.heap.objs.size) H3.objs.size) s5 := by
    rintro s5 rfl
    refine ak4 (fun n s' => ∃ i σ' H', Inv (X.block scope cl H3.objs.size Nc s2 H2 fp pins) [] σ' H' s' ∧ tn i s'.heap ∧ (∀ b ∈ fp, H' b = none) ∧ W i n σ' H') ?_ m0 ⟨0, _, _, IB, T.keep _ _ _ st2 fun b hb o e => old b o e, fun b hb => by rw [j5 (fpD b hb)]; exact (f2 b hb).1, w0⟩
    rintro n s6 ⟨i, σ6, H6, I6, st6, fr6, w6⟩
    rcases turn i n σ6 H6 w6 with ⟨stop, qn⟩ | ⟨go, step⟩
    · refine thn (T.done (X.block scope cl H3.objs.size Nc s2 H2 fp pins) rfl rfl rfl hc i [] s6 σ6 H6 _ I6 (stat fr6) st6 stop) fun r s7 ⟨hr, I7⟩ => ?_
      subst hr
      obtain ⟨m7, hn7, _⟩ := id I7.loc
      have Io : Inv X pins σ H6 s7 := I2.sameC (h'' := s7.heap) f2 I7.os I7.bare I7.base I7.hok hCs I7.free ⟨rfl, fun _ _ => rfl⟩
      have fC : ak8 X pins H6 H3.objs.size := I2.fpOk hCs I7.free
      have fC' : ∀ b ∈ [H3.objs.size], ak8 X pins H6 b := fun b hb => by rw [List.mem_singleton.mp hb]; exact fC
      obtain ⟨oC, esC, epC, hoC, restC⟩ := id hn7
      have obC : ∀ b ∈ [H3.objs.size], ∃ o, s7.heap.get? b = some o ∧ ∀ v, o.data ≠ .cell v := fun b hb => by
        rw [List.mem_singleton.mp hb]
        exact ⟨oC, hoC, fun v z => aQ1 hn7 hoC v z⟩
      have Ip := Io.pinned fC' obC
      show wpAny (model X.prog X.w) X.A (assign (.Name y py) X.env (.ref s2.heap.objs.size)) _ _ s7
      refine thn (i7 (pos := py) hN hi₀ hx hf _ s7 σ H6 (.ref s2.heap.objs.size) (.ref s2.heap.objs.size) DD.nx Ip rfl qn) fun _ s9 ⟨σ9, H9, I9, q9⟩ => ?_
      have keepC := (I9.pin (H3.objs.size, oC) (List.mem_append_right _ (List.mem_append_right _ (F8 (by simp) hoC)))).1
      have H9C := (I9.pin (H3.objs.size, oC) (List.mem_append_right _ (List.mem_append_right _ (F8 (by simp) hoC)))).2.1
      refine ⟨m7, hn7.at' fun o e => by rw [hoC] at e; cases e; exact keepC, fun h' sb => ?_⟩
      obtain ⟨_, g1, g2, g3, g4, g5⟩ := fC
      exact ⟨σ9, H9, I9.unpinned.turned (t' := s9.toks) (fun b o hb e => (sb.2 b hb).trans e) H9C g1 g3 g4 g5, q9⟩
    · refine thn (T.item (X.block scope cl H3.objs.size Nc s2 H2 fp pins) rfl rfl rfl hc i [] s6 σ6 H6 _ I6 (stat fr6) st6 go) fun r s7 ⟨u, hr, h7⟩ => ?_
      subst hr
      refine thn h7 fun _ s8 ⟨x, H8, I8, r8, y8, st8, fr8⟩ => ?_
      have I8' := I8.pinned (stat fr8) (T.obj _ _ st8)
      refine thn (hg _ _ _ _ _ _ s8 σ6 H8 x u _ I8' r8 (step x H8 y8)) fun _ s9 ⟨σ9, H9, I9, q9⟩ => ?_
      refine thn (he _ _ _ _ _ _ s9 σ9 H9 _ I9 q9) fun u10 s10 ⟨v10, H10, I10, r10, ys, hys, hlen, m', hm', w'⟩ => ?_
      refine thn (S7 _ s10 σ9 H10 (.ref s2.heap.objs.size) [v10] (.ref s2.heap.objs.size) [u10] (fun _ H11 => H11 = upd H10 s2.heap.objs.size (.lst (ys ++ [v10]))) I10 rfl (.cons r10 .nil) ⟨_, ys, v10, rfl, rfl, hys, hlen, rfl⟩) fun _ s11 ⟨_, H11, I11, _, hH11⟩ => ?_
      subst hH11
      refine ⟨m', hm', i + 1, σ9, _, I11.unpinned, T.keep _ _ _ st8 fun b hb o e => (I11.pin (b, o) (List.mem_append_right _ (List.mem_append_right _ (F8 hb e)))).1, fun b hb => ?_, w'⟩
      obtain ⟨o, e, d⟩ := T.obj _ _ st8 b hb
      exact (I11.pin (b, o) (List.mem_append_right _ (List.mem_append_right _ (F8 hb e)))).2.1
  exact codeAny_compStart_list (loop _ rfl) (T.self _ 0 _ _ _ (T.keep _ _ _ st2 fun b hb o e => old b o e) (loop _ rfl))
end
def Itv (K : PySem.W.Frag) (a : Addr) (n : Nat) : It :=
  ⟨fun i H => i < n ∧ ∃ xs x, SqL K H a xs ∧ xs[n - 1 - i]? = some x, fun i H x H' => H' = H ∧ ∀ xs, SqL K H a xs → xs[n - 1 - i]? = some x, fun i H => i = n⟩
theorem aS8 {P : Program} {w : World} {K : PySem.W.Frag} {tg : Expr} (a it : Addr) (n : Nat) : aK7 P w K tg (Itv K a n) [it] it (fun i h => h.IsRevIter it a ((n : Int) - 1 - (i : Int))) where
  mem := by simp
  obj := fun i h st b hb => by
    have e : b = it := by simpa using hb
    subst e
    obtain ⟨o, e, c, d⟩ := st
    exact ⟨o, e, fun v z => by rw [d] at z; cases z⟩
  keep := fun i h h' st k => st.at fun o e => k it (by simp) o e
  item := by
    intro X hP hw hK hc i pins s σ H E I hf st hg
    subst hP hw hK
    obtain ⟨hi, xs, x, hq, hx⟩ := hg
    obtain ⟨its, rv, p, hz⟩ := I.list hq
    obtain ⟨u, hu, ru⟩ := rv.get hx
    obtain ⟨f0, f1, f2, f3, f4, f5⟩ := hf it (by simp)
    have e : (n : Int) - 1 - (i : Int) = ((n - 1 - i : Nat) : Int) := by omega
    rw [e] at st
    refine wpAny_pyNext_rev_item st p.isList (x := u) (by simpa using hu) fun h' st' sb => ?_
    have I1 : Inv X pins σ H { s with heap := h' } := I.turned (t' := s.toks) (fun b o hb e => (sb.2 b hb).trans e) f0 f1 f3 f4 f5
    have e2 : ((n - 1 - i : Nat) : Int) - 1 = (n : Int) - 1 - ((i + 1 : Nat) : Int) := by omega
    rw [e2] at st'
    obtain ⟨o, e, c, d⟩ := id st'
    exact ⟨u, rfl, aX5 (s := { s with heap := h' }) e c d (by decide) ⟨x, H, I1, ru, ⟨rfl, fun ys hy => by rw [I.list_inj hy hq]; exact hx⟩, st', fun b hb => (hf b hb).1⟩⟩
  done := by
    intro X hP hw hK hc i pins s σ H E I hf st hg
    subst hP hw hK
    have e : i = n := hg
    subst e
    have e : (i : Int) - 1 - (i : Int) = -1 := by omega
    rw [e] at st
    obtain ⟨f0, f1, f2, f3, f4, f5⟩ := hf it (by simp)
    exact wpAny_pyNext_rev_end (I.ok.hd hc) st fun h' eb => ⟨rfl, I.turned (t' := s.toks) (fun b o hb e => eb b o hb e) f0 f1 f3 f4 f5⟩
  self := fun _ _ _ _ _ st h => wpAny_pyIter_revIter st h
section
variable {X : Cx}
def bl3 (K : PySem.W.Frag) (ta : TA) : TI := fun σ H R => ta σ H fun vs H1 => ∃ a xs, vs = [.ref a] ∧ SqL K H1 a xs ∧ R (Itv K a xs.length) H1
theorem aV5 {tg l : Expr} {ta : TA} {p pos : Pos} (hg : Gl X "reversed") (hm : X.mg "reversed" = none) (ha : PA X [l] ta) (hs : starEach [l] X.env = [(false, eval l X.env)] := by rfl) :
    PI X tg (.Call (.Name "reversed" p) [l] [] pos) (bl3 X.K ta) := by
  intro pins s σ H R I h
  refine Call_ (aa1 I hg hm (u := .type "reversed") (by decide +kernel) (PyProof.Rows.callWith_type1 (thn (ha pos pins s σ H _ I h) fun us s1 ⟨vs, H1, I1, r1, q1⟩ => ?_) hs rfl))
  obtain ⟨a, xs, e, hq, q⟩ := q1
  subst e
  obtain ⟨u, rfl, rx⟩ := ab3 r1
  cases rx
  obtain ⟨its, rv, p, hz⟩ := I1.list hq
  refine call_reversed_list p.isList ?_
  have hl := rv.length
  have e : ((its.toArray.size : Nat) : Int) - 1 = (xs.length : Int) - 1 - ((0 : Nat) : Int) := by simp; omega
  rw [e]
  have I2 : Inv X pins σ H1 { s1 with heap := s1.heap.push (revObj a ((xs.length : Int) - 1 - ((0 : Nat) : Int))) } := I1.kept (t' := s1.toks) fun b o e => Heap.get?_push_of_some _ e
  refine wpAny_pyIter_revIter (it := s1.heap.objs.size) (l := a) (i := (xs.length : Int) - 1 - ((0 : Nat) : Int)) ⟨_, Heap.get?_push_size _ rfl, rfl, rfl⟩ ?_
  refine ⟨s1.heap.objs.size, [s1.heap.objs.size], _, _, H1, rfl, I2, aS8 a _ xs.length, ⟨_, Heap.get?_push_size _ rfl, rfl, rfl⟩, fun b hb => ?_, q⟩
  have e : b = s1.heap.objs.size := by simpa using hb
  subst e
  exact I1.fpOk (Nat.le_refl _) (I1.hok.fresh (Nat.le_refl _))
end
section
variable {X : Cx}
def ipM (c : Int → Int → Prop) (f : Int → Int → Int) : TIp := fun x y H Q => ∃ i j, x = .int i ∧ y = .int j ∧ c i j ∧ Q (.int (f i j)) H
theorem bl1 : PIp X .Mult (ipM IntMulOk fun i j => i * j) := by
  intro pins s σ H x y v u Q I r1 r2 h
  obtain ⟨i, j, e1, e2, hc, q⟩ := h
  subst e1; subst e2
  obtain ⟨t, rfl⟩ := r1
  obtain ⟨t', rfl⟩ := r2
  exact imul_int ⟨.int _, H, I.tok _, ⟨_, rfl⟩, q⟩ hc
end
theorem aM6 {K : PySem.W.Frag} {a : Addr} {xs : List V} {g : TG} {tb : TS} {D : ag1} {σ : St} {H : Hp} (Pv : Nat → St → Hp → Prop) (h0 : Pv 0 σ H) (hl : ∀ i σ H, i ≤ xs.length → Pv i σ H → SqL K H a xs)
    (hs : ∀ i x σ H, i < xs.length → xs[xs.length - 1 - i]? = some x → Pv i σ H → g x σ H fun σ2 H2 => tb { D with nx := Pv (i + 1), ct := Pv (i + 1), bk := D.nx } σ2 H2) (hd : ∀ σ H, Pv xs.length σ H → D.nx σ H) :
    ∃ W : Nat → Nat → St → Hp → Prop, (∃ m, W 0 m σ H) ∧ ∀ i m σ H, W i m σ H →
      ((Itv K a xs.length).stop i H ∧ D.nx σ H) ∨ ((Itv K a xs.length).go i H ∧ ∃ N : St → Hp → Prop, (∀ σ' H', N σ' H' → ∃ m', m' < m ∧ W (i + 1) m' σ' H') ∧ ∀ x H', (Itv K a xs.length).yld i H x H' → g x σ H' fun σ2 H2 => tb { D with nx := N, ct := N, bk := D.nx } σ2 H2) := by
  refine ⟨fun i m σ H => m = xs.length - i ∧ i ≤ xs.length ∧ Pv i σ H, ⟨xs.length, by simp, Nat.zero_le _, h0⟩, ?_⟩
  rintro i m σ H ⟨rfl, hi, p⟩
  have q := hl i σ H hi p
  by_cases hlt : i < xs.length
  · refine .inr ⟨⟨hlt, xs, xs[xs.length - 1 - i], q, List.getElem?_eq_getElem (by omega)⟩, Pv (i + 1), fun σ' H' p' => ⟨xs.length - (i + 1), by omega, rfl, hlt, p'⟩, fun x H' y => ?_⟩
    obtain ⟨e, y⟩ := y
    subst e
    exact hs i x σ _ hlt (y xs q) p
  · have e : i = xs.length := by omega
    subst e
    exact .inl ⟨rfl, hd σ H p⟩
theorem V1 {M : Model} {A : Around} {E : Value → Shared → Prop} {s : Shared} {scope : Scope} {globals : Addr} {cl : List (Str × Addr)} {qual : Str} {func : Option Addr} {code : Value} {outer : Env} {Q : Env → Shared → Prop}
    (hQ : Q { scope, locals := s.heap.objs.size, globals, cells := cellsFrom (s.heap.objs.size + 1) scope.names cl, qual, func, code := outer.code, frame := outer.frame, builtins := outer.builtins }
      { s with heap := pushCells (s.heap.push { cls := .type "dict", data := .dict #[] }) scope.names }) :
    wpAny M A (newFunctionEnv scope globals cl [] qual func code (some outer)) Q E s := by
  simp only [newFunctionEnv, Option.isSome_some, if_true]
  refine wpAny_bind (wpAny_alloc ?_)
  refine wpAny_bind (wpAny_layCells _ (fun name kind cells => by cases hkc : kind == NameKind.cell <;> simp [hkc]) _ _ _ _ ?_)
  rw [show ({ s with heap := s.heap.push { cls := .type "dict", data := .dict #[] } } : Shared).heap.objs.size = s.heap.objs.size + 1 from Heap.size_push ..]
  rw [List.forIn_nil]
  exact wpAny_bind (wpAny_pure (wpAny_pure hQ))
structure aZ9 (h h' : Heap) (names : List (Str × NameKind)) (acc cs : List (Str × Addr)) : Prop where
  cell : ∀ x c, cs.lookup x = some c → ∃ v, h'.IsCell c v
  inj : ∀ x y c, cs.lookup x = some c → cs.lookup y = some c → x = y
  old : ∀ x c, cs.lookup x = some c → acc.lookup x = some c ∨ h.objs.size ≤ c
  fresh : ∀ x, (x, NameKind.cell) ∈ names → ∀ c, cs.lookup x = some c → h.objs.size ≤ c
theorem W6 {x name : Str} {a c : Addr} {acc : List (Str × Addr)} (h : ((name, a) :: acc).lookup x = some c) : (x = name ∧ c = a) ∨ (x ≠ name ∧ acc.lookup x = some c) := by
  rw [List.lookup_cons] at h
  by_cases e : x = name
  · subst e
    simp at h
    exact .inl ⟨rfl, h.symm⟩
  · have : (x == name) = false := by simpa using e
    rw [this] at h
    exact .inr ⟨e, h⟩
theorem ak6 : ∀ (names : List (Str × NameKind)) (h : Heap) (acc : List (Str × Addr)), (∀ x c, acc.lookup x = some c → ∃ v, h.IsCell c v) → (∀ x y c, acc.lookup x = some c → acc.lookup y = some c → x = y) →
    aZ9 h (pushCells h names) names acc (cellsFrom h.objs.size names acc)
  | [], h, acc, hc, hi => ⟨hc, hi, fun _ _ e => .inl e, fun _ hm => by cases hm⟩
  | (name, kind) :: r, h, acc, hc, hi => by
    unfold pushCells cellsFrom
    split
    · have ih := ak6 r (h.push { cls := .type "cell", data := .cell none }) ((name, h.objs.size) :: acc)
        (fun x c e => by
          rcases W6 e with ⟨_, e2⟩ | ⟨_, e2⟩
          · subst e2; exact ⟨none, _, Heap.get?_push_size _ rfl, rfl⟩
          · obtain ⟨v, z⟩ := hc x c e2
            exact ⟨v, z.keeps fun b o e => Heap.get?_push_of_some _ e⟩)
        (fun x y c e1 e2 => by
          rcases W6 e1 with ⟨a1, a2⟩ | ⟨a1, a2⟩ <;> rcases W6 e2 with ⟨b1, b2⟩ | ⟨b1, b2⟩
          · rw [a1, b1]
          · obtain ⟨v, z⟩ := hc y c b2
            exact absurd z.lt (by rw [a2]; exact Nat.lt_irrefl _)
          · obtain ⟨v, z⟩ := hc x c a2
            exact absurd z.lt (by rw [b2]; exact Nat.lt_irrefl _)
          · exact hi x y c a2 b2)
      rw [Heap.size_push] at ih
      refine ⟨ih.cell, ih.inj, fun x c e => ?_, fun x hm c e => ?_⟩
      · rcases ih.old x c e with z | z
        · rcases W6 z with ⟨_, e2⟩ | ⟨_, e2⟩
          · exact .inr (by rw [e2]; exact Nat.le_refl _)
          · exact .inl e2
        · rw [Heap.size_push] at z
          exact .inr (Nat.le_of_succ_le z)
      · rcases List.mem_cons.mp hm with z | z
        · cases z
          rcases ih.old _ c e with z | z
          · rcases W6 z with ⟨_, e2⟩ | ⟨e1, _⟩
            · rw [e2]; exact Nat.le_refl _
            · exact absurd rfl e1
          · rw [Heap.size_push] at z
            exact Nat.le_of_succ_le z
        · have := ih.fresh x z c e
          rw [Heap.size_push] at this
          exact Nat.le_of_succ_le this
    · rename_i hk
      have ih := ak6 r h acc hc hi
      refine ⟨ih.cell, ih.inj, ih.old, fun x hm c e => ?_⟩
      rcases List.mem_cons.mp hm with z | z
      · cases z; exact absurd rfl hk
      · exact ih.fresh x z c e
theorem aa5 {x : Str} : ∀ (names : List (Str × NameKind)) (n : Nat) (acc : List (Str × Addr)), (x, NameKind.cell) ∉ names → (cellsFrom n names acc).lookup x = acc.lookup x
  | [], _, _, _ => rfl
  | (name, kind) :: r, n, acc, h => by
    unfold cellsFrom
    have hr : (x, NameKind.cell) ∉ r := fun z => h (List.mem_cons_of_mem _ z)
    split
    · rename_i hk
      rw [aa5 r _ _ hr, List.lookup_cons]
      have : (x == name) = false := by
        refine beq_eq_false_iff_ne.mpr fun e => h ?_
        subst e
        rw [← beq_iff_eq.mp hk]
        exact List.mem_cons_self
      rw [this]
    · exact aa5 r _ _ hr
theorem V6 {x : Str} : ∀ (names : List (Str × NameKind)) (n : Nat) (acc : List (Str × Addr)), ((x, NameKind.cell) ∈ names ∨ ∃ c, acc.lookup x = some c) → ∃ c, (cellsFrom n names acc).lookup x = some c
  | [], _, _, h => h.elim (fun z => by cases z) id
  | (name, kind) :: r, n, acc, h => by
    unfold cellsFrom
    have up : (∃ c, acc.lookup x = some c) → ∃ c, ((name, n) :: acc).lookup x = some c := fun ⟨c, e⟩ => by
      rw [List.lookup_cons]
      split
      · exact ⟨_, rfl⟩
      · exact ⟨c, e⟩
    split
    · refine V6 r _ _ ?_
      rcases h with z | z
      · rcases List.mem_cons.mp z with z | z
        · cases z
          exact .inr ⟨n, by simp⟩
        · exact .inl z
      · exact .inr (up z)
    · rename_i hk
      refine V6 r _ _ ?_
      rcases h with z | z
      · rcases List.mem_cons.mp z with z | z
        · cases z; exact absurd rfl hk
        · exact .inl z
      · exact .inr z
def aP9 (scope : Scope) (x : Str) : Bool := scope.names.any fun y => y.1 == x && y.2 == .cell
theorem aL7 {scope : Scope} {x : Str} (h : aP9 scope x = true) : (x, NameKind.cell) ∈ scope.names := by
  unfold aP9 at h
  obtain ⟨⟨a, k⟩, hm, hh⟩ := List.any_eq_true.mp h
  simp only [Bool.and_eq_true, beq_iff_eq] at hh
  obtain ⟨rfl, rfl⟩ := hh
  exact hm
abbrev Cx.blockC (X : Cx) (scope : Scope) (cl : List (Str × Addr)) (C : Addr) (Nc : List Str) (s₂ : Shared) (H₂ : Hp) (fp : List Addr) (pins : List (Addr × Obj)) : Cx :=
  { X with N := Nc, s₀ := s₂, H₀ := H₂, env := compEnvC scope (cellsFrom (C + 1) scope.names cl) C X.env, outer := X.stack, ex := fp, fn := aP9 scope, pn := X.pn ++ pins, xe := fun _ _ => False }
structure aG6 (X : Cx) (scope : Scope) (cl : List (Str × Addr)) (Nc : List Str) (caps : List (Option Nat)) : Prop where
  clos : closureFor scope X.env = pure cl
  sub : ∀ x c, cl.lookup x = some c → X.env.cells.lookup x = some c
  has : ∀ n x, (relabel scope X.env).names.lookup x = some .cell ∨ (relabel scope X.env).names.lookup x = some .free → ∃ c, (cellsFrom n scope.names cl).lookup x = some c
  kind : scope.kind = .function
  names : ∀ x ∈ scope.names, x.2 = .local → scope.names.lookup x.1 = some .local
  len : caps.length = Nc.length
  cap : ∀ (i j : Nat) (x : Str), caps[i]? = some (some j) → Nc[i]? = some x → X.N[j]? = some x ∧ Vis X.env.scope x ∧ X.env.kindOf x ≠ some .local ∧ ((relabel scope X.env).names.lookup x = some .cell ∨ (relabel scope X.env).names.lookup x = some .free) ∧
    (∃ c, cl.lookup x = some c) ∧ ∀ n c, cl.lookup x = some c → (cellsFrom n scope.names cl).lookup x = some c
def aN7 (scope osc : Scope) (N ks Nc : List Str) (caps : List (Option Nat)) : Bool :=
  ((Q5 scope osc).all fun y => !(y.2 == .cell || y.2 == .free) || ks.contains y.1 || aP9 scope y.1) && scope.kind == .function &&
  (scope.names.all fun y => y.2 != .local || scope.names.lookup y.1 == some .local) && caps.length == Nc.length &&
  ((caps.zip Nc).all fun p => match p.1 with
    | none => true
    | some j => N[j]? == some p.2 && aQ8 (osc.names.lookup p.2) && aQ8 ((Q5 scope osc).lookup p.2) && ks.contains p.2 && !aP9 scope p.2)
theorem aG6.of {X : Cx} {scope osc : Scope} {cl : List (Str × Addr)} {N ks Nc : List Str} {caps : List (Option Nat)} (clos : closureFor scope X.env = pure cl) (hN : X.N = N) (hosc : X.env.scope = osc) (hks : cl.map (·.1) = ks)
    (sub : ∀ x c, cl.lookup x = some c → X.env.cells.lookup x = some c) (ok : aN7 scope osc N ks Nc caps = true) : aG6 X scope cl Nc caps := by
  unfold aN7 at ok
  simp only [Bool.and_eq_true, List.all_eq_true, beq_iff_eq, Bool.or_eq_true, Bool.not_eq_true', bne_iff_ne, ne_eq] at ok
  obtain ⟨⟨⟨⟨o1, o3⟩, o4⟩, o5⟩, o6⟩ := ok
  have er : (relabel scope X.env).names = Q5 scope osc := by subst hosc; rfl
  have kof : ∀ x, X.env.kindOf x = osc.names.lookup x := fun x => by subst hosc; rfl
  refine ⟨clos, sub, fun n x h => ?_, o3, fun x hx hl => ?_, o5, fun i j x h1 h2 => ?_⟩
  · rw [er] at h
    have key : ∀ k, (Q5 scope osc).lookup x = some k → (k = .cell ∨ k = .free) → ∃ c, (cellsFrom n scope.names cl).lookup x = some c := fun k hk hcf => by
      refine V6 _ _ _ ?_
      rcases o1 (x, k) (af7 hk) with (z | z) | z
      · rcases hcf with rfl | rfl <;> simp at z
      · refine .inr (Q3 ?_)
        rw [hks]; simpa using z
      · exact .inl (aL7 z)
    rcases h with h | h
    · exact key _ h (.inl rfl)
    · exact key _ h (.inr rfl)
  · rcases o4 x hx with z | z
    · exact absurd hl z
    · exact z
  · have hm : (some j, x) ∈ caps.zip Nc := by
      have : (caps.zip Nc)[i]? = some (some j, x) := by
        rw [List.getElem?_zip_eq_some]; exact ⟨h1, h2⟩
      exact List.mem_of_getElem? this
    have z := o6 _ hm
    simp only [Bool.and_eq_true, beq_iff_eq, Bool.not_eq_true'] at z
    obtain ⟨⟨⟨⟨z1, z2⟩, z3⟩, z4⟩, z5⟩ := z
    have c2 := ao4 z2
    have c3 := ao4 z3
    refine ⟨by rw [hN]; exact z1, ?_, ?_, ?_, Q3 (by rw [hks]; simpa using z4), fun n c e => ?_⟩
    · rw [hosc]
      rcases c2 with c | c
      · exact .inr (.inl c)
      · exact .inr (.inr c)
    · rw [kof]
      rcases c2 with c | c <;> rw [c] <;> decide
    · rw [er]; exact c3
    · rw [aa5 _ _ _ fun hm => ?_]
      · exact e
      · have : aP9 scope x = true := List.any_eq_true.mpr ⟨_, hm, by simp⟩
        rw [z5] at this; cases this
section
variable {X : Cx}
theorem aE1 {elt tg iter : Expr} {scope : Scope} {pos : Pos} {cl : List (Str × Addr)} {Nc : List Str} {caps : List (Option Nat)} {wi : TI} {g : TG} {te : TE} (hc : X.calm = true) (cp : aG6 X scope cl Nc caps) (hi : PI X tg iter wi)
    (hg : ∀ C s₂ H₂ fp pins, PG (X.blockC scope cl C Nc s₂ H₂ fp pins) tg g) (he : ∀ C s₂ H₂ fp pins, PE (X.blockC scope cl C Nc s₂ H₂ fp pins) elt te) (hs : ∀ x, foldedSetIterable iter X.env x = pure x := by intro _; rfl) :
    PE X (.ListComp elt [⟨tg, iter, [], 0⟩] scope pos) (aL2 wi caps g te) := by
  intro pins s σ H Q I h
  rw [eval_ListComp]
  refine wpAny_comprehension_free (use := none) rfl hs cp.clos cp.kind cp.names ?_
  refine thn (hi pins s σ H _ I h) fun v s1 h1 => thn h1 fun itv s2 h2 => ?_
  obtain ⟨it, fp, tn, J, H2, e, I2, T, st2, f2, hW⟩ := h2
  subst e
  refine wpAny_newObj_type ?_ (by show 0 ≤ sizeLine; exact Nat.zero_le _)
  refine V1 ?_
  dsimp only
  generalize hH3 : s2.heap.push { cls := .type "list", dict := none, data := .seq ([] : List Value).toArray } = H3
  have hCe : H3.objs.size = s2.heap.objs.size + 1 := by rw [← hH3, Heap.size_push]
  have ab2 : ∀ b o, s2.heap.get? b = some o → b ≠ H3.objs.size := fun b o e => by rw [hCe]; exact Nat.ne_of_lt (Nat.lt_succ_of_lt (Heap.lt_size e))
  have hns0 := (Heap.Ns.new H3 (.type "dict")).keeps (pushCells_keeps scope.names _)
  have old0 : ∀ b o, s2.heap.get? b = some o → (pushCells (H3.push { cls := .type "dict", data := .dict #[] }) scope.names).get? b = some o := fun b o e => pushCells_keeps _ _ b o (Heap.get?_push_of_some _ (hH3 ▸ Heap.get?_push_of_some _ e))
  have hD0 : (pushCells (H3.push { cls := .type "dict", data := .dict #[] }) scope.names).get? s2.heap.objs.size = some { cls := .type "list", dict := none, data := .seq ([] : List Value).toArray } :=
    pushCells_keeps _ _ _ _ (Heap.get?_push_of_some _ (hH3 ▸ Heap.get?_push_size _ rfl))
  have own := ak6 scope.names (H3.push { cls := .type "dict", data := .dict #[] }) cl (fun x c e => by
      obtain ⟨v, o, ho, hd⟩ := I2.cell x c (cp.sub x c e)
      exact ⟨v, o, Heap.get?_push_of_some _ (hH3 ▸ Heap.get?_push_of_some _ ho), hd⟩) (fun x y c h1 h2 => I2.ok.inj x y c (cp.sub x c h1) (cp.sub y c h2))
  rw [Heap.size_push] at own
  generalize hh4 : pushCells (H3.push { cls := .type "dict", data := .dict #[] }) scope.names = h4 at own hns0 old0 hD0 ⊢
  have hns := hns0
  have old := old0
  have hD := hD0
  have isOld : ∀ x c, (cellsFrom (H3.objs.size + 1) scope.names cl).lookup x = some c → X.env.cells.lookup x = some c ∨ H3.objs.size + 1 ≤ c := fun x c e => (own.old x c e).imp (cp.sub x c) fun z => by rw [Heap.size_push] at z; exact z
  have hDn : H2 s2.heap.objs.size = none := I2.fresh
  have hCn : H2 H3.objs.size = none := I2.hok.fresh (by rw [hCe]; exact Nat.le_succ _)
  have hCs : s2.heap.objs.size ≤ H3.objs.size := by rw [hCe]; exact Nat.le_succ _
  have hDC : s2.heap.objs.size ≠ H3.objs.size := by rw [hCe]; exact Nat.ne_of_lt (Nat.lt_succ_self _)
  have fpl : ∀ b ∈ fp, ∃ o, s2.heap.get? b = some o := fun b hb => let ⟨o, e, _⟩ := T.obj _ _ st2 b hb; ⟨o, e⟩
  have fpC : ∀ b ∈ fp, b ≠ H3.objs.size := fun b hb => let ⟨o, e⟩ := fpl b hb; ab2 b o e
  have fpD : ∀ b ∈ fp, b ≠ s2.heap.objs.size := fun b hb => let ⟨o, e⟩ := fpl b hb; Nat.ne_of_lt (Heap.lt_size e)
  have stkN : ∀ b, b ≠ X.env.locals → b ∉ X.fs → b ∉ frs X.stack := fun b h1 h2 z => (List.mem_cons.mp (I2.stkSub b z)).elim h1 h2
  have fpX : ∀ b ∈ fp, ∀ x c, (cellsFrom (H3.objs.size + 1) scope.names cl).lookup x = some c → c ≠ b := fun b hb x c h => by
    rcases isOld x c h with z | z
    · exact (f2 b hb).2.2.2.2.1 x c z
    · obtain ⟨o, e⟩ := fpl b hb
      exact Nat.ne_of_gt (Nat.lt_of_lt_of_le (Heap.lt_size e) (Nat.le_trans (Nat.le_trans hCs (Nat.le_succ _)) z))
  obtain ⟨W, ⟨m0, w0⟩, turn⟩ := hW s2.heap.objs.size hDn
  have okB : (X.blockC scope cl H3.objs.size Nc s2 H2 fp pins).Ok := by
    refine ⟨I2.ok.mod, ?_, I2.ok.glob, I2.ok.blt, hCs, fun x y c h1 h2 => own.inj x y c h1 h2, fun x hx => cp.has _ x hx, fun x c h e => Nat.le_trans (Nat.le_trans hCs (Nat.le_succ _)) (by have z := own.fresh x (aL7 h) c e; rw [Heap.size_push] at z; exact z), I2.ok.hd, I2.ok.frames, .inl rfl, fun b hb => ⟨fpC b hb, fun x c h => fpX b hb x c h⟩, I2.bs, Nat.le_trans I2.ok.bsz I2.sz, fun b o e hb => ?_, fun b hb => stkN b (f2 b hb).2.1 (f2 b hb).2.2.1, I2.stack, I2.stkFree⟩
    · exact cp.kind
    · rcases (f2 b hb).2.2.2.1 with z | z
      · exact I2.ok.noex b o e z
      · exact absurd (Nat.lt_of_lt_of_le (Heap.lt_size e) (Nat.le_trans I2.ok.bsz z)) (Nat.lt_irrefl _)
  have hokB : HOk X.prog X.w (upd H2 s2.heap.objs.size (.lst [])) h4 := I2.hok.laid old (Nat.le_refl _) ⟨Nat.zero_le _, [], _, .nil, hD⟩
  have IB : Inv (X.blockC scope cl H3.objs.size Nc s2 H2 fp pins) [] (O8 caps σ) (upd H2 s2.heap.objs.size (.lst [])) { s2 with heap := h4 } := by
    refine ⟨okB, rfl, I2.bare, Un.laid old (Nat.le_refl _) hDn, ⟨_, hns, fun i x v e1 e2 e3 => ?_⟩, fun x c e => ?_, (show upd H2 s2.heap.objs.size (.lst []) H3.objs.size = none by rw [j5 (Ne.symm hDC)]; exact hCn), fun x c e => ?_, fun p hp => ?_, hokB, ?_⟩
    · unfold O8 at e2
      rw [List.getElem?_map] at e2
      cases hcap : caps[i]? with
      | none => rw [hcap] at e2; cases e2
      | some o =>
        rw [hcap] at e2
        cases o with
        | none => cases e2
        | some j =>
          have hj : σ[j]? = some (some v) := by
            have e2' : (σ[j]?).join = some v := Option.some.inj e2
            cases q : σ[j]? with
            | none => rw [q] at e2'; cases e2'
            | some z => rw [q] at e2'; exact congrArg some e2'
          obtain ⟨n1, n2, n3, n4, n5, n6⟩ := cp.cap i j x hcap e1
          obtain ⟨m, hm, hl⟩ := I2.loc
          obtain ⟨u, r, q⟩ := hl j x v n1 hj n2
          rcases q with ⟨k, _⟩ | ⟨k, c, ec, z⟩
          · exact absurd k n3
          · obtain ⟨c', ec'⟩ := n5
            have := cp.sub x c' ec'
            rw [ec] at this; cases this
            obtain ⟨oc, ho, hd⟩ := z
            exact ⟨u, r, .inr ⟨n4, c, n6 _ _ ec', oc, old _ _ ho, hd⟩⟩
    · exact own.cell x c e
    · show upd H2 s2.heap.objs.size (.lst []) c = none
      rcases isOld x c e with z | z
      · obtain ⟨v, oc, ho, hd⟩ := I2.cell x c z
        rw [j5 (Nat.ne_of_lt (Heap.lt_size ho))]
        exact I2.freeC x c z
      · have hz : s2.heap.objs.size < c := Nat.lt_of_lt_of_le (Nat.lt_of_le_of_lt hCs (Nat.lt_succ_self _)) z
        rw [j5 (Nat.ne_of_gt hz)]
        exact I2.hok.fresh (Nat.le_of_lt hz)
    · have hp' : p ∈ X.pn ++ pins := by simpa using hp
      obtain ⟨e1, e2, e3, e4, e5⟩ := I2.pin p hp'
      exact ⟨old _ _ e1, by rw [j5 (Nat.ne_of_lt (Heap.lt_size e1))]; exact e2, ab2 _ _ e1, stkN _ e3 e4, e5⟩
    · show (O8 caps σ).length = Nc.length
      unfold O8
      rw [List.length_map]; exact cp.len
  have stat : ∀ {H' : Hp}, (∀ b ∈ fp, H' b = none) → ∀ b ∈ fp, ak8 (X.blockC scope cl H3.objs.size Nc s2 H2 fp pins) [] H' b := fun hn b hb =>
    ⟨hn b hb, fpC b hb, stkN b (f2 b hb).2.1 (f2 b hb).2.2.1, .inl hb, fun x c h => fpX b hb x c h, fun p hp => (f2 b hb).2.2.2.2.2 p (by simpa using hp)⟩
  have loop : ∀ s5 : Shared, s5 = { s2 with heap := h4 } →
      codeAny (model X.prog X.w) X.A (.compLoop (.ListComp elt [⟨tg, iter, [], 0⟩] scope pos) 0 (.ref it) (.ref s2.heap.objs.size) (compEnvC scope (cellsFrom (H3.objs.size + 1) scope.names cl) H3.objs.size X.env))
        (compPost (model X.prog X.w) X.A X.xe none (EP X pins σ Q) (.ref s2.heap.objs.size) H3.objs.size) s5 := by
    rintro s5 rfl
    refine ak4 (fun n s' => ∃ i σ' H', Inv (X.blockC scope cl H3.objs.size Nc s2 H2 fp pins) [] σ' H' s' ∧ tn i s'.heap ∧ (∀ b ∈ fp, H' b = none) ∧ W i n σ' H') ?_ m0 ⟨0, _, _, IB, T.keep _ _ _ st2 fun b hb o e => old b o e, fun b hb => by rw [j5 (fpD b hb)]; exact (f2 b hb).1, w0⟩
    rintro n s6 ⟨i, σ6, H6, I6, st6, fr6, w6⟩
    rcases turn i n σ6 H6 w6 with ⟨stop, qn⟩ | ⟨go, step⟩
    · refine thn (T.done (X.blockC scope cl H3.objs.size Nc s2 H2 fp pins) rfl rfl rfl hc i [] s6 σ6 H6 _ I6 (stat fr6) st6 stop) fun r s7 ⟨hr, I7⟩ => ?_
      subst hr
      obtain ⟨m7, hn7, _⟩ := id I7.loc
      exact ⟨m7, hn7, fun h' sb => ⟨.ref s2.heap.objs.size, H6, I2.sameC f2 I7.os I7.bare I7.base I7.hok hCs I7.free sb, rfl, qn⟩⟩
    · refine thn (T.item (X.blockC scope cl H3.objs.size Nc s2 H2 fp pins) rfl rfl rfl hc i [] s6 σ6 H6 _ I6 (stat fr6) st6 go) fun r s7 ⟨u, hr, h7⟩ => ?_
      subst hr
      refine thn h7 fun _ s8 ⟨x, H8, I8, r8, y8, st8, fr8⟩ => ?_
      have I8' := I8.pinned (stat fr8) (T.obj _ _ st8)
      refine thn (hg _ _ _ _ _ _ s8 σ6 H8 x u _ I8' r8 (step x H8 y8)) fun _ s9 ⟨σ9, H9, I9, q9⟩ => ?_
      refine thn (he _ _ _ _ _ _ s9 σ9 H9 _ I9 q9) fun u10 s10 ⟨v10, H10, I10, r10, ys, hys, hlen, m', hm', w'⟩ => ?_
      refine thn (S7 _ s10 σ9 H10 (.ref s2.heap.objs.size) [v10] (.ref s2.heap.objs.size) [u10] (fun _ H11 => H11 = upd H10 s2.heap.objs.size (.lst (ys ++ [v10]))) I10 rfl (.cons r10 .nil) ⟨_, ys, v10, rfl, rfl, hys, hlen, rfl⟩) fun _ s11 ⟨_, H11, I11, _, hH11⟩ => ?_
      subst hH11
      refine ⟨m', hm', i + 1, σ9, _, I11.unpinned, T.keep _ _ _ st8 fun b hb o e => (I11.pin (b, o) (List.mem_append_right _ (List.mem_append_right _ (F8 hb e)))).1, fun b hb => ?_, w'⟩
      obtain ⟨o, e, d⟩ := T.obj _ _ st8 b hb
      exact (I11.pin (b, o) (List.mem_append_right _ (List.mem_append_right _ (F8 hb e)))).2.1
  exact codeAny_compStart_list (loop _ rfl) (T.self _ 0 _ _ _ (T.keep _ _ _ st2 fun b hb o e => old b o e) (loop _ rfl))
end
section
variable {X : Cx}
def bi0 : R2 := fun x y H Q => ∃ c d, x = .bl c ∧ y = .bl d ∧ Q (.bl (c == d)) H
theorem bj4 : OpR X (compareOp .Is) bi0 := by
  intro pins s σ H x y v u Q I rx ry h
  obtain ⟨c, d, rfl, rfl, q⟩ := h
  cases rx
  cases ry
  exact is_bool (x9 I q rfl)
end
theorem Y6.calmR {P : Program} {w : World} {K : PySem.W.Frag} {mg : Str → Option Value} {base : Heap} {k : Nat} {f : Addr} {fd : FuncData} {ps : List Str} {sp : Sp} (F : Y6 P w K mg base (CXR P w) k f fd ps sp) : Y6 P w K mg base CX0 k f fd ps (fun vs H Q _ => sp vs H Q E0) :=
  ⟨fun vs H Q _ h => F.len vs H Q E0 h, fun A outer s H args us vs Q E h1 h2 h3 h4 h5 => codeAny_mono (F.run A outer s H args us vs Q E0 h1 h2 h3 h4 h5) fun r s' q => by
    cases r with
    | ok fl => cases fl <;> exact q
    | error e =>
      obtain ⟨_, _, _, _, _, _, _, _, _, _, _, _, _, _, z⟩ := q
      exact z⟩
theorem Def.calmR {P : Program} {w : World} {K : PySem.W.Frag} {mg : Str → Option Value} {base : Heap} {k : Nat} {x : Str} {f : Addr} {ps : List Str} {sp : Sp} (d : Def P w K mg base (CXR P w) k x f ps sp) : Def P w K mg base CX0 k x f ps (fun vs H Q _ => sp vs H Q E0) :=
  let ⟨fd, F, b⟩ := d.ex
  ⟨⟨fd, F.calmR, b⟩, d.m, d.kp⟩
structure Stp (prog : Program) (w : World) (it src : Addr) (ar : Array Value) (st : Nat → Heap → Prop) : Prop where
  stay : ∀ {k : Nat} {h h' : Heap}, st k h → (∀ o, h.get? it = some o → h'.get? it = some o) → (∀ o, h.get? src = some o → h'.get? src = some o) → st k h'
  item : ∀ {A : Around} {E : Value → Shared → Prop} {s : Shared} {k : Nat} {v : Value} {Q : Value → Shared → Prop}, st k s.heap → ar[k]? = some v → (∀ h', st (k + 1) h' → Heap.SameBut it s.heap h' → Q v { s with heap := h' }) → wpAny (model prog w) A (Builtin.SmallTypes.nextOf (.ref it)) Q E s
  fin : ∀ {A : Around} {E : Value → Shared → Prop} {s : Shared} {k : Nat} {Q : Value → Shared → Prop}, A.handled = none → st k s.heap → ar[k]? = none → (∀ h' e, Heap.ExtBut it s.heap h' → (∃ o, h'.get? e = some o ∧ o.cls = .type "StopIteration") → E (.ref e) { s with heap := h' }) → wpAny (model prog w) A (Builtin.SmallTypes.nextOf (.ref it)) Q E s
def bo8 (it src : Addr) (ar : Array Value) (k : Nat) (h : Heap) : Prop := h.IsTupleIter it src k ∧ h.IsTuple src ar
theorem ad3 {prog : Program} {w : World} {it src : Addr} {ar : Array Value} (ne : src ≠ it) : Stp prog w it src ar (bo8 it src ar) where
  stay := fun st h1 h2 => ⟨st.1.at h1, by obtain ⟨o, e, r⟩ := st.2; exact ⟨o, h2 o e, r⟩⟩
  item := by
    intro A E s k v Q st hv hQ
    obtain ⟨hi, ht⟩ := st
    obtain ⟨ob, gob, cob, dob⟩ := id hi
    obtain ⟨os, gos, _, ns, dos⟩ := id ht
    unfold Builtin.SmallTypes.nextOf
    refine wpAny_bind (wpAny_callSpecial?_slot (name := Str.ofString "__next__") hi.typeIs F.slot_tuple_iterator_next (wpAny_call_entry F.slot_tuple_iterator_next hi.typeIs F.entry_tuple_iterator_next ?_ (F.args_tuple_iterator_next_1 _)))
    show wpAny _ _ (field (.ref it) 0 >>= _) _ _ s; refine wpAny_bind (wpAny_field gob dob (x := .ref src) rfl ?_)
    show wpAny _ _ (if (Value.ref src == Value.none) = true then _ else _) _ _ s; rw [if_neg (show ¬ ((Value.ref src == Value.none) = true) from Bool.false_ne_true)]
    show wpAny _ _ (field (.ref it) 1 >>= _) _ _ s; refine wpAny_bind (wpAny_field gob dob (x := .int k 0) rfl ?_)
    show wpAny _ _ (seqItems? (.ref src) >>= _) _ _ s; refine wpAny_bind (wpAny_seqItems gos dos ?_)
    simp only [Int.toNat_natCast, hv]
    refine wpAny_bind (wpAny_setField gob dob (by simp) (wpAny_pure ⟨v, rfl, wpAny_pure (hQ _ ⟨?_, ?_⟩ (Heap.SameBut.update ..))⟩))
    · exact ⟨_, Heap.get?_update_self _ gob (Obj.isFreed_of_fields (Obj.data_mapFields dob _)), (Obj.cls_mapFields ..).trans cob, by rw [Obj.data_mapFields dob]; simp [rawInt]⟩
    · exact ht.extBut (Heap.SameBut.update ..).extBut ne
  fin := by
    intro A E s k Q hh st hv hE
    obtain ⟨hi, ht⟩ := st
    obtain ⟨ob, gob, cob, dob⟩ := id hi
    obtain ⟨os, gos, _, ns, dos⟩ := id ht
    unfold Builtin.SmallTypes.nextOf
    refine wpAny_bind (wpAny_callSpecial?_slot (name := Str.ofString "__next__") hi.typeIs F.slot_tuple_iterator_next (wpAny_call_entry F.slot_tuple_iterator_next hi.typeIs F.entry_tuple_iterator_next ?_ (F.args_tuple_iterator_next_1 _)))
    show wpAny _ _ (field (.ref it) 0 >>= _) _ _ s; refine wpAny_bind (wpAny_field gob dob (x := .ref src) rfl ?_)
    show wpAny _ _ (if (Value.ref src == Value.none) = true then _ else _) _ _ s; rw [if_neg (show ¬ ((Value.ref src == Value.none) = true) from Bool.false_ne_true)]
    show wpAny _ _ (field (.ref it) 1 >>= _) _ _ s; refine wpAny_bind (wpAny_field gob dob (x := .int k 0) rfl ?_)
    show wpAny _ _ (seqItems? (.ref src) >>= _) _ _ s; refine wpAny_bind (wpAny_seqItems gos dos ?_)
    simp only [Int.toNat_natCast, hv]
    refine wpAny_bind (wpAny_rule (wpAny_bind (wpAny_setField gob dob (by simp) ?_)))
    show wpAny _ _ (newExc (.type "StopIteration") [] >>= _) _ _ _; refine wpAny_bind ?_; simp only [newExc, newTuple]; refine wpAny_bind (wpAny_newObj_type ?_ (by size_fits)); refine wpAny_bind (m := firstArgMember _ _) (wpAny_of_eq (a := Value.none) (by first | rfl | (simp only [firstArgMember]; rfl)) ?_); refine wpAny_newObj_type ?_ (by size_fits)
    simp only [raiseNew]; refine wpAny_bind (wpAny_handled ?_); (first | rw [show A.in1.handled = none from hh] | rw [hh]); refine wpAny_bind (wpAny_pure (wpAny_throw ?_))
    exact hE _ _ (((Heap.SameBut.update ..).extBut.push _).push _) ⟨_, Heap.get?_push_size _ rfl, rfl⟩
section
variable {prog : Program} {w : World} {A : Around} {E : Value → Shared → Prop} {s : Shared}
theorem aO7 {z TI TO i1 i2 a b : Addr} {k : Nat} {xs ys : Array Value} {x y p q : Value} {S1 S2 : Nat → Heap → Prop} {Q : Value → Shared → Prop} (D : ZipApart z TI TO i1 i2 a b) (N1 : Stp prog w i1 a xs S1) (N2 : Stp prog w i2 b ys S2)
    (gz : IsZip s.heap z TI TO .none) (gI : IsPair s.heap TI (.ref i1) (.ref i2)) (gO : IsPair s.heap TO p q) (t1 : S1 k s.heap) (t2 : S2 k s.heap) (ex : xs[k]? = some x) (ey : ys[k]? = some y) (r1 : ∃ o, s.heap.get? i1 = some o) (r2 : ∃ o, s.heap.get? i2 = some o)
    (hQ : ∀ h', IsZip h' z TI TO (rawInt s.heap.objs.size) → IsPair h' TO x y → S1 (k + 1) h' → S2 (k + 1) h' → IsPair h' s.heap.objs.size x y → h'.objs.size = s.heap.objs.size + 1 → (∀ c o, c ≠ z → c ≠ TO → c ≠ i1 → c ≠ i2 → s.heap.get? c = some o → h'.get? c = some o) → Q (.ref s.heap.objs.size) { s with heap := h' }) :
    wpAny (model prog w) A (Builtin.«zip.__next__» ⟨[.ref z], []⟩) (fun fin s' => ∃ v, fin = .done (.ret v) ∧ Q v s') E s := by
  show wpAny _ _ (field (.ref z) 2 >>= _) _ _ _; refine wpAny_bind (wpAny_field gz rfl (x := .bool false) rfl ?_)
  show wpAny _ _ (field (.ref z) 3 >>= _) _ _ _; refine wpAny_bind (wpAny_field gz rfl (x := .ref TI) rfl ?_)
  refine wpAny_bind (wpAny_seqItems gI rfl ?_)
  show wpAny _ _ (Builtin.SmallTypes.ownedTupleIsFree (.ref z) >>= _) _ _ _; refine wpAny_bind ?_; unfold Builtin.SmallTypes.ownedTupleIsFree
  refine wpAny_bind (wpAny_field gz rfl (x := .none) rfl (wpAny_pure ?_))
  simp only [if_true]; refine wpAny_bind (wpAny_rule ?_); refine wpAny_bind (wpAny_field gz rfl (x := .ref TO) rfl ?_)
  refine wpAny_bind (wpAny_setField_rec gz (by simp) fun h₁ z1 u1 => ?_)
  replace z1 : IsZip h₁ z TI TO .ellipsis := z1
  refine wpAny_bind ?_; simp only [List.zipIdx_cons, List.zipIdx_nil, List.forIn_cons, List.forIn_nil]
  refine wpAny_bind (wpAny_bind (wpAny_onRaise ?_)); show wpAny _ _ (Builtin.SmallTypes.nextOf (.ref i1) >>= _) _ _ _
  refine wpAny_bind (N1.item (N1.stay t1 (fun o e => u1.extBut _ _ D.i1z e) fun o e => u1.extBut _ _ D.l1z e) ex fun h₂ n1 u2 => wpAny_pure ?_)
  have O2 : IsPair h₂ TO p q := u2.extBut _ _ D.TOi1 (u1.extBut _ _ D.TOz gO)
  refine wpAny_bind (wpAny_seqItems O2 rfl ?_); refine wpAny_bind (wpAny_updateSeq_pair O2 fun h₃ O3 u3 => ?_)
  replace O3 : IsPair h₃ TO x q := O3
  refine wpAny_bind (wpAny_letGo (wpAny_pure ?_)); refine wpAny_bind (wpAny_bind (wpAny_onRaise ?_)); show wpAny _ _ (Builtin.SmallTypes.nextOf (.ref i2) >>= _) _ _ _
  have m2 : S2 k h₃ := N2.stay t2 (fun o e => u3.extBut _ _ D.TOi2.symm (u2.extBut _ _ D.i12.symm (u1.extBut _ _ D.i2z e))) fun o e => u3.extBut _ _ D.l2TO (u2.extBut _ _ D.l2i1 (u1.extBut _ _ D.l2z e))
  refine wpAny_bind (N2.item m2 ey fun h₄ n2 u4 => wpAny_pure ?_)
  have O4 : IsPair h₄ TO x q := u4.extBut _ _ D.TOi2 O3
  refine wpAny_bind (wpAny_seqItems O4 rfl ?_); refine wpAny_bind (wpAny_updateSeq_pair O4 fun h₅ O5 u5 => ?_)
  replace O5 : IsPair h₅ TO x y := O5
  refine wpAny_bind (wpAny_letGo (wpAny_pure (wpAny_pure ?_))); refine wpAny_bind (wpAny_seqItems O5 rfl ?_); refine wpAny_bind (wpAny_newTuple ?_)
  have sz : h₅.objs.size = s.heap.objs.size := by rw [u5.1, u4.1, u3.1, u2.1, u1.1]
  have z5 : IsZip h₅ z TI TO .ellipsis := u5.extBut _ _ D.TOz.symm (u4.extBut _ _ D.i2z.symm (u3.extBut _ _ D.TOz.symm (u2.extBut _ _ D.i1z.symm z1)))
  have k5 : ∀ c o, c ≠ z → c ≠ TO → c ≠ i1 → c ≠ i2 → s.heap.get? c = some o → h₅.get? c = some o := fun c o c1 c2 c3 c4 e => u5.extBut _ _ c2 (u4.extBut _ _ c4 (u3.extBut _ _ c2 (u2.extBut _ _ c3 (u1.extBut _ _ c1 e))))
  have n15 : S1 (k + 1) h₅ := N1.stay n1 (fun o e => u5.extBut _ _ D.TOi1.symm (u4.extBut _ _ D.i12 (u3.extBut _ _ D.TOi1.symm e))) fun o e => u5.extBut _ _ D.l1TO (u4.extBut _ _ D.l1i2 (u3.extBut _ _ D.l1TO e))
  have n25 : S2 (k + 1) h₅ := N2.stay n2 (fun o e => u5.extBut _ _ D.TOi2.symm e) fun o e => u5.extBut _ _ D.l2TO e
  have lz : z < h₅.objs.size := Heap.lt_size z5
  show wpAny _ _ (Builtin.SmallTypes.ownedTupleHandOut (.ref z) (.ref h₅.objs.size) >>= _) _ _ _; refine wpAny_bind ?_; unfold Builtin.SmallTypes.ownedTupleHandOut
  have z6 : IsZip (h₅.push { cls := .type "tuple", data := .seq #[x, y] }) z TI TO .ellipsis := Heap.get?_push_of_some _ z5
  refine wpAny_bind (wpAny_setField_rec z6 (by simp) fun h₇ z7 u7 => ?_)
  replace z7 : IsZip h₇ z TI TO (rawInt h₅.objs.size) := z7
  refine wpAny_setField_rec z7 (by simp) fun h₈ z8 u8 => ?_
  replace z8 : IsZip h₈ z TI TO (rawInt h₅.objs.size) := z8
  have up : ∀ c o, c ≠ z → h₅.get? c = some o → h₈.get? c = some o := fun c o c1 e => u8.extBut _ _ c1 (u7.extBut _ _ c1 (Heap.get?_push_of_some _ e))
  have T8 : IsPair h₈ h₅.objs.size x y := u8.extBut _ _ (Nat.ne_of_gt lz) (u7.extBut _ _ (Nat.ne_of_gt lz) (Heap.get?_push_size _ rfl))
  have s8 : h₈.objs.size = h₅.objs.size + 1 := by rw [u8.1, u7.1, Heap.size_push]
  rw [sz] at z8 T8 s8
  refine wpAny_pure ⟨_, rfl, ?_⟩
  show Q (.ref h₅.objs.size) _
  rw [sz]
  exact hQ h₈ z8 (up _ _ D.TOz O5) (N1.stay n15 (fun o e => up _ o D.i1z e) fun o e => up _ o D.l1z e) (N2.stay n25 (fun o e => up _ o D.i2z e) fun o e => up _ o D.l2z e) T8 s8 fun c o c1 c2 c3 c4 e => up c o c1 (k5 c o c1 c2 c3 c4 e)
theorem aS5 {z TI TO i1 i2 a b : Addr} {k : Nat} {xs ys : Array Value} {p q : Value} {S1 S2 : Nat → Heap → Prop} {Q : Fin → Shared → Prop} (hh : A.handled = none) (D : ZipApart z TI TO i1 i2 a b) (N1 : Stp prog w i1 a xs S1) (N2 : Stp prog w i2 b ys S2)
    (gz : IsZip s.heap z TI TO .none) (gI : IsPair s.heap TI (.ref i1) (.ref i2)) (gO : IsPair s.heap TO p q) (t1 : S1 k s.heap) (t2 : S2 k s.heap) (ends : xs[k]? = none ∨ ys[k]? = none)
    (hE : ∀ h' e, (∀ c o, c ≠ z → c ≠ TO → c ≠ i1 → c ≠ i2 → s.heap.get? c = some o → h'.get? c = some o) → (∃ o, h'.get? e = some o ∧ o.cls = .type "StopIteration") → E (.ref e) { s with heap := h' }) : wpAny (model prog w) A (Builtin.«zip.__next__» ⟨[.ref z], []⟩) Q E s := by
  show wpAny _ _ (field (.ref z) 2 >>= _) _ _ _; refine wpAny_bind (wpAny_field gz rfl (x := .bool false) rfl ?_)
  show wpAny _ _ (field (.ref z) 3 >>= _) _ _ _; refine wpAny_bind (wpAny_field gz rfl (x := .ref TI) rfl ?_)
  refine wpAny_bind (wpAny_seqItems gI rfl ?_)
  show wpAny _ _ (Builtin.SmallTypes.ownedTupleIsFree (.ref z) >>= _) _ _ _; refine wpAny_bind ?_; unfold Builtin.SmallTypes.ownedTupleIsFree
  refine wpAny_bind (wpAny_field gz rfl (x := .none) rfl (wpAny_pure ?_))
  simp only [if_true]; refine wpAny_bind (wpAny_rule ?_); refine wpAny_bind (wpAny_field gz rfl (x := .ref TO) rfl ?_)
  refine wpAny_bind (wpAny_setField_rec gz (by simp) fun h₁ z1 u1 => ?_)
  replace z1 : IsZip h₁ z TI TO .ellipsis := z1
  refine wpAny_bind ?_; simp only [List.zipIdx_cons, List.zipIdx_nil, List.forIn_cons, List.forIn_nil]
  refine wpAny_bind (wpAny_bind (wpAny_onRaise ?_)); show wpAny _ _ (Builtin.SmallTypes.nextOf (.ref i1) >>= _) _ _ _
  have m1 : S1 k h₁ := N1.stay t1 (fun o e => u1.extBut _ _ D.i1z e) fun o e => u1.extBut _ _ D.l1z e
  cases ex : xs[k]? with
  | none =>
    refine wpAny_bind (N1.fin hh m1 ex fun h₂ e u2 he => ?_)
    obtain ⟨oe, goe, coe⟩ := he
    have z2 : IsZip h₂ z TI TO .ellipsis := u2 _ _ D.i1z.symm z1
    have ez : e ≠ z := fun x => by subst x; rw [z2] at goe; cases goe; simp at coe
    refine wpAny_setField_rec z2 (by simp) fun h₃ _ u3 => hE h₃ e (fun c o c1 _ c3 _ x => u3.extBut _ _ c1 (u2 _ _ c3 (u1.extBut _ _ c1 x))) ⟨oe, u3.extBut _ _ ez goe, coe⟩
  | some x =>
    have ey : ys[k]? = none := by rcases ends with h | h; rw [ex] at h; cases h; exact h
    refine wpAny_bind (N1.item m1 ex fun h₂ n1 u2 => wpAny_pure ?_)
    have O2 : IsPair h₂ TO p q := u2.extBut _ _ D.TOi1 (u1.extBut _ _ D.TOz gO)
    refine wpAny_bind (wpAny_seqItems O2 rfl ?_); refine wpAny_bind (wpAny_updateSeq_pair O2 fun h₃ O3 u3 => ?_)
    refine wpAny_bind (wpAny_letGo (wpAny_pure ?_)); refine wpAny_bind (wpAny_bind (wpAny_onRaise ?_)); show wpAny _ _ (Builtin.SmallTypes.nextOf (.ref i2) >>= _) _ _ _
    have m2 : S2 k h₃ := N2.stay t2 (fun o e => u3.extBut _ _ D.TOi2.symm (u2.extBut _ _ D.i12.symm (u1.extBut _ _ D.i2z e))) fun o e => u3.extBut _ _ D.l2TO (u2.extBut _ _ D.l2i1 (u1.extBut _ _ D.l2z e))
    refine wpAny_bind (N2.fin hh m2 ey fun h₄ e u4 he => ?_)
    obtain ⟨oe, goe, coe⟩ := he
    have z4 : IsZip h₄ z TI TO .ellipsis := u4 _ _ D.i2z.symm (u3.extBut _ _ D.TOz.symm (u2.extBut _ _ D.i1z.symm z1))
    have ez : e ≠ z := fun x => by subst x; rw [z4] at goe; cases goe; simp at coe
    refine wpAny_setField_rec z4 (by simp) fun h₅ _ u5 => hE h₅ e (fun c o c1 c2 c3 c4 x => u5.extBut _ _ c1 (u4 _ _ c4 (u3.extBut _ _ c2 (u2.extBut _ _ c3 (u1.extBut _ _ c1 x))))) ⟨oe, u5.extBut _ _ ez goe, coe⟩
theorem aO6 {z TI TO i1 i2 a b : Addr} {k : Nat} {xs ys : Array Value} {x y p q : Value} {S1 S2 : Nat → Heap → Prop} {Q : Option Value → Shared → Prop} (D : ZipApart z TI TO i1 i2 a b) (N1 : Stp prog w i1 a xs S1) (N2 : Stp prog w i2 b ys S2)
    (gz : IsZip s.heap z TI TO .none) (gI : IsPair s.heap TI (.ref i1) (.ref i2)) (gO : IsPair s.heap TO p q) (t1 : S1 k s.heap) (t2 : S2 k s.heap) (ex : xs[k]? = some x) (ey : ys[k]? = some y) (r1 : ∃ o, s.heap.get? i1 = some o) (r2 : ∃ o, s.heap.get? i2 = some o)
    (hQ : ∀ h', IsZip h' z TI TO (rawInt s.heap.objs.size) → IsPair h' TO x y → S1 (k + 1) h' → S2 (k + 1) h' → IsPair h' s.heap.objs.size x y → h'.objs.size = s.heap.objs.size + 1 → (∀ c o, c ≠ z → c ≠ TO → c ≠ i1 → c ≠ i2 → s.heap.get? c = some o → h'.get? c = some o) → Q (some (.ref s.heap.objs.size)) { s with heap := h' }) : wpAny (model prog w) A (pyNext (.ref z)) Q E s := by
  have ty : s.TypeIs (.ref z) "zip" := ⟨_, gz, rfl⟩
  unfold pyNext
  exact wpAny_bind (wpAny_attempt (wpAny_callSpecial?_slot (name := Str.ofString "__next__") ty F.slot_zip_next (wpAny_call_entry F.slot_zip_next ty F.entry_zip_next (aO7 D N1 N2 gz gI gO t1 t2 ex ey r1 r2 fun h' a1 a2 a3 a4 a5 a6 a7 => wpAny_pure (hQ h' a1 a2 a3 a4 a5 a6 a7)) (F.args_zip_next_1 _))))
theorem aO5 {z TI TO i1 i2 a b : Addr} {k : Nat} {xs ys : Array Value} {p q : Value} {S1 S2 : Nat → Heap → Prop} {Q : Option Value → Shared → Prop} (hh : A.handled = none) (D : ZipApart z TI TO i1 i2 a b) (N1 : Stp prog w i1 a xs S1) (N2 : Stp prog w i2 b ys S2)
    (gz : IsZip s.heap z TI TO .none) (gI : IsPair s.heap TI (.ref i1) (.ref i2)) (gO : IsPair s.heap TO p q) (t1 : S1 k s.heap) (t2 : S2 k s.heap) (ends : xs[k]? = none ∨ ys[k]? = none)
    (hQ : ∀ h', (∀ c o, c ≠ z → c ≠ TO → c ≠ i1 → c ≠ i2 → s.heap.get? c = some o → h'.get? c = some o) → Q none { s with heap := h' }) : wpAny (model prog w) A (pyNext (.ref z)) Q E s := by
  have ty : s.TypeIs (.ref z) "zip" := ⟨_, gz, rfl⟩
  unfold pyNext
  refine wpAny_bind (wpAny_attempt (wpAny_callSpecial?_slot (name := Str.ofString "__next__") ty F.slot_zip_next (wpAny_call_entry F.slot_zip_next ty F.entry_zip_next (aS5 hh D N1 N2 gz gI gO t1 t2 ends fun h' e hk he => ?_) (F.args_zip_next_1 _))))
  obtain ⟨o, ho, hc⟩ := he
  exact wpAny_bind (wpAny_isInstance (T := "StopIteration") (b := true) ⟨o, ho, hc⟩ isSubtype_stop (wpAny_pure (hQ _ hk)))
end
abbrev zt1 (h : Heap) (a : Addr) : Heap := h.push { cls := .type "tuple_iterator", data := .fields #[.ref a, .int 0 0] }
abbrev zt2 (h : Heap) (a b : Addr) : Heap := (zt1 h a).push { cls := .type "tuple_iterator", data := .fields #[.ref b, .int 0 0] }
abbrev zt3 (h : Heap) (a b : Addr) : Heap := (zt2 h a b).push { cls := .type "tuple", data := .seq #[.ref h.objs.size, .ref (zt1 h a).objs.size] }
abbrev zt4 (h : Heap) (a b : Addr) : Heap := (zt3 h a b).push { cls := .type "tuple", data := .seq #[.none, .none] }
abbrev zt5 (h : Heap) (a b : Addr) : Heap := (zt4 h a b).push { cls := .type "zip", data := .fields #[.none, .bool false, .bool false, .ref (zt2 h a b).objs.size, .ref (zt3 h a b).objs.size] }
theorem aJ2 (a b : Addr) (xs ys : Array Value) : Meets (Builtin.«zip.__new__» ⟨[.type "zip", .ref a, .ref b], []⟩) (fun _ R s => s.heap.IsTuple a xs ∧ s.heap.IsTuple b ys ∧ R (.ok (.ret (.ref (zt4 s.heap a b).objs.size))) { s with heap := zt5 s.heap a b }) :=
  .of_wp fun prog w A R s h => by
    obtain ⟨hp, g, d, tk, os⟩ := s; obtain ⟨ha, hb, h⟩ := h
    have hsub := sub_zip
    have L1 : Heap.IsTuple (Shared.heap ⟨hp, g, d, tk, os⟩) a xs := ha
    have L2 : Heap.IsTuple (Shared.heap ⟨hp.push { cls := .type "tuple_iterator", data := .fields #[.ref a, .int 0 0] }, g, d, tk, os⟩) b ys := Heap.IsTuple.push hb _
    wp_walk using wpAny_pyIter_tuple L1, wpAny_pyIter_tuple L2
    exact ⟨_, rfl, h⟩
section
variable {prog : Program} {w : World} {A : Around} {E : Value → Shared → Prop} {s : Shared}
theorem aR9 {a b : Addr} {xs ys : Array Value} {Q : Value → Shared → Prop} (ha : s.heap.IsTuple a xs) (hb : s.heap.IsTuple b ys)
    (h : ∀ h', IsZip h' (s.heap.objs.size + 4) (s.heap.objs.size + 2) (s.heap.objs.size + 3) .none → IsPair h' (s.heap.objs.size + 2) (.ref s.heap.objs.size) (.ref (s.heap.objs.size + 1)) → IsPair h' (s.heap.objs.size + 3) .none .none → h'.IsTupleIter s.heap.objs.size a 0 → h'.IsTupleIter (s.heap.objs.size + 1) b 0 → h'.objs.size = s.heap.objs.size + 5 → (∀ c o, s.heap.get? c = some o → h'.get? c = some o) → Q (.ref (s.heap.objs.size + 4)) { s with heap := h' }) : wpAny (model prog w) A (call (.type "zip") [.ref a, .ref b]) Q E s := by
  refine callType_new F.called_zip (by decide) (F.typeCall_zip_2 _ _) (F.newCall_zip_2 _ _) (fun obj => F.args_object_init_3 obj _ _) F.entry_zip_new (aJ2 a b xs ys) ⟨ha, hb, ?_⟩
  have z1 : (zt1 s.heap a).objs.size = s.heap.objs.size + 1 := Heap.size_push ..
  have z2 : (zt2 s.heap a b).objs.size = s.heap.objs.size + 2 := by rw [Heap.size_push, z1]
  have z3 : (zt3 s.heap a b).objs.size = s.heap.objs.size + 3 := by rw [Heap.size_push, z2]
  have z4 : (zt4 s.heap a b).objs.size = s.heap.objs.size + 4 := by rw [Heap.size_push, z3]
  have z5 : (zt5 s.heap a b).objs.size = s.heap.objs.size + 5 := by rw [Heap.size_push, z4]
  have p1 : ∀ {h : Heap} {c : Addr} {o o' : Obj}, h.get? c = some o → (h.push o').get? c = some o := fun e => Heap.get?_push_of_some _ e
  have g5 : (zt5 s.heap a b).get? (zt4 s.heap a b).objs.size = some _ := Heap.get?_push_size _ rfl
  have g4 : (zt5 s.heap a b).get? (zt3 s.heap a b).objs.size = some _ := p1 (Heap.get?_push_size _ rfl)
  have g3 : (zt5 s.heap a b).get? (zt2 s.heap a b).objs.size = some _ := p1 (p1 (Heap.get?_push_size _ rfl))
  have g2 : (zt5 s.heap a b).get? (zt1 s.heap a).objs.size = some _ := p1 (p1 (p1 (Heap.get?_push_size _ rfl)))
  have g1 : (zt5 s.heap a b).get? s.heap.objs.size = some _ := p1 (p1 (p1 (p1 (Heap.get?_push_size _ rfl))))
  show _ ∧ _
  rw [z2, z3, z4] at g5
  rw [z1, z2] at g3
  rw [z3] at g4
  rw [z1] at g2
  rw [z4]
  exact ⟨⟨_, g5, rfl⟩, h _ g5 g3 g4 ⟨_, g1, rfl, rfl⟩ ⟨_, g2, rfl, rfl⟩ z5 fun c o x => p1 (p1 (p1 (p1 (p1 x))))⟩
end
def bm9 (K : PySem.W.Frag) (a b : Addr) : It :=
  ⟨fun i H => ∃ xs ys x y, SqT K H a xs ∧ SqT K H b ys ∧ xs[i]? = some x ∧ ys[i]? = some y,
   fun i H v H' => ∀ xs ys, SqT K H a xs → SqT K H b ys → ∃ x y p, xs[i]? = some x ∧ ys[i]? = some y ∧ H p = none ∧ v = .ref p ∧ H' = upd H p (.tup [x, y]),
   fun i H => ∃ xs ys, SqT K H a xs ∧ SqT K H b ys ∧ (xs.length ≤ i ∨ ys.length ≤ i)⟩
theorem aO8 {P : Program} {w : World} {K : PySem.W.Frag} {elts : List Expr} {k : Nat} {tpos : Pos} (a b z TI TO i1 i2 : Addr) (D : ZipApart z TI TO i1 i2 a b) :
    aK7 P w K (.Tuple elts k tpos) (bm9 K a b) [z, TI, TO, i1, i2] z (fun i h => IsZip h z TI TO .none ∧ IsPair h TI (.ref i1) (.ref i2) ∧ (∃ a b, IsPair h TO a b) ∧ h.IsTupleIter i1 a i ∧ h.IsTupleIter i2 b i) where
  mem := by simp
  obj := fun i h st c hc => by
    obtain ⟨hz, hTI, ⟨p, q, hTO⟩, h1, h2⟩ := st
    rcases (by simpa using hc : c = z ∨ c = TI ∨ c = TO ∨ c = i1 ∨ c = i2) with e | e | e | e | e <;> subst e
    · exact ⟨_, hz, fun v z => by cases z⟩
    · exact ⟨_, hTI, fun v z => by cases z⟩
    · exact ⟨_, hTO, fun v z => by cases z⟩
    · obtain ⟨o, e, c, d⟩ := h1
      exact ⟨o, e, fun v z => by rw [d] at z; cases z⟩
    · obtain ⟨o, e, c, d⟩ := h2
      exact ⟨o, e, fun v z => by rw [d] at z; cases z⟩
  keep := fun i h h' st k => by
    obtain ⟨hz, hTI, ⟨p, q, hTO⟩, h1, h2⟩ := st
    exact ⟨k z (by simp) _ hz, k TI (by simp) _ hTI, ⟨p, q, k TO (by simp) _ hTO⟩, h1.at fun o e => k i1 (by simp) o e, h2.at fun o e => k i2 (by simp) o e⟩
  item := by
    intro X hP hw hK hc i pins s σ H E I hf st hg
    subst hP hw hK
    obtain ⟨xs, ys, x, y, hq, hq', hx, hy⟩ := hg
    obtain ⟨its, rv, p, hlz⟩ := I.tuple hq
    obtain ⟨its', rv', p', hlz'⟩ := I.tuple hq'
    obtain ⟨u, hu, ru⟩ := rv.get hx
    obtain ⟨u', hu', ru'⟩ := rv'.get hy
    obtain ⟨hz, hTI, ⟨pa, pb, hTO⟩, h1, h2⟩ := st
    have zlt : z < s.heap.objs.size := Heap.lt_size hz
    refine aO6 D (ad3 (ar := its.toArray) D.l1i1) (ad3 (ar := its'.toArray) D.l2i2) hz hTI hTO ⟨h1, (show Heap.IsTuple _ a its.toArray from p)⟩ ⟨h2, (show Heap.IsTuple _ b its'.toArray from p')⟩ (x := u) (y := u') (by simpa using hu) (by simpa using hu') (by obtain ⟨o, e, _⟩ := h1; exact ⟨o, e⟩) (by obtain ⟨o, e, _⟩ := h2; exact ⟨o, e⟩) fun h' a1 a2 a3' a4' a5 a6 kk => ?_
    have a3 := a3'.1
    have a4 := a4'.1
    refine ⟨_, rfl, ?_⟩
    refine wpAny_letOwnedTupleGo_zip (s := { s with heap := h' }) a1 fun h'' hz'' sb => ?_
    have up : ∀ c o, c ≠ z → h'.get? c = some o → h''.get? c = some o := fun c o n q => (sb.2 c n).trans q
    have hT' : h''.get? s.heap.objs.size = some { cls := .type "tuple", data := .seq #[u, u'] } := up _ _ (Nat.ne_of_gt zlt) a5
    refine ⟨.ref s.heap.objs.size, upd H s.heap.objs.size (.tup [x, y]), I.turnLaid (fp := [z, TI, TO, i1, i2]) (t' := s.toks) hf (fun c v hb q => ?_) (Nat.le_refl _) ?_, rfl, ?_, ?_, fun c hb => ?_⟩
    · have n1 : c ≠ z := fun e => hb (by simp [e])
      have n2 : c ≠ TO := fun e => hb (by simp [e])
      have n3 : c ≠ i1 := fun e => hb (by simp [e])
      have n4 : c ≠ i2 := fun e => hb (by simp [e])
      exact up c v n1 (kk c v n1 n2 n3 n4 q)
    · exact ⟨(show 2 ≤ sizeLine by decide +kernel), [u, u'], .cons ru (.cons ru' .nil), _, hT', rfl, _, rfl⟩
    · intro vs ws hv hw
      rw [I.tuple_inj hv hq, I.tuple_inj hw hq']
      exact ⟨x, y, _, hx, hy, I.fresh, rfl, rfl⟩
    · refine ⟨hz'', up _ _ D.TIz (kk _ _ D.TIz D.TITO D.TIi1 D.TIi2 hTI), ⟨u, u', up _ _ D.TOz a2⟩, a3.at fun o q => up _ o D.i1z q, a4.at fun o q => up _ o D.i2z q⟩
    · have hlt : c < s.heap.objs.size := by
        have l1 : i1 < s.heap.objs.size := by obtain ⟨_, e, _⟩ := h1; exact Heap.lt_size e
        have l2 : i2 < s.heap.objs.size := by obtain ⟨_, e, _⟩ := h2; exact Heap.lt_size e
        rcases (by simpa using hb : c = z ∨ c = TI ∨ c = TO ∨ c = i1 ∨ c = i2) with e | e | e | e | e <;> rw [e]
        · exact zlt
        · exact Heap.lt_size hTI
        · exact Heap.lt_size hTO
        · exact l1
        · exact l2
      rw [j5 (Nat.ne_of_lt hlt)]
      exact (hf c hb).1
  done := by
    intro X hP hw hK hc i pins s σ H E I hf st hg
    subst hP hw hK
    obtain ⟨xs, ys, hq, hq', hend⟩ := hg
    obtain ⟨its, rv, p, hlz⟩ := I.tuple hq
    obtain ⟨its', rv', p', hlz'⟩ := I.tuple hq'
    obtain ⟨hz, hTI, ⟨pa, pb, hTO⟩, h1, h2⟩ := st
    have l1 := rv.length
    have l2 := rv'.length
    refine aO5 (I.ok.hd hc) D (ad3 (ar := its.toArray) D.l1i1) (ad3 (ar := its'.toArray) D.l2i2) hz hTI hTO ⟨h1, (show Heap.IsTuple _ a its.toArray from p)⟩ ⟨h2, (show Heap.IsTuple _ b its'.toArray from p')⟩ ?_ fun h' kk => ⟨rfl, ?_⟩
    · rcases hend with e | e
      · exact .inl (by simp; omega)
      · exact .inr (by simp; omega)
    · have nf : ∀ b u, H b = some u → b ∉ [z, TI, TO, i1, i2] := fun b u e q => by rw [(hf b q).1] at e; cases e
      have k : ∀ b u, b ∉ [z, TI, TO, i1, i2] → s.heap.get? b = some u → h'.get? b = some u := fun c o hb q => kk c o (fun e => hb (by simp [e])) (fun e => hb (by simp [e])) (fun e => hb (by simp [e])) (fun e => hb (by simp [e])) q
      refine I.step (t' := s.toks) (g' := s.gens) (d' := s.drawn) (ch := [z, TI, TO, i1, i2]) (fun b hb => ?_) (fun b o _ _ hc e _ => k b o hc e) (fun b o _ _ hc e _ => ⟨o.slots, k b o hc e⟩) (fun b o _ e n => n)
        (fun b o hc e => ⟨o, k b o hc e⟩) (fun b xs e => e) (fun b o u e => e) (fun b ps e => ⟨#[], by rw [e]; simp⟩) (fun m hm => ?_) (fun b u e => ?_) I.bare
      · obtain ⟨_, f1, _, f3, f4, f5⟩ := hf b hb
        exact ⟨f3, f1, f4, f5⟩
      · obtain ⟨o, es, ep, ho, r⟩ := hm
        exact ⟨o, es, ep, k _ o (fun q => (hf _ q).2.1 rfl) ho, r⟩
      · refine (I.hok b u e).stay (fun c v hc q => k c v ?_ q) (fun c q => q) fun c xs q => q
        rcases hc with q | q
        · rw [q]; exact nf b u e
        · exact nf c _ q
  self := fun _ _ _ _ _ st h => wpAny_pyIter_zip st.1 h
section
variable {X : Cx}
def aW9 (K : PySem.W.Frag) (ta : TA) : TI := fun σ H R => ta σ H fun vs H1 => ∃ a b, vs = [.ref a, .ref b] ∧ (∃ xs, SqT K H1 a xs) ∧ (∃ ys, SqT K H1 b ys) ∧ R (bm9 K a b) H1
theorem bb6 {elts : List Expr} {k : Nat} {tpos : Pos} {l l' : Expr} {ta : TA} {p pos : Pos} (hg : Gl X "zip") (hm : X.mg "zip" = none) (ha : PA X [l, l'] ta) (hs : starEach [l, l'] X.env = [(false, eval l X.env), (false, eval l' X.env)] := by rfl) (hs2 : starEach [l'] X.env = [(false, eval l' X.env)] := by rfl) :
    PI X (.Tuple elts k tpos) (.Call (.Name "zip" p) [l, l'] [] pos) (aW9 X.K ta) := by
  intro pins s σ H R I h
  refine Call_ (aa1 I hg hm (u := .type "zip") (by decide +kernel) (PyProof.Rows.callWith_type1 (thn (ha pos pins s σ H _ I h) fun us s1 ⟨vs, H1, I1, r1, q1⟩ => ?_) (by rw [hs, hs2]) (by rw [hs2]; rfl)))
  obtain ⟨a, b, e, ⟨xs, hq⟩, ⟨ys, hq'⟩, q⟩ := q1
  subst e
  obtain ⟨u, u', rfl, rx, rx'⟩ := t3.two r1
  cases rx
  cases rx'
  obtain ⟨its, rv, p, hz⟩ := I1.tuple hq
  obtain ⟨its', rv', p', hz'⟩ := I1.tuple hq'
  have a1 : a < s1.heap.objs.size := by obtain ⟨_, e, _⟩ := p; exact Heap.lt_size e
  have a2 : b < s1.heap.objs.size := by obtain ⟨_, e, _⟩ := p'; exact Heap.lt_size e
  refine aR9 (show Heap.IsTuple _ a its.toArray from p) (show Heap.IsTuple _ b its'.toArray from p') fun h' hz hTI hTO hi1 hi2 hsz kk => ?_
  refine wpAny_pyIter_zip hz ?_
  have I2 : Inv X pins σ H1 { s1 with heap := h' } := I1.kept (t' := s1.toks) kk
  refine ⟨_, _, _, _, H1, rfl, I2, aO8 a b _ _ _ _ _ (zipApart_new a1 a2), ⟨hz, hTI, ⟨_, _, hTO⟩, hi1, hi2⟩, fun c hb => ?_, q⟩
  have hb' : s1.heap.objs.size ≤ c := by
    rcases (by simpa using hb : c = s1.heap.objs.size + 4 ∨ c = s1.heap.objs.size + 2 ∨ c = s1.heap.objs.size + 3 ∨ c = s1.heap.objs.size ∨ c = s1.heap.objs.size + 1) with e | e | e | e | e <;> rw [e]
    · exact Nat.le_add_right _ _
    · exact Nat.le_add_right _ _
    · exact Nat.le_add_right _ _
    · exact Nat.le_refl _
    · exact Nat.le_add_right _ _
  obtain ⟨f0, f1, f2, f3, f4, f5⟩ := I1.fpOk (H' := H1) hb' (I1.hok.fresh hb')
  exact ⟨f0, f1, f2, f3, f4, f5⟩
end
open PySem PyProof.Rows
section
variable {X : Cx} {pos : Pos}
def bf1 (te : TE) (g g' : TG) : TS := fun D σ H => te σ H fun x H1 => g x σ H1 fun σ2 H2 => g' x σ2 H2 D.nx
theorem bb5 {tg tg' e : Expr} {te : TE} {g g' : TG} (he : PE X e te) (hg : PG X tg g) (hg' : PG X tg' g') (hs : swapsWithSole [tg, tg'] e pos.line X.env = pure false := by rfl) (hw : swappedStores [tg, tg'] e X.env = pure none := by rfl)
    (h1 : (assignEach [tg, tg'] X.env).map (·.2) = [assign tg X.env, assign tg' X.env] := by rfl) : PS X (.Assign [tg, tg'] e pos) (bf1 te g g') := by
  intro pins s σ H D I h
  refine wpAny_Assign_stores (thn (he pins s σ H _ I h) fun v s1 ⟨x, H1, I1, r1, q1⟩ => ?_) hs hw
  rw [h1]
  show wpAny (model X.prog X.w) X.A (do holding [v] (assign tg X.env v); assign tg' X.env v) _ _ _
  refine wpAny_bind (wpAny_holding (thn (hg pins s1 σ H1 x v _ I1 r1 q1) fun _ s2 ⟨σ2, H2, I2, q2⟩ => ?_))
  exact thn (hg' pins s2 σ2 H2 x v _ I2 r1 q2) fun _ s3 q => q
end
section
variable {prog : Program} {w : World} {A : Around} {E : Value → Shared → Prop} {s : Shared}
theorem aW3 {a b : Int} {t u : Tok} {Q : Value → Shared → Prop} (h : Q (.bool (decide (a < b))) s) : wpAny (model prog w) A (richCompare .Lt (.int a t) (.int b u)) Q E s :=
  richCompare_gives (op := .Lt) (typeIs_int s _ t) (typeIs_int s _ u) F.slot_int_lt F.entry_int_lt (F.args_int_lt_2 _ _) (gives_int_lt _ _ t u) (fun x => nomatch x) h
theorem aS3 (a : Value) : argsOk "min" ⟨[a], []⟩ := by unfold argsOk; kernel_rfl
variable {R : Result → Shared → Prop} {I : Addr} {fp wr : List Addr} {n : Nat} {P : Nat → Value → Prop} {St : Nat → Heap → Prop}
theorem aQ3 (W : Walks prog w A.in1 I fp wr n P St) (Pr : Int → Prop) (hint : ∀ i v, P i v → ∃ x t, v = .int x t ∧ Pr x) (S : Addr) (hSf : S ∉ fp) :
    ∀ (k j : Nat) (s : Shared) (x0 : Int) (t0 : Tok) (c : Nat), Pr x0 → n - (j + 1) = k → j + 1 ≤ n → St (j + 1) s.heap →
    s.heap.get? S = some { cls := .type "list", dict := none, data := .seq #[.int x0 t0, .int x0 t0] c, slots := #[] } →
    (∀ x t h' tk, Pr x → (∀ b o, b ∉ wr → b ≠ S → s.heap.get? b = some o → h'.get? b = some o) → R (.ok (.ret (.int x t))) { s with heap := h', toks := tk }) →
    codeAny (model prog w) A (.builtin "min.loop" ⟨[.ref I, .none, .ref S], []⟩) R s := by
  have hSw : S ∉ wr := fun h => hSf (W.sub _ h)
  have hname : (toString "min" ++ toString ".loop" : String) = "min.loop" := by decide
  intro k
  induction k with
  | zero =>
    intro j s x0 t0 c px hk hj hst hS hR
    have hin : j + 1 = n := by omega
    refine codeAny_builtin F.entry_min_loop ?_
    rw [Around.under_plainId F.plain_min_loop _]
    show wpAny _ A.in1 (seqItems? (.ref S) >>= _) _ _ s
    refine wpAny_bind (wpAny_seqItems hS rfl ?_)
    show wpAny _ A.in1 (tryCatch (pyNext (.ref I)) _ >>= _) _ _ s
    refine wpAny_bind (wpAny_tryCatch (W.done s _ _ (hin ▸ hst) fun h' tk hk' => ?_))
    have hS' := hk' S _ hSw hS
    show wpAny _ A.in1 (updateSeq S (fun _ => #[]) >>= _) _ _ _
    refine wpAny_bind ?_
    refine wpAny_updateSeq hS' rfl (wpAny_bind (wpAny_letGo (wpAny_pure ?_)))
    exact hR x0 t0 _ tk px fun b o hbw hbS e => (Heap.get?_update_other _ _ (Ne.symm hbS)).trans (hk' b o hbw e)
  | succ k ih =>
    intro j s x0 t0 c px hk hj hst hS hR
    have hlt : j + 1 < n := by omega
    refine codeAny_builtin F.entry_min_loop ?_
    rw [Around.under_plainId F.plain_min_loop _]
    show wpAny _ A.in1 (seqItems? (.ref S) >>= _) _ _ s
    refine wpAny_bind (wpAny_seqItems hS rfl ?_)
    show wpAny _ A.in1 (tryCatch (pyNext (.ref I)) _ >>= _) _ _ s
    refine wpAny_bind (wpAny_tryCatch (W.item (j + 1) s _ _ hlt hst fun v h' tk hP hst' hk' => ?_))
    obtain ⟨x1, t1, rfl, p1⟩ := hint _ _ hP
    have hS' := hk' S _ hSw hS
    show wpAny _ A.in1 (tryCatch (holding [.int x1 t1, .int x1 t1] (richCompare .Lt (.int x1 t1) (.int x0 t0) >>= _)) _ >>= _) _ _ _
    refine wpAny_bind (wpAny_tryCatch (wpAny_holding (wpAny_bind (aW3 ?_))))
    refine wpAny_bind (wpAny_holding (wpAny_truthy_bool ?_))
    refine wpAny_bind (wpAny_letGo (wpAny_pure ?_))
    cases hb : decide (x1 < x0) with
    | true =>
      simp only [if_true]
      refine wpAny_bind ?_
      refine wpAny_updateSeq hS' rfl (wpAny_bind (wpAny_letGo ?_))
      rw [hname]
      refine wpAny_pure ⟨plainId_quiet F.plain_min_loop _, ih (j + 1) _ x1 t1 _ p1 (by omega) hlt (W.frame _ _ _ hst' fun b hbf o e => ?_) (Heap.get?_update_self _ hS' rfl)
        fun x t h'' tk'' pp hk'' => ?_⟩
      · exact (Heap.get?_update_other _ _ (fun h : S = b => hSf (by rw [h]; exact hbf))).trans e
      · exact hR x t h'' tk'' pp fun b o hbw hbS e => hk'' b o hbw hbS ((Heap.get?_update_other _ _ (Ne.symm hbS)).trans (hk' b o hbw e))
    | false =>
      simp only [Bool.false_eq_true, if_false]
      refine wpAny_bind (wpAny_letGo ?_)
      rw [hname]
      refine wpAny_pure ⟨plainId_quiet F.plain_min_loop _, ih (j + 1) _ x0 t0 c px (by omega) hlt hst' hS' fun x t h'' tk'' pp hk'' => ?_⟩
      exact hR x t h'' tk'' pp fun b o hbw hbS e => hk'' b o hbw hbS (hk' b o hbw e)
theorem aJ1 (W : Walks prog w A.in1 I fp wr n P St) (Pr : Int → Prop) (hn : 0 < n) (hint : ∀ i v, P i v → ∃ x t, v = .int x t ∧ Pr x) (S : Addr) (hSf : S ∉ fp) {c : Nat} (hst : St 0 s.heap)
    (hS : s.heap.get? S = some { cls := .type "list", dict := none, data := .seq #[] c, slots := #[] })
    (hR : ∀ x t h' tk, Pr x → (∀ b o, b ∉ wr → b ≠ S → s.heap.get? b = some o → h'.get? b = some o) → R (.ok (.ret (.int x t))) { s with heap := h', toks := tk }) :
    codeAny (model prog w) A (.builtin "min.loop" ⟨[.ref I, .none, .ref S], []⟩) R s := by
  have hSw : S ∉ wr := fun h => hSf (W.sub _ h)
  have hname : (toString "min" ++ toString ".loop" : String) = "min.loop" := by decide
  refine codeAny_builtin F.entry_min_loop ?_
  rw [Around.under_plainId F.plain_min_loop _]
  show wpAny _ A.in1 (seqItems? (.ref S) >>= _) _ _ s
  refine wpAny_bind (wpAny_seqItems hS rfl ?_)
  show wpAny _ A.in1 (tryCatch (pyNext (.ref I)) _ >>= _) _ _ s
  refine wpAny_bind (wpAny_tryCatch (W.item 0 s _ _ hn hst fun v h' tk hP hst' hk' => ?_))
  obtain ⟨x1, t1, rfl, p1⟩ := hint _ _ hP
  have hS' := hk' S _ hSw hS
  show wpAny _ A.in1 (updateSeq S (fun _ => #[.int x1 t1, .int x1 t1]) >>= _) _ _ _
  refine wpAny_bind ?_
  refine wpAny_updateSeq hS' rfl ?_
  rw [hname]
  refine wpAny_pure ⟨plainId_quiet F.plain_min_loop _, aQ3 W Pr hint S hSf _ 0 _ x1 t1 _ p1 rfl hn (W.frame _ _ _ hst' fun b hbf o e => ?_) (Heap.get?_update_self _ hS' rfl) fun x t h'' tk'' pp hk'' => ?_⟩
  · exact (Heap.get?_update_other _ _ (fun h : S = b => hSf (by rw [h]; exact hbf))).trans e
  · exact hR x t h'' tk'' pp fun b o hbw hbS e => hk'' b o hbw hbS ((Heap.get?_update_other _ _ (Ne.symm hbS)).trans (hk' b o hbw e))
end
section
variable {X : Cx}
def bf4 (K : PySem.W.Frag) : List V → Hp → VK → Prop := fun vs H Q => ∃ (a : Addr) (ns : List Int), vs = [.ref a] ∧ SqL K H a (ns.map V.int) ∧ ns ≠ [] ∧ ∀ i ∈ ns, Q (.int i) H
theorem aS0 (hc : X.calm = true) : Y7 X (.builtin "min") (bf4 X.K) := by
  intro pins s σ H us vs Q I r h
  obtain ⟨a, ns, rfl, hq, hne, q⟩ := h
  obtain ⟨u, rfl, rx⟩ := ab3 r
  cases rx
  have hname : (toString "min" ++ toString ".loop" : String) = "min.loop" := by decide
  obtain ⟨its, r', pl, hz⟩ := I.list hq
  have hp : a ≠ s.heap.objs.size := by
    obtain ⟨o, ho, _⟩ := pl.isList
    exact Nat.ne_of_lt (Heap.lt_size ho)
  refine aC0 F.kind_min F.plain_min F.entry_min (aS3 _) ?_
  show wpAny _ X.A.in1 (Builtin.Builtins.bindParams "min" ["key", "default"] 0 ⟨[], []⟩ >>= _) _ _ s
  refine wpAny_bind (wpAny_of_eq (show Builtin.Builtins.bindParams "min" ["key", "default"] 0 ⟨[], []⟩ = pure [none, none] from by with_unfolding_all rfl) ?_)
  refine wpAny_bind (wpAny_pure ?_)
  refine wpAny_bind (wpAny_pyIter_list pl.isList ?_)
  refine wpAny_bind (wpAny_newObj_type ?_)
  have a1 : a < s.heap.objs.size := by obtain ⟨o, ho, _⟩ := pl.isList; exact Heap.lt_size ho
  rw [hname]
  refine wpAny_pure ⟨plainId_quiet F.plain_min_loop _, ?_⟩
  refine aJ1 (Walks.list (A := X.A.in1) (I.ok.hd hc) s.heap.objs.size a hp its.toArray) (· ∈ ns) ?_ ?_ _ ?_ ⟨⟨_, Heap.get?_push_of_some _ (Heap.get?_push_size _ rfl), rfl, rfl⟩, pl.isList.at fun o e => Heap.get?_push_of_some _ (Heap.get?_push_of_some _ e)⟩ (Heap.get?_push_size _ rfl) ?_
  · rw [List.size_toArray, ← r'.length, List.length_map]; exact List.length_pos_iff.mpr hne
  · intro i v hv
    have hv' : its[i]? = some v := by simpa using hv
    have hi : i < ns.length := by
      have := (List.getElem?_eq_some_iff.mp hv').1
      rw [← r'.length, List.length_map] at this; exact this
    obtain ⟨u, hu, ru⟩ := r'.get (i := i) (x := .int ns[i]) (by rw [List.getElem?_map, List.getElem?_eq_getElem hi]; rfl)
    rw [hv'] at hu
    cases hu
    obtain ⟨t, rfl⟩ := ru
    exact ⟨_, _, rfl, List.getElem_mem hi⟩
  · rw [Heap.size_push]
    intro z
    rcases (by simpa using z : s.heap.objs.size + 1 = s.heap.objs.size ∨ s.heap.objs.size + 1 = a) with e | e
    · exact absurd e (Nat.succ_ne_self _)
    · exact absurd a1 (by rw [← e]; exact Nat.not_lt.mpr (Nat.le_succ _))
  · intro x t h' tk px kk
    refine ⟨.int x, H, I.kept (t' := tk) fun b o e => kk b o ?_ ?_ (Heap.get?_push_of_some _ (Heap.get?_push_of_some _ e)), ⟨t, rfl⟩, q x px⟩
    · intro z
      have : b = s.heap.objs.size := by simpa using z
      exact absurd (Heap.lt_size e) (by rw [this]; exact Nat.lt_irrefl _)
    · rw [Heap.size_push]
      intro z
      exact absurd (Heap.lt_size e) (by rw [z]; exact Nat.not_lt.mpr (Nat.le_succ _))
end
theorem am4 (l : Addr) (items : Array Value) (hfit : (items.size : Int) < 2 ^ 63) :
    Meets (Builtin.«bool.__new__» ⟨[.type "bool", .ref l], []⟩) (fun _ R s => s.heap.IsList l items ∧ R (.ok (.ret (.bool (!items.isEmpty)))) { s with toks := s.toks + 1 + 1 }) :=
  Meets.of_wp fun prog w A R s hs => by
    obtain ⟨hp, g, d, tk, os⟩ := s
    have f1 := F.conv_sub_bool
    repeat (any_goals (first | assumption | (with_reducible refine wpAny_truthy_list hs.1 hfit ?_) | wp_step))
    all_goals first | exact ⟨_, rfl, hs.2⟩ | exact hs.2 | skip
section
variable {X : Cx}
def aU3 (K : PySem.W.Frag) : List V → Hp → VK → Prop := fun xs H Q => ∃ a ys, xs = [.ref a] ∧ SqL K H a ys ∧ Q (.bl (!ys.isEmpty)) H
theorem aK4 : Y7 X (.type "bool") (aU3 X.K) := by
  intro pins s σ H xs us Q I r h
  obtain ⟨a, ys, rfl, hq, q⟩ := h
  obtain ⟨u, rfl, r1⟩ := ab3 r
  cases r1
  obtain ⟨its, rr, pl, hz⟩ := I.list hq
  have hl := ak0
  have hlen := rr.length
  refine call_bool_1 (am4 a its.toArray (by simp only [List.size_toArray]; omega)) ?_
  exact ⟨pl.isList, rfl, .bl (!ys.isEmpty), H, I.tok _, by rw [af8 rr]; rfl, q⟩
end
end L2
set_option maxRecDepth 100000
namespace HT
open PySem PyProof.Rows
end HT
namespace L2
open PySem PySem.Spec PyProof.Rows
end L2
set_option maxRecDepth 100000
namespace PySem
open Sem (wp)
open AutoSeq1 (wpAny_loadPart')
end PySem
namespace L2
open PySem PySem.Spec PyProof.Rows
end L2
set_option maxRecDepth 100000
namespace R
open PySem L2 PyProof.Rows
def o9 (f : Nat → Rat) : Nat → Rat
  | 0 => 0
  | n + 1 => o9 f n + f n
theorem ab5 (f : Nat → Rat) : ∀ n, o9 f (n + 1) = f 0 + o9 (fun i => f (i + 1)) n
  | 0 => by simp only [o9]; grind
  | n + 1 => by
    rw [o9, ab5 f n, o9]; grind
theorem v5 {f g : Nat → Rat} : ∀ {n}, (∀ i, i < n → f i = g i) → o9 f n = o9 g n
  | 0, _ => rfl
  | n + 1, h => by rw [o9, o9, v5 fun i hi => h i (by omega), h n (by omega)]
theorem V2 : ∀ (n : Nat) (f : Nat → Rat), o9 f n = o9 (fun i => f (n - 1 - i)) n
  | 0, _ => rfl
  | n + 1, f => by
    rw [ab5 (fun i => f (n + 1 - 1 - i)) n, o9, V2 n f]
    have : o9 (fun i => f (n - 1 - i)) n = o9 (fun i => f (n + 1 - 1 - (i + 1))) n := v5 fun i hi => by congr 1; omega
    rw [this]
    show _ = f (n + 1 - 1 - 0) + _
    rw [show n + 1 - 1 - 0 = n by omega]
    grind
theorem O9 {f : Nat → Rat} {m : Nat} : ∀ {n}, m ≤ n → (∀ i, m ≤ i → i < n → f i = 0) → o9 f n = o9 f m
  | 0, h, _ => by rw [show m = 0 by omega]
  | n + 1, h, z => by
    by_cases e : m = n + 1
    · rw [e]
    · rw [o9, z n (by omega) (by omega), O9 (n := n) (by omega) fun i a b => z i a (by omega)]
      grind
theorem aw2 (f : List Rat) (i : Nat) (x : Rat) (q : List Rat) {k : Nat} (y : Rat) (hy : f[k]? = some y) : ∀ j, (M4 0 f i x q j)[k]? = some (y + if i ≤ k ∧ k < i + j then x * (q[k - i]?).getD 0 else 0)
  | 0 => by
    rw [M4, hy, if_neg (by omega)]; congr 1; grind
  | j + 1 => by
    have ih := aw2 f i x q y hy j
    rw [M4]
    by_cases e : k = i + j
    · subst e
      rw [as9 _ _ _ _ ih, if_neg (by omega), if_pos (by omega), show i + j - i = j by omega]
      congr 1; grind
    · rw [am1 _ _ _ _ e, ih]
      by_cases h : i ≤ k ∧ k < i + j
      · rw [if_pos h, if_pos (by omega)]
      · rw [if_neg h, if_neg (by omega)]
def ay1 (p q : List Rat) (k i : Nat) : Rat := if i ≤ k then (p[i]?).getD 0 * (q[k - i]?).getD 0 else 0
theorem av9 (f p q : List Rat) {k : Nat} (hy : f[k]? = some 0) : ∀ n, (J2 0 f p q n)[k]? = some (o9 (ay1 p q k) n)
  | 0 => hy
  | n + 1 => by
    rw [J2, aw2 _ _ _ _ _ (av9 f p q hy n), o9]
    congr 2
    unfold ay1
    by_cases h : n ≤ k
    · rw [if_pos h]
      by_cases h2 : k < n + q.length
      · rw [if_pos ⟨h, h2⟩]
      · rw [if_neg (by omega), List.getElem?_eq_none (l := q) (by omega)]
        show (0 : Rat) = _ * 0
        grind
    · rw [if_neg h, if_neg (by omega)]
theorem ar3 {p q : List Rat} (hp : p ≠ []) (hq : q ≠ []) {k : Nat} (hk : k < p.length + q.length - 1) : (M3 p q)[k]? = some (o9 (fun i => (p[i]?).getD 0 * (q[k - i]?).getD 0) (k + 1)) := by
  unfold M3
  rw [if_neg (by simp [hp, hq]), av9 _ _ _ (by rw [List.getElem?_replicate, if_pos hk])]
  congr 1
  have h1 : o9 (ay1 p q k) (max p.length (k + 1)) = o9 (ay1 p q k) p.length := O9 (by omega) fun i a _ => by
    unfold ay1
    rw [List.getElem?_eq_none a]
    split
    · show (0 : Rat) * _ = 0; grind
    · rfl
  have h2 : o9 (ay1 p q k) (max p.length (k + 1)) = o9 (ay1 p q k) (k + 1) := O9 (by omega) fun i a _ => by
    unfold ay1
    rw [if_neg (by omega)]
  rw [← h1, h2]
  exact v5 fun i hi => by unfold ay1; rw [if_pos (by omega)]
theorem aQ2 (p q : List Rat) : M3 p q = M3 q p := by
  by_cases hp : p = []
  · subst hp; simp [M3]
  by_cases hq : q = []
  · subst hq; simp [M3]
  refine List.ext_getElem? fun k => ?_
  by_cases hk : k < p.length + q.length - 1
  · rw [ar3 hp hq hk, ar3 hq hp (by omega), V2]
    congr 1
    refine v5 fun i hi => ?_
    rw [show k + 1 - 1 - i = k - i by omega, show k - (k - i) = i by omega]
    grind
  · rw [List.getElem?_eq_none (by rw [ah8 hp hq]; omega), List.getElem?_eq_none (by rw [ah8 hq hp]; omega)]
end R
namespace L2
theorem j9 {t R : TS} {D : ag1} {σ : St} {H : Hp} (P : St → Hp → Prop) (first : ∀ N : St → Hp → Prop, (∀ σ H, P σ H → N σ H) → t { D with nx := N } σ H) (am2 : ∀ σ H, P σ H → R D σ H) : ba2 t R D σ H := first _ am2
end L2
set_option maxRecDepth 100000
namespace R
section
variable {α : Type} [Lean.Grind.CommRing α]
def syn (c : α) : List α → List α
  | [] => []
  | a :: p => match syn c p with
    | [] => [a]
    | h :: t => (a + c * h) :: h :: t
def pass (c : α) (k : Nat) (l : List α) : List α := l.take k ++ syn c (l.drop k)
end
open PySem L2 PyProof.Rows
structure Bd6 (q : Rat) : Prop where
  n : q.num.natAbs < 2 ^ 6000
  d : q.den < 2 ^ 6000
theorem al2 : ∀ (qs : List Rat) (b : Nat), 0 < b → 0 < qs.foldl (fun b q => Nat.lcm b q.den) b
  | [], b, h => h
  | q :: qs, b, h => al2 qs _ (Nat.lcm_pos h (by have := q.den_nz; omega))
theorem B9 (qs : List Rat) : 0 < i9 qs := al2 qs 1 (by decide)
theorem al4 (m : Nat) : ∀ (qs : List Rat) (b n : Nat), 0 < b → b < 2 ^ n → (∀ q ∈ qs, q.den < 2 ^ m) → qs.foldl (fun b q => Nat.lcm b q.den) b < 2 ^ (n + m * qs.length)
  | [], b, n, h0, h, _ => by simpa using h
  | q :: qs, b, n, h0, h, k => by
    have hd : 0 < q.den := by have := q.den_nz; omega
    have h1 : 0 < Nat.lcm b q.den := Nat.lcm_pos h0 hd
    have h2 : Nat.lcm b q.den ≤ b * q.den := Nat.le_of_dvd (Nat.mul_pos h0 hd) (Nat.lcm_dvd (Nat.dvd_mul_right _ _) (Nat.dvd_mul_left _ _))
    have h3 : b * q.den < 2 ^ (n + m) := by rw [Nat.pow_add]; exact Nat.mul_lt_mul'' h (k q List.mem_cons_self)
    have ih := al4 m qs (Nat.lcm b q.den) (n + m) h1 (by omega) fun r hr => k r (List.mem_cons_of_mem _ hr)
    have e : n + m + m * qs.length = n + m * (q :: qs).length := by rw [List.length_cons, Nat.mul_succ]; omega
    rw [e] at ih
    exact ih
theorem aW5 {m : Nat} {qs : List Rat} (h : ∀ q ∈ qs, q.den < 2 ^ m) : i9 qs < 2 ^ (1 + m * qs.length) := al4 m qs 1 1 (by decide) (by decide) h
theorem aB9 (qs : List Rat) : Int.gcd (G0 (j1 (i9 qs) qs) : Int) (i9 qs : Int) = 1 := by
  have hB := B9 qs
  have key : ∀ c : Nat, c ∣ G0 (j1 (i9 qs) qs) → c ∣ i9 qs → c = 1 := by
    intro c h1 h2
    have hc : 0 < c := Nat.pos_of_dvd_of_pos h2 hB
    have h3 : i9 qs ∣ i9 qs / c := by
      refine ar4 fun q hq => ?_
      obtain ⟨e, he⟩ := K8 hq
      have hd : (q.den : Int) ≠ 0 := by have := q.den_nz; omega
      have e1 : (i9 qs : Int).fdiv (q.den : Int) = (e : Int) := by
        rw [he, Int.natCast_mul]; exact o8 hd
      have m1 : (c : Int) ∣ q.num * (e : Int) := by
        have := Int.dvd_trans (Int.natCast_dvd_natCast.mpr h1) (T2 (List.mem_map.mpr ⟨q, hq, rfl⟩))
        rw [e1] at this; exact this
      have m2 : c ∣ q.num.natAbs * e := by
        have := Int.natAbs_dvd_natAbs.mpr m1
        rw [Int.natAbs_mul] at this
        simpa using this
      have m3 : c ∣ q.den * e := by rw [← he]; exact h2
      have m4 : c ∣ e := by
        have := Nat.dvd_gcd m2 m3
        rw [Nat.gcd_mul_right] at this
        have hg : Nat.gcd q.num.natAbs q.den = 1 := q.reduced
        rw [hg, Nat.one_mul] at this
        exact this
      obtain ⟨f, hf⟩ := m4
      rw [he, hf]
      refine ⟨f, ?_⟩
      rw [show q.den * (c * f) = c * (q.den * f) by grind, Nat.mul_div_cancel_left _ hc]
    have h4 := Nat.le_of_dvd (Nat.div_pos (Nat.le_of_dvd hB h2) hc) h3
    have h5 := Nat.div_mul_cancel h2
    by_cases hc1 : c = 1
    · exact hc1
    · have : i9 qs / c * 2 ≤ i9 qs / c * c := Nat.mul_le_mul_left _ (by omega)
      omega
  have z := key (Int.gcd (G0 (j1 (i9 qs) qs) : Int) (i9 qs : Int))
  refine z ?_ ?_
  · exact Int.natCast_dvd_natCast.mp (Int.gcd_dvd_left _ _)
  · exact Int.natCast_dvd_natCast.mp (Int.gcd_dvd_right _ _)
theorem K9 {f : Nat → Rat} : ∀ n, (∀ i, i < n → f i = 0) → o9 f n = 0
  | 0, _ => rfl
  | n + 1, h => by
    rw [o9, K9 n (fun i hi => h i (by omega)), h n (by omega)]
    grind
open PySem L2 PyProof.Rows
theorem aC3 {qs : List Rat} {B m n : Nat} (hs : ∀ q ∈ qs, BdN m q) (hB : B < 2 ^ n) (hd : ∀ q ∈ qs, q.den ∣ B) : ∀ v ∈ j1 B qs, Int.natAbs v < 2 ^ (m + n) := by
  intro v hv
  obtain ⟨q, hq, rfl⟩ := List.mem_map.mp hv
  obtain ⟨e, he⟩ := hd q hq
  have h0 : (q.den : Int) ≠ 0 := by have := q.den_nz; omega
  have e1 : (B : Int).fdiv (q.den : Int) = (e : Int) := by
    rw [he, Int.natCast_mul]; exact o8 h0
  have h1 : e ≤ B := by rw [he]; exact Nat.le_mul_of_pos_left _ (by have := q.den_nz; omega)
  rw [e1, Int.natAbs_mul, Int.natAbs_natCast, Nat.pow_add]
  exact Nat.mul_lt_mul'' (hs q hq).n (by omega)
structure ClN (W : Nat) (qs : List Rat) : Prop where
  l : i9 qs < 2 ^ W
  w : ∀ v ∈ j1 (i9 qs) qs, Int.natAbs v < 2 ^ W
theorem ClN.den {W : Nat} {qs : List Rat} (h : ClN W qs) {q : Rat} (hq : q ∈ qs) : q.den < 2 ^ W := Nat.lt_of_le_of_lt (Nat.le_of_dvd (B9 qs) (K8 hq)) h.l
theorem ClN.num {W : Nat} {qs : List Rat} (h : ClN W qs) {q : Rat} (hq : q ∈ qs) : q.num.natAbs < 2 ^ W := by
  have h1 := h.w _ (List.mem_map.mpr ⟨q, hq, rfl⟩)
  obtain ⟨e, he⟩ := K8 hq
  have hp := B9 qs
  have h0 : (q.den : Int) ≠ 0 := by have := q.den_nz; omega
  have e1 : (i9 qs : Int).fdiv (q.den : Int) = (e : Int) := by
    rw [he, Int.natCast_mul]; exact o8 h0
  rw [e1, Int.natAbs_mul, Int.natAbs_natCast] at h1
  refine Nat.lt_of_le_of_lt (Nat.le_mul_of_pos_right _ ?_) h1
  rcases Nat.eq_zero_or_pos e with z | z
  · rw [z] at he; omega
  · exact z
theorem ClN.take {W : Nat} {qs : List Rat} (h : ClN W qs) (i : Nat) : i9 (qs.take i) < 2 ^ W :=
  Nat.lt_of_le_of_lt (Nat.le_of_dvd (B9 qs) (ar4 fun q hq => K8 (List.mem_of_mem_take hq))) h.l
theorem ClN.mono {V W : Nat} {qs : List Rat} (h : ClN V qs) (l : V ≤ W) : ClN W qs := ⟨Nat.lt_of_lt_of_le h.l (i5 l), fun v hv => Nat.lt_of_lt_of_le (h.w v hv) (i5 l)⟩
theorem as6 {m : Nat} {qs : List Rat} (hs : ∀ q ∈ qs, BdN m q) : ClN (1 + m * qs.length + m) qs := by
  have hB1 := aW5 (m := m) fun q hq => (hs q hq).d
  have wl := aC3 hs hB1 (fun q hq => K8 hq)
  rw [show m + (1 + m * qs.length) = 1 + m * qs.length + m by omega] at wl
  exact ⟨Nat.lt_of_lt_of_le hB1 (i5 (by omega)), wl⟩
theorem aq6 (v : Int) (L : Nat) : Rat.divInt 1 L * (v : Rat) = Rat.divInt v L := by
  have h1 := Rat.num_divInt_den (v : Rat)
  rw [Rat.num_intCast, Rat.den_intCast] at h1
  conv => lhs; rw [← h1]
  rw [Rat.divInt_mul_divInt]
  simp
theorem as1 (v : Int) {L : Nat} (h : 0 < L) : (Rat.divInt v L).den ∣ L := by
  have hL : (L : Int) ≠ 0 := by omega
  obtain ⟨_, e2⟩ := aj9 (t := v) (b := (L : Int)) (g := (Int.gcd v L : Int)) hL (by rw [if_neg (by omega)])
  obtain ⟨k, hk⟩ := Int.gcd_dvd_right v (L : Int)
  have hg := aa2 (t := v) hL
  have e3 : (L : Int).fdiv (Int.gcd v L : Int) = k := by
    conv => lhs; arg 1; rw [hk]
    exact o8 (by omega)
  rw [e3] at e2
  have : ((Rat.divInt v L).den : Int) ∣ (L : Int) := ⟨_, by rw [Int.mul_comm, ← e2]; exact hk⟩
  exact Int.natCast_dvd_natCast.mp this
theorem aB8 (v : Int) {L : Nat} (h : 0 < L) : (Rat.divInt v L).num * L = v * ((Rat.divInt v L).den : Int) := by
  have hL : (L : Int) ≠ 0 := by omega
  have hd : ((Rat.divInt v L).den : Int) ≠ 0 := by have := (Rat.divInt v L).den_nz; omega
  exact (Rat.divInt_eq_divInt_iff hd hL).mp (Rat.num_divInt_den _)
theorem aR8 {L W : Nat} {vs : List Int} (hL0 : 0 < L) (hL : L < 2 ^ W) (hv : ∀ v ∈ vs, Int.natAbs v < 2 ^ W) : ClN W (scl (Rat.divInt 1 L) vs) := by
  have hd : i9 (scl (Rat.divInt 1 L) vs) ∣ L := ar4 fun q hq => by
    obtain ⟨v, _, rfl⟩ := List.mem_map.mp hq
    rw [aq6]
    exact as1 v hL0
  have hle := Nat.le_of_dvd hL0 hd
  refine ⟨Nat.lt_of_le_of_lt hle hL, fun u hu => ?_⟩
  obtain ⟨q, hq, rfl⟩ := List.mem_map.mp hu
  obtain ⟨e, he⟩ := K8 hq
  have h0 : (q.den : Int) ≠ 0 := by have := q.den_nz; omega
  have e1 : (i9 (scl (Rat.divInt 1 L) vs) : Int).fdiv (q.den : Int) = (e : Int) := by
    rw [he, Int.natCast_mul]; exact o8 h0
  obtain ⟨v, hvm, hvq⟩ := List.mem_map.mp hq
  rw [aq6] at hvq
  have hc := aB8 v hL0
  rw [hvq] at hc
  have hc' : q.num.natAbs * L = v.natAbs * q.den := by
    have := congrArg Int.natAbs hc
    rwa [Int.natAbs_mul, Int.natAbs_mul, Int.natAbs_natCast, Int.natAbs_natCast] at this
  rw [e1, Int.natAbs_mul, Int.natAbs_natCast]
  refine Nat.lt_of_le_of_lt ?_ (hv v hvm)
  have h2 : (q.num.natAbs * e) * L ≤ v.natAbs * L := by
    calc (q.num.natAbs * e) * L = (q.num.natAbs * L) * e := by rw [Nat.mul_right_comm]
      _ = v.natAbs * (q.den * e) := by rw [hc', Nat.mul_assoc]
      _ ≤ v.natAbs * L := Nat.mul_le_mul_left _ (by rw [← he]; exact hle)
  exact Nat.le_of_mul_le_mul_right h2 hL0
open PySem L2 PyProof.Rows
structure bm6 (H : Hp) (p : Addr) (qs : List Rat) : Prop where
  ex : ∃ xs, H p = some (.lst xs) ∧ z9 H xs qs
  bd : ∀ q ∈ qs, q.den < 2 ^ 6000
  len : qs.length < 900
  tl : J3 qs qs.length
inductive aZ8 (H : Hp) : List Addr → List (List Rat) → Prop where
  | nil : aZ8 H [] []
  | cons {p : Addr} {ps : List Addr} {L : List Rat} {Ls : List (List Rat)} (h : bm6 H p L) (t : aZ8 H ps Ls) : aZ8 H (p :: ps) (L :: Ls)
theorem ap8 {ts : List Addr} {i : Nat} {x : V} (h : (ts.map V.ref)[i]? = some x) : ∃ p, ts[i]? = some p ∧ x = .ref p := by
  rw [List.getElem?_map] at h
  cases hw : ts[i]? with
  | none => rw [hw] at h; cases h
  | some v => rw [hw] at h; cases h; exact ⟨v, rfl, rfl⟩
open PySem L2 PyProof.Rows
theorem aG0 (xs : List V) {n : Nat} (h : n ≤ xs.length) : ae4 xs (some (n : Int)) none = xs.drop n := by
  unfold ae4
  have e1 : HT.sIx xs.length 0 (some (n : Int)) = n := by
    simp only [HT.sIx]
    rw [if_neg (by omega)]; omega
  have e2 : HT.sIx xs.length xs.length none = xs.length := rfl
  rw [e1, e2, List.take_of_length_le (by rw [List.length_drop]; omega)]
theorem aN6 (xs : List V) : ae4 xs (some 1) none = xs.drop 1 := by
  cases xs with
  | nil => exact List.eq_nil_of_length_eq_zero (by have := ac9 [] (some 1) none; simpa using this)
  | cons x xs => exact aG0 (x :: xs) (n := 1) (by simp)
theorem B4 {α : Type} {l : List α} {i : Nat} {x : α} (h : l[i]? = some x) : l.take (i + 1) = l.take i ++ [x] := by rw [List.take_succ, h]; rfl
theorem af0 {qs : List Rat} (h : ∀ x, qs[qs.length - 1]? = some x → x ≠ 0) : J3 qs qs.length :=
  ⟨Nat.le_refl _, fun i q hi e => (by rw [List.getElem?_eq_none hi] at e; cases e), fun _ q e => h q e⟩
theorem w4.seq {K : PySem.W.Frag} {u : Addr} {H H' : Hp} {b : Addr} {xs : List V} (s : w4 u H H') (hu : H u = none) (h : SqL K H b xs) : SqL K H' b xs := by
  rcases h with h | h
  · rcases h with h | ⟨o, h⟩
    · exact .inl (.inl (s _ _ h (m9 h hu)))
    · exact .inl (.inr ⟨o, s _ _ h (m9 h hu)⟩)
  · exact .inr h
theorem am6 {qs : List Rat} {m : Nat} (h : J3 qs m) : J3 (qs.take m) (qs.take m).length := by
  have := h.self
  rw [List.length_take, Nat.min_eq_left h.le]; exact this
def aL3 (K : PySem.W.Frag) : Sp := fun vs H Q _ => ∃ (a : Addr) (ns : List Int), vs = [.ref a] ∧ SqL K H a (ns.map V.int) ∧ ns.length ≤ 63 ∧ ∀ H', Q (.bl true) H'
structure ExT (K : PySem.W.Frag) (mg : Str → Option Value) (x : Str) (C : Addr) : Prop where
  m : mg x = some (.ref C)
  ox : be8 K C [.type "ValueError", .type "Exception", .type "BaseException", .type "object"] "ValueError.__new__"
  ec : ag0 K C
structure CAd where
  c_NoFraction : Addr
  c_NoPolynomial : Addr
  c_NoStretch : Addr
  c_NoRow : Addr
  c_NoPair : Addr
  c_NoBack : Addr
  c_NoForm : Addr
  c_NoParts : Addr
  c_NoDegree : Addr
  c_NoSteps : Addr
  c_NoBox : Addr
  c_NoGain : Addr
  c_NoText : Addr
  c_NoLine : Addr
  c_NoName : Addr
  c_NoDeed : Addr
  c_RestError : Addr
structure XTx (K : PySem.W.Frag) (mg : Str → Option Value) (a : CAd) : Prop where
  x_NoFraction : ExT K mg "NoFraction" a.c_NoFraction
  x_NoPolynomial : ExT K mg "NoPolynomial" a.c_NoPolynomial
  x_NoStretch : ExT K mg "NoStretch" a.c_NoStretch
  x_NoRow : ExT K mg "NoRow" a.c_NoRow
  x_NoPair : ExT K mg "NoPair" a.c_NoPair
  x_NoBack : ExT K mg "NoBack" a.c_NoBack
  x_NoForm : ExT K mg "NoForm" a.c_NoForm
  x_NoParts : ExT K mg "NoParts" a.c_NoParts
  x_NoDegree : ExT K mg "NoDegree" a.c_NoDegree
  x_NoSteps : ExT K mg "NoSteps" a.c_NoSteps
  x_NoBox : ExT K mg "NoBox" a.c_NoBox
  x_NoGain : ExT K mg "NoGain" a.c_NoGain
  x_NoText : ExT K mg "NoText" a.c_NoText
  x_NoLine : ExT K mg "NoLine" a.c_NoLine
  x_NoName : ExT K mg "NoName" a.c_NoName
  x_NoDeed : ExT K mg "NoDeed" a.c_NoDeed
structure Kits (K : PySem.W.Frag) (a : CAd) (C : Addr) (j : Nat) : Prop where
  k_NoFraction : PySem.W.kitOne K (.ref C) (.ref a.c_NoFraction) = some (decide (j = 0))
  k_NoPolynomial : PySem.W.kitOne K (.ref C) (.ref a.c_NoPolynomial) = some (decide (j = 1))
  k_NoStretch : PySem.W.kitOne K (.ref C) (.ref a.c_NoStretch) = some (decide (j = 2))
  k_NoRow : PySem.W.kitOne K (.ref C) (.ref a.c_NoRow) = some (decide (j = 3))
  k_NoPair : PySem.W.kitOne K (.ref C) (.ref a.c_NoPair) = some (decide (j = 4))
  k_NoBack : PySem.W.kitOne K (.ref C) (.ref a.c_NoBack) = some (decide (j = 5))
  k_NoForm : PySem.W.kitOne K (.ref C) (.ref a.c_NoForm) = some (decide (j = 6))
  k_NoParts : PySem.W.kitOne K (.ref C) (.ref a.c_NoParts) = some (decide (j = 7))
  k_NoDegree : PySem.W.kitOne K (.ref C) (.ref a.c_NoDegree) = some (decide (j = 8))
  k_NoSteps : PySem.W.kitOne K (.ref C) (.ref a.c_NoSteps) = some (decide (j = 9))
  k_NoBox : PySem.W.kitOne K (.ref C) (.ref a.c_NoBox) = some (decide (j = 10))
  k_NoGain : PySem.W.kitOne K (.ref C) (.ref a.c_NoGain) = some (decide (j = 11))
  k_NoText : PySem.W.kitOne K (.ref C) (.ref a.c_NoText) = some (decide (j = 12))
  k_NoLine : PySem.W.kitOne K (.ref C) (.ref a.c_NoLine) = some (decide (j = 13))
  k_NoName : PySem.W.kitOne K (.ref C) (.ref a.c_NoName) = some (decide (j = 14))
  k_NoDeed : PySem.W.kitOne K (.ref C) (.ref a.c_NoDeed) = some (decide (j = 15))
  kV : PySem.W.kitOne K (.ref C) (.type "ValueError") = some true
  ec : ag0 K C
  ex : PySem.W.exmOne K (.ref C) (.ref a.c_RestError) = some true
def told (j : Nat) : List V := [V.bl (decide (j = 0)), V.bl (decide (j = 1)), V.bl (decide (j = 2)), V.bl (decide (j = 3))] ++ [V.bl (decide (j = 4)), V.bl (decide (j = 5)), V.bl (decide (j = 6)), V.bl (decide (j = 7))] ++ [V.bl (decide (j = 8)), V.bl (decide (j = 9)), V.bl (decide (j = 10)), V.bl (decide (j = 11))] ++ [V.bl (decide (j = 12)), V.bl (decide (j = 13)), V.bl (decide (j = 14)), V.bl (decide (j = 15))]
theorem W8 {ws : List Int} {i : Nat} {x : V} (h : (ws.map V.int)[i]? = some x) : ∃ v, ws[i]? = some v ∧ x = .int v := by
  rw [List.getElem?_map] at h
  cases hw : ws[i]? with
  | none => rw [hw] at h; cases h
  | some v => rw [hw] at h; cases h; exact ⟨v, rfl, rfl⟩
open PySem L2 PyProof.Rows
def top (i : Nat) : Stmt := PySem.Challenge.pw_restward_k29_whole_leads_and_dying.main.body.getD i (.Pass ⟨0, 0, 0, 0⟩)
end R
set_option maxRecDepth 100000
local macro_rules | `(tactic| simp! [$ls,*]) => `(tactic| simp only [L2.bl3, L2.ipM, L2.aH2, L2.aW9, L2.bi0, L2.aC7, L2.ap2, L2.bl2, L2.bh7, L2.tSl, L2.bg6, L2.aS9, L2.ay4, L2.aU1, L2.bh8, L2.az5, L2.aX2, L2.O8, List.map_cons, List.map_nil, Option.bind_none, Option.bind_some, Option.join_some, L2.ba2, L2.bg9, L2.bh2, L2.tOr, L2.bg7, L2.aC6, L2.tB, L2.tOp, L2.tUn, L2.bh0, L2.tBM, L2.ag3, L2.tC, L2.tCB, L2.ba3, L2.aT2, L2.D3, L2.bl5, L2.ae1, L2.D7, L2.ae2, L2.ag4, L2.aH0, L2.ba4, L2.ba1, L2.bg8, L2.tIf, L2.aT3, L2.ba5, L2.aT1, L2.aT0, L2.aH1, L2.aG9, L2.bh1, L2.rI, L2.rI0, L2.rU, L2.az4, L2.bb2, L2.aP6, L2.aU2, L2.rEq, L2.rNe, L2.bh9, L2.bi1, L2.aX1, L2.aX0, L2.aM4, L2.au6, L2.cxR, L2.Cx.nox, L2.Cx.wish, List.getElem?_cons_zero, List.getElem?_cons_succ, List.set_cons_zero, List.set_cons_succ, Option.some.injEq, L2.V.int.injEq, L2.V.bl.injEq, L2.V.ref.injEq, L2.V.str.injEq, exists_eq_left', exists_eq_left, exists_and_left, true_and, and_true, List.cons.injEq, reduceCtorEq, Bool.false_eq_true, if_false, if_true, exists_const, ↓reduceIte, L2.tyV, List.length_cons, List.length_nil, exists_eq, List.append_nil, List.cons_append, List.nil_append, decide_eq_true_eq, not_true_eq_false, not_false_eq_true, Bool.not_eq_true', decide_eq_false_iff_not, Bool.not_true, Bool.not_false, and_assoc, false_and, false_or, or_false, $ls,*])
local macro_rules | `(tactic| subst_eqs) => `(tactic| simp! [])
local macro_rules | `(tactic| and_intros) => `(tactic| exact ⟨rfl, rfl, rfl, by decide +kernel, rfl, by decide +kernel, by decide +kernel⟩)
namespace R
open PySem L2 PyProof.Rows
section
variable {P : Program} {w : World} {K : PySem.W.Frag} {mg : Str → Option Value} {base : Heap}
abbrev M0 : Stmt := top 33
theorem Q4 : m8 ["_law_top", "_law_bottom", "_law_one", "_law_other_here"] ["_law_top", "_law_bottom"] (d7 M0) := by and_intros
theorem aE5 {f : Addr} (d : Df K mg "_law_low" M0 ["_law_top", "_law_bottom"] f) (n_abs : mg "abs" = none) : Def P w K mg base CX0 1 "_law_low" f ["_law_top", "_law_bottom"] aD1 := by
  refine d.ok (N := ["_law_top", "_law_bottom", "_law_one", "_law_other_here"]) Q4 (fun vs H Q E ⟨a, b, h, _⟩ => by rw [h]; rfl) (fun cdv A outer s H vs Q E hr h => ?_)
  obtain ⟨t, b, rfl, hb0, hb, k⟩ := h
  refine ⟨_, (d5 (i8 (i := 2) Q4.nd rfl (Or.inl rfl) (j2 X9 rfl n_abs (by decide +kernel) (b7 (pv 0) b8)))
      (d5 (i8 (i := 3) Q4.nd rfl (Or.inl rfl) (j2 X9 rfl n_abs (by decide +kernel) (b7 (pv 1) b8)))
      (d5 (ah2 PassesOwn.never (p7 ae8 (pv 3) b9 (j8 _)) (d9 (ac1 (i := 2) (j := 3) rfl Q4.nd rfl rfl (by decide) rfl rfl (b7 (pv 3) (b7 (i6 R8 (pv 2) (pv 3)) b8)) rfl)))
      (d5 (F9 (p7 R6 (pv 1) b9 (j8 _)) (d9 (i8 (i := 2) Q4.nd rfl (Or.inl rfl) (i6 M1 b9 (pv 2)))) v7)
      (d9 (m5 (q8 (b7 (i6 J1 (pv 0) (pv 2)) (b7 (i6 J1 (pv 1) (pv 2)) b8))))))))), ?_⟩
  rw [show start ["_law_top", "_law_bottom", "_law_one", "_law_other_here"] [.int t, .int b] = [some (.int t), some (.int b), none, none] from rfl]
  subst_eqs
  refine aC4 (fun σ H1 => H1 = H ∧ ∃ x y : Int, σ = [some (.int t), some (.int b), some (.int x), some (.int y)] ∧ 0 ≤ x ∧ 0 ≤ y ∧ Int.gcd x y = Int.gcd t b) (fun σ _ => match σ with | [_, _, _, some (.int y)] => y.natAbs | _ => 0)
    ⟨rfl, _, _, rfl, by split <;> omega, by split <;> omega, ?_⟩ ?_ ?_
  · have e1 : (if t < 0 then -t else t) = (t.natAbs : Int) := by split <;> omega
    have e2 : (if b < 0 then -b else b) = (b.natAbs : Int) := by split <;> omega
    rw [e1, e2, Int.gcd_eq_natAbs_gcd_natAbs, Int.gcd_eq_natAbs_gcd_natAbs]; simp
  · rintro σ H1 ⟨rfl, x, y, rfl, hx, hy, hg⟩
    subst_eqs
    split
    · rename_i hy0
      exact ⟨by omega, hy, Int.fmod_nonneg_of_pos x hy0, by rw [aF0]; exact hg, ac3 x (by omega)⟩
    · rename_i hy0
      have hy' : y = 0 := by omega
      subst hy'
      have ex : x = (Int.gcd t b : Int) := by
        rw [Int.gcd_zero_right] at hg
        omega
      have gp := aa2 (t := t) hb0
      have gl := aJ7 (a := t) hb0 hb
      by_cases hs : b < 0
      · rw [if_pos hs]
        obtain ⟨e1, e2⟩ := aj9 (t := t) (g := 0 - x) hb0 (by rw [if_pos hs, ex]; omega)
        have dv : ∀ i, at6 i (0 - x) := fun i => ab1 (by omega) (by rw [show 0 - x = -x by omega, Int.natAbs_neg, ex]; exact T9 gl)
        refine ⟨dv _, dv _, v3, fun r hr' => ?_⟩
        exact k r _ (d8.new hr' _) (by rw [d6]; unfold B7; rw [e1, e2])
      · rw [if_neg hs]
        obtain ⟨e1, e2⟩ := aj9 (t := t) (g := x) hb0 (by rw [if_neg hs, ex])
        have dv : ∀ i, at6 i x := fun i => ab1 (by omega) (by rw [ex]; exact T9 gl)
        refine ⟨dv _, dv _, v3, fun r hr' => ?_⟩
        exact k r _ (d8.new hr' _) (by rw [d6]; unfold B7; rw [e1, e2])
  · intro σ H1 Q1 Q2 hQ h
    simp only [bl3, ipM, aH2, aW9, bi0, aC7, ap2, bl2, bh7, tSl, bg6, aS9, ay4, aU1, bh8, az5, aX2, O8, List.map_cons, List.map_nil, Option.bind_none, Option.bind_some, Option.join_some, ba2, bg9, bh2, tOr, bg7, aC6, tB, tOp, tUn, bh0, tBM, ag3, tC, tCB, ba3, aT2, D3, bl5, ae1, D7, ae2, ag4, aH0, ba4, ba1, bg8, tIf, aT3, ba5, aT1, aT0, aH1, aG9, bh1, rI, rI0, rU, az4, bb2, aP6, aU2, rEq, rNe, bh9, bi1, aX1, aX0, aM4, au6, cxR, Cx.nox, Cx.wish, List.getElem?_cons_zero, List.getElem?_cons_succ, List.set_cons_zero, List.set_cons_succ, Option.some.injEq, V.int.injEq, V.bl.injEq, V.ref.injEq, V.str.injEq, exists_eq_left', exists_eq_left, exists_and_left, true_and, and_true, List.cons.injEq, reduceCtorEq, Bool.false_eq_true, if_false, if_true, exists_const, ↓reduceIte, tyV, List.length_cons, List.length_nil, exists_eq, List.append_nil, List.cons_append, List.nil_append, decide_eq_true_eq, not_true_eq_false, not_false_eq_true, Bool.not_eq_true', decide_eq_false_iff_not, Bool.not_true, Bool.not_false, and_assoc, false_and, false_or, or_false] at h ⊢
    obtain ⟨v, e1, i, e2, e3⟩ := h
    exact ⟨v, e1, i, e2, hQ _ _ e3⟩
abbrev L9 : Stmt := top 31
theorem M5 : m8 ["_law_script", "_law_at", "_law_cell", "_law_prime", "_law_great"] ["_law_script", "_law_at"] (d7 L9) := by and_intros
set_option maxHeartbeats 0 in
theorem aE4 {f : Addr} (d : Df K mg "_law_urn" L9 ["_law_script", "_law_at"] f) (n_len : mg "len" = none) (n_abs : mg "abs" = none) : Def P w K mg base CX0 1 "_law_urn" f ["_law_script", "_law_at"] (bf2 K) := by
  refine d.ok (N := ["_law_script", "_law_at", "_law_cell", "_law_prime", "_law_great"]) M5 (fun vs H Q E ⟨x, y, p, h, _⟩ => by rw [h]; rfl) (fun cdv A outer s H vs Q E hr h => ?_)
  obtain ⟨a, ns, i, rfl, hS, h0, h64, k⟩ := h
  refine ⟨_, (d5 (i8 (i := 2) M5.nd rfl (Or.inl rfl) b9)
      (d5 (F9 (p7 R6 (pv 1) (j2 j0 rfl n_len (by decide +kernel) (b7 (pv 0) b8)) (j8 _)) (d9 (i8 (i := 2) M5.nd rfl (Or.inl rfl) (t9 v8 (pv 0) (pv 1) (fun _ _ => rfl)))) v7)
      (d5 (i8 (i := 3) M5.nd rfl (Or.inl rfl) (t9 y7 (q8 (b7 b9 (b7 b9 (b7 b9 (b7 b9 (b7 b9 (b7 b9 (b7 b9 (b7 b9 b8))))))))) (i6 R8 (pv 1) b9) (fun _ _ => rfl)))
      (d5 (i8 (i := 4) M5.nd rfl (Or.inl rfl) b9)
      (d5 (F9 (p7 bn9 (j2 X9 rfl n_abs (by decide +kernel) (b7 (pv 2) b8)) (i6 ac2 b9 b9) (j8 _)) (d9 (i8 (i := 4) M5.nd rfl (Or.inl rfl) (j2 X9 rfl n_abs (by decide +kernel) (b7 (pv 2) b8)))) v7)
      (d9 (m5 (D0 (b7 (pv 4) (b7 (i6 R8 (i6 ac2 (i6 J0 (i6 J0 (i6 R8 (pv 2) (pv 3)) (i6 C5 b9 (pv 1))) b9) b9) (pv 3)) (b7 (pv 3) b8))))))))))), ?_⟩
  rw [show start ["_law_script", "_law_at", "_law_cell", "_law_prime", "_law_great"] [.ref a, .int i] = [some (.ref a), some (.int i), none, none, none] from rfl]
  refine j9 (fun σ H1 => H1 = H ∧ σ = [some (.ref a), some (.int i), some (.int 0), none, none]) (fun N hN => ?_) ?_
  · subst_eqs
    exact hN _ _ ⟨rfl, rfl⟩
  rintro σ H1 ⟨rfl, rfl⟩
  refine j9 (fun σ H2 => H2 = H1 ∧ ∃ c : Int, σ = [some (.ref a), some (.int i), some (.int c), none, none]) (fun N hN => ?_) ?_
  · subst_eqs
    refine ⟨_, .inl hS, G4 (fun hl => ?_) (fun _ => hN _ _ ⟨rfl, _, rfl⟩)⟩
    obtain ⟨c, hc⟩ := aS2 (ns := ns) h0 (by simpa using hl)
    exact ⟨_, hS, _, hc, hN _ _ ⟨rfl, c, rfl⟩⟩
  rintro σ H2 ⟨rfl, c, rfl⟩
  obtain ⟨pr, hpr, p1, p2⟩ := aV2 h0
  refine j9 (fun σ H3 => d8 H2 H3 ∧ σ = [some (.ref a), some (.int i), some (.int c), some (.int pr), none]) (fun N hN => ?_) ?_
  · subst_eqs
    exact ⟨by decide, fun p hp => ⟨by decide, _, SqT.of d6, _, hpr, hN _ _ ⟨d8.new hp _, rfl⟩⟩⟩
  rintro σ H3 ⟨s1, rfl⟩
  refine j9 (fun σ H4 => H4 = H3 ∧ σ = [some (.ref a), some (.int i), some (.int c), some (.int pr), some (.int 0)]) (fun N hN => ?_) ?_
  · subst_eqs
    exact hN _ _ ⟨rfl, rfl⟩
  rintro σ H4 ⟨rfl, rfl⟩
  refine j9 (fun σ H5 => H5 = H4 ∧ ∃ g : Int, 0 ≤ g ∧ σ = [some (.ref a), some (.int i), some (.int c), some (.int pr), some (.int g)]) (fun N hN => ?_) ?_
  · subst_eqs
    exact ⟨⟨by decide, by decide, by decide⟩, G4 (fun _ => hN _ _ ⟨rfl, _, by split <;> omega, rfl⟩) (fun _ => hN _ _ ⟨rfl, _, Int.le_refl _, rfl⟩)⟩
  rintro σ H5 ⟨rfl, g, hg, rfl⟩
  subst_eqs
  have m0 := Int.fmod_nonneg_of_pos c (show 0 < pr by omega)
  have m1 := Int.fmod_lt_of_pos c (show 0 < pr by omega)
  refine ⟨by omega, bk1 (by decide), ⟨by decide, by decide, by omega⟩, by omega, by decide, fun r hr' => ?_⟩
  refine k r _ (s1.trans (d8.new hr' _)) (s1.free hr') ⟨g, _, pr, d6, hg, Int.fmod_nonneg_of_pos _ (by omega), ?_, by omega, by omega⟩
  have := Int.fmod_lt_of_pos ((c.fmod pr + 65537 * i + 101) ^ (3 : Int).toNat) (show 0 < pr by omega)
  omega
abbrev K0 : Stmt := top 32
theorem ag9 : m8 ["_law_urn_here", "_law_many", "_law_drawn"] ["_law_urn_here", "_law_many"] (d7 K0) := by and_intros
set_option maxHeartbeats 0 in
theorem aA5 {f : Addr} (d : Df K mg "_law_draw" K0 ["_law_urn_here", "_law_many"] f) : Def P w K mg base CX0 1 "_law_draw" f ["_law_urn_here", "_law_many"] N3 := by
  refine d.ok (N := ["_law_urn_here", "_law_many", "_law_drawn"]) ag9 (fun vs H Q E ⟨x, y, h, _⟩ => by rw [h]; rfl) (fun cdv A outer s H vs Q E hr h => ?_)
  obtain ⟨u, n, rfl, ⟨g, m, p, hu, g0, m0, m1, p0, p1⟩, n0, n1, k⟩ := h
  refine ⟨_, (d5 (F9 (p7 ae8 (t9 v8 (pv 0) b9 (fun _ _ => rfl)) b9 (j8 _)) (d5 (i8 (i := 2) ag9.nd rfl (Or.inl rfl) (i6 R8 (t9 v8 (pv 0) b9 (fun _ _ => rfl)) (pv 1)))
      (d5 (Z8 (i6 J1 (t9 v8 (pv 0) b9 (fun _ _ => rfl)) (pv 1)) (aI0 (pv 0) b9 ap5))
      (d9 (m5 (pv 2))))) v7)
      (d5 (Z8 (i6 R8 (i6 J0 (i6 C5 (t9 v8 (pv 0) b9 (fun _ _ => rfl)) b9) b9) (t9 v8 (pv 0) b9 (fun _ _ => rfl))) (aI0 (pv 0) b9 ap5))
      (d9 (m5 (i6 R8 (i6 J1 (i6 R8 (i6 ac2 (i6 J1 (t9 v8 (pv 0) b9 (fun _ _ => rfl)) b9) b9) b9) b9) (pv 1)))))), ?_⟩
  rw [show start ["_law_urn_here", "_law_many", "_law_drawn"] [.ref u, .int n] = [some (.ref u), some (.int n), none] from rfl]
  have L1 : SqL K H u [.int g, .int m, .int p] := SqL.of hu
  have x0 : ∀ g m p : Int, atI [V.int g, .int m, .int p] 0 = some (.int g) := fun _ _ _ => rfl
  have x1 : ∀ g m p : Int, atI [V.int g, .int m, .int p] 1 = some (.int m) := fun _ _ _ => rfl
  have x2 : ∀ g m p : Int, atI [V.int g, .int m, .int p] 2 = some (.int p) := fun _ _ _ => rfl
  subst_eqs
  have dn : ∀ i, at6 i n := fun i => ab1 (by omega) (Nat.lt_of_lt_of_le (show n.natAbs < 2 ^ 40 by omega) (i5 (by decide)))
  refine ⟨_, L1, _, x0 g m p, _, rfl, G4 (fun hg => ?_) (fun hg => ?_)⟩
  · refine ⟨_, L1, _, x0 g m p, _, rfl, by omega, _, L1, _, x0 g m p, _, rfl, dn _, _, hu, 0, rfl, ?_⟩
    exact k _ _ (Int.fmod_nonneg_of_pos _ n0) (Int.fmod_lt_of_pos _ n0) (w4.upd _ _ _) ⟨g.fdiv n, m, p, d6, Int.fdiv_nonneg g0 (by omega), m0, m1, p0, p1⟩
  · have q0 := Int.fmod_nonneg_of_pos (m * 60013 + 12289) p0
    have q1 := Int.fmod_lt_of_pos (m * 60013 + 12289) p0
    have z : SqL K (upd H u (.lst [.int g, .int ((m * 60013 + 12289).fmod p), .int p])) u [.int g, .int ((m * 60013 + 12289).fmod p), .int p] := SqL.of d6
    have d16 : 0 ≤ ((m * 60013 + 12289).fmod p).fdiv 16 ∧ ((m * 60013 + 12289).fmod p).fdiv 16 < 2 ^ 40 := by
      rw [Int.fdiv_eq_ediv_of_nonneg _ (by decide)]
      omega
    refine ⟨_, L1, _, x1 g m p, _, rfl, aE7 (by decide), _, L1, _, x2 g m p, _, rfl, by omega, _, hu, 1, rfl, _, z, _, x1 _ _ _, _, rfl, ab1 (by decide) (Nat.lt_of_lt_of_le (show (16 : Int).natAbs < 2 ^ 40 by decide) (i5 (by decide))), ⟨by decide, by decide, by omega⟩, by decide, ab1 (by decide) (Nat.lt_of_lt_of_le (show (8 : Int).natAbs < 2 ^ 40 by decide) (i5 (by decide))), by omega, ?_⟩
    exact k _ _ (Int.fmod_nonneg_of_pos _ n0) (Int.fmod_lt_of_pos _ n0) (w4.upd _ _ _) ⟨g, _, p, d6, g0, q0, by omega, p0, p1⟩
abbrev E8 : Stmt := top 37
theorem ab8 : m8 ["_law_urn_here", "_law_kind", "_law_top"] ["_law_urn_here", "_law_kind"] (d7 E8) := by and_intros
end
section
variable {P : Program} {w : World} {K : PySem.W.Frag} {mg : Str → Option Value} {base : Heap}
def spOther : Sp := fun vs H Q _ => ∃ u kd, vs = [.ref u, .int kd] ∧ v4 H u ∧ ∀ r q H', Sm q → q ≠ 0 → w4 u H H' → v4 H' u → H' r = some (.tup (B7 q)) → Q (.ref r) H'
abbrev G9 : Stmt := top 38
theorem ae5 : m8 ["_law_urn_here", "_law_kind", "_law_found"] ["_law_urn_here", "_law_kind"] (d7 G9) := by and_intros
def ay5 (K : PySem.W.Frag) : Sp := fun vs H Q _ => ∃ a xs qs, vs = [.ref a] ∧ SqL K H a xs ∧ z9 H xs qs ∧ ∀ m r H', J3 qs m → d8 H H' → H r = none → H' r = some (.lst (xs.take m)) → Q (.ref r) H'
abbrev J7 : Stmt := top 40
theorem ag8 : m8 ["_law_numbers", "_law_found"] ["_law_numbers"] (d7 J7) := by and_intros
theorem bc6 {α : Type} {xs : List α} {x : α} (h : xs[xs.length - 1]? = some x) : atI xs (-1) = some x := by
  have hp : xs.length - 1 < xs.length := (List.getElem?_eq_some_iff.mp h).1
  have e : ixN xs.length (-1) = some (xs.length - 1) := by
    unfold ixN
    rw [if_neg (by decide)]
    rw [if_pos (by omega)]
    congr 1
    omega
  unfold atI
  rw [e]
  exact h
set_option maxHeartbeats 0 in
theorem aA2 {f : Addr} (d : Df K mg "_law_trim" J7 ["_law_numbers"] f) (n_list : mg "list" = none) : Def P w K mg base CX0 1 "_law_trim" f ["_law_numbers"] (ay5 K) := by
  refine d.ok (N := ["_law_numbers", "_law_found"]) ag8 (fun vs H Q E ⟨a, xs, qs, h, _⟩ => by rw [h]; rfl) (fun cdv A outer s H vs Q E hr h => ?_)
  obtain ⟨a, xs, qs, rfl, hS, hN, k⟩ := h
  have hu := hr.units
  refine ⟨_, (d5 (i8 (i := 1) ag8.nd rfl (Or.inl rfl) (B6 O7 rfl n_list (by decide +kernel) (b7 (pv 0) b8)))
      (d5 (ah2 PassesOwn.never (PW.pt (aU8 (p7 (bj2 hu) (pv 1) (D0 b8) (j8 _)) (aL5 (p7 T0 (t9 y7 (t9 v8 (pv 1) (aa9 Q8 b9) (fun _ _ => rfl)) b9 (fun _ _ => rfl)) b9 (j8 _))))) (d9 (ao2 (aI2 PySem.F.plainAttrs_list PySem.F.slot_list_pop PySem.F.type_list_pop bk2 (pv 1)))))
      (d9 (m5 (pv 1))))), ?_⟩
  rw [show start ["_law_numbers", "_law_found"] [.ref a] = [some (.ref a), none] from rfl]
  subst_eqs
  refine ⟨_, .inl hS, fun l hl => ?_⟩
  refine ao8 (fun σ H1 => σ = [some (.ref a), some (.ref l)] ∧ ∃ m, m ≤ qs.length ∧ (∀ (i : Nat) (q : Rat), m ≤ i → qs[i]? = some q → q = 0) ∧ d8 H H1 ∧ H1 l = some (.lst (xs.take m))) (fun σ H1 => match H1 l with | some (.lst ys) => ys.length | _ => 0)
    ⟨rfl, qs.length, Nat.le_refl _, fun i q hi e => ?_, d8.new hl _, ?_⟩ ?_
  · rw [List.getElem?_eq_none hi] at e; cases e
  · rw [d6, ← hN.length, List.take_length]
  · rintro σ H1 ⟨rfl, m, hm, hz, sm, e1⟩
    have hml : (xs.take m).length = m := by rw [List.length_take, hN.length]; omega
    subst_eqs
    refine ⟨by decide, fun p hp => ?_⟩
    have n1 : z9 H1 (xs.take m) (qs.take m) := (hN.mono sm.tups).take m
    have pl : p ≠ l := (m9 e1 hp).symm
    have e2 : upd H1 p (.lst []) l = some (.lst (xs.take m)) := by rw [j5 pl.symm]; exact e1
    have n2 : z9 (upd H1 p (.lst [])) (xs.take m) (qs.take m) := n1.mono (aa7.new hp)
    refine ⟨Q7 (qs.take m), Q7 [], rfl, T1 (SqL.of e2) n2, T1 (SqL.of d6) .nil, ah7 _ _, Nat.le_trans (ao6 _) (by decide), ?_⟩
    rw [ai3]
    by_cases h0 : m = 0
    · subst h0
      simp only [List.take_zero, decide_true, Bool.not_true, Bool.false_eq_true, if_false]
      refine ⟨false, rfl, G4 (fun h => absurd h (by decide)) fun _ => k 0 l _ ⟨Nat.zero_le _, hz, fun h => absurd rfl h⟩ (sm.trans (d8.new hp _)) hl ?_⟩
      rw [e2]
    · have hlt : m - 1 < qs.length := by omega
      have hne : qs.take m ≠ [] := fun z => by
        have := congrArg List.length z
        rw [List.length_take, List.length_nil] at this
        omega
      simp only [hne, decide_false, Bool.not_false]
      obtain ⟨pv, hv, hpv⟩ := n2.get (i := m - 1) (q := qs[m - 1]) (by rw [List.getElem?_take_of_lt (by omega)]; exact List.getElem?_eq_getElem hlt)
      refine ⟨true, rfl, G4 (fun _ => ?_) (fun h => absurd rfl h)⟩
      refine ⟨_, SqL.of e2, _, bc6 (by rw [hml]; exact hv), _, rfl, _, SqT.of hpv, _, at0 _, rfl, ?_⟩
      refine G4 (fun hn => ?_) (fun hn => ?_)
      · have hn' : qs[m - 1].num = 0 := V.int.inj hn
        refine WhB.mk ?_
        subst_eqs
        refine ⟨.inl ⟨_, SqL.of e2⟩, _, e2, _, by rw [hml]; exact hv, WhN.mk ⟨rfl, m - 1, by omega, fun i q hi e => ?_, (sm.trans (d8.new hp _)).over hl _, ?_⟩ ?_⟩
        · by_cases hi' : i = m - 1
          · subst hi'
            rw [List.getElem?_eq_getElem hlt] at e
            cases e
            exact ar2.mp hn'
          · exact hz i q (by omega) e
        · rw [d6, List.dropLast_eq_take, hml, List.take_take, Nat.min_eq_left (by omega)]
        · rw [d6]
          simp only [e1, List.length_dropLast]
          omega
      · have hn' : qs[m - 1] ≠ 0 := fun z => hn (by rw [z]; rfl)
        exact k m l _ ⟨hm, hz, fun _ q e => by rw [List.getElem?_eq_getElem hlt] at e; cases e; exact hn'⟩ (sm.trans (d8.new hp _)) hl e2
end
def tyD : D → Value
  | .v .non => .type "NoneType"
  | .v (.bl _) => .type "bool"
  | .v (.int _) => .type "int"
  | .v (.str _) => .type "str"
  | .v _ => .type "object"
  | .tup _ => .type "tuple"
  | .lst _ => .type "list"
theorem _root_.L2.IsD.ty {K : PySem.W.Frag} {H : Hp} {v : V} {d : D} (h : IsD K H v d) : TyX K H v (tyD d) := by
  cases h with
  | v f =>
    cases v with
    | non => exact .of .non
    | bl b => exact .of (.bl b)
    | int i => exact .of (.int i)
    | str s => exact .of (.str s)
    | _ => cases f
  | tup h t => exact .sqt h
  | lst h t => exact .sql h
def bk9 : D → Bool
  | .lst _ => true
  | _ => false
def isIntD : D → Bool
  | .v (.int _) => true
  | .v (.bl _) => true
  | _ => false
def bo2 : D → Bool
  | .v (.bl _) => true
  | _ => false
section
variable {K : PySem.W.Frag}
theorem aJ4 {H : Hp} {v : V} {d : D} (h : IsD K H v d) : PySem.W.kitOne K (tyD d) (.type "list") = some (bk9 d) := by
  cases h with
  | v f =>
    cases v with
    | non => kernel_rfl
    | bl b => kernel_rfl
    | int i => kernel_rfl
    | str s => kernel_rfl
    | _ => cases f
  | tup h t => kernel_rfl
  | lst h t => kernel_rfl
theorem aJ5 {H : Hp} {v : V} {d : D} (h : IsD K H v d) : PySem.W.kitOne K (tyD d) (.type "bool") = some (bo2 d) := by
  cases h with
  | v f =>
    cases v with
    | non => kernel_rfl
    | bl b => kernel_rfl
    | int i => kernel_rfl
    | str s => kernel_rfl
    | _ => cases f
  | tup h t => kernel_rfl
  | lst h t => kernel_rfl
end
end R
namespace L2
open PySem PyProof.Rows
end L2
set_option maxRecDepth 100000
namespace R
open PySem L2 PyProof.Rows
mutual
def noU : D → Bool
  | .v _ => true
  | .tup ds => bj8 ds
  | .lst ds => (ds.length != 3) && bj8 ds
def bj8 : List D → Bool
  | [] => true
  | d :: ds => noU d && bj8 ds
end
end R
set_option maxRecDepth 100000
namespace L2
open PySem PyProof.Rows
end L2
namespace R
open PySem L2 PyProof.Rows
inductive Rws (H : Hp) : List Addr → List (List Rat) → Prop where
  | nil : Rws H [] []
  | cons {p : Addr} {xs : List V} {ps : List Addr} {L : List Rat} {Ls : List (List Rat)} (h : H p = some (.lst xs)) (n : z9 H xs L) (t : Rws H ps Ls) : Rws H (p :: ps) (L :: Ls)
theorem Rws.length {H : Hp} : ∀ {ts : List Addr} {M : List (List Rat)}, Rws H ts M → ts.length = M.length
  | _, _, .nil => rfl
  | _, _, .cons _ _ t => congrArg (· + 1) t.length
theorem Rws.same {H H' : Hp} (s : d8 H H') : ∀ {ts : List Addr} {M : List (List Rat)}, Rws H ts M → Rws H' ts M
  | _, _, .nil => .nil
  | _, _, .cons h n t => .cons (s _ _ h) (n.mono s.tups) (t.same s)
theorem Rws.over {H : Hp} {l : Addr} {xs : List V} {o : HO} (hl : H l = some (.lst xs)) : ∀ {ts : List Addr} {M : List (List Rat)}, l ∉ ts → Rws H ts M → Rws (upd H l o) ts M
  | _, _, _, .nil => .nil
  | _, _, hn, .cons h n t => .cons (by rw [j5 (fun z => hn (by rw [← z]; exact List.mem_cons_self))]; exact h) (n.mono (aa7.lst hl)) (t.over hl fun z => hn (List.mem_cons_of_mem _ z))
theorem Rws.append {H : Hp} : ∀ {ts us : List Addr} {M N : List (List Rat)}, Rws H ts M → Rws H us N → Rws H (ts ++ us) (M ++ N)
  | _, _, _, _, .nil, h => h
  | _, _, _, _, .cons h n t, k => .cons h n (t.append k)
theorem Rws.get {H : Hp} : ∀ {ts : List Addr} {M : List (List Rat)} {i : Nat} {p : Addr}, Rws H ts M → ts[i]? = some p → ∃ xs L, M[i]? = some L ∧ H p = some (.lst xs) ∧ z9 H xs L
  | _, _, _, _, .nil, e => by simp at e
  | _, _, 0, _, .cons h n _, e => by cases e; exact ⟨_, _, rfl, h, n⟩
  | _, _, i + 1, _, .cons _ _ t, e => t.get (i := i) (by simpa using e)
structure TabAt (H : Hp) (D : Addr) (M : List (List Rat)) (H2 : Hp) : Prop where
  same : d8 H H2
  at' : ∃ ts : List Addr, H2 D = some (.lst (ts.map V.ref)) ∧ (∀ t ∈ ts, H t = none ∧ t ≠ D) ∧ ts.Nodup ∧ Rws H2 ts M
structure RowAt (H : Hp) (D : Addr) (L : List Rat) (H2 : Hp) : Prop where
  same : d8 H H2
  at' : ∃ xs : List V, H2 D = some (.lst xs) ∧ z9 H2 xs L
def NmC (K : PySem.W.Frag) (H : Hp) (p : Addr) (q : Rat) : Prop := H p = some (.tup (B7 q)) ∨ ∀ H', SqT K H' p (B7 q)
theorem NmC.sqt {K : PySem.W.Frag} {H : Hp} {p : Addr} {q : Rat} : NmC K H p q → SqT K H p (B7 q)
  | .inl h => SqT.of h
  | .inr h => h H
theorem NmC.mono {K : PySem.W.Frag} {H H' : Hp} {p : Addr} {q : Rat} (e : aa7 H H') : NmC K H p q → NmC K H' p q
  | .inl h => .inl (e _ _ h)
  | .inr h => .inr h
inductive C4 (K : PySem.W.Frag) (H : Hp) : List V → List Rat → Prop where
  | nil : C4 K H [] []
  | cons {p : Addr} {q : Rat} {vs : List V} {qs : List Rat} (h : NmC K H p q) (t : C4 K H vs qs) : C4 K H (.ref p :: vs) (q :: qs)
theorem C4.mono {K : PySem.W.Frag} {H H' : Hp} (e : aa7 H H') : ∀ {vs : List V} {qs : List Rat}, C4 K H vs qs → C4 K H' vs qs
  | _, _, .nil => .nil
  | _, _, .cons h t => .cons (h.mono e) (t.mono e)
theorem C4.length {K : PySem.W.Frag} {H : Hp} : ∀ {vs : List V} {qs : List Rat}, C4 K H vs qs → vs.length = qs.length
  | _, _, .nil => rfl
  | _, _, .cons _ t => congrArg (· + 1) t.length
theorem C4.append {K : PySem.W.Frag} {H : Hp} : ∀ {vs ws : List V} {qs rs : List Rat}, C4 K H vs qs → C4 K H ws rs → C4 K H (vs ++ ws) (qs ++ rs)
  | _, _, _, _, .nil, b => b
  | _, _, _, _, .cons h t, b => .cons h (t.append b)
theorem C4.getV {K : PySem.W.Frag} {H : Hp} : ∀ {vs : List V} {qs : List Rat} {i : Nat} {v : V}, C4 K H vs qs → vs[i]? = some v → ∃ p q, v = .ref p ∧ qs[i]? = some q ∧ NmC K H p q
  | _, _, _, _, .nil, e => by simp at e
  | _, _, 0, _, .cons h t, e => by cases e; exact ⟨_, _, rfl, rfl, h⟩
  | _, _, i + 1, _, .cons _ t, e => t.getV (i := i) (by simpa using e)
theorem C4.isDs {K : PySem.W.Frag} {H : Hp} : ∀ {vs : List V} {qs : List Rat}, C4 K H vs qs → ad1 K H vs (qs.map V5)
  | _, _, .nil => .nil
  | _, _, .cons h t => .cons (aM3 h.sqt) t.isDs
theorem z9.toC {K : PySem.W.Frag} {H : Hp} : ∀ {vs : List V} {qs : List Rat}, z9 H vs qs → C4 K H vs qs
  | _, _, .nil => .nil
  | _, _, .cons h t => .cons (.inl h) t.toC
inductive V7 (K : PySem.W.Frag) (H : Hp) : List Addr → List (List Rat) → Prop where
  | nil : V7 K H [] []
  | cons {p : Addr} {xs : List V} {ps : List Addr} {L : List Rat} {Ls : List (List Rat)} (h : H p = some (.lst xs)) (n : C4 K H xs L) (t : V7 K H ps Ls) : V7 K H (p :: ps) (L :: Ls)
theorem V7.length {K : PySem.W.Frag} {H : Hp} : ∀ {ts : List Addr} {M : List (List Rat)}, V7 K H ts M → ts.length = M.length
  | _, _, .nil => rfl
  | _, _, .cons _ _ t => congrArg (· + 1) t.length
theorem V7.same {K : PySem.W.Frag} {H H' : Hp} (s : d8 H H') : ∀ {ts : List Addr} {M : List (List Rat)}, V7 K H ts M → V7 K H' ts M
  | _, _, .nil => .nil
  | _, _, .cons h n t => .cons (s _ _ h) (n.mono s.tups) (t.same s)
theorem V7.over {K : PySem.W.Frag} {H : Hp} {l : Addr} {xs : List V} {o : HO} (hl : H l = some (.lst xs)) : ∀ {ts : List Addr} {M : List (List Rat)}, l ∉ ts → V7 K H ts M → V7 K (upd H l o) ts M
  | _, _, _, .nil => .nil
  | _, _, hn, .cons h n t => .cons (by rw [j5 (fun z => hn (by rw [← z]; exact List.mem_cons_self))]; exact h) (n.mono (aa7.lst hl)) (t.over hl fun z => hn (List.mem_cons_of_mem _ z))
theorem V7.append {K : PySem.W.Frag} {H : Hp} : ∀ {ts us : List Addr} {M N : List (List Rat)}, V7 K H ts M → V7 K H us N → V7 K H (ts ++ us) (M ++ N)
  | _, _, _, _, .nil, h => h
  | _, _, _, _, .cons h n t, k => .cons h n (t.append k)
theorem V7.get {K : PySem.W.Frag} {H : Hp} : ∀ {ts : List Addr} {M : List (List Rat)} {i : Nat} {p : Addr}, V7 K H ts M → ts[i]? = some p → ∃ xs L, M[i]? = some L ∧ H p = some (.lst xs) ∧ C4 K H xs L
  | _, _, _, _, .nil, e => by simp at e
  | _, _, 0, _, .cons h n _, e => by cases e; exact ⟨_, _, rfl, h, n⟩
  | _, _, i + 1, _, .cons _ _ t, e => t.get (i := i) (by simpa using e)
def aO4 (K : PySem.W.Frag) (H : Hp) (Q : VK) (M : List (List Rat)) : Prop := ∀ (r : Addr) (ts : List Addr) (H' : Hp), d8 H H' → H r = none → (∀ t ∈ ts, H t = none ∧ t ≠ r) → ts.Nodup → H' r = some (.lst (ts.map V.ref)) → V7 K H' ts M → Q (.ref r) H'
structure at2 (K : PySem.W.Frag) (H : Hp) (D : Addr) (M : List (List Rat)) (H2 : Hp) : Prop where
  same : d8 H H2
  at' : ∃ ts : List Addr, H2 D = some (.lst (ts.map V.ref)) ∧ (∀ t ∈ ts, H t = none ∧ t ≠ D) ∧ ts.Nodup ∧ V7 K H2 ts M
structure at3 (K : PySem.W.Frag) (H : Hp) (D : Addr) (L : List Rat) (H2 : Hp) : Prop where
  same : d8 H H2
  at' : ∃ xs : List V, H2 D = some (.lst xs) ∧ C4 K H2 xs L
theorem at2.start {K : PySem.W.Frag} {H : Hp} {D : Addr} (h : H D = none) : at2 K H D [] (upd H D (.lst [])) := ⟨d8.new h _, [], d6, by simp, .nil, .nil⟩
theorem at3.start {K : PySem.W.Frag} {H : Hp} {D : Addr} (h : H D = none) : at3 K H D [] (upd H D (.lst [])) := ⟨d8.new h _, [], d6, .nil⟩
theorem at2.res {K : PySem.W.Frag} {H H2 : Hp} {D : Addr} {M : List (List Rat)} {Q : VK} (k : aO4 K H Q M) (h : H D = none) (t : at2 K H D M H2) : Q (.ref D) H2 :=
  let ⟨s, ts, e, hn, nd, r⟩ := t; k D ts H2 s h hn nd e r
theorem at3.add {K : PySem.W.Frag} {H H2 H3 : Hp} {D p : Addr} {L : List Rat} {q : Rat} (t : at3 K H D L H2) (h : H D = none) (s : d8 H2 H3) (e : NmC K H3 p q) :
    ∃ ys, H3 D = some (.lst ys) ∧ ys.length = L.length ∧ at3 K H D (L ++ [q]) (upd H3 D (.lst (ys ++ [.ref p]))) := by
  obtain ⟨s2, xs, e2, n2⟩ := t
  have eD := s _ _ e2
  exact ⟨xs, eD, n2.length, (s2.trans s).over h _, _, d6, ((n2.mono s.tups).append (.cons e .nil)).mono (aa7.lst eD)⟩
theorem at2.add {K : PySem.W.Frag} {H H2 H3 : Hp} {D D2 : Addr} {M : List (List Rat)} {L : List Rat} (t : at2 K H D M H2) (h : H D = none) (h2 : H2 D2 = none) (r : at3 K H2 D2 L H3) :
    ∃ ys, H3 D = some (.lst ys) ∧ ys.length = M.length ∧ at2 K H D (M ++ [L]) (upd H3 D (.lst (ys ++ [.ref D2]))) := by
  obtain ⟨s2, ts, e2, hn, nd, n2⟩ := t
  obtain ⟨s, xs, e3, n3⟩ := r
  have eD := s _ _ e2
  have hD2 : D2 ≠ D := (m9 e2 h2).symm
  have hnt : D2 ∉ ts := fun z => by
    obtain ⟨i, hi⟩ := List.mem_iff_getElem?.mp z
    obtain ⟨_, _, _, e, _⟩ := n2.get hi
    rw [h2] at e; cases e
  refine ⟨_, eD, by rw [List.length_map, n2.length], (s2.trans s).over h _, ts ++ [D2], by rw [d6, List.map_append]; rfl, ?_, ?_, ?_⟩
  · intro t ht
    rcases List.mem_append.mp ht with z | z
    · exact hn t z
    · rw [List.mem_singleton.mp z]
      refine ⟨?_, hD2⟩
      cases q : H D2 with
      | none => rfl
      | some o => rw [s2 _ _ q] at h2; cases h2
  · rw [List.nodup_append]
    refine ⟨nd, by simp, fun a ha b hb => ?_⟩
    rw [List.mem_singleton.mp hb]
    rintro rfl
    exact hnt ha
  · refine ((n2.same s).append (.cons e3 n3 .nil)).over eD fun z => ?_
    rcases List.mem_append.mp z with z | z
    · exact (hn D z).2 rfl
    · exact hD2 (List.mem_singleton.mp z).symm
theorem az3 {n i : Nat} (h : i < n) : (List.range n)[i]? = some i := by rw [List.getElem?_eq_getElem (by simpa using h)]; simp
theorem ab4 {α : Type} {l : List α} {n : Nat} (h : l.length ≤ n) : l.take n = l := List.take_of_length_le h
theorem ac5 {n : Nat} (h : n ≤ 100) : n < sizeLine := Nat.lt_of_le_of_lt h (by decide)
def ClA (D : Addr) (H : Hp) (v : V) (p : List Rat) : Prop := ∃ r l, v = .ref r ∧ H r = some (.tup [.ref l, .int (i9 p)]) ∧ H l = some (.lst ((j1 (i9 p) p).map V.int)) ∧ l ≠ D
inductive ClL (D : Addr) (H : Hp) : List V → List (List Rat) → Prop where
  | nil : ClL D H [] []
  | cons {v : V} {p : List Rat} {vs : List V} {ps : List (List Rat)} (h : ClA D H v p) (t : ClL D H vs ps) : ClL D H (v :: vs) (p :: ps)
structure ClR (H : Hp) (D : Addr) (M : List (List Rat)) (H2 : Hp) : Prop where
  same : d8 H H2
  at' : ∃ vs : List V, H2 D = some (.lst vs) ∧ ClL D H2 vs M
def hc (a : Nat → Rat) (i j : Nat) : Rat := if (i + j) % 2 = 1 then a i * a j else 0
def hf (a : Nat → Rat) : Nat → Nat → Rat
  | 0, j => hc a 0 (j + 1)
  | i + 1, j => hc a (i + 1) (j + 1) - hf a i (j + 1)
def pw (x : Rat) : Nat → Rat
  | 0 => 1
  | i + 1 => pw x i * x
theorem V9 (c : Rat) (f : Nat → Rat) : ∀ n, c * o9 f n = o9 (fun i => c * f i) n
  | 0 => by simp [o9]
  | n + 1 => by rw [o9, o9, ← V9 c f n]; grind
theorem ad2 (f g : Nat → Rat) : ∀ n, o9 f n + o9 g n = o9 (fun i => f i + g i) n
  | 0 => by simp [o9]; grind
  | n + 1 => by rw [o9, o9, o9, ← ad2 f g n]; grind
def hR (a : Nat → Rat) (n i : Nat) (y : Rat) : Rat := o9 (fun j => hf a i j * pw y j) n
def hC (a : Nat → Rat) (n i : Nat) (y : Rat) : Rat := o9 (fun j => hc a i j * pw y j) (n + 1)
def sg (i : Nat) : Rat := if i % 2 = 0 then 1 else -1
def OvB (B W : Nat) (q : Rat) : Prop := ∃ v : Int, q = Rat.divInt v B ∧ v.natAbs < 2 ^ W
theorem OvB.mono {B V W : Nat} {q : Rat} (h : OvB B V q) (l : V ≤ W) : OvB B W q := let ⟨v, e, b⟩ := h; ⟨v, e, Nat.lt_of_lt_of_le b (i5 l)⟩
theorem OvB.zero (B W : Nat) : OvB B W 0 := ⟨0, by rw [Rat.zero_divInt], Nat.two_pow_pos _⟩
theorem aI4 {W : Nat} {qs : List Rat} (h : ClN W qs) {q : Rat} (hq : q ∈ qs) : OvB (i9 qs) W q :=
  ⟨_, ao7 (B9 qs) (K8 hq), h.w _ (List.mem_map.mpr ⟨q, hq, rfl⟩)⟩
theorem OvB.mul {B C V W : Nat} {p q : Rat} (h : OvB B V p) (k : OvB C W q) : OvB (B * C) (V + W) (p * q) := by
  obtain ⟨v, rfl, b⟩ := h
  obtain ⟨u, rfl, c⟩ := k
  refine ⟨v * u, by rw [Rat.divInt_mul_divInt, Int.natCast_mul], ?_⟩
  rw [Int.natAbs_mul, Nat.pow_add]
  exact Nat.mul_lt_mul'' b c
theorem OvB.neg {B W : Nat} {q : Rat} (h : OvB B W q) : OvB B W (-q) := by
  obtain ⟨v, rfl, b⟩ := h
  exact ⟨-v, by rw [Rat.neg_divInt], by rw [Int.natAbs_neg]; exact b⟩
theorem OvB.add {B W : Nat} (hB : 0 < B) {p q : Rat} (h : OvB B W p) (k : OvB B W q) : OvB B (W + 1) (p + q) := by
  obtain ⟨v, rfl, b⟩ := h
  obtain ⟨u, rfl, c⟩ := k
  refine ⟨v + u, ?_, ?_⟩
  · have hz : (B : Int) ≠ 0 := by omega
    rw [Rat.divInt_add_divInt _ _ hz hz]
    refine (Rat.divInt_eq_divInt_iff (Int.mul_ne_zero hz hz) hz).mpr ?_
    grind
  · have := Int.natAbs_add_le v u
    rw [Nat.pow_succ]; omega
theorem OvB.bdN {B W : Nat} (hB : 0 < B) (hW : B < 2 ^ W) {q : Rat} (h : OvB B W q) : BdN W q := by
  obtain ⟨v, rfl, b⟩ := h
  have := ad7 (t := v) (b := (B : Int)) (by omega)
  rw [Int.natAbs_natCast] at this
  exact ⟨Nat.lt_of_le_of_lt this.1 b, Nat.lt_of_le_of_lt this.2 hW⟩
theorem aW7 {α : Type} {xs : List α} {x : α} (h : xs[xs.length - 1]? = some x) : atI xs (-1) = some x := by
  have hp : xs.length - 1 < xs.length := (List.getElem?_eq_some_iff.mp h).1
  have e : ixN xs.length (-1) = some (xs.length - 1) := by
    unfold ixN
    rw [if_neg (by decide)]
    rw [if_pos (by omega)]
    congr 1
    omega
  unfold atI
  rw [e]
  exact h
def aQ (qs : List Rat) (k : Nat) : Rat := (qs[k]?).getD 0
def aZ (ws : List Int) (k : Nat) : Int := (ws[k]?).getD 0
theorem V0 {ws : List Int} {W : Nat} (h : ∀ v ∈ ws, Int.natAbs v < 2 ^ W) : ∀ k, (aZ ws k).natAbs < 2 ^ W := fun k => by
  unfold aZ
  cases q : ws[k]? with
  | none => exact Nat.two_pow_pos _
  | some v => exact h v (List.mem_of_getElem? q)
def NK (kd : Int) (q : Rat) : Prop := if kd = 2 then BdN 40 q else if kd = 0 then OvB 60 10 q else OvB 1 4 q
theorem bn7 {t d : Int} (h1 : 1 ≤ d) (h6 : d ≤ 6) (h : t.natAbs ≤ 9) : OvB 60 10 (Rat.divInt t d) := by
  have h0 : d = 1 ∨ d = 2 ∨ d = 3 ∨ d = 4 ∨ d = 5 ∨ d = 6 := by omega
  rcases h0 with rfl | rfl | rfl | rfl | rfl | rfl
  · exact ⟨t * 60, (Rat.divInt_eq_divInt_iff (by decide) (by decide)).mpr (by omega), by omega⟩
  · exact ⟨t * 30, (Rat.divInt_eq_divInt_iff (by decide) (by decide)).mpr (by omega), by omega⟩
  · exact ⟨t * 20, (Rat.divInt_eq_divInt_iff (by decide) (by decide)).mpr (by omega), by omega⟩
  · exact ⟨t * 15, (Rat.divInt_eq_divInt_iff (by decide) (by decide)).mpr (by omega), by omega⟩
  · exact ⟨t * 12, (Rat.divInt_eq_divInt_iff (by decide) (by decide)).mpr (by omega), by omega⟩
  · exact ⟨t * 10, (Rat.divInt_eq_divInt_iff (by decide) (by decide)).mpr (by omega), by omega⟩
theorem ov1 {t : Int} (h : t.natAbs ≤ 9) : OvB 1 4 (Rat.divInt t 1) := ⟨t, rfl, by omega⟩
theorem NK.ovb0 {q : Rat} (h : NK 0 q) : OvB 60 10 q := by unfold NK at h; rw [if_neg (by decide), if_pos rfl] at h; exact h
theorem NK.ovb1 {q : Rat} (h : NK 1 q) : OvB 1 4 q := by unfold NK at h; rw [if_neg (by decide), if_neg (by decide)] at h; exact h
theorem bo6 {t b : Int} (hb : b ≠ 0) (h1 : t.natAbs ≤ 9) (h2 : b.natAbs ≤ 7) : BdN 4 (Rat.divInt t b) := by
  have := ad7 (t := t) hb
  exact ⟨Nat.lt_of_le_of_lt this.1 (by omega), Nat.lt_of_le_of_lt this.2 (by omega)⟩
section
variable {P : Program} {w : World} {K : PySem.W.Frag} {mg : Str → Option Value} {base : Heap}
def ai8 : Sp := fun vs H Q _ => ∃ u kd, vs = [.ref u, .int kd] ∧ v4 H u ∧ ∀ r q H', NK kd q → w4 u H H' → v4 H' u → H' r = some (.tup (B7 q)) → Q (.ref r) H'
set_option maxHeartbeats 0 in
theorem am3 {f fd fl : Addr} (d : Df K mg "_law_number" E8 ["_law_urn_here", "_law_kind"] f) (G__law_draw : Def P w K mg base CX0 1 "_law_draw" fd ["_law_urn_here", "_law_many"] N3) (G__law_low : Def P w K mg base CX0 1 "_law_low" fl ["_law_top", "_law_bottom"] aD1) (n_int : mg "int" = none) : Def P w K mg base CX0 2 "_law_number" f ["_law_urn_here", "_law_kind"] ai8 := by
  refine d.ok (N := ["_law_urn_here", "_law_kind", "_law_top"]) ab8 (fun vs H Q E ⟨u, kd, h, _⟩ => by rw [h]; rfl) (fun cdv A outer s H vs Q E hr h => ?_)
  obtain ⟨u, kd, rfl, hu, k⟩ := h
  refine ⟨_, (d5 (F9 (p7 T0 (pv 1) b9 (j8 _)) (d5 (i8 (i := 2) ab8.nd rfl (Or.inl rfl) (i6 J0 (i6 C5 (i3 G__law_draw hr (b7 (pv 0) (b7 (i6 ac2 b9 b9) b8)) j3) (i6 ac2 b9 b9)) (i3 G__law_draw hr (b7 (pv 0) (b7 (i6 ac2 b9 b9) b8)) j3)))
      (d9 (m5 (i3 G__law_low hr (b7 (i6 C5 (pv 2) (t9 v8 (D0 (b7 b9 (b7 (aa9 Q8 b9) b8))) (i3 G__law_draw hr (b7 (pv 0) (b7 b9 b8)) j3) (fun _ _ => rfl))) (b7 (i6 J0 b9 (i6 C5 (i3 G__law_draw hr (b7 (pv 0) (b7 (i6 ac2 b9 b9) b8)) j3) (i6 ac2 b9 b9))) b8)) j3)))) v7)
      (d9 (m5 (i3 G__law_low hr (b7 (i6 M1 (i3 G__law_draw hr (b7 (pv 0) (b7 b9 b8)) j3) b9) (b7 (i6 J0 b9 (i6 C5 (i3 G__law_draw hr (b7 (pv 0) (b7 b9 b8)) j3) (B6 K3 rfl n_int (by decide +kernel) (b7 (G2 T0 (pv 1) b9 (j8 _)) b8)))) b8)) j3)))), ?_⟩
  rw [show start ["_law_urn_here", "_law_kind", "_law_top"] [.ref u, .int kd] = [some (.ref u), some (.int kd), none] from rfl]
  have e10 : (10 : Int) ^ Int.toNat 6 = 1000000 := by decide
  simp! [N3, aT9]
  refine G4 (fun hk2 => ?_) (fun hk2 => ?_)
  · refine ⟨⟨by decide, by decide, by decide⟩, hu, by decide, by decide, fun r2 H2 a2 b2 s2 u2 => ?_⟩
    refine ⟨⟨by decide, by decide, by decide⟩, aE7 (by decide), ⟨by decide, by decide, by decide⟩, u2, by decide, by decide, fun r3 H3 a3 b3 s3 u3 => ?_⟩
    refine ⟨by decide, fun l hl => ⟨P6 u3 hl, by decide, by decide, fun r4 H4 a4 b4 s4 u4 => ?_⟩⟩
    have e := s4 l _ d6 (Z0 u3 hl)
    have b2' : r2 < 1000000 := b2
    have b3' : r3 < 1000000 := b3
    have sx : w4 u H H4 := s2.trans (s3.trans (w4.trans (d8.x (d8.new hl _) u) s4))
    have fin : ∀ sg : Int, sg = 1 ∨ sg = -1 → (bn1 10 6 ∧ v4 H4 u ∧ 0 < (10 : Int) ^ Int.toNat 6 ∧ (10 : Int) ^ Int.toNat 6 < 2 ^ 40 ∧ ∀ (r : Int) (H' : Hp), 0 ≤ r → r < 10 ^ Int.toNat 6 → w4 u H4 H' → v4 H' u →
        bn1 10 6 ∧ IntMulOk r (10 ^ Int.toNat 6) ∧ aD1 [V.int ((r2 * 10 ^ Int.toNat 6 + r3) * sg), V.int (1 + r * 10 ^ Int.toNat 6)] H' Q E0) := by
      intro sg hsg
      refine ⟨⟨by decide, by decide, by decide⟩, u4, by decide, by decide, fun r5 H5 a5 b5 s5 u5 => ⟨⟨by decide, by decide, by decide⟩, aE7 (by decide), ?_⟩⟩
      rw [e10] at b5 ⊢
      refine ⟨_, _, rfl, by omega, Nat.lt_of_lt_of_le (show (1 + r5 * 1000000).natAbs < 2 ^ 64 by omega) (i5 (by decide)), fun r H' sm hr' => ?_⟩
      refine k r _ H' (by unfold NK; rw [if_pos hk2]; refine (bn3 (by omega) ?_ (by omega)).bdN; rcases hsg with h | h <;> subst h <;> omega) (sx.trans (s5.trans (d8.x sm u))) (d8.urn sm u5) hr'
    have h3 : r4 = 0 ∨ r4 = 1 := by omega
    rcases h3 with h | h <;> subst h
    · exact ⟨_, SqL.of e, _, rfl, _, rfl, aE7 (by decide), fin 1 (.inl rfl)⟩
    · exact ⟨_, SqL.of e, _, rfl, _, rfl, aE7 (by decide), fin (-1) (.inr rfl)⟩
  · refine ⟨hu, by decide, by decide, fun r2 H2 a2 b2 s2 u2 => ⟨u2, by decide, by decide, fun r3 H3 a3 b3 s3 u3 => ⟨bk1 (by omega), ?_⟩⟩⟩
    have hz : ∃ z : Int, z = r3 * (if kd = 0 then 1 else 0) ∧ 0 ≤ z ∧ z ≤ 5 ∧ (kd ≠ 0 → z = 0) := by
      refine ⟨_, rfl, ?_, ?_, ?_⟩
      · split <;> omega
      · split <;> omega
      · intro h; rw [if_neg h, Int.mul_zero]
    obtain ⟨z, ez, z0, z6, zk⟩ := hz
    rw [← ez]
    refine ⟨_, _, rfl, by omega, Nat.lt_of_lt_of_le (show (1 + z).natAbs < 2 ^ 64 by omega) (i5 (by decide)), fun r H' sm hr' => ?_⟩
    exact k r _ H' (by
      unfold NK
      rw [if_neg hk2]
      by_cases h0 : kd = 0
      · rw [if_pos h0]; exact bn7 (by omega) (by omega) (by omega)
      · rw [if_neg h0, zk h0]; exact ov1 (by omega)) (s2.trans (s3.trans (d8.x sm u))) (d8.urn sm u3) hr'
def ap3 : Sp := fun vs H Q _ => ∃ u kd, vs = [.ref u, .int kd] ∧ v4 H u ∧ ∀ r q H', NK kd q → q ≠ 0 → w4 u H H' → v4 H' u → H' r = some (.tup (B7 q)) → Q (.ref r) H'
set_option maxHeartbeats 0 in
theorem ar1 {f fd fl : Addr} (d : Df K mg "_law_other" G9 ["_law_urn_here", "_law_kind"] f) (G__law_draw : Def P w K mg base CX0 1 "_law_draw" fd ["_law_urn_here", "_law_many"] N3) (GD__law_number : Def P w K mg base CX0 2 "_law_number" fl ["_law_urn_here", "_law_kind"] ai8) : Def P w K mg base CX0 3 "_law_other" f ["_law_urn_here", "_law_kind"] ap3 := by
  refine d.ok (N := ["_law_urn_here", "_law_kind", "_law_found"]) ae5 (fun vs H Q E ⟨u, kd, h, _⟩ => by rw [h]; rfl) (fun cdv A outer s H vs Q E hr h => ?_)
  obtain ⟨u, kd, rfl, hu, k⟩ := h
  have G__law_number := GD__law_number
  refine ⟨_, (d5 (i8 (i := 2) ae5.nd rfl (Or.inl rfl) (i3 G__law_number hr (b7 (pv 0) (b7 (pv 1) b8)) j3))
      (d5 (F9 (p7 T0 (t9 y7 (pv 2) b9 (fun _ _ => rfl)) b9 (j8 _)) (d9 (m5 (q8 (b7 (i6 J0 b9 (i3 G__law_draw hr (b7 (pv 0) (b7 b9 b8)) j3)) (b7 b9 b8))))) v7)
      (d9 (m5 (pv 2))))), ?_⟩
  rw [show start ["_law_urn_here", "_law_kind", "_law_found"] [.ref u, .int kd] = [some (.ref u), some (.int kd), none] from rfl]
  simp! [N3]
  refine ⟨u, kd, rfl, hu, fun r q H1 sm s1 u1 e1 => ?_⟩
  refine ⟨r, rfl, _, SqT.of e1, _, at0 q, rfl, G4 (fun _ => ?_) (fun hn => ?_)⟩
  · refine ⟨u1, by decide, by decide, fun r2 H2 a2 b2 s2 u2 => ⟨v3, fun l hl => ?_⟩⟩
    have hd := af6 (n := 1 + r2) (d := 1) (by decide) (by simp)
    refine k l (Rat.divInt (1 + r2) 1) _ (by
      unfold NK
      split
      · exact (bo6 (by decide) (by omega) (by decide)).mono (by decide)
      · split
        · exact bn7 (by decide) (by decide) (by omega)
        · exact ov1 (by omega)) ?_ (s1.trans (s2.trans (d8.x (d8.new hl _) u))) (P6 u2 hl) ?_
    · intro z
      rw [z] at hd
      have : (0 : Rat).num = 0 := rfl
      omega
    · rw [d6]
      unfold B7
      rw [hd.1, hd.2]
  · refine k r q H1 sm (fun z => hn ?_) s1 u1 e1
    rw [z]; rfl
end
theorem ap7 {q : Rat} (h : 0 < q.num) : 0 < q := (Rat.lt_iff 0 q).mpr (by
  show (0 : Int) * (q.den : Int) < q.num * ((1 : Nat) : Int)
  rw [Int.zero_mul]; simpa using h)
theorem NK.neg {kd : Int} {q : Rat} (h : NK kd q) : NK kd (-q) := by
  unfold NK at h ⊢
  split at h
  · rename_i z
    rw [if_pos z]
    exact ⟨by show (-q.num).natAbs < _; rw [Int.natAbs_neg]; exact h.n, h.d⟩
  · rename_i z
    rw [if_neg z]
    split at h
    · rename_i y; rw [if_pos y]; exact h.neg
    · rename_i y; rw [if_neg y]; exact h.neg
theorem bj9 {kd : Int} {q : Rat} (h : NK kd q) (q0 : q ≠ 0) : ∃ q', [V.int (if q.num < 0 then -q.num else q.num), V.int q.den] = B7 q' ∧ NK kd q' ∧ 0 < q' := by
  have n0 : q.num ≠ 0 := fun z => q0 (Rat.num_eq_zero.mp z)
  by_cases z : q.num < 0
  · refine ⟨-q, ?_, h.neg, ap7 (by show 0 < -q.num; omega)⟩
    show _ = [V.int (-q.num), V.int q.den]
    rw [if_pos z]
  · refine ⟨q, ?_, h, ap7 (by omega)⟩
    show _ = [V.int q.num, V.int q.den]
    rw [if_neg z]
section
variable {P : Program} {w : World} {K : PySem.W.Frag} {mg : Str → Option Value} {base : Heap}
def ag7 : Sp := fun vs H Q _ => ∃ u kd, vs = [.ref u, .int kd] ∧ v4 H u ∧ ∀ r q H', NK kd q → 0 < q → w4 u H H' → v4 H' u → H' r = some (.tup (B7 q)) → Q (.ref r) H'
abbrev I0 : Stmt := top 39
theorem ae6 : m8 ["_law_urn_here", "_law_kind", "_law_found"] ["_law_urn_here", "_law_kind"] (d7 I0) := by and_intros
set_option maxHeartbeats 0 in
theorem au4 {f f1 : Addr} (d : Df K mg "_law_above" I0 ["_law_urn_here", "_law_kind"] f) (GD__law_other : Def P w K mg base CX0 3 "_law_other" f1 ["_law_urn_here", "_law_kind"] ap3) (n_abs : mg "abs" = none) : Def P w K mg base CX0 4 "_law_above" f ["_law_urn_here", "_law_kind"] ag7 := by
  refine d.ok (N := ["_law_urn_here", "_law_kind", "_law_found"]) ae6 (by rintro vs H Q E ⟨_, _, h, _⟩; rw [h]; rfl) (fun cdv A outer s H vs Q E hr h => ?_)
  obtain ⟨u, kd, rfl, hu, k⟩ := h
  have G__law_other := GD__law_other
  refine ⟨_, (d5 (i8 (i := 2) ae6.nd rfl (Or.inl rfl) (i3 G__law_other hr (b7 (pv 0) (b7 (pv 1) b8)) j3))
      (d9 (m5 (q8 (b7 (j2 X9 rfl n_abs (by decide +kernel) (b7 (t9 y7 (pv 2) b9 (fun _ _ => rfl)) b8)) (b7 (t9 y7 (pv 2) b9 (fun _ _ => rfl)) b8)))))), ?_⟩
  rw [show start ["_law_urn_here", "_law_kind", "_law_found"] [.ref u, .int kd] = [some (.ref u), some (.int kd), none] from rfl]
  subst_eqs
  refine ⟨u, kd, rfl, hu, fun r q H1 nk q0 s1 u1 e1 => ?_⟩
  obtain ⟨q', e', n', p'⟩ := bj9 nk q0
  refine ⟨r, rfl, _, SqT.of e1, _, at0 q, _, rfl, r, rfl, _, SqT.of e1, _, at1 q, v3, fun p hp => ?_⟩
  refine k p q' _ n' p' (s1.trans (d8.x (d8.new hp _) u)) (P6 u1 hp) ?_
  rw [d6, e']
end
structure BtN (k : Nat) (q : Rat) : Prop where
  n : q.num.natAbs < 2 ^ 20000
  d : q.den < 2 ^ k
theorem BtN.d' {n : Nat} {q : Rat} (b : BtN n q) : (q.den : Int).natAbs < 2 ^ n := by rw [Int.natAbs_natCast]; exact b.d
theorem BtN.zero {n : Nat} (h : 1 ≤ n) : BtN n 0 := ⟨Nat.two_pow_pos _, Nat.lt_of_lt_of_le (show 1 < 2 ^ 1 by decide) (i5 h)⟩
theorem z9.set {H : Hp} : ∀ {vs : List V} {qs : List Rat} (k : Nat) {p : Addr} {q : Rat}, z9 H vs qs → H p = some (.tup (B7 q)) → z9 H (vs.set k (.ref p)) (qs.set k q)
  | _, _, _, _, _, .nil, _ => .nil
  | _, _, 0, _, _, .cons _ t, h => .cons h t
  | _, _, k + 1, _, _, .cons h' t, h => .cons h' (t.set k h)
theorem z9.rep {H : Hp} {p : Addr} {q : Rat} (h : H p = some (.tup (B7 q))) : ∀ n, z9 H (List.replicate n (.ref p)) (List.replicate n q)
  | 0 => .nil
  | n + 1 => .cons h (z9.rep h n)
section
variable {P : Program} {w : World} {K : PySem.W.Frag} {mg : Str → Option Value} {base : Heap}
def Z1 (K : PySem.W.Frag) (op : Rat → Rat → Rat) : Sp := fun vs H Q _ => ∃ (x y : V) (p q : Rat) (m n : Nat), vs = [x, y] ∧ Num K H x p ∧ Num K H y q ∧ BtN m p ∧ BtN n q ∧ m + n ≤ 6000 ∧ aK8 H Q (op p q)
theorem bo4 {p q : Rat} {m n : Nat} (bp : BtN m p) (bq : BtN n q) (h : m + n ≤ 6000) : ((p.den : Int) * q.den).natAbs < 2 ^ 6000 := by
  rw [Int.natAbs_mul]
  have := Nat.mul_lt_mul'' bp.d' bq.d'
  rw [← Nat.pow_add] at this
  exact Nat.lt_of_lt_of_le this (i5 h)
theorem aN2 (p q : Rat) : (p.den : Int) * q.den ≠ 0 := Int.ne_of_gt (Int.mul_pos (M8 p) (M8 q))
abbrev J9 : Stmt := top 34
theorem az2 : m8 ["_law_one", "_law_other_here"] ["_law_one", "_law_other_here"] (d7 J9) := by and_intros
theorem aA4 {f fl : Addr} (d : Df K mg "_law_plus" J9 ["_law_one", "_law_other_here"] f) (G__law_low : Def P w K mg base CX0 1 "_law_low" fl ["_law_top", "_law_bottom"] aD1) : Def P w K mg base CX0 2 "_law_plus" f ["_law_one", "_law_other_here"] (Z1 K (· + ·)) := by
  refine d.ok (N := ["_law_one", "_law_other_here"]) az2 (by rintro vs H Q E ⟨x, y, p, q, m, n, h, _⟩; rw [h]; rfl) (fun cdv A outer s H vs Q E hr h => ?_)
  obtain ⟨x, y, p, q, m, n, rfl, ⟨ap, rfl, hp⟩, ⟨aq, rfl, hq⟩, bp, bq, hmn, k⟩ := h
  refine ⟨_, (d9 (m5 (i3 G__law_low hr (b7 (i6 J0 (i6 C5 (t9 y7 (pv 0) b9 (fun _ _ => rfl)) (t9 y7 (pv 1) b9 (fun _ _ => rfl))) (i6 C5 (t9 y7 (pv 1) b9 (fun _ _ => rfl)) (t9 y7 (pv 0) b9 (fun _ _ => rfl)))) (b7 (i6 C5 (t9 y7 (pv 0) b9 (fun _ _ => rfl)) (t9 y7 (pv 1) b9 (fun _ _ => rfl))) b8)) j3))), ?_⟩
  rw [show start ["_law_one", "_law_other_here"] [.ref ap, .ref aq] = [some (.ref ap), some (.ref aq)] from rfl]
  subst_eqs
  refine ⟨_, hp, _, at0 p, _, hq, _, at1 q, _, rfl, _, rfl, W4 bp.n bq.d' (by omega), _, hq, _, at0 q, _, hp, _, at1 p, _, rfl, _, rfl, W4 bq.n bp.d' (by omega), _, hp, _, at1 p, _, hq, _, at1 q, _, rfl, _, rfl, W4 bp.d' bq.d' (by omega), ?_⟩
  refine ⟨_, _, rfl, aN2 p q, bo4 bp bq hmn, ?_⟩
  rw [← aK6]
  exact k
abbrev G8 : Stmt := top 35
theorem at8 : m8 ["_law_one", "_law_other_here"] ["_law_one", "_law_other_here"] (d7 G8) := by and_intros
theorem au3 {f fl : Addr} (d : Df K mg "_law_times" G8 ["_law_one", "_law_other_here"] f) (G__law_low : Def P w K mg base CX0 1 "_law_low" fl ["_law_top", "_law_bottom"] aD1) : Def P w K mg base CX0 2 "_law_times" f ["_law_one", "_law_other_here"] (Z1 K (· * ·)) := by
  refine d.ok (N := ["_law_one", "_law_other_here"]) at8 (by rintro vs H Q E ⟨x, y, p, q, m, n, h, _⟩; rw [h]; rfl) (fun cdv A outer s H vs Q E hr h => ?_)
  obtain ⟨x, y, p, q, m, n, rfl, ⟨ap, rfl, hp⟩, ⟨aq, rfl, hq⟩, bp, bq, hmn, k⟩ := h
  refine ⟨_, (d9 (m5 (i3 G__law_low hr (b7 (i6 C5 (t9 y7 (pv 0) b9 (fun _ _ => rfl)) (t9 y7 (pv 1) b9 (fun _ _ => rfl))) (b7 (i6 C5 (t9 y7 (pv 0) b9 (fun _ _ => rfl)) (t9 y7 (pv 1) b9 (fun _ _ => rfl))) b8)) j3))), ?_⟩
  rw [show start ["_law_one", "_law_other_here"] [.ref ap, .ref aq] = [some (.ref ap), some (.ref aq)] from rfl]
  subst_eqs
  refine ⟨_, hp, _, at0 p, _, hq, _, at0 q, _, rfl, _, rfl, W4 bp.n bq.n (by omega), _, hp, _, at1 p, _, hq, _, at1 q, _, rfl, _, rfl, W4 bp.d' bq.d' (by omega), ?_⟩
  refine ⟨_, _, rfl, aN2 p q, bo4 bp bq hmn, ?_⟩
  rw [← aJ0]
  exact k
def aT6 (K : PySem.W.Frag) : Sp := fun vs H Q _ => ∃ (a b : Addr) (xs ys : List V) (ps qs : List Rat), vs = [.ref a, .ref b] ∧ SqL K H a xs ∧ SqL K H b ys ∧ z9 H xs ps ∧ z9 H ys qs ∧ (∃ m1 m2 : Nat, (∀ q ∈ ps, BtN m1 q) ∧ (∀ q ∈ qs, BtN m2 q) ∧ m1 + m2 ≤ 6000 ∧ 1 ≤ m1 ∧ 1 ≤ m2) ∧ ps.length ≤ 100 ∧ qs.length ≤ 100 ∧
  ∀ m r zs H', J3 (aa6 ps qs) m → d8 H H' → H r = none → H' r = some (.lst zs) → z9 H' zs ((aa6 ps qs).take m) → Q (.ref r) H'
abbrev C3 : Stmt := top 41
theorem D9 : m8 ["_law_p", "_law_q", "_law_found", "_law_i", "_law_one", "_law_other_here"] ["_law_p", "_law_q"] (d7 C3) := by and_intros
set_option maxHeartbeats 0 in
theorem ah6 {f fp ft : Addr} (d : Df K mg "_law_poly_plus" C3 ["_law_p", "_law_q"] f) (G__law_plus : Def P w K mg base CX0 2 "_law_plus" fp ["_law_one", "_law_other_here"] (Z1 K (· + ·))) (G__law_trim : Def P w K mg base CX0 1 "_law_trim" ft ["_law_numbers"] (ay5 K)) (n_range : mg "range" = none) (n_max : mg "max" = none) (n_len : mg "len" = none) : Def P w K mg base CX0 3 "_law_poly_plus" f ["_law_p", "_law_q"] (aT6 K) := by
  refine d.ok (N := ["_law_p", "_law_q", "_law_found", "_law_i", "_law_one", "_law_other_here"]) D9 (by rintro vs H Q E ⟨_, _, _, _, _, _, h, _⟩; rw [h]; rfl) (fun cdv A outer s H vs Q E hr h => ?_)
  obtain ⟨a, b, xs, ys, ps, qs, rfl, hS, hS', hN, hN', ⟨m1, m2, hs, hs', hm, hm1, hm2⟩, hl, hl', k⟩ := h
  refine ⟨_, (d5 (i8 (i := 2) D9.nd rfl (Or.inl rfl) (D0 b8))
      (d5 (P2 PassesOwn.never rfl (P3 rfl n_range (b7 (j2 (aw8 rfl) rfl n_max (by decide +kernel) (b7 (j2 j0 rfl n_len (by decide +kernel) (b7 (pv 0) b8)) (b7 (j2 j0 rfl n_len (by decide +kernel) (b7 (pv 1) b8)) b8))) b8)) (i7 (i := 3) D9.nd rfl (Or.inl rfl)) (d5 (i8 (i := 4) D9.nd rfl (Or.inl rfl) (W3 (p7 R6 (pv 3) (j2 j0 rfl n_len (by decide +kernel) (b7 (pv 0) b8)) (j8 _)) (t9 v8 (pv 0) (pv 3) (fun _ _ => rfl)) (q8 (b7 b9 (b7 b9 b8)))))
      (d5 (i8 (i := 5) D9.nd rfl (Or.inl rfl) (W3 (p7 R6 (pv 3) (j2 j0 rfl n_len (by decide +kernel) (b7 (pv 1) b8)) (j8 _)) (t9 v8 (pv 1) (pv 3) (fun _ _ => rfl)) (q8 (b7 b9 (b7 b9 b8)))))
      (d9 (ao2 (aV7 PySem.F.plainAttrs_list PySem.F.slot_list_append PySem.F.type_list_append S7 (pv 2) (b7 (i3 G__law_plus hr (b7 (pv 4) (b7 (pv 5) b8)) j3) b8)))))))
      (d9 (m5 (i3 G__law_trim hr (b7 (pv 2) b8) j3))))), ?_⟩
  rw [show start ["_law_p", "_law_q", "_law_found", "_law_i", "_law_one", "_law_other_here"] [.ref a, .ref b] = [some (.ref a), some (.ref b), none, none, none, none] from rfl]
  subst_eqs
  refine ⟨by decide, fun p hp => ?_⟩
  have lx := hN.length
  have ly := hN'.length
  have S0 := d8.new hp (.lst [])
  have pick : ∀ (i : Nat) (k : Nat) (c : Addr) (us : List V) (rs : List Rat) (σ : L2.St) (H3 : Hp) (R : VK), σ[k]? = some (some (.ref c)) → σ[3]? = some (some (.int (0 + (i : Int)))) → SqL K H3 c us → z9 H3 us rs → (∀ v H4, d8 H3 H4 → Num K H4 v ((rs[i]?).getD 0) → R v H4) →
      tIf (aC6 (tOp (rI0 fun i j => V.bl (decide (i < j))) (ag3 3) (tCB (fun xs H Q => ∃ p, xs = [V.ref p] ∧ ∃ x, (SqL K H p x ∨ SqT K H p x) ∧ Q (V.int x.length) H) (ag4 (ag3 k) aH0)))) (tOp (bb2 K) (ag3 k) (ag3 3)) (ba1 (ag4 (tC (V.int 0)) (ag4 (tC (V.int 1)) aH0))) σ H3 R := by
    intro i k c us rs σ H3 R h1 h2 hc hn hR
    simp! [h1, h2]
    refine ⟨us, .inl hc, G4 (fun h => ?_) (fun h => ?_)⟩
    · have hi : i < us.length := by omega
      have hir : i < rs.length := by rw [← hn.length]; exact hi
      obtain ⟨pv, hv, hpv⟩ := hn.get (List.getElem?_eq_getElem hir)
      have e0 : (0 : Int) + (i : Int) = ((i : Nat) : Int) := by omega
      refine ⟨_, hc, _, (by rw [e0]; exact G3 hv), hR _ _ (d8.refl _) ⟨pv, rfl, ?_⟩⟩
      rw [List.getElem?_eq_getElem hir]
      exact SqT.of hpv
    · have hi : rs.length ≤ i := by rw [← hn.length]; omega
      refine ⟨v3, fun t ht => hR _ _ (d8.new ht _) ⟨t, rfl, ?_⟩⟩
      rw [List.getElem?_eq_none hi]
      exact SqT.of d6
  refine ⟨_, rfl, a, rfl, xs, .inl (S0.seq hS), _, rfl, b, rfl, ys, .inl (S0.seq hS'), _, _, rfl, _, rfl, ?_, ?_, W9 (fun i σ H2 => ∃ o1 o2 o3, σ = [some (.ref a), some (.ref b), some (.ref p), o1, o2, o3] ∧ d8 H H2 ∧ ∃ zs, H2 p = some (.lst zs) ∧ z9 H2 zs ((aa6 ps qs).take i)) ⟨_, _, _, rfl, S0, [], d6, .nil⟩ ?_ ?_⟩
  · split <;> omega
  · split <;> omega
  · rintro i σ H2 hi ⟨o1, o2, o3, rfl, s2, zs, e2, n2⟩
    have hi' : i < max ps.length qs.length := by
      revert hi
      split <;> omega
    refine pick i 0 a xs ps _ _ _ rfl rfl (s2.seq hS) (hN.mono s2.tups) fun v H3 s3 nv => ?_
    refine pick i 1 b ys qs _ _ _ rfl rfl ((s2.trans s3).seq hS') (hN'.mono (s2.trans s3).tups) fun u H4 s4 nu => ?_
    have bq : ∀ (rs : List Rat) (m : Nat), 1 ≤ m → (∀ q ∈ rs, BtN m q) → BtN m ((rs[i]?).getD 0) := fun rs m hm h => by
      cases e : rs[i]? with
      | none => exact BtN.zero hm
      | some q => exact h q (List.mem_of_getElem? e)
    have S4 := s2.trans (s3.trans s4)
    subst_eqs
    refine ⟨.inl ⟨_, SqL.of (s4 _ _ (s3 _ _ e2))⟩, v, u, _, _, m1, m2, rfl, nv.same s4, nu, bq ps m1 hm1 hs, bq qs m2 hm2 hs', hm, fun r H5 s5 e5 => ?_⟩
    have e6 := s5 _ _ (s4 _ _ (s3 _ _ e2))
    refine ⟨_, e6, ?_, ?_⟩
    · rw [n2.length, List.length_take]
      exact Nat.lt_of_le_of_lt (show _ ≤ 100 by omega) (by decide)
    · refine ⟨(S4.trans s5).over hp _, _, d6, ?_⟩
      rw [show (aa6 ps qs).take (i + 1) = (aa6 ps qs).take i ++ [(ps[i]?).getD 0 + (qs[i]?).getD 0] by rw [List.take_succ, as8 ps qs i hi']; rfl]
      exact (((n2.mono (s3.trans s4).tups).mono s5.tups).append (.cons e5 .nil)).mono (aa7.lst e6)
  · rintro σ H2 ⟨o1, o2, o3, rfl, s2, zs, e2, n2⟩
    have e7 : (aa6 ps qs).take (if (ys.length : Int) > (xs.length : Int) then (ys.length : Int) else xs.length).toNat = aa6 ps qs := by
      rw [List.take_of_length_le]
      rw [as7]
      split <;> omega
    have n2' : z9 H2 zs (aa6 ps qs) := by rw [← e7]; exact n2
    refine ⟨_, rfl, p, zs, _, rfl, SqL.of e2, n2', fun m r H3 tl s3 hr' e3 => ?_⟩
    exact k m r _ _ tl (s2.trans s3) (s2.free hr') e3 ((n2'.take m).mono s3.tups)
end
def bg5 : List D → Bool
  | [.v (.int _), .v (.int _), .v (.int _)] => true
  | _ => false
mutual
def noW : D → Bool
  | .v _ => true
  | .tup ds => bj7 ds
  | .lst ds => !bg5 ds && bj7 ds
def bj7 : List D → Bool
  | [] => true
  | d :: ds => noW d && bj7 ds
end
mutual
def smD (m : Nat) : D → Prop
  | .v (.int i) => i.natAbs < 2 ^ m
  | .v _ => True
  | .tup ds => bh4 m ds
  | .lst ds => bh4 m ds
def bh4 (m : Nat) : List D → Prop
  | [] => True
  | d :: ds => smD m d ∧ bh4 m ds
end
def ab2 (p q : Rat) : Bool := decide (p.num * (q.den : Int) < q.num * (p.den : Int))
structure IsBox (B : List (Rat × Rat)) : Prop where
  l2 : 2 ≤ B.length
  l8 : B.length ≤ 8
  le : ∀ s ∈ B, s.1 ≤ s.2
  last : ∀ s, B[B.length - 1]? = some s → 0 < s.1
def zs (t b a : Int) : List Int → List Int
  | [] => [b * a]
  | x :: r => (b * a + t * x) :: zs t b x r
structure MidN (n : Nat) (R : List Rat) : Prop where
  ex : ∃ (B : Nat) (ws : List Int), 0 < B ∧ B < 2 ^ (40 * n + 1) ∧ R = scl (Rat.divInt 1 B) ws ∧ ∀ v ∈ ws, Int.natAbs v < 2 ^ (41 * n + 1)
  len : R.length = n + 1
  last : R[n]? = some 1
inductive aZ6 (H : Hp) : List V → List (Rat × Rat) → Prop where
  | nil : aZ6 H [] []
  | cons {p a b : Addr} {s : Rat × Rat} {vs : List V} {B : List (Rat × Rat)} (h : H p = some (.tup [.ref a, .ref b])) (ha : H a = some (.tup (B7 s.1))) (hb : H b = some (.tup (B7 s.2))) (t : aZ6 H vs B) : aZ6 H (.ref p :: vs) (s :: B)
structure TbX (u : Addr) (H : Hp) (a : Addr) (ts : List Addr) (M : List (List Rat)) : Prop where
  au : a ≠ u
  tu : ∀ t ∈ ts, t ≠ u
  at' : H a = some (.lst (ts.map V.ref))
  rws : Rws H ts M
structure LsX (u : Addr) (H : Hp) (a : Addr) (xs : List V) (qs : List Rat) : Prop where
  au : a ≠ u
  at' : H a = some (.lst xs)
  nums : z9 H xs qs
theorem LsX.samex {u a : Addr} {H H' : Hp} {xs : List V} {qs : List Rat} (t : LsX u H a xs qs) (s : w4 u H H') (hu : v4 H u) : LsX u H' a xs qs := ⟨t.au, s _ _ t.at' t.au, t.nums.mono (s.tups hu)⟩
theorem LsX.same {u a : Addr} {H H' : Hp} {xs : List V} {qs : List Rat} (t : LsX u H a xs qs) (s : d8 H H') : LsX u H' a xs qs := ⟨t.au, s _ _ t.at', t.nums.mono s.tups⟩
theorem ax6 {α : Type} [Add α] : ∀ (f : List α) (k : Nat) (x v : α), v ∈ Y0 f k x → v ∈ f ∨ ∃ y ∈ f, v = y + x
  | [], _, _, _, h => by cases h
  | y :: r, 0, x, v, h => by
    rcases List.mem_cons.mp h with z | z
    · exact .inr ⟨y, List.mem_cons_self, z⟩
    · exact .inl (List.mem_cons_of_mem _ z)
  | y :: r, k + 1, x, v, h => by
    rcases List.mem_cons.mp h with z | z
    · exact .inl (by rw [z]; exact List.mem_cons_self)
    · rcases ax6 r k x v z with w | ⟨u, hu, e⟩
      · exact .inl (List.mem_cons_of_mem _ w)
      · exact .inr ⟨u, List.mem_cons_of_mem _ hu, e⟩
theorem aS4 {B W : Nat} (hB : 0 < B) {f : List Rat} {k : Nat} {x : Rat} (hf : ∀ v ∈ f, OvB B W v) (hx : OvB B W x) : ∀ v ∈ Y0 f k x, OvB B (W + 1) v := fun v hv => by
  rcases ax6 f k x v hv with h | ⟨y, hy, rfl⟩
  · exact (hf v h).mono (by omega)
  · exact (hf y hy).add hB hx
def cv (f g : Nat → Rat) (k : Nat) : Rat := o9 (fun i => f i * g (k - i)) (k + 1)
theorem be6 (p q : List Rat) (k : Nat) : aQ (aa6 p q) k = aQ p k + aQ q k := by
  unfold aQ
  by_cases h : k < max p.length q.length
  · rw [as8 p q k h]; rfl
  · rw [List.getElem?_eq_none (by rw [as7]; omega), List.getElem?_eq_none (by omega), List.getElem?_eq_none (by omega)]; grind
theorem aO3 (p q : List Rat) (k : Nat) : aQ (M3 p q) k = cv (aQ p) (aQ q) k := by
  by_cases hp : p = []
  · subst hp
    have : M3 [] q = [] := by unfold M3; rw [if_pos (.inl rfl)]
    rw [this]
    symm
    exact K9 _ fun i _ => by show (0 : Rat) * _ = 0; grind
  by_cases hq : q = []
  · subst hq
    have : M3 p [] = [] := by unfold M3; rw [if_pos (.inr rfl)]
    rw [this]
    symm
    exact K9 _ fun i _ => by show _ * (0 : Rat) = 0; grind
  by_cases hk : k < p.length + q.length - 1
  · have := ar3 hp hq hk
    unfold aQ
    rw [this]; rfl
  · have h1 : aQ (M3 p q) k = 0 := by
      unfold aQ
      rw [List.getElem?_eq_none (by rw [ah8 hp hq]; omega)]; rfl
    rw [h1]
    symm
    refine K9 _ fun i hi => ?_
    by_cases h2 : i < p.length
    · have : aQ q (k - i) = 0 := by unfold aQ; rw [List.getElem?_eq_none (by omega)]; rfl
      rw [this]; grind
    · have : aQ p i = 0 := by unfold aQ; rw [List.getElem?_eq_none (by omega)]; rfl
      rw [this]; grind
theorem aO2 {qs : List Rat} {m : Nat} (t : J3 qs m) (k : Nat) : aQ (qs.take m) k = aQ qs k := by
  unfold aQ
  rw [List.getElem?_take]
  split
  · rfl
  · cases h : qs[k]? with
    | none => rfl
    | some v => rw [t.zero k v (by omega) h]; rfl
theorem aK2 (f g h : Nat → Rat) (k : Nat) : cv (fun i => f i + g i) h k = cv f h k + cv g h k := by
  unfold cv
  rw [ad2]
  exact v5 fun i _ => by grind
theorem bm0 (c : Rat) (f h : Nat → Rat) (k : Nat) : cv (fun i => c * f i) h k = c * cv f h k := by
  unfold cv
  rw [V9]
  exact v5 fun i _ => by grind
theorem M9 (g : Nat → Rat) (t : Nat) : ∀ n, o9 (fun i => if i = t then g i else 0) n = if t < n then g t else 0
  | 0 => by rw [if_neg (by omega)]; rfl
  | n + 1 => by
    rw [o9, M9 g t n]
    by_cases h : t < n
    · rw [if_pos h, if_neg (by omega), if_pos (by omega)]; grind
    · by_cases h2 : n = t
      · rw [if_neg h, if_pos h2, if_pos (by omega), h2]; grind
      · rw [if_neg h, if_neg h2, if_neg (by omega)]; grind
theorem aw7 (d : Rat) (t : Nat) (h : Nat → Rat) (k : Nat) : cv (fun i => if i = t then d else 0) h k = if t ≤ k then d * h (k - t) else 0 := by
  unfold cv
  have : o9 (fun i => (if i = t then d else 0) * h (k - i)) (k + 1) = o9 (fun i => if i = t then d * h (k - i) else 0) (k + 1) := v5 fun i _ => by split <;> grind
  rw [this, M9]
  by_cases e : t ≤ k
  · rw [if_pos (by omega), if_pos e]
  · rw [if_neg (by omega), if_neg e]
def zc (ws : List Int) (k : Nat) : Rat := (aZ ws k : Rat)
structure at4 (ws : List Int) (m : Nat) : Prop where
  le : m ≤ ws.length
  zero : ∀ i v, m ≤ i → ws[i]? = some v → v = 0
  last : m ≠ 0 → ∀ v, ws[m - 1]? = some v → v ≠ 0
def Dv (one other Q R : List Int) (many : Int) : Prop := ∀ k, (many : Rat) * zc one k = cv (zc Q) (zc other) k + zc R k
theorem OvB.bt {B W e : Nat} {q : Rat} (h : OvB B W q) (hB : 0 < B) (hBe : B < 2 ^ e) (hW : W ≤ 20000) : BtN e q := by
  obtain ⟨v, rfl, b⟩ := h
  have := ad7 (t := v) (b := (B : Int)) (by omega)
  rw [Int.natAbs_natCast] at this
  exact ⟨Nat.lt_of_le_of_lt this.1 (Nat.lt_of_lt_of_le b (i5 hW)), Nat.lt_of_le_of_lt this.2 hBe⟩
section
variable {P : Program} {w : World} {K : PySem.W.Frag} {mg : Str → Option Value} {base : Heap}
def am8 (K : PySem.W.Frag) : Sp := fun vs H Q _ => ∃ (a b : Addr) (xs ys : List V) (ps qs : List Rat) (B C V' W e : Nat), vs = [.ref a, .ref b] ∧ SqL K H a xs ∧ SqL K H b ys ∧ z9 H xs ps ∧ z9 H ys qs ∧ (∀ q ∈ ps, OvB B V' q) ∧ (∀ q ∈ qs, OvB C W q) ∧ 0 < B ∧ 0 < C ∧ B * C < 2 ^ e ∧ 1 ≤ e ∧ 2 * e ≤ 6000 ∧ V' + W ≤ 19000 ∧ ps.length ≤ 20 ∧ qs.length ≤ 20 ∧
  ∀ m r zs H', J3 (M3 ps qs) m → (∀ q ∈ M3 ps qs, OvB (B * C) (V' + W + 400) q) → d8 H H' → H r = none → H' r = some (.lst zs) → z9 H' zs ((M3 ps qs).take m) → Q (.ref r) H'
abbrev B5 : Stmt := top 43
theorem C0 : m8 ["_law_p", "_law_q", "_law_found", "_law_i", "_law_one", "_law_j", "_law_other_here"] ["_law_p", "_law_q"] (d7 B5) := by and_intros
set_option maxHeartbeats 0 in
theorem af5 {f fp f1 f2 : Addr} (d : Df K mg "_law_poly_times" B5 ["_law_p", "_law_q"] f) (G__law_plus : Def P w K mg base CX0 2 "_law_plus" fp ["_law_one", "_law_other_here"] (Z1 K (· + ·))) (G__law_times : Def P w K mg base CX0 2 "_law_times" f1 ["_law_one", "_law_other_here"] (Z1 K (· * ·))) (G__law_trim : Def P w K mg base CX0 1 "_law_trim" f2 ["_law_numbers"] (ay5 K)) (n_len : mg "len" = none) (n_enumerate : mg "enumerate" = none) : Def P w K mg base CX0 3 "_law_poly_times" f ["_law_p", "_law_q"] (am8 K) := by
  refine d.ok (N := ["_law_p", "_law_q", "_law_found", "_law_i", "_law_one", "_law_j", "_law_other_here"]) C0 (by rintro vs H Q E ⟨_, _, _, _, _, _, _, _, _, _, _, h, _⟩; rw [h]; rfl) (fun cdv A outer s H vs Q E hr h => ?_)
  obtain ⟨a, b, xs, ys, ps, qs, B, C, V', W, e, rfl, hS, hS', hN, hN', hs, hs', hB, hC, hBC, he1, he, hVW, hl, hl', k⟩ := h
  have hBCp := Nat.mul_pos hB hC
  have hBe : B < 2 ^ e := Nat.lt_of_le_of_lt (Nat.le_mul_of_pos_right _ hC) hBC
  have hCe : C < 2 ^ e := Nat.lt_of_le_of_lt (Nat.le_mul_of_pos_left _ hB) hBC
  have hu := hr.units
  refine ⟨_, (d5 (F9 (PW.pt (aU7 (p7 (aI5 hu) (pv 0) (D0 b8) (j8 _)) (aH7 (p7 (aI5 hu) (pv 1) (D0 b8) (j8 _))))) (d9 (m5 (D0 b8))) v7)
      (d5 (i8 (i := 2) C0.nd rfl (Or.inl rfl) (i6 aV8 (D0 (b7 (q8 (b7 b9 (b7 b9 b8))) b8)) (i6 M1 (i6 J0 (j2 j0 rfl n_len (by decide +kernel) (b7 (pv 0) b8)) (j2 j0 rfl n_len (by decide +kernel) (b7 (pv 1) b8))) b9)))
      (d5 (P2 PassesOwn.never rfl (az9 rfl n_enumerate (b7 (pv 0) b8)) (show PG _ _ (ae1 K 2 (D7 (D3 3) (D7 (D3 4) ae2))) from by (refine P4 (n := 2) ?_ ?_ ?_ ?_; rfl; (refine u0 ?_ ?_ ?_; (exact (i7 (i := 3) C0.nd rfl (Or.inl rfl))); (refine u0 ?_ ?_ ?_; (exact (i7 (i := 4) C0.nd rfl (Or.inl rfl))); (exact K2); rfl); rfl); rfl; rfl)) (d9 (P2 PassesOwn.never rfl (az9 rfl n_enumerate (b7 (pv 1) b8)) (show PG _ _ (ae1 K 2 (D7 (D3 5) (D7 (D3 6) ae2))) from by (refine P4 (n := 2) ?_ ?_ ?_ ?_; rfl; (refine u0 ?_ ?_ ?_; (exact (i7 (i := 5) C0.nd rfl (Or.inl rfl))); (refine u0 ?_ ?_ ?_; (exact (i7 (i := 6) C0.nd rfl (Or.inl rfl))); (exact K2); rfl); rfl); rfl; rfl)) (d9 (Z8 (i3 G__law_plus hr (b7 (t9 v8 (pv 2) (i6 J0 (pv 3) (pv 5)) (fun _ _ => rfl)) (b7 (i3 G__law_times hr (b7 (pv 4) (b7 (pv 6) b8)) j3) b8)) j3) (aI0 (pv 2) (i6 J0 (pv 3) (pv 5)) ap5))))))
      (d9 (m5 (i3 G__law_trim hr (b7 (pv 2) b8) j3)))))), ?_⟩
  rw [show start ["_law_p", "_law_q", "_law_found", "_law_i", "_law_one", "_law_j", "_law_other_here"] [.ref a, .ref b] = [some (.ref a), some (.ref b), none, none, none, none, none] from rfl]
  subst_eqs
  have tl0 : J3 ([] : List Rat) 0 := ⟨Nat.le_refl _, fun i q _ e => by simp at e, fun h => absurd rfl h⟩
  refine ⟨by decide, fun p hp => ?_⟩
  have S1 := d8.new hp (.lst [])
  refine ⟨Q7 ps, Q7 [], rfl, T1 (S1.seq hS) (hN.mono S1.tups), T1 (SqL.of d6) .nil, ah7 _ _, Nat.le_trans (ao6 _) (by decide), ?_⟩
  rw [ai3]
  refine ⟨_, rfl, G4 (fun h => ⟨by decide, fun r hr' => ?_⟩) (fun h => ?_)⟩
  · have e : M3 ps qs = [] := by rw [M3, if_pos (.inl (by simpa using h))]
    rw [e] at k
    exact k 0 r [] _ tl0 (by simp) (S1.trans (d8.new hr' _)) (S1.free hr') d6 .nil
  have np : ps ≠ [] := fun z => h (by simp [z])
  refine ⟨by decide, fun p2 hp2 => ?_⟩
  have S2 := S1.trans (d8.new hp2 (.lst []))
  refine ⟨Q7 qs, Q7 [], rfl, T1 (S2.seq hS') (hN'.mono S2.tups), T1 (SqL.of d6) .nil, ah7 _ _, Nat.le_trans (ao6 _) (by decide), ?_⟩
  rw [ai3]
  refine ⟨_, rfl, G4 (fun h => ⟨by decide, fun r hr' => ?_⟩) (fun h => ?_)⟩
  · have e : M3 ps qs = [] := by rw [M3, if_pos (.inr (by simpa using h))]
    rw [e] at k
    exact k 0 r [] _ tl0 (by simp) (S2.trans (d8.new hr' _)) (S2.free hr') d6 .nil
  have nq : qs ≠ [] := fun z => h (by simp [z])
  have lx := hN.length
  have ly := hN'.length
  have lp : 0 < ps.length := List.length_pos_iff.mpr np
  have lq : 0 < qs.length := List.length_pos_iff.mpr nq
  refine ⟨v3, fun p3 hp3 => ⟨aj0, fun p4 hp4 => ?_⟩⟩
  have S3 := S2.trans (d8.new hp3 (.tup [.int 0, .int 1]))
  have S4 := S3.trans (d8.new hp4 (.lst [.ref p3]))
  refine ⟨_, .inl (S4.seq hS), _, .inl (S4.seq hS'), _, d6, by omega, by omega, ?_, fun l hl0 => ?_⟩
  · simp only [List.length_cons, List.length_nil]
    exact Nat.le_trans (show _ ≤ 40 by omega) (by decide)
  have hz : (List.replicate ((xs.length : Int) + (ys.length : Int) - 1).toNat [V.ref p3]).flatten = List.replicate (ps.length + qs.length - 1) (V.ref p3) := by
    have e : ((xs.length : Int) + (ys.length : Int) - 1).toNat = ps.length + qs.length - 1 := by omega
    rw [e, List.flatten_replicate_singleton]
  rw [hz]
  have S5 := S4.trans (d8.new hl0 (.lst (List.replicate (ps.length + qs.length - 1) (.ref p3))))
  have hlH : H l = none := S4.free hl0
  have ez : (upd (upd (upd (upd (upd H p (.lst [])) p2 (.lst [])) p3 (.tup [.int 0, .int 1])) p4 (.lst [.ref p3])) l (.lst (List.replicate (ps.length + qs.length - 1) (.ref p3)))) p3 = some (.tup (B7 0)) := d8.new hl0 _ _ _ (d8.new hp4 _ _ _ d6)
  refine ⟨_, rfl, a, rfl, ⟨_, S5.seq hS⟩, aF1 xs (fun i σ H2 => ∃ o3 o4 o5 o6, σ = [some (.ref a), some (.ref b), some (.ref l), o3, o4, o5, o6] ∧ d8 H H2 ∧ ∃ zs, H2 l = some (.lst zs) ∧ z9 H2 zs (J2 0 (List.replicate (ps.length + qs.length - 1) (0 : Rat)) ps qs i) ∧ ∀ v ∈ J2 0 (List.replicate (ps.length + qs.length - 1) (0 : Rat)) ps qs i, OvB (B * C) (V' + W + i * qs.length) v)
    ⟨_, _, _, _, rfl, S5, _, d6, z9.rep ez _, fun v hv => by rw [(List.mem_replicate.mp hv).2]; exact OvB.zero _ _⟩ (fun i σ H2 ⟨_, _, _, _, _, s2, _⟩ => s2.seq hS) ?_ ?_⟩
  · rintro i x σ H2 r hx ⟨o3, o4, o5, o6, rfl, s2, zs, e2, n2, b2⟩ hr'
    obtain ⟨px, q, rfl, hq, hpx⟩ := hN.getV hx
    have hi := (List.getElem?_eq_some_iff.mp hq).1
    have sr := d8.new hr' (.tup [.int i, .ref px])
    refine ⟨_, _, rfl, SqT.of d6, rfl, _, _, rfl, _, _, rfl, rfl, ?_⟩
    refine ⟨_, rfl, b, rfl, ⟨_, (s2.trans sr).seq hS'⟩, aF1 ys (fun j σ H4 => ∃ o5 o6, σ = [some (.ref a), some (.ref b), some (.ref l), some (.int i), some (.ref px), o5, o6] ∧ d8 H H4 ∧ ∃ zs, H4 l = some (.lst zs) ∧ z9 H4 zs (M4 0 (J2 0 (List.replicate (ps.length + qs.length - 1) (0 : Rat)) ps qs i) i q qs j) ∧ ∀ v ∈ M4 0 (J2 0 (List.replicate (ps.length + qs.length - 1) (0 : Rat)) ps qs i) i q qs j, OvB (B * C) (V' + W + (i * qs.length + j)) v)
      ⟨_, _, rfl, s2.trans sr, _, sr _ _ e2, n2.mono sr.tups, b2⟩ (fun i σ H2 ⟨_, _, _, s2, _⟩ => s2.seq hS') ?_ ?_⟩
    · rintro j y σ H4 t hy ⟨o5, o6, rfl, s4, zs4, e4, n4, b4⟩ ht
      obtain ⟨py, q', rfl, hq', hpy⟩ := hN'.getV hy
      have hj := (List.getElem?_eq_some_iff.mp hq').1
      have st := d8.new ht (.tup [.int j, .ref py])
      have e5 := st _ _ e4
      have hF : i + j < (M4 0 (J2 0 (List.replicate (ps.length + qs.length - 1) (0 : Rat)) ps qs i) i q qs j).length := by
        rw [ak1, aj3, List.length_replicate]; omega
      have eg := List.getElem?_eq_getElem hF
      obtain ⟨pv, hv, hpv⟩ := (n4.mono st.tups).get eg
      have ec : (i : Int) + (j : Int) = ((i + j : Nat) : Int) := by omega
      have hc : i * qs.length + j < 400 := by
        have h1 : i * qs.length ≤ 19 * qs.length := Nat.mul_le_mul_right _ (by omega)
        omega
      subst_eqs
      have o1 := hs q (List.mem_of_getElem? hq)
      have o2 := hs' q' (List.mem_of_getElem? hq')
      have sq := o1.bt hB hBe (by omega)
      have sq' := o2.bt hC hCe (by omega)
      refine ⟨_, SqT.of d6, rfl, _, _, rfl, _, _, rfl, rfl, _, rfl, _, SqL.of e5, _, (by rw [ec]; exact G3 hv), ?_⟩
      refine ⟨_, _, q, q', e, e, rfl, ⟨px, rfl, SqT.of (st _ _ (s4 _ _ hpx))⟩, ⟨py, rfl, SqT.of (st _ _ (s4 _ _ hpy))⟩, sq, sq', by omega, fun r1 H5 s5 er1 => ?_⟩
      have bold := b4 _ (List.getElem_mem hF)
      refine ⟨_, _, _, _, e, e, rfl, ⟨pv, rfl, SqT.of (s5 _ _ hpv)⟩, ⟨r1, rfl, SqT.of er1⟩, bold.bt hBCp hBC (by omega), (o1.mul o2).bt hBCp hBC (by omega), by omega, fun r2 H6 s6 er2 => ?_⟩
      have e6 := s6 _ _ (s5 _ _ e5)
      have lz : zs4.length = (M4 0 (J2 0 (List.replicate (ps.length + qs.length - 1) (0 : Rat)) ps qs i) i q qs j).length := n4.length
      have n6 : z9 H6 zs4 (M4 0 (J2 0 (List.replicate (ps.length + qs.length - 1) (0 : Rat)) ps qs i) i q qs j) := ((n4.mono st.tups).mono s5.tups).mono s6.tups
      have estep : M4 0 (J2 0 (List.replicate (ps.length + qs.length - 1) (0 : Rat)) ps qs i) i q qs (j + 1) = Y0 (M4 0 (J2 0 (List.replicate (ps.length + qs.length - 1) (0 : Rat)) ps qs i) i q qs j) (i + j) (q * q') := by
        rw [M4, hq']; rfl
      refine ⟨_, rfl, _, e6, i + j, ?_, (s4.trans (st.trans (s5.trans s6))).over hlH _, _, d6, ?_, ?_⟩
      · rw [ec]
        unfold ixN
        rw [if_pos (by omega), if_pos (by rw [lz]; omega)]
        rfl
      · rw [estep, ← ax5 _ _ _ _ eg]
        exact (n6.set (i + j) er2).mono (aa7.lst e6)
      · rw [estep]
        intro v hv'
        exact (aS4 hBCp b4 ((o1.mul o2).mono (by omega)) v hv').mono (by omega)
    · rintro σ H4 ⟨o5, o6, rfl, s4, zs4, e4, n4, b4⟩
      refine ⟨_, _, _, _, rfl, s4, zs4, e4, ?_, ?_⟩
      · rw [ly] at n4
        rw [J2, hq]; exact n4
      · rw [ly] at b4
        rw [J2, hq]
        intro v hv
        refine (b4 v hv).mono ?_
        have e : (i + 1) * qs.length = i * qs.length + qs.length := by grind
        omega
  · rintro σ H2 ⟨o3, o4, o5, o6, rfl, s2, zs, e2, n2, b2⟩
    rw [lx] at n2 b2
    have em : M3 ps qs = J2 0 (List.replicate (ps.length + qs.length - 1) 0) ps qs ps.length := by rw [M3, if_neg (by simp [np, nq])]
    rw [← em] at n2 b2
    refine ⟨_, rfl, l, zs, _, rfl, SqL.of e2, n2, fun m r H3 tl s3 hr' e3 => ?_⟩
    refine k m r _ _ tl (fun v hv => (b2 v hv).mono ?_) (s2.trans s3) (s2.free hr') e3 ((n2.take m).mono s3.tups)
    have : ps.length * qs.length ≤ 20 * 20 := Nat.mul_le_mul hl hl'
    omega
end
theorem OvB.up {B W : Nat} {q : Rat} (h : OvB B W q) (hB : 0 < B) {C c : Nat} (hC : 0 < C) (hc : C < 2 ^ c) : OvB (B * C) (W + c) q := by
  obtain ⟨v, rfl, b⟩ := h
  refine ⟨v * C, ?_, ?_⟩
  · rw [Int.natCast_mul]
    refine (Rat.divInt_eq_divInt_iff (by omega) (Int.mul_ne_zero (by omega) (by omega))).mpr ?_
    grind
  · rw [Int.natAbs_mul, Int.natAbs_natCast, Nat.pow_add]
    exact Nat.mul_lt_mul'' b hc
theorem ak5 {B W : Nat} (hB : 0 < B) (hW : B < 2 ^ W) {qs : List Rat} (h : ∀ x ∈ qs, OvB B W x) : ClN W qs := by
  have : ∃ vs : List Int, qs = scl (Rat.divInt 1 B) vs ∧ ∀ v ∈ vs, Int.natAbs v < 2 ^ W := by
    induction qs with
    | nil => exact ⟨[], rfl, by simp⟩
    | cons q qs ih =>
      obtain ⟨vs, e, hv⟩ := ih fun x hx => h x (List.mem_cons_of_mem _ hx)
      obtain ⟨v, e2, b⟩ := h q List.mem_cons_self
      refine ⟨v :: vs, ?_, fun u hu => ?_⟩
      · rw [e]
        show q :: _ = (Rat.divInt 1 B * (v : Rat)) :: _
        rw [aq6, ← e2]; rfl
      · rcases List.mem_cons.mp hu with z | z
        · rw [z]; exact b
        · exact hv u z
  obtain ⟨vs, rfl, hv⟩ := this
  exact aR8 hB hW hv
theorem bk4 {qs : List Rat} {x : Rat} (h : x ∈ qs) : ∃ k, k < qs.length ∧ x = aQ qs k := by
  obtain ⟨k, hk⟩ := List.mem_iff_getElem?.mp h
  refine ⟨k, (List.getElem?_eq_some_iff.mp hk).1, ?_⟩
  unfold aQ; rw [hk]; rfl
theorem aZ5 {qs : List Rat} {P : Rat → Prop} (h0 : P 0) (h : ∀ x ∈ qs, P x) (k : Nat) : P (aQ qs k) := by
  unfold aQ
  cases e : qs[k]? with
  | none => exact h0
  | some v => exact h v (List.mem_of_getElem? e)
theorem bg4 : J3 ([] : List Rat) 0 := ⟨Nat.le_refl _, (fun i q _ e => by simp at e), fun h => absurd rfl h⟩
def bp2 (u : Addr) (H : Hp) (v : V) (ps qs : List Rat) : Prop := v = .non ∨ ∃ td l1 l2 zs1 zs2 g0 g1, v = .ref td ∧ td ≠ u ∧ H td = some (.tup [.ref l1, .ref l2]) ∧ LsX u H l1 zs1 g0 ∧ LsX u H l2 zs2 g1 ∧ J3 g0 g0.length ∧ J3 g1 g1.length ∧ g1.length < qs.length ∧ ∀ k, aQ ps k = cv (aQ qs) (aQ g0) k + aQ g1 k
structure PairOk (u : Addr) (H : Hp) (ap aq : Addr) (due : V) (xs ys : List V) (ps qs : List Rat) (S W1 W2 : Nat) : Prop where
  lp : LsX u H ap xs ps
  lq : LsX u H aq ys qs
  tp : J3 ps ps.length
  tq : J3 qs qs.length
  q0 : qs ≠ []
  c1 : ClN W1 ps
  c2 : ClN W2 qs
  w1 : 1 ≤ W1
  w2 : 1 ≤ W2
  w3 : W2 ≤ 690
  t : W1 + S * (W2 + 1) + W2 ≤ 2300
  s : ps.length + 1 ≤ qs.length + S
  pl : ps.length ≤ 16
  ql : qs.length ≤ 16
  due : bp2 u H due ps qs
def dl : Nat → Rat := fun k => if k = 0 then 1 else 0
theorem ao3 {B W : Nat} (hB : 0 < B) {f : Nat → Rat} (h : ∀ i, OvB B W (f i)) : ∀ n, OvB B (W + n) (o9 f n)
  | 0 => OvB.zero _ _
  | n + 1 => ((ao3 hB h n).add hB ((h n).mono (by omega))).mono (by omega)
theorem bc3 {B C V W : Nat} (hB : 0 < B) (hC : 0 < C) {p q : List Rat} (hp : ∀ x ∈ p, OvB B V x) (hq : ∀ x ∈ q, OvB C W x) : ∀ x ∈ M3 p q, OvB (B * C) (V + W + q.length) x := fun x hx => by
  obtain ⟨k, hk, rfl⟩ := bk4 hx
  rw [aQ2, aO3]
  unfold cv
  have hf : ∀ i, OvB (B * C) (V + W) (aQ q i * aQ p (k - i)) := fun i => by
    have h1 := aZ5 (P := OvB C W) (OvB.zero _ _) hq i
    have h2 := aZ5 (P := OvB B V) (OvB.zero _ _) hp (k - i)
    have := h1.mul h2
    rw [Nat.mul_comm C B, Nat.add_comm W V] at this
    exact this
  by_cases h : q.length ≤ k + 1
  · rw [O9 h fun i h1 _ => by
      have : aQ q i = 0 := by unfold aQ; rw [List.getElem?_eq_none (by omega)]; rfl
      rw [this]; grind]
    exact ao3 (Nat.mul_pos hB hC) hf _
  · exact (ao3 (Nat.mul_pos hB hC) hf _).mono (by omega)
theorem ac8 (f g : Nat → Rat) (k : Nat) : cv f g (k + 1) = f 0 * g (k + 1) + cv (fun i => f (i + 1)) g k := by
  unfold cv
  rw [ab5]
  congr 1
  exact v5 fun i _ => by rw [show k + 1 - (i + 1) = k - i by omega]
theorem X0 (f g : Nat → Rat) (k : Nat) : cv f g k = cv g f k := by
  unfold cv
  rw [V2]
  exact v5 fun i hi => by
    rw [show k + 1 - 1 - i = k - i by omega, show k - (k - i) = i by omega]; grind
theorem aY8 {f g h l : Nat → Rat} {k : Nat} (a : ∀ i, i ≤ k → f i = g i) (b : ∀ i, i ≤ k → h i = l i) : cv f h k = cv g l k :=
  v5 fun i hi => by rw [a i (by omega), b (k - i) (by omega)]
theorem ak3 (f g : Nat → Rat) : cv f g 0 = f 0 * g 0 := by
  show (0 : Rat) + f 0 * g 0 = _
  grind
theorem aF9 : ∀ (k : Nat) (f g h : Nat → Rat), cv (cv f g) h k = cv f (cv g h) k
  | 0, f, g, h => by rw [ak3, ak3, ak3, ak3]; grind
  | k + 1, f, g, h => by
    rw [ac8, ac8 f]
    have e1 : cv (fun i => cv f g (i + 1)) h k = cv (fun i => f 0 * g (i + 1) + cv (fun i => f (i + 1)) g i) h k := aY8 (fun i _ => ac8 f g i) fun _ _ => rfl
    rw [e1, aK2 (fun i => f 0 * g (i + 1)) (cv (fun i => f (i + 1)) g), bm0 (f 0) (fun i => g (i + 1)), aF9 k, ac8 g]
    rw [ak3]; grind
theorem be0 {f : Nat → Rat} (h : ∀ k, f k = 0) (g : Nat → Rat) (k : Nat) : cv f g k = 0 := K9 _ fun i _ => by rw [h]; grind
def Dg (f : Nat → Rat) (n : Nat) : Prop := ∀ k, n ≤ k → f k = 0
theorem Dg.cv {f g : Nat → Rat} {m n : Nat} (hf : Dg f m) (hg : Dg g n) : Dg (cv f g) (m + n - 1) := fun k hk => K9 _ fun i hi => by
  by_cases h : m ≤ i
  · rw [hf i h]; grind
  · rw [hg (k - i) (by omega)]; grind
structure Eu (p q A B : Nat → Rat) (lp lq la lb : Nat) : Prop where
  inv : ∀ m, m < la → ∀ u v, Dg u (lq - m) → Dg v (lp - m) → Dg (fun k => cv u p k + cv v q k) m →
    ∃ a b, (∀ k, cv u p k + cv v q k = cv a A k + cv b B k) ∧ Dg a (lb - m) ∧ Dg b (la - m) ∧ ((∀ k, a k = 0) → (∀ k, b k = 0) → ∀ k, u k = 0 ∧ v k = 0)
  le : la ≤ max lp lq
theorem be1 {u : Nat → Rat} {n : Nat} (hu : Dg u n) (p : Nat → Rat) (k : Nat) : cv u p k = o9 (fun i => u i * if i ≤ k then p (k - i) else 0) n := by
  unfold cv
  rw [← O9 (f := fun i => u i * if i ≤ k then p (k - i) else 0) (m := n) (n := max n (k + 1)) (by omega) (fun i hi _ => by rw [hu i hi]; grind),
    O9 (f := fun i => u i * if i ≤ k then p (k - i) else 0) (m := k + 1) (n := max n (k + 1)) (by omega) (fun i hi _ => by rw [if_neg (by omega)]; grind)]
  exact v5 fun i hi => by rw [if_pos (by omega)]
def sgd (i : Nat) : Rat := if i % 2 = 0 then 1 else -1
theorem aT7 (i : Nat) : sgd (i + 1) = - sgd i := by
  unfold sgd
  rcases Nat.mod_two_eq_zero_or_one i with h | h
  · rw [if_pos h, if_neg (by omega)]
  · rw [if_pos (show (i + 1) % 2 = 0 by omega), if_neg (show ¬ i % 2 = 0 by omega)]; grind
abbrev Mt := Nat → Nat → Rat
def mn (M : Mt) (i : Nat) : Mt := fun r c => M (if r < i then r else r + 1) (c + 1)
def dt : Nat → Mt → Rat
  | 0, _ => 1
  | n + 1, M => o9 (fun i => sgd i * M i 0 * dt n (mn M i)) (n + 1)
theorem D6 (n : Nat) (M : Mt) : dt (n + 1) M = o9 (fun i => sgd i * M i 0 * dt n (mn M i)) (n + 1) := rfl
theorem K5 : ∀ {n : Nat} {M N : Mt}, (∀ r, r < n → ∀ c, c < n → M r c = N r c) → dt n M = dt n N
  | 0, _, _, _ => rfl
  | n + 1, M, N, h => by
    rw [D6, D6]
    refine v5 fun i hi => ?_
    rw [h i hi 0 (by omega), K5 (n := n) (M := mn M i) (N := mn N i) fun r hr c hc => h _ (by split <;> omega) _ (by omega)]
def w9 (M : Mt) (r : Nat) (v : Nat → Rat) : Mt := fun i c => if i = r then v c else M i c
theorem ad4 (M : Mt) (r : Nat) : w9 M r (M r) = M := by
  funext i c
  unfold w9
  split
  · rename_i h; rw [h]
  · rfl
theorem ac4 (M : Mt) (r : Nat) (v : Nat → Rat) : mn (w9 M r v) r = mn M r := by
  funext i c
  unfold mn w9
  rw [if_neg (by split <;> omega)]
theorem aj6 (M : Mt) {r i : Nat} (v : Nat → Rat) (h : r < i) : mn (w9 M r v) i = w9 (mn M i) r (fun c => v (c + 1)) := by
  funext a c
  unfold mn w9
  by_cases z : a = r
  · rw [if_pos z, if_pos (by rw [z, if_pos h])]
  · rw [if_neg z, if_neg (by split <;> omega)]
theorem aj7 (M : Mt) {r i : Nat} (v : Nat → Rat) (h : i < r) : mn (w9 M r v) i = w9 (mn M i) (r - 1) (fun c => v (c + 1)) := by
  funext a c
  unfold mn w9
  by_cases z : a = r - 1
  · rw [if_pos z, if_pos (by rw [z, if_neg (by omega)]; omega)]
  · rw [if_neg z, if_neg (by split <;> omega)]
theorem ar9 : ∀ {n : Nat} (M : Mt) {r : Nat} (a b : Rat) (v w : Nat → Rat), r < n → dt n (w9 M r fun c => a * v c + b * w c) = a * dt n (w9 M r v) + b * dt n (w9 M r w)
  | 0, _, _, _, _, _, _, h => by omega
  | n + 1, M, r, a, b, v, w, h => by
    rw [D6, D6, D6, V9, V9, ad2]
    refine v5 fun i hi => ?_
    rcases Nat.lt_trichotomy r i with z | z | z
    · rw [aj6 M _ z, aj6 M _ z, aj6 M _ z, ar9 (mn M i) a b _ _ (by omega)]
      have : ∀ u : Nat → Rat, w9 M r u i 0 = M i 0 := fun u => if_neg (by omega)
      rw [this, this, this]; grind
    · subst z
      rw [ac4, ac4, ac4]
      have : ∀ u : Nat → Rat, w9 M r u r 0 = u 0 := fun u => if_pos rfl
      rw [this, this, this]; grind
    · rw [aj7 M _ z, aj7 M _ z, aj7 M _ z, ar9 (mn M i) a b _ _ (by omega)]
      have : ∀ u : Nat → Rat, w9 M r u i 0 = M i 0 := fun u => if_neg (by omega)
      rw [this, this, this]; grind
theorem ba7 {f : Nat → Rat} {n r : Nat} (hr : r + 1 < n) (h : ∀ i, i < n → i ≠ r → i ≠ r + 1 → f i = 0) : o9 f n = f r + f (r + 1) := by
  have : o9 f n = o9 (fun i => (if i = r then f r else 0) + (if i = r + 1 then f (r + 1) else 0)) n := v5 fun i hi => by
    by_cases z : i = r
    · rw [if_pos z, if_neg (by omega), z]; grind
    · by_cases y : i = r + 1
      · rw [if_neg z, if_pos y, y]; grind
      · rw [if_neg z, if_neg y, h i hi z y]; grind
  rw [this, ← ad2, M9 (fun _ => f r), M9 (fun _ => f (r + 1)), if_pos (by omega), if_pos hr]
theorem aB5 : ∀ {n : Nat} {M : Mt} {r : Nat}, r + 1 < n → (∀ c, M r c = M (r + 1) c) → dt n M = 0
  | 0, _, _, h, _ => by omega
  | n + 1, M, r, h, e => by
    rw [D6]
    rw [ba7 h fun i hi h1 h2 => ?_]
    · have : mn M r = mn M (r + 1) := by
        funext a c
        unfold mn
        by_cases z : a = r
        · rw [if_neg (by omega), if_pos (by omega), z, e]
        · by_cases y : a < r
          · rw [if_pos y, if_pos (by omega)]
          · rw [if_neg y, if_neg (by omega)]
      rw [this, aT7, e 0]; grind
    · have : dt n (mn M i) = 0 := by
        by_cases z : i < r
        · refine aB5 (r := r - 1) (by omega) fun c => ?_
          unfold mn
          rw [if_neg (by omega), if_neg (by omega), show r - 1 + 1 = r by omega]; exact e _
        · refine aB5 (r := r) (by omega) fun c => ?_
          unfold mn
          rw [if_pos (by omega), if_pos (by omega)]; exact e _
      rw [this]; grind
def swR (M : Mt) (r s : Nat) : Mt := fun i c => M (if i = r then s else if i = s then r else i) c
theorem set_comm (M : Mt) {r s : Nat} (h : r ≠ s) (v w : Nat → Rat) : w9 (w9 M r v) s w = w9 (w9 M s w) r v := by
  funext i c
  unfold w9
  by_cases z : i = s
  · rw [if_pos z, if_neg (by omega), if_pos z]
  · rw [if_neg z]
    by_cases y : i = r
    · rw [if_pos y, if_pos y]
    · rw [if_neg y, if_neg y, if_neg z]
theorem aY3 {n : Nat} (M : Mt) {r : Nat} (v w : Nat → Rat) (h : r < n) : dt n (w9 M r fun c => v c + w c) = dt n (w9 M r v) + dt n (w9 M r w) := by
  have := ar9 M 1 1 v w h
  rw [show (fun c => v c + w c) = fun c => 1 * v c + 1 * w c by funext c; grind, this]; grind
theorem bd5 {n : Nat} {M : Mt} {r : Nat} (h : r + 1 < n) : dt n (swR M r (r + 1)) = - dt n M := by
  have e0 : ∀ v : Nat → Rat, dt n (w9 (w9 M r v) (r + 1) v) = 0 := fun v => aB5 h fun c => by
    unfold w9
    rw [if_neg (by omega), if_pos rfl, if_pos rfl]
  have e1 := e0 fun c => M r c + M (r + 1) c
  have x1 : ∀ w : Nat → Rat, dt n (w9 (w9 M r fun c => M r c + M (r + 1) c) (r + 1) w) = dt n (w9 (w9 M (r + 1) w) r (M r)) + dt n (w9 (w9 M (r + 1) w) r (M (r + 1))) := fun w => by
    rw [set_comm _ (by omega), aY3 _ _ _ (by omega)]
  rw [aY3 _ _ _ h, x1, x1] at e1
  rw [show w9 (w9 M (r + 1) (M r)) r (M r) = w9 (w9 M r (M r)) (r + 1) (M r) from set_comm _ (by omega) _ _, e0] at e1
  rw [show w9 (w9 M (r + 1) (M (r + 1))) r (M (r + 1)) = w9 (w9 M r (M (r + 1))) (r + 1) (M (r + 1)) from set_comm _ (by omega) _ _, e0] at e1
  have s1 : w9 (w9 M (r + 1) (M (r + 1))) r (M r) = M := by rw [ad4, ad4]
  have s2 : w9 (w9 M (r + 1) (M r)) r (M (r + 1)) = swR M r (r + 1) := by
    funext i c
    unfold w9 swR
    by_cases z : i = r
    · rw [if_pos z, if_pos z]
    · rw [if_neg z, if_neg z]
      by_cases y : i = r + 1
      · rw [if_pos y, if_pos y]
      · rw [if_neg y, if_neg y]
  rw [s1, s2] at e1
  grind
theorem as0 {n : Nat} : ∀ (d : Nat) {M : Mt} {r : Nat}, r + d + 1 < n → (∀ c, M r c = M (r + d + 1) c) → dt n M = 0
  | 0, _, _, h, e => aB5 h e
  | d + 1, M, r, h, e => by
    have h1 := bd5 (M := M) (r := r + d + 1) (n := n) (by omega)
    have h2 : dt n (swR M (r + d + 1) (r + d + 1 + 1)) = 0 := as0 d (r := r) (by omega) fun c => by
      unfold swR
      rw [if_neg (by omega), if_neg (by omega), if_pos rfl]; exact e c
    rw [h2] at h1
    grind
theorem aR6 {n : Nat} {M : Mt} {r s : Nat} (hr : r < n) (hs : s < n) (hn : r ≠ s) (e : ∀ c, M r c = M s c) : dt n M = 0 := by
  rcases Nat.lt_or_ge r s with z | z
  · exact as0 (s - r - 1) (r := r) (by omega) fun c => by rw [show r + (s - r - 1) + 1 = s by omega]; exact e c
  · exact as0 (r - s - 1) (r := s) (by omega) fun c => by rw [show s + (r - s - 1) + 1 = r by omega]; exact (e c).symm
theorem ar8 {n : Nat} {M : Mt} {r s : Nat} (a b : Rat) (hr : r < n) (hs : s < n) (hn : r ≠ s) : dt n (w9 M r fun c => a * M r c + b * M s c) = a * dt n M := by
  rw [ar9 M a b (M r) (M s) hr, ad4, aR6 (M := w9 M r (M s)) hr hs hn fun c => by
    unfold w9
    rw [if_pos rfl, if_neg (by omega)]]
  grind
theorem aF7 {n : Nat} {M : Mt} (h : ∀ i, 0 < i → i < n + 1 → M i 0 = 0) : dt (n + 1) M = M 0 0 * dt n (mn M 0) := by
  rw [D6]
  have : o9 (fun i => sgd i * M i 0 * dt n (mn M i)) (n + 1) = o9 (fun i => if i = 0 then M 0 0 * dt n (mn M 0) else 0) (n + 1) := v5 fun i hi => by
    by_cases z : i = 0
    · rw [if_pos z, z]
      show sgd 0 * _ * _ = _
      unfold sgd
      rw [if_pos (by decide)]; grind
    · rw [if_neg z, h i (by omega) hi]; grind
  rw [this, M9 (fun _ => M 0 0 * dt n (mn M 0)), if_pos (by omega)]
def IsI (q : Rat) : Prop := ∃ z : Int, q = (z : Rat)
theorem IsI.add {p q : Rat} (h : IsI p) (k : IsI q) : IsI (p + q) := let ⟨a, e⟩ := h; let ⟨b, f⟩ := k; ⟨a + b, by rw [e, f, Rat.intCast_add]⟩
theorem IsI.mul {p q : Rat} (h : IsI p) (k : IsI q) : IsI (p * q) := let ⟨a, e⟩ := h; let ⟨b, f⟩ := k; ⟨a * b, by rw [e, f, Rat.intCast_mul]⟩
theorem aM2 {f : Nat → Rat} : ∀ {n : Nat}, (∀ i, i < n → IsI (f i)) → IsI (o9 f n)
  | 0, _ => ⟨0, rfl⟩
  | n + 1, h => (aM2 fun i hi => h i (by omega)).add (h n (by omega))
theorem bc7 (i : Nat) : IsI (sgd i) := by
  unfold sgd
  split
  · exact ⟨1, rfl⟩
  · exact ⟨-1, by rw [Rat.intCast_neg]; rfl⟩
theorem aY2 : ∀ {n : Nat} {M : Mt}, (∀ r c, IsI (M r c)) → IsI (dt n M)
  | 0, _, _ => ⟨1, rfl⟩
  | n + 1, M, h => by
    rw [D6]
    exact aM2 fun i _ => ((bc7 i).mul (h i 0)).mul (aY2 fun r c => h _ _)
def hz (A B : Nat → Rat) : Mt := fun i c => if c < i / 2 then 0 else if i % 2 = 0 then B (c - i / 2) else A (c - i / 2)
def R0 (k j c : Nat) : Nat := if c + 1 = k then c + j else c
def tau (A B : Nat → Rat) (k j : Nat) : Rat := if k = 0 then A j else dt k fun i c => hz A B i (R0 k j c)
def B8 (A B : Nat → Rat) : Nat → Rat := fun j => B 0 * A (j + 1) - A 0 * B (j + 1)
theorem V8 (A B : Nat → Rat) (j : Nat) : tau A B 0 j = A j := if_pos rfl
theorem K6 (A B : Nat → Rat) (j : Nat) : tau A B 1 j = B j := by
  unfold tau
  rw [if_neg (by decide), D6]
  show (0 : Rat) + sgd 0 * hz A B 0 (R0 1 j 0) * 1 = _
  have h1 : sgd 0 = 1 := if_pos (by decide)
  have h2 : R0 1 j 0 = j := by unfold R0; rw [if_pos rfl]; omega
  have h3 : hz A B 0 j = B j := by unfold hz; rw [if_neg (by omega), if_pos (by decide)]; rfl
  rw [h1, h2, h3]; grind
def hm (A B : Nat → Rat) (m : Nat) : Mt := fun i c => if i % 2 = 1 ∧ i < m then B 0 * hz A B i c - A 0 * hz A B (i - 1) c else hz A B i c
theorem aB0 (A B : Nat → Rat) {k : Nat} (f : Nat → Nat) : ∀ m, m ≤ k → dt k (fun i c => hm A B m i (f c)) = B 0 ^ (m / 2) * dt k (fun i c => hz A B i (f c))
  | 0, _ => by
    have : (fun i c => hm A B 0 i (f c)) = fun i c => hz A B i (f c) := by
      funext i c
      unfold hm
      rw [if_neg (fun h => absurd h.2 (Nat.not_lt_zero _))]
    rw [this, show 0 / 2 = 0 from rfl, Rat.pow_zero]; grind
  | m + 1, h => by
    have ih := aB0 A B (k := k) f m (by omega)
    by_cases z : m % 2 = 1
    · have e : (fun i c => hm A B (m + 1) i (f c)) = w9 (fun i c => hm A B m i (f c)) m fun c => B 0 * (fun i c => hm A B m i (f c)) m c + (- A 0) * (fun i c => hm A B m i (f c)) (m - 1) c := by
        funext i c
        unfold w9
        by_cases y : i = m
        · rw [if_pos y, y]
          show hm A B (m + 1) m (f c) = B 0 * hm A B m m (f c) + - A 0 * hm A B m (m - 1) (f c)
          unfold hm
          rw [if_pos ⟨z, by omega⟩, if_neg (by omega), if_neg (by omega)]; grind
        · rw [if_neg y]
          show hm A B (m + 1) i (f c) = hm A B m i (f c)
          unfold hm
          by_cases x : i % 2 = 1 ∧ i < m
          · rw [if_pos x, if_pos ⟨x.1, by omega⟩]
          · rw [if_neg x, if_neg (by omega)]
      rw [e, ar8 _ _ (by omega) (by omega) (by omega), ih, show (m + 1) / 2 = m / 2 + 1 by omega, Rat.pow_succ]; grind
    · have e : (fun i c => hm A B (m + 1) i (f c)) = fun i c => hm A B m i (f c) := by
        funext i c
        unfold hm
        by_cases x : i % 2 = 1 ∧ i < m
        · rw [if_pos x, if_pos ⟨x.1, by omega⟩]
        · rw [if_neg x, if_neg (by omega)]
      rw [e, ih, show (m + 1) / 2 = m / 2 by omega]
theorem ag2 (A B : Nat → Rat) (k j : Nat) (hk : 1 ≤ k) : B 0 ^ ((k + 1) / 2) * tau A B (k + 1) j = B 0 * tau B (B8 A B) k j := by
  have h1 := aB0 A B (k := k + 1) (R0 (k + 1) j) (k + 1) (Nat.le_refl _)
  unfold tau
  rw [if_neg (by omega), if_neg (by omega), ← h1]
  have c0 : R0 (k + 1) j 0 = 0 := by unfold R0; rw [if_neg (by omega)]
  rw [aF7 fun i h0 hi => ?_]
  · congr 1
    · show hm A B (k + 1) 0 (R0 (k + 1) j 0) = B 0
      rw [c0]
      unfold hm hz
      rw [if_neg (by omega), if_neg (by omega), if_pos (by decide)]
    · refine K5 fun i hi c hc => ?_
      show hm A B (k + 1) (if i < 0 then i else i + 1) (R0 (k + 1) j (c + 1)) = hz B (B8 A B) i (R0 k j c)
      rw [if_neg (by omega)]
      have cc : R0 (k + 1) j (c + 1) = R0 k j c + 1 := by
        unfold R0
        by_cases z : c + 1 = k
        · rw [if_pos z, if_pos (by omega)]; omega
        · rw [if_neg z, if_neg (by omega)]
      rw [cc]
      generalize R0 k j c = d
      unfold hm hz B8
      rcases Nat.mod_two_eq_zero_or_one i with z | z
      · rw [if_pos ⟨by omega, by omega⟩, show i + 1 - 1 = i from rfl]
        rw [show (i + 1) / 2 = i / 2 by omega, if_neg (show ¬ (i + 1) % 2 = 0 by omega), if_pos z, if_pos z]
        by_cases y : d + 1 < i / 2
        · rw [if_pos y, if_pos y, if_pos (by omega)]; grind
        · rw [if_neg y, if_neg y]
          by_cases x : d < i / 2
          · rw [if_pos x, show d + 1 - i / 2 = 0 by omega]; grind
          · rw [if_neg x, show d + 1 - i / 2 = d - i / 2 + 1 by omega]
      · rw [if_neg (by omega), if_pos (show (i + 1) % 2 = 0 by omega), if_neg (show ¬ i % 2 = 0 by omega), show (i + 1) / 2 = i / 2 + 1 by omega]
        by_cases y : d < i / 2
        · rw [if_pos (by omega), if_pos y]
        · rw [if_neg (by omega), if_neg y, show d + 1 - (i / 2 + 1) = d - i / 2 by omega]
  · show hm A B (k + 1) i (R0 (k + 1) j 0) = 0
    rw [c0]
    unfold hm hz
    rcases Nat.mod_two_eq_zero_or_one i with z | z
    · rw [if_neg (by omega), if_pos (by omega)]
    · rw [if_pos ⟨z, hi⟩]
      by_cases y : i = 1
      · subst y
        show B 0 * (if 0 < 1 / 2 then 0 else if 1 % 2 = 0 then B (0 - 1 / 2) else A (0 - 1 / 2)) - A 0 * (if 0 < 0 / 2 then 0 else if 0 % 2 = 0 then B (0 - 0 / 2) else A (0 - 0 / 2)) = 0
        rw [if_neg (by decide), if_neg (by decide), if_neg (by decide), if_pos (by decide)]; grind
      · rw [if_pos (by omega), if_pos (by omega)]; grind
theorem ao0 {b : Rat} (h : b ≠ 0) : ∀ n : Nat, b ^ n ≠ 0
  | 0 => by rw [Rat.pow_zero]; decide
  | n + 1 => by
    rw [Rat.pow_succ]
    intro z
    rcases Rat.mul_eq_zero.mp z with y | y
    · exact ao0 h n y
    · exact h y
theorem Z5 {b x y : Rat} (h : b ≠ 0) (e : b * x = b * y) : x = y := by
  have := Rat.mul_inv_cancel _ h
  generalize b⁻¹ = u at this
  grind
theorem ap6 (b : Rat) (m : Nat) : ∀ n : Nat, b ^ (m + n) = b ^ m * b ^ n
  | 0 => by rw [Nat.add_zero, Rat.pow_zero]; grind
  | n + 1 => by rw [← Nat.add_assoc, Rat.pow_succ, ap6 b m n, Rat.pow_succ]; grind
theorem af1 (A B : Nat → Rat) (h : B 0 ≠ 0) (k j : Nat) (hk : 1 ≤ k) : tau B (B8 A B) k j = B 0 ^ ((k + 1) / 2 - 1) * tau A B (k + 1) j := by
  refine Z5 h ?_
  rw [← ag2 A B k j hk]
  obtain ⟨e, he⟩ : ∃ e, (k + 1) / 2 = e + 1 := ⟨(k + 1) / 2 - 1, by omega⟩
  rw [he, Rat.pow_succ, Nat.add_sub_cancel]; grind
def dlt (A B : Nat → Rat) (k : Nat) : Rat := if k ≤ 2 then 1 else tau A B (k - 2) 0
theorem ay2 : ∀ (k : Nat) (A B : Nat → Rat), 1 ≤ k → (∀ i, 1 ≤ i → i < k → tau A B i 0 ≠ 0) → (k = 1 → B 0 ≠ 0) → ∀ j, tau A B (k + 1) j * dlt A B k = tau A B k 0 * tau A B (k - 1) (j + 1) - tau A B (k - 1) 0 * tau A B k (j + 1)
  | 0, _, _, h, _, _, _ => by omega
  | 1, A, B, _, _, hb, j => by
    have h1 := ag2 A B 1 j (by decide)
    rw [K6] at h1
    have := Z5 (hb rfl) (x := tau A B 2 j) (y := B8 A B j) (by rw [← h1]; show _ = B 0 ^ (1) * _; rw [Rat.pow_succ, Rat.pow_zero]; grind)
    unfold dlt
    rw [if_pos (by decide), show 1 + 1 = 2 from rfl, this, show 1 - 1 = 0 from rfl, K6, V8, V8, K6]
    unfold B8
    grind
  | k + 2, A, B, _, hn, _, j => by
    have b0 : B 0 ≠ 0 := by
      have := hn 1 (by decide) (by omega)
      rwa [K6] at this
    have s0 : ∀ i, tau B (B8 A B) 0 i = tau A B 1 i := fun i => by rw [V8, K6]
    cases k with
    | zero =>
      have h2 := ag2 A B 2 j (by decide)
      have e2 : ∀ i, tau A B 2 i = B8 A B i := fun i => by
        have h1 := ag2 A B 1 i (by decide)
        rw [K6] at h1
        exact Z5 b0 (x := tau A B 2 i) (y := B8 A B i) (by rw [← h1]; show _ = B 0 ^ (1) * _; rw [Rat.pow_succ, Rat.pow_zero]; grind)
      have e3 : tau A B 3 j = tau B (B8 A B) 2 j := Z5 b0 (by rw [← h2]; show _ = B 0 ^ (1) * _; rw [Rat.pow_succ, Rat.pow_zero]; grind)
      have hm1 := aB0 B (B8 A B) (k := 2) (R0 2 j) 2 (Nat.le_refl _)
      have e4 : tau B (B8 A B) 2 j = B8 A B 0 * B (j + 1) - B 0 * B8 A B (j + 1) := by
        unfold tau
        rw [if_neg (by decide), D6]
        show (0 : Rat) + sgd 0 * hz B (B8 A B) 0 0 * dt 1 (mn (fun i c => hz B (B8 A B) i (R0 2 j c)) 0) + sgd 1 * hz B (B8 A B) 1 0 * dt 1 (mn (fun i c => hz B (B8 A B) i (R0 2 j c)) 1) = _
        have d1 : ∀ M : Mt, dt 1 M = M 0 0 := fun M => by
          rw [D6]
          show (0 : Rat) + sgd 0 * M 0 0 * 1 = _
          rw [show sgd 0 = 1 from if_pos (by decide)]; grind
        rw [d1, d1]
        show (0 : Rat) + sgd 0 * hz B (B8 A B) 0 0 * hz B (B8 A B) 1 (R0 2 j 1) + sgd 1 * hz B (B8 A B) 1 0 * hz B (B8 A B) 0 (R0 2 j 1) = _
        have h2 : R0 2 j 1 = j + 1 := by unfold R0; rw [if_pos rfl]; omega
        rw [h2, show sgd 0 = 1 from if_pos (by decide), show sgd 1 = -1 from if_neg (by decide)]
        have a1 : ∀ d, hz B (B8 A B) 0 d = B8 A B d := fun d => by unfold hz; rw [if_neg (by omega), if_pos (by decide)]; rfl
        have a2 : ∀ d, hz B (B8 A B) 1 d = B d := fun d => by unfold hz; rw [if_neg (by omega), if_neg (by decide)]; rfl
        rw [a1, a1, a2, a2]; grind
      unfold dlt
      rw [if_pos (by decide)]
      show tau A B 3 j * 1 = tau A B 2 0 * tau A B 1 (j + 1) - tau A B 1 0 * tau A B 2 (j + 1)
      rw [e3, e4, e2, e2, K6, K6]; grind
    | succ k =>
      have ih := ay2 (k + 2) B (B8 A B) (by omega) (fun i h1 h2 => by
        rw [af1 A B b0 i 0 h1]
        intro z
        rcases Rat.mul_eq_zero.mp z with y | y
        · exact ao0 b0 _ y
        · exact hn (i + 1) (by omega) (by omega) y) (fun h => by omega) j
      rw [af1 A B b0 (k + 2 + 1) j (by omega), af1 A B b0 (k + 2) 0 (by omega), af1 A B b0 (k + 2) (j + 1) (by omega), show k + 2 - 1 = k + 1 from rfl, af1 A B b0 (k + 1) 0 (by omega), af1 A B b0 (k + 1) (j + 1) (by omega)] at ih
      have ed : dlt A B (k + 1 + 2) = tau A B (k + 1) 0 := by unfold dlt; rw [if_neg (by omega)]; rfl
      rw [ed, show k + 1 + 2 - 1 = k + 2 from rfl]
      cases k with
      | zero =>
        have e1 : dlt B (B8 A B) (0 + 2) = 1 := if_pos (by decide)
        rw [e1] at ih
        have p1 : (B 0) ^ ((0 + 2 + 1 + 1) / 2 - 1) = B 0 := by
          show B 0 ^ (0 + 1) = B 0
          rw [Rat.pow_succ, Rat.pow_zero]; grind
        have p2 : (B 0) ^ ((0 + 2 + 1) / 2 - 1) = 1 := Rat.pow_zero _
        have p3 : (B 0) ^ ((0 + 1 + 1) / 2 - 1) = 1 := Rat.pow_zero _
        rw [p1, p2] at ih
        show tau A B 4 j * tau A B 1 0 = tau A B 3 0 * tau A B 2 (j + 1) - tau A B 2 0 * tau A B 3 (j + 1)
        have ih' : B 0 * tau A B 4 j * 1 = 1 * tau A B 3 0 * (1 * tau A B 2 (j + 1)) - 1 * tau A B 2 0 * (1 * tau A B 3 (j + 1)) := ih
        rw [K6]; grind
      | succ k =>
        have e1 : dlt B (B8 A B) (k + 1 + 2) = B 0 ^ ((k + 1 + 1) / 2 - 1) * tau A B (k + 1 + 1) 0 := by
          unfold dlt
          rw [if_neg (by omega), show k + 1 + 2 - 2 = k + 1 from rfl, af1 A B b0 (k + 1) 0 (by omega)]
        rw [e1] at ih
        have pe : B 0 ^ ((k + 1 + 2 + 1 + 1) / 2 - 1) * B 0 ^ ((k + 1 + 1) / 2 - 1) = B 0 ^ ((k + 1 + 2 + 1) / 2 - 1) * B 0 ^ ((k + 1 + 1 + 1) / 2 - 1) := by
          rw [← ap6, ← ap6]
          congr 1
          omega
        have n2 := ao0 b0 ((k + 1 + 2 + 1) / 2 - 1)
        have n3 := ao0 b0 ((k + 1 + 1 + 1) / 2 - 1)
        refine Z5 n2 (Z5 n3 ?_)
        show _ * (_ * (tau A B (k + 1 + 2 + 1 + 1) j * tau A B (k + 1 + 1) 0)) = _ * (_ * (tau A B (k + 1 + 2 + 1) 0 * tau A B (k + 1 + 1 + 1) (j + 1) - tau A B (k + 1 + 1 + 1) 0 * tau A B (k + 1 + 2 + 1) (j + 1)))
        generalize B 0 ^ ((k + 1 + 2 + 1 + 1) / 2 - 1) = q1 at *
        generalize B 0 ^ ((k + 1 + 1) / 2 - 1) = q2 at *
        generalize B 0 ^ ((k + 1 + 2 + 1) / 2 - 1) = q3 at *
        generalize B 0 ^ ((k + 1 + 1 + 1) / 2 - 1) = q4 at *
        grind
theorem aF8 {n : Nat} (M : Mt) (t : Nat → Rat) : ∀ m, m ≤ n → dt (n + 1) (fun r c => if 0 < r ∧ r ≤ m then M r c - t r * M 0 c else M r c) = dt (n + 1) M
  | 0, _ => K5 fun r _ c _ => by rw [if_neg (by omega)]
  | m + 1, h => by
    rw [← aF8 M t m (by omega)]
    have e : (fun r c => if 0 < r ∧ r ≤ m + 1 then M r c - t r * M 0 c else M r c) = w9 (fun r c => if 0 < r ∧ r ≤ m then M r c - t r * M 0 c else M r c) (m + 1) fun c => 1 * (fun r c => if 0 < r ∧ r ≤ m then M r c - t r * M 0 c else M r c) (m + 1) c + (- t (m + 1)) * (fun r c => if 0 < r ∧ r ≤ m then M r c - t r * M 0 c else M r c) 0 c := by
      funext r c
      unfold w9
      by_cases y : r = m + 1
      · rw [if_pos y, y]
        show (if 0 < m + 1 ∧ m + 1 ≤ m + 1 then _ else _) = 1 * (if 0 < m + 1 ∧ m + 1 ≤ m then _ else _) + - t (m + 1) * (if 0 < 0 ∧ 0 ≤ m then _ else _)
        rw [if_pos (by omega), if_neg (by omega), if_neg (by omega)]; grind
      · rw [if_neg y]
        show (if 0 < r ∧ r ≤ m + 1 then M r c - t r * M 0 c else M r c) = if 0 < r ∧ r ≤ m then M r c - t r * M 0 c else M r c
        by_cases x : 0 < r ∧ r ≤ m
        · rw [if_pos x, if_pos (by omega)]
        · rw [if_neg x, if_neg (by omega)]
    rw [e, ar8 1 (- t (m + 1)) (by omega) (by omega) (by omega)]; grind
theorem bd6 {n : Nat} (M : Mt) (t : Nat → Rat) : dt (n + 1) (fun r c => if r = 0 then M 0 c else M r c - t r * M 0 c) = dt (n + 1) M := by
  rw [← aF8 M t n (Nat.le_refl _)]
  refine K5 fun r hr c _ => ?_
  by_cases z : r = 0
  · rw [if_pos z, if_neg (by omega), z]
  · rw [if_neg z, if_pos (by omega)]
def red (B : Mt) : Mt := fun r c => B (r + 1) (c + 1) - B (r + 1) 0 * (B 0 0)⁻¹ * B 0 (c + 1)
theorem aB4 {n : Nat} (B : Mt) (h : B 0 0 ≠ 0) : dt (n + 1) B = B 0 0 * dt n (red B) := by
  rw [← bd6 B fun r => B r 0 * (B 0 0)⁻¹, aF7 fun i h0 hi => ?_]
  · rw [if_pos rfl]
    congr 1
  · rw [if_neg (by omega)]
    have := Rat.mul_inv_cancel _ h
    generalize (B 0 0)⁻¹ = u at *
    grind
def bnd (B : Mt) (k i j : Nat) : Mt := fun r c => B (if r = k then i else r) (if c = k then j else c)
def mi (B : Mt) (k i j : Nat) : Rat := dt (k + 1) (bnd B k i j)
theorem aa0 (B : Mt) (i j : Nat) : mi B 0 i j = B i j := by
  unfold mi
  rw [D6]
  show (0 : Rat) + sgd 0 * bnd B 0 i j 0 0 * 1 = _
  rw [show sgd 0 = 1 from if_pos (by decide)]
  show (0 : Rat) + 1 * B (if 0 = 0 then i else 0) (if 0 = 0 then j else 0) * 1 = _
  rw [if_pos rfl, if_pos rfl]; grind
theorem aA7 (B : Mt) (k : Nat) : mi B k k k = dt (k + 1) B := by
  unfold mi
  congr 1
  funext r c
  unfold bnd
  congr 1
  · split
    · rename_i h; exact h.symm
    · rfl
  · split
    · rename_i h; exact h.symm
    · rfl
theorem aj8 (B : Mt) (h : B 0 0 ≠ 0) (k i j : Nat) : mi B (k + 1) (i + 1) (j + 1) = B 0 0 * mi (red B) k i j := by
  unfold mi
  have e0 : bnd B (k + 1) (i + 1) (j + 1) 0 0 = B 0 0 := by
    unfold bnd
    rw [if_neg (by omega), if_neg (by omega)]
  rw [aB4 _ (by rw [e0]; exact h), e0]
  congr 1
  refine K5 fun r hr c hc => ?_
  unfold red
  rw [e0]
  have a1 : bnd B (k + 1) (i + 1) (j + 1) (r + 1) (c + 1) = B ((if r = k then i else r) + 1) ((if c = k then j else c) + 1) := by
    unfold bnd
    congr 1
    · by_cases z : r = k
      · rw [if_pos z, if_pos (by omega)]
      · rw [if_neg z, if_neg (by omega)]
    · by_cases z : c = k
      · rw [if_pos z, if_pos (by omega)]
      · rw [if_neg z, if_neg (by omega)]
  have a2 : bnd B (k + 1) (i + 1) (j + 1) (r + 1) 0 = B ((if r = k then i else r) + 1) 0 := by
    unfold bnd
    rw [if_neg (show ¬ 0 = k + 1 by omega)]
    congr 1
    by_cases z : r = k
    · rw [if_pos z, if_pos (by omega)]
    · rw [if_neg z, if_neg (by omega)]
  have a3 : bnd B (k + 1) (i + 1) (j + 1) 0 (c + 1) = B 0 ((if c = k then j else c) + 1) := by
    unfold bnd
    rw [if_neg (show ¬ 0 = k + 1 by omega)]
    congr 1
    by_cases z : c = k
    · rw [if_pos z, if_pos (by omega)]
    · rw [if_neg z, if_neg (by omega)]
  rw [a1, a2, a3]
  rfl
theorem aE9 {B : Mt} {k : Nat} (h : ∀ m, 1 ≤ m → m ≤ k + 1 → dt m B ≠ 0) : B 0 0 ≠ 0 ∧ ∀ m, 1 ≤ m → m ≤ k → dt m (red B) ≠ 0 := by
  have b0 : B 0 0 ≠ 0 := by
    have := h 1 (by omega) (by omega)
    rw [← aA7 B 0, aa0] at this
    exact this
  refine ⟨b0, fun m h1 h2 z => ?_⟩
  have := h (m + 1) (by omega) (by omega)
  rw [aB4 B b0, z] at this
  exact this (by grind)
theorem av2 : ∀ (k : Nat) (B : Mt), (∀ m, 1 ≤ m → m ≤ k → dt m B ≠ 0) → ∀ i j, k < i → k < j → mi B k k k * mi B k i j - mi B k i k * mi B k k j = dt k B * mi B (k + 1) i j
  | 0, B, _, i, j, hi, hj => by
    rw [aa0, aa0, aa0, aa0]
    show _ = 1 * mi B 1 i j
    unfold mi
    rw [D6]
    have d1 : ∀ M : Mt, dt 1 M = M 0 0 := fun M => by
      rw [D6]
      show (0 : Rat) + sgd 0 * M 0 0 * 1 = _
      rw [show sgd 0 = 1 from if_pos (by decide)]; grind
    show _ = 1 * ((0 : Rat) + sgd 0 * bnd B 1 i j 0 0 * dt 1 (mn (bnd B 1 i j) 0) + sgd 1 * bnd B 1 i j 1 0 * dt 1 (mn (bnd B 1 i j) 1))
    rw [d1, d1, show sgd 0 = 1 from if_pos (by decide), show sgd 1 = -1 from if_neg (by decide)]
    show _ = 1 * ((0 : Rat) + 1 * B 0 0 * B i j + -1 * B i 0 * B 0 j)
    grind
  | k + 1, B, h, i, j, hi, hj => by
    obtain ⟨b0, hr⟩ := aE9 h
    obtain ⟨i', rfl⟩ : ∃ i', i = i' + 1 := ⟨i - 1, by omega⟩
    obtain ⟨j', rfl⟩ : ∃ j', j = j' + 1 := ⟨j - 1, by omega⟩
    have ih := av2 k (red B) hr i' j' (by omega) (by omega)
    rw [aj8 B b0, aj8 B b0, aj8 B b0, aj8 B b0, aj8 B b0, aB4 B b0]
    generalize B 0 0 = b at *
    generalize mi (red B) k k k = x1 at *
    generalize mi (red B) k i' j' = x2 at *
    generalize mi (red B) k i' k = x3 at *
    generalize mi (red B) k k j' = x4 at *
    generalize mi (red B) (k + 1) i' j' = x5 at *
    generalize dt k (red B) = x6 at *
    grind
theorem aF5 : ∀ (k n : Nat) (B : Mt), (∀ m, 1 ≤ m → m ≤ k → dt m B ≠ 0) → k < n → (∀ i, k ≤ i → i < n → mi B k i k = 0) → dt n B = 0
  | 0, n, B, _, hk, h => by
    obtain ⟨m, rfl⟩ : ∃ m, n = m + 1 := ⟨n - 1, by omega⟩
    rw [D6]
    refine K9 _ fun i hi => ?_
    have := h i (by omega) hi
    rw [aa0] at this
    rw [this]; grind
  | k + 1, n, B, hl, hk, h => by
    obtain ⟨b0, hr⟩ := aE9 hl
    obtain ⟨m, rfl⟩ : ∃ m, n = m + 1 := ⟨n - 1, by omega⟩
    rw [aB4 B b0, aF5 k m (red B) hr (by omega) fun i h1 h2 => ?_]
    · grind
    · have := h (i + 1) (by omega) (by omega)
      rw [aj8 B b0] at this
      rcases Rat.mul_eq_zero.mp this with y | y
      · exact absurd y b0
      · exact y
def swN (B : Mt) (r s : Nat) : Mt := fun i c => if i = r then B s c else if i = s then - B r c else B i c
theorem bl9 {n : Nat} {B : Mt} {r s : Nat} (hr : r < n) (hs : s < n) (h : r ≠ s) : dt n (swN B r s) = dt n B := by
  -- row r plus row s; row s less row r; row r plus row s
  have e1 := ar8 (M := B) (r := r) (s := s) 1 1 hr hs h
  obtain ⟨B1, h1⟩ : ∃ B1, B1 = w9 B r fun c => 1 * B r c + 1 * B s c := ⟨_, rfl⟩
  rw [← h1] at e1
  have e2 := ar8 (M := B1) (r := s) (s := r) 1 (-1) hs hr (Ne.symm h)
  obtain ⟨B2, h2⟩ : ∃ B2, B2 = w9 B1 s fun c => 1 * B1 s c + (-1) * B1 r c := ⟨_, rfl⟩
  rw [← h2] at e2
  have e3 := ar8 (M := B2) (r := r) (s := s) 1 1 hr hs h
  have e : w9 B2 r (fun c => 1 * B2 r c + 1 * B2 s c) = swN B r s := by
    funext i c
    have v1r : ∀ c, B1 r c = B r c + B s c := fun c => by rw [h1]; unfold w9; rw [if_pos rfl]; grind
    have v1s : ∀ c, B1 s c = B s c := fun c => by rw [h1]; unfold w9; rw [if_neg (Ne.symm h)]
    have v2s : ∀ c, B2 s c = - B r c := fun c => by rw [h2]; unfold w9; rw [if_pos rfl]; show 1 * B1 s c + -1 * B1 r c = _; rw [v1s, v1r]; grind
    have v2r : ∀ c, B2 r c = B r c + B s c := fun c => by rw [h2]; unfold w9; rw [if_neg h, v1r]
    unfold w9 swN
    by_cases z : i = r
    · rw [if_pos z, if_pos z]
      show 1 * B2 r c + 1 * B2 s c = _
      rw [v2r, v2s]; grind
    · rw [if_neg z, if_neg z]
      by_cases y : i = s
      · rw [if_pos y, y, v2s]
      · rw [if_neg y, h2]
        unfold w9
        rw [if_neg y, h1]
        unfold w9
        rw [if_neg z]
  rw [← e, e3, e2, e1]; grind
structure Pos (n : Nat) (g : Nat → Nat → Rat) : Prop where
  p : ∀ i, i ≤ n → 0 < g i 0
  s : ∀ i, 1 ≤ i → i < n → ∀ j, g i 0 * g (i - 1) j = g i 0 * g (i + 1) (j + 1) - g (i + 1) 0 * g i (j + 1)
  l : 1 ≤ n → ∀ j, g 0 0 * g 1 (j + 1) - g 1 0 * g 0 (j + 1) = 0
  z : ∀ i j, i ≤ n → i < 2 * j → g i j = 0
theorem C9 {x : Rat} (h : 0 < x) : x ≠ 0 := fun z => by rw [z] at h; exact absurd h (by decide)
theorem aD6 {x y : Rat} (h : 0 < x) (k : 0 < y) : 0 < x * y := Rat.mul_pos h k
theorem ao5 {W : Nat} : ∀ {n : Nat} {M : Mt}, n ≤ 16 → (∀ r c, ∃ z : Int, M r c = (z : Rat) ∧ z.natAbs < 2 ^ W) → ∃ z : Int, dt n M = (z : Rat) ∧ z.natAbs ≤ 2 ^ ((W + 4) * n)
  | 0, _, _, _ => ⟨1, rfl, by simp⟩
  | n + 1, M, hn, h => by
    have key : ∀ m, m ≤ n + 1 → ∃ z : Int, o9 (fun i => sgd i * M i 0 * dt n (mn M i)) m = (z : Rat) ∧ z.natAbs ≤ m * (2 ^ W * 2 ^ ((W + 4) * n)) := by
      intro m
      induction m with
      | zero => intro _; exact ⟨0, rfl, by simp⟩
      | succ m ih =>
        intro hm
        obtain ⟨z, e, b⟩ := ih (by omega)
        obtain ⟨x, ex, bx⟩ := h m 0
        obtain ⟨y, ey, by'⟩ := ao5 (n := n) (M := mn M m) (by omega) fun r c => h _ _
        obtain ⟨s, es, bs⟩ : ∃ s : Int, sgd m = (s : Rat) ∧ s.natAbs = 1 := by
          unfold sgd
          split
          · exact ⟨1, rfl, rfl⟩
          · exact ⟨-1, by rw [Rat.intCast_neg]; rfl, rfl⟩
        refine ⟨z + s * x * y, ?_, ?_⟩
        · rw [o9, e, ex, ey, es, Rat.intCast_add, Rat.intCast_mul, Rat.intCast_mul]
        · have h1 : (s * x * y).natAbs ≤ 2 ^ W * 2 ^ ((W + 4) * n) := by
            rw [Int.natAbs_mul, Int.natAbs_mul, bs, Nat.one_mul]
            exact Nat.mul_le_mul (Nat.le_of_lt bx) by'
          have h2 := Int.natAbs_add_le z (s * x * y)
          rw [Nat.succ_mul]; omega
    obtain ⟨z, e, b⟩ := key (n + 1) (Nat.le_refl _)
    refine ⟨z, by rw [D6]; exact e, Nat.le_trans b ?_⟩
    have : (n + 1) * (2 ^ W * 2 ^ ((W + 4) * n)) ≤ 2 ^ 4 * (2 ^ W * 2 ^ ((W + 4) * n)) := Nat.mul_le_mul_right _ (by omega)
    refine Nat.le_trans this ?_
    rw [← Nat.pow_add, ← Nat.pow_add]
    exact Nat.pow_le_pow_right (by decide) (by rw [Nat.mul_succ]; omega)
theorem aC5 {W m : Nat} {A B : Nat → Rat} (hA : ∀ j, ∃ z : Int, A j = (z : Rat) ∧ z.natAbs < 2 ^ W) (hB : ∀ j, ∃ z : Int, B j = (z : Rat) ∧ z.natAbs < 2 ^ W) {k : Nat} (hk : k ≤ m) (m1 : 1 ≤ m) (hm : m ≤ 16) (j : Nat) : ∃ z : Int, tau A B k j = (z : Rat) ∧ z.natAbs ≤ 2 ^ ((W + 4) * m) := by
  unfold tau
  split
  · obtain ⟨z, e, b⟩ := hA j
    exact ⟨z, e, Nat.le_trans (Nat.le_of_lt b) (Nat.pow_le_pow_right (by decide) (Nat.le_trans (show W ≤ (W + 4) * 1 by omega) (Nat.mul_le_mul_left _ m1)))⟩
  · obtain ⟨z, e, b⟩ := ao5 (W := W) (n := k) (M := fun i c => hz A B i (R0 k j c)) (by omega) fun r c => by
      show ∃ z : Int, hz A B r (R0 k j c) = _ ∧ _
      unfold hz
      split
      · exact ⟨0, rfl, Nat.two_pow_pos _⟩
      · split
        · exact hB _
        · exact hA _
    exact ⟨z, e, Nat.le_trans b (Nat.pow_le_pow_right (by decide) (Nat.mul_le_mul_left _ hk))⟩
inductive RwZ (H : Hp) : List Addr → List (List Int) → Prop where
  | nil : RwZ H [] []
  | cons {p : Addr} {ps : List Addr} {L : List Int} {Ls : List (List Int)} (h : H p = some (.lst (L.map V.int))) (t : RwZ H ps Ls) : RwZ H (p :: ps) (L :: Ls)
theorem RwZ.length {H : Hp} : ∀ {ts : List Addr} {M : List (List Int)}, RwZ H ts M → ts.length = M.length
  | _, _, .nil => rfl
  | _, _, .cons _ t => congrArg (· + 1) t.length
theorem RwZ.same {H H' : Hp} (s : d8 H H') : ∀ {ts : List Addr} {M : List (List Int)}, RwZ H ts M → RwZ H' ts M
  | _, _, .nil => .nil
  | _, _, .cons h t => .cons (s _ _ h) (t.same s)
theorem RwZ.get {H : Hp} : ∀ {ts : List Addr} {M : List (List Int)} {i : Nat} {p : Addr}, RwZ H ts M → ts[i]? = some p → ∃ L, M[i]? = some L ∧ H p = some (.lst (L.map V.int))
  | _, _, _, _, .nil, e => by simp at e
  | _, _, 0, _, .cons h _, e => by cases e; exact ⟨_, rfl, h⟩
  | _, _, i + 1, _, .cons _ t, e => t.get (i := i) (by simpa using e)
theorem RwZ.append {H : Hp} : ∀ {ts us : List Addr} {M N : List (List Int)}, RwZ H ts M → RwZ H us N → RwZ H (ts ++ us) (M ++ N)
  | _, _, _, _, .nil, h => h
  | _, _, _, _, .cons h t, k => .cons h (t.append k)
theorem RwZ.over {H : Hp} {l : Addr} {o : HO} : ∀ {ts : List Addr} {M : List (List Int)}, l ∉ ts → RwZ H ts M → RwZ (upd H l o) ts M
  | _, _, _, .nil => .nil
  | _, _, n, .cons h t => .cons (by rw [j5 (fun z => n (by rw [← z]; exact List.mem_cons_self))]; exact h) (t.over fun z => n (List.mem_cons_of_mem _ z))
theorem RwZ.set {H : Hp} : ∀ {ts : List Addr} {M : List (List Int)} (k : Nat) {p : Addr} {L : List Int}, RwZ H ts M → H p = some (.lst (L.map V.int)) → RwZ H (ts.set k p) (M.set k L)
  | _, _, _, _, _, .nil, _ => .nil
  | _, _, 0, _, _, .cons _ t, e => .cons e t
  | _, _, k + 1, _, _, .cons h t, e => .cons h (t.set k e)
def zz (M : List (List Int)) (i j : Nat) : Int := aZ ((M[i]?).getD []) j
theorem ba9 {α : Type} (l : List α) {i j : Nat} (x y : α) (hij : i < j) (hj : j < l.length) : l.take i ++ [x] ++ (l.drop (i + 1)).take (j - (i + 1)) ++ [y] ++ l.drop (j + 1) = (l.set i x).set j y := by
  refine List.ext_getElem? fun k => ?_
  rw [List.getElem?_set, List.getElem?_set]
  simp only [List.length_set]
  have l1 : (l.take i).length = i := by rw [List.length_take]; omega
  have l2 : (l.take i ++ [x]).length = i + 1 := by rw [List.length_append, l1]; rfl
  have l3 : (l.take i ++ [x] ++ (l.drop (i + 1)).take (j - (i + 1))).length = j := by rw [List.length_append, l2, List.length_take, List.length_drop]; omega
  have l4 : (l.take i ++ [x] ++ (l.drop (i + 1)).take (j - (i + 1)) ++ [y]).length = j + 1 := by rw [List.length_append, l3]; rfl
  rcases Nat.lt_or_ge j k with a | a
  · rw [List.getElem?_append_right (by omega), l4, List.getElem?_drop, if_neg (by omega), if_neg (by omega)]
    congr 1; omega
  · rw [List.getElem?_append_left (by omega)]
    rcases Nat.lt_or_ge k j with b | b
    · rw [List.getElem?_append_left (by omega), if_neg (by omega)]
      rcases Nat.lt_or_ge i k with c | c
      · rw [List.getElem?_append_right (by omega), l2, if_neg (by omega), List.getElem?_take_of_lt (by omega), List.getElem?_drop]
        congr 1; omega
      · rw [List.getElem?_append_left (by omega)]
        rcases Nat.lt_or_ge k i with d | d
        · rw [List.getElem?_append_left (by omega), if_neg (by omega), List.getElem?_take_of_lt d]
        · have : k = i := by omega
          subst this
          rw [List.getElem?_append_right (by omega), l1, Nat.sub_self, if_pos rfl, if_pos (by omega)]; rfl
    · have : k = j := by omega
      subst this
      rw [List.getElem?_append_right (by omega), l3, Nat.sub_self, if_pos rfl, if_pos hj]; rfl
structure Eb (n : Nat) (A B : Mt) (at' : Nat) (M : List (List Int)) (dv : Int) : Prop where
  len : M.length = n
  row : ∀ L ∈ M, L.length = n
  ent : ∀ i j, at' ≤ i → i < n → at' ≤ j → j < n → ((zz M i j : Int) : Rat) = mi B at' i j
  zer : ∀ i j, at' ≤ i → i < n → j < at' → zz M i j = 0
  int : ∀ r c, IsI (B r c)
  det : dt n B = dt n A
  led : ∀ m, 1 ≤ m → m ≤ at' → dt m B ≠ 0
  div : ((dv : Int) : Rat) = dt at' B
theorem bk3 {B : Mt} {k s i j : Nat} (hs : k < s) : mi (swN B k s) k i j = if i = k then mi B k s j else if i = s then - mi B k k j else mi B k i j := by
  have top : ∀ (x : Nat) (e : Rat), (∀ c, swN B k s i c = e * B x c) → mi (swN B k s) k i j = e * mi B k x j := fun x e h => by
    unfold mi
    have e1 : dt (k + 1) (bnd (swN B k s) k i j) = dt (k + 1) (w9 (bnd B k x j) k fun c => e * (bnd B k x j) k c + 0 * (bnd B k x j) k c) := K5 fun r hr c _ => by
      unfold w9
      by_cases z : r = k
      · rw [if_pos z, z]
        show swN B k s (if k = k then i else k) _ = e * B (if k = k then x else k) _ + 0 * _
        rw [if_pos rfl, if_pos rfl, h]; grind
      · rw [if_neg z]
        unfold bnd
        rw [if_neg z, if_neg z]
        unfold swN
        rw [if_neg z, if_neg (by omega)]
    rw [e1, ar9 _ e 0 _ _ (by omega), ad4]; grind
  by_cases a : i = k
  · rw [if_pos a, top s 1 fun c => by unfold swN; rw [if_pos a]; grind]; grind
  · rw [if_neg a]
    by_cases b : i = s
    · rw [if_pos b, top k (-1) fun c => by unfold swN; rw [if_neg a, if_pos b]; grind]; grind
    · rw [if_neg b, top i 1 fun c => by unfold swN; rw [if_neg a, if_neg b]; grind]; grind
section
variable {n : Nat} {A B : Mt} {k : Nat} {M M' : List (List Int)} {dv : Int}
theorem Eb.swap (E : Eb n A B k M dv) {s : Nat} (hk : k < s) (hs : s < n) (len : M'.length = n) (row : ∀ L ∈ M', L.length = n) (e : ∀ i j, zz M' i j = if i = k then zz M s j else if i = s then - zz M k j else zz M i j) : Eb n A (swN B k s) k M' dv := by
  have lead : ∀ m, m ≤ k → dt m (swN B k s) = dt m B := fun m hm => K5 fun r hr c _ => by
    unfold swN
    rw [if_neg (by omega), if_neg (by omega)]
  refine ⟨len, row, fun i j h1 h2 h3 h4 => ?_, fun i j h1 h2 h3 => ?_, fun r c => ?_, ?_, fun m h1 h2 => ?_, ?_⟩
  · rw [e, bk3 hk]
    by_cases a : i = k
    · rw [if_pos a, if_pos a, E.ent s j (by omega) hs h3 h4]
    · rw [if_neg a, if_neg a]
      by_cases b : i = s
      · rw [if_pos b, if_pos b, Rat.intCast_neg, E.ent k j (Nat.le_refl _) (by omega) h3 h4]
      · rw [if_neg b, if_neg b, E.ent i j h1 h2 h3 h4]
  · rw [e]
    split
    · exact E.zer s j (by omega) hs h3
    · split
      · rw [E.zer k j (Nat.le_refl _) (by omega) h3]; rfl
      · exact E.zer i j h1 h2 h3
  · unfold swN
    split
    · exact E.int _ _
    · split
      · obtain ⟨z, hz⟩ := E.int k c
        exact ⟨-z, by rw [hz, Rat.intCast_neg]⟩
      · exact E.int _ _
  · rw [bl9 (by omega) hs (by omega)]; exact E.det
  · rw [lead m h2]; exact E.led m h1 h2
  · rw [lead k (Nat.le_refl _)]; exact E.div
theorem Eb.step (E : Eb n A B k M dv) (hk : k < n) (h0 : zz M k k ≠ 0) (len : M'.length = n) (row : ∀ L ∈ M', L.length = n) (e : ∀ i j, k < i → i < n → j < n → zz M' i j = (zz M k k * zz M i j - zz M i k * zz M k j).fdiv dv) : Eb n A B (k + 1) M' (zz M k k) ∧ dv ≠ 0 := by
  have ekk := E.ent k k (Nat.le_refl _) hk (Nat.le_refl _) hk
  have dk : dt k B ≠ 0 := by
    rcases Nat.eq_zero_or_pos k with z | z
    · rw [z]; show (1 : Rat) ≠ 0; decide
    · exact E.led k z (Nat.le_refl _)
  have d0 : dv ≠ 0 := fun z => dk (by rw [← E.div, z]; rfl)
  refine ⟨⟨len, row, fun i j h1 h2 h3 h4 => ?_, fun i j h1 h2 h3 => ?_, E.int, E.det, fun m h1 h2 => ?_, ?_⟩, d0⟩
  · rw [e i j (by omega) h2 h4]
    have sy := av2 k B E.led i j (by omega) (by omega)
    obtain ⟨z, hz⟩ : IsI (mi B (k + 1) i j) := aY2 fun r c => E.int _ _
    rw [hz, ← E.div, ← ekk, ← E.ent i j (by omega) h2 (by omega) h4, ← E.ent i k (by omega) h2 (Nat.le_refl _) hk, ← E.ent k j (Nat.le_refl _) hk (by omega) h4] at sy
    have si : zz M k k * zz M i j - zz M i k * zz M k j = dv * z := Rat.intCast_inj.mp (by
      rw [Rat.intCast_sub, Rat.intCast_mul, Rat.intCast_mul, Rat.intCast_mul]; exact sy)
    rw [hz, si]
    congr 1
    exact o8 d0
  · rw [e i j (by omega) h2 (by omega)]
    rcases Nat.lt_or_ge j k with z | z
    · rw [E.zer i j (by omega) h2 z, E.zer k j (Nat.le_refl _) hk z, Int.mul_zero, Int.mul_zero, Int.sub_zero, Int.zero_fdiv]
    · have : j = k := by omega
      subst this
      rw [Int.mul_comm, Int.sub_self, Int.zero_fdiv]
  · rcases Nat.lt_or_ge k m with z | z
    · have : m = k + 1 := by omega
      subst this
      rw [← aA7, ← ekk]
      exact fun z => h0 (Rat.intCast_inj.mp (by rw [z, Rat.intCast_zero]))
    · exact E.led m h1 (by omega)
  · rw [ekk, aA7]
theorem Eb.stuck (E : Eb n A B k M dv) (hk : k < n) (h : ∀ i, k ≤ i → i < n → zz M i k = 0) : dt n A = 0 := by
  rw [← E.det]
  refine aF5 k n B E.led hk fun i h1 h2 => ?_
  rw [← E.ent i k h1 h2 (Nat.le_refl _) hk, h i h1 h2]; rfl
theorem Eb.done (E : Eb n A B n M dv) : ((dv : Int) : Rat) = dt n A := by rw [E.div, E.det]
def mZ (M : List (List Int)) : Mt := fun r c => ((zz M r c : Int) : Rat)
theorem Eb.start (len : M.length = n) (row : ∀ L ∈ M, L.length = n) : Eb n (mZ M) (mZ M) 0 M 1 :=
  ⟨len, row, fun i j _ _ _ _ => (aa0 (mZ M) i j).symm, fun i j _ _ h => by omega, fun r c => ⟨_, rfl⟩, rfl, fun m h1 h2 => by omega, rfl⟩
theorem Eb.bits (E : Eb n A B k M dv) {W : Nat} (hb : ∀ r c, ∃ z : Int, B r c = (z : Rat) ∧ z.natAbs < 2 ^ W) (n16 : n ≤ 15) (hk : k < n) {i j : Nat} (h1 : k ≤ i) (h2 : i < n) (h4 : j < n) : (zz M i j).natAbs ≤ 2 ^ ((W + 4) * n) := by
  rcases Nat.lt_or_ge j k with z | z
  · rw [E.zer i j h1 h2 z]; exact Nat.zero_le _
  · obtain ⟨y, ey, by'⟩ := ao5 (W := W) (n := k + 1) (M := bnd B k i j) (by omega) fun r c => hb _ _
    have : zz M i j = y := Rat.intCast_inj.mp (by rw [E.ent i j h1 h2 z h4]; exact ey)
    rw [this]
    exact Nat.le_trans by' (Nat.pow_le_pow_right (by decide) (Nat.mul_le_mul_left _ (by omega)))
end
section
variable {P : Program} {w : World} {K : PySem.W.Frag} {mg : Str → Option Value} {base : Heap}
theorem J4 {H : Hp} {a : Addr} (o : HO) (h : H a = none) : ∃ H', H' = upd H a o ∧ d8 H H' ∧ H' a = some o := ⟨_, rfl, d8.new h o, d6⟩
theorem be2 (xs : List V) {a b : Nat} (h : a ≤ b) (h' : b ≤ xs.length) : ae4 xs (some (a : Int)) (some (b : Int)) = (xs.drop a).take (b - a) := by
  unfold ae4
  have e1 : HT.sIx xs.length 0 (some (a : Int)) = a := by
    simp only [HT.sIx]
    rw [if_neg (by omega)]; omega
  have e2 : HT.sIx xs.length xs.length (some (b : Int)) = b := by
    simp only [HT.sIx]
    rw [if_neg (by omega)]; omega
  rw [e1, e2]
theorem ax9 {M : List (List Int)} {k : Nat} {L : List Int} (h : k < M.length) (i j : Nat) : zz (M.set k L) i j = if i = k then aZ L j else zz M i j := by
  unfold zz
  rw [List.getElem?_set]
  by_cases z : i = k
  · rw [if_pos z.symm, if_pos h, if_pos z]; rfl
  · rw [if_neg (Ne.symm z), if_neg z]
theorem bm3 (L : List Int) (j : Nat) : aZ (L.map fun v => -v) j = - aZ L j := by
  unfold aZ
  rw [List.getElem?_map]
  cases L[j]? with
  | none => rfl
  | some v => rfl
structure Led (M M' : List (List Int)) (k n m : Nat) : Prop where
  len : M'.length = n
  row : ∀ L ∈ M', L.length = m
  top : zz M' k k ≠ 0
  bit : ∀ W, (∀ L ∈ M, ∀ v ∈ L, Int.natAbs v < 2 ^ W) → ∀ L ∈ M', ∀ v ∈ L, Int.natAbs v < 2 ^ W
  alt : M' = M ∨ ∃ s, k < s ∧ s < n ∧ ∀ i j, zz M' i j = if i = k then zz M s j else if i = s then - zz M k j else zz M i j
def ba8 (K : PySem.W.Frag) : Sp := fun vs H Q _ => ∃ (a : Addr) (ts : List Addr) (M : List (List Int)) (k n m : Nat), vs = [.ref a, .int k] ∧ SqL K H a (ts.map V.ref) ∧ RwZ H ts M ∧ M.length = n ∧ (∀ L ∈ M, L.length = m) ∧ k < n ∧ k < m ∧ n ≤ 30 ∧ m ≤ 60 ∧
  ((∀ i, k ≤ i → i < n → zz M i k = 0) → ∀ H', d8 H H' → Q .non H') ∧
  ∀ r ts' M' H', d8 H H' → SqL K H' r (ts'.map V.ref) → RwZ H' ts' M' → Led M M' k n m → Q (.ref r) H'
abbrev G5 : Stmt := top 18
theorem Z3 : m8 ["rows", "at", "place", "behind"] ["rows", "at"] (d7 G5) := by and_intros
set_option maxHeartbeats 0 in
theorem aA0 {f : Addr} (d : Df K mg "with_lead" G5 ["rows", "at"] f) (n_len : mg "len" = none) (n_range : mg "range" = none) : Def P w K mg base CX0 1 "with_lead" f ["rows", "at"] (ba8 K) := by
  refine d.ok (N := ["rows", "at", "place", "behind"]) Z3 (by rintro vs H Q E ⟨_, _, _, _, _, _, h, _⟩; rw [h]; rfl) (fun cdv A outer s H vs Q E hr h => ?_)
  obtain ⟨a, ts, M, k, n, m, rfl, hA, hR, ln, lm, kn, km, n30, m60, k1, k2⟩ := h
  refine ⟨_, (d5 (P2 PassesOwn.never rfl (av7 rfl n_range (b7 (pv 1) (b7 (j2 j0 rfl n_len (by decide +kernel) (b7 (pv 0) b8)) b8))) (i7 (i := 2) Z3.nd rfl (Or.inl rfl)) (d9 (F9 (ah1 (t9 v8 (t9 v8 (pv 0) (pv 2) (fun _ _ => rfl)) (pv 1) (fun _ _ => rfl)) (fun _ => rfl)) (d5 (F9 (p7 T0 (pv 2) (pv 1) (j8 _)) (d9 (m5 (pv 0))) v7)
      (d5 (Z7 (i₀ := 3) Z3.nd rfl (Or.inl rfl) (Nc := ["whole"]) (caps := [none]) rfl (aa8.of (osc := d7 G5) (N := ["rows", "at", "place", "behind"]) (ks := []) rfl rfl rfl rfl D8 (by decide +kernel)) (K1 (t9 v8 (pv 0) (pv 1) (fun _ _ => rfl))) (fun C s₂ H₂ fp pins => (i7 (i := 0) (show List.Nodup (["whole"] : List Str) by decide +kernel) rfl (Or.inl rfl) (Or.inr rfl))) (fun C s₂ H₂ fp pins => (aa9 Q8 (pv 0))))
      (d9 (m5 (i6 aj4 (i6 aj4 (i6 aj4 (i6 aj4 (Q6 T3 (pv 0) P9 (K7 (pv 1))) (D0 (b7 (t9 v8 (pv 0) (pv 2) (fun _ _ => rfl)) b8))) (Q6 T3 (pv 0) (K7 (i6 J0 (pv 1) b9)) (K7 (pv 2)))) (D0 (b7 (pv 3) b8))) (Q6 T3 (pv 0) (K7 (i6 J0 (pv 2) b9)) P9)))))) v7)))
      (d9 (m5 aV6))), ?_⟩
  rw [show start ["rows", "at", "place", "behind"] [.ref a, .int k] = [some (.ref a), some (.int k), none, none] from rfl]
  subst_eqs
  have tl : ts.length = n := by rw [hR.length, ln]
  have rowAt : ∀ i, i < n → ∃ (p : Addr) (L : List Int), ts[i]? = some p ∧ M[i]? = some L ∧ H p = some (.lst (L.map V.int)) ∧ L.length = m := fun i hi => by
    have e := List.getElem?_eq_getElem (l := ts) (i := i) (by omega)
    obtain ⟨L, e1, e2⟩ := hR.get e
    exact ⟨_, L, e, e1, e2, lm L (List.mem_of_getElem? e1)⟩
  have at' : ∀ (i : Nat) (p : Addr), ts[i]? = some p → (ts.map V.ref)[i]? = some (.ref p) := fun i p e => by rw [List.getElem?_map, e]; rfl
  refine ⟨_, rfl, _, rfl, a, rfl, _, .inl hA, _, _, rfl, ?_, W9 (fun i σ H1 => H1 = H ∧ (∃ o2, σ = [some (.ref a), some (.int k), o2, none]) ∧ ∀ x, k ≤ x → x < k + i → zz M x k = 0) ⟨rfl, ⟨_, rfl⟩, fun x h1 h2 => by omega⟩ ?_ ?_⟩
  · rw [List.length_map, tl]; omega
  · rintro i σ H1 hi ⟨rfl, ⟨o2, rfl⟩, hz⟩
    rw [List.length_map, tl] at hi
    obtain ⟨p, L, e1, e2, e3, e4⟩ := rowAt (k + i) (by omega)
    obtain ⟨p0, L0, f1, f2, f3, f4⟩ := rowAt k kn
    subst_eqs
    have ci : ((k : Int) + (i : Int)) = ((k + i : Nat) : Int) := by omega
    rw [ci]
    have eL : (L.map V.int)[k]? = some (.int (zz M (k + i) k)) := by
      unfold zz aZ
      rw [e2, List.getElem?_map]
      show Option.map _ L[k]? = some (V.int (L[k]?.getD 0))
      rw [List.getElem?_eq_getElem (by omega)]; rfl
    refine ⟨_, hA, _, G3 (at' _ _ e1), p, rfl, _, SqL.of e3, _, G3 eL, _, rfl, G4 (fun h1 => ?_) (fun h1 => ?_)⟩
    · have nz : zz M (k + i) k ≠ 0 := by simpa using h1
      refine ⟨rfl, G4 (fun h2 => ?_) (fun h2 => ?_)⟩
      · have : i = 0 := by omega
        subst this
        exact k2 a ts M _ (d8.refl _) hA hR ⟨ln, lm, nz, fun W h => h, .inl rfl⟩
      · refine ⟨_, hA, _, G3 (at' _ _ f1), p0, rfl, ⟨_, SqL.of f3⟩, fun D hD => ?_⟩
        refine U7 (L0.map V.int) (fun j σ H2 => (∃ o, σ = [o]) ∧ d8 H1 H2 ∧ H2 D = some (.lst ((L0.take j).map fun v => V.int (-v)))) ⟨⟨_, rfl⟩, d8.new hD _, by rw [List.take_zero]; exact d6⟩ (fun j σ H2 _ ⟨_, s2, _⟩ => SqL.of (s2 _ _ f3)) ?_ ?_
        · rintro j x σ H2 hx ⟨⟨o, rfl⟩, s2, e⟩
          obtain ⟨v, hv, rfl⟩ := W8 hx
          have hj := (List.getElem?_eq_some_iff.mp hx).1
          subst_eqs
          refine G6.mk hj e ?_ ⟨⟨_, rfl⟩, s2.over hD _, ?_⟩
          · rw [List.length_map, List.length_take]
            exact Nat.lt_of_le_of_lt (show _ ≤ 100 by omega) (by decide)
          · rw [d6, B4 hv, List.map_append]; rfl
        · rintro σ H2 ⟨⟨o, rfl⟩, s2, e⟩
          rw [List.length_map, List.take_length] at e
          have lt' : (ts.map V.ref).length = n := by rw [List.length_map, tl]
          have hA2 := s2.seq hA
          refine ⟨_, hA2, fun a1 h1 => ?_⟩
          obtain ⟨H3, y, X1, g1⟩ := J4 (.lst (ae4 (ts.map V.ref) none (some (k : Int)))) h1
          rw [← y]
          refine ⟨_, X1.seq hA2, _, G3 (at' _ _ e1), aj0, fun a2 h2 => ?_⟩
          obtain ⟨H4, y, X2, g2⟩ := J4 (.lst [V.ref p]) h2
          rw [← y]
          refine ⟨_, X2 _ _ g1, _, g2, ?_, fun a3 h3 => ?_⟩
          · exact Nat.le_trans (Nat.add_le_add (ac9 _ _ _) (Nat.le_refl 1)) (Nat.le_trans (show _ ≤ 100 by omega) (by decide))
          rw [as5 _ (by omega)]
          obtain ⟨H5, y, X3, g3⟩ := J4 (.lst ((ts.map V.ref).take k ++ [V.ref p])) h3
          rw [← y]
          have X13 := (X1.trans X2).trans X3
          refine ⟨_, X13.seq hA2, fun a4 h4 => ?_⟩
          rw [show ((k : Int) + 1) = ((k + 1 : Nat) : Int) by omega, be2 _ (show k + 1 ≤ k + i by omega) (by omega)]
          obtain ⟨H6, y, X4, g4⟩ := J4 (.lst (((ts.map V.ref).drop (k + 1)).take (k + i - (k + 1)))) h4
          rw [← y]
          refine ⟨_, X4 _ _ g3, _, g4, ?_, fun a5 h5 => ?_⟩
          · refine Nat.le_trans (show _ ≤ 100 from ?_) (by decide)
            rw [List.length_append, List.length_take, List.length_take, List.length_drop]
            simp only [List.length_cons, List.length_nil]
            omega
          obtain ⟨F, hF⟩ : ∃ F, F = (ts.map V.ref).take k ++ [V.ref p] ++ ((ts.map V.ref).drop (k + 1)).take (k + i - (k + 1)) := ⟨_, rfl⟩
          rw [← hF]
          have lF : F.length ≤ 100 := by
            rw [hF, List.length_append, List.length_append, List.length_take, List.length_take, List.length_drop]
            simp only [List.length_cons, List.length_nil]
            omega
          obtain ⟨H7, y, X5, g5⟩ := J4 (.lst F) h5
          rw [← y]
          refine ⟨aj0, fun a6 h6 => ?_⟩
          obtain ⟨H8, y, X6, g6⟩ := J4 (.lst [V.ref D]) h6
          rw [← y]
          refine ⟨_, X6 _ _ g5, _, g6, ?_, fun a7 h7 => ?_⟩
          · exact Nat.le_trans (show _ ≤ 101 by simp only [List.length_cons, List.length_nil]; omega) (by decide)
          obtain ⟨H9, y, X7, g7⟩ := J4 (.lst (F ++ [V.ref D])) h7
          rw [← y]
          have X17 := X13.trans (X4.trans (X5.trans (X6.trans X7)))
          refine ⟨_, X17.seq hA2, fun a8 h8 => ?_⟩
          rw [show (((k + i : Nat) : Int) + 1) = ((k + i + 1 : Nat) : Int) by omega, aG0 _ (by omega)]
          obtain ⟨H10, y, X8, g8⟩ := J4 (.lst ((ts.map V.ref).drop (k + i + 1))) h8
          rw [← y]
          refine ⟨_, X8 _ _ g7, _, g8, ?_, fun a9 h9 => ?_⟩
          · refine Nat.le_trans (show _ ≤ 200 from ?_) (by decide)
            rw [List.length_append, List.length_drop]
            simp only [List.length_cons, List.length_nil]
            omega
          have X19 := X17.trans (X8.trans (d8.new h9 (.lst (F ++ [V.ref D] ++ (ts.map V.ref).drop (k + i + 1)))))
          have S := s2.trans X19
          have hM : (M.set k L).length = n := by rw [List.length_set, ln]
          have e0 : zz M k = aZ L0 := by funext j; unfold zz; rw [f2]; rfl
          have eL' : zz M (k + i) = aZ L := by funext j; unfold zz; rw [e2]; rfl
          refine k2 a9 ((ts.set k p).set (k + i) D) ((M.set k L).set (k + i) (L0.map fun v => -v)) _ S (SqL.of (xs := ((ts.set k p).set (k + i) D).map V.ref) ?_) ?_ ⟨?_, ?_, ?_, fun W h => ?_, .inr ⟨k + i, by omega, by omega, fun x j => ?_⟩⟩
          · rw [d6, hF, ba9 (ts.map V.ref) (V.ref p) (V.ref D) (by omega) (by omega), List.map_set, List.map_set]
          · exact ((hR.same S).set k (S _ _ e3)).set (k + i) (X19 _ _ (by rw [e, List.map_map]; rfl))
          · rw [List.length_set, hM]
          · intro L' hL'
            rcases List.mem_or_eq_of_mem_set hL' with z | z
            · rcases List.mem_or_eq_of_mem_set z with z | z
              · exact lm _ z
              · rw [z, e4]
            · rw [z, List.length_map, f4]
          · rw [ax9 (by omega), if_neg (by omega), ax9 (by omega), if_pos rfl, ← eL']
            exact nz
          · intro L' hL' v hv
            rcases List.mem_or_eq_of_mem_set hL' with z | z
            · rcases List.mem_or_eq_of_mem_set z with z | z
              · exact h _ z v hv
              · exact h _ (List.mem_of_getElem? e2) v (z ▸ hv)
            · rw [z] at hv
              obtain ⟨v', hv', rfl⟩ := List.mem_map.mp hv
              rw [Int.natAbs_neg]
              exact h _ (List.mem_of_getElem? f2) v' hv'
          · rw [ax9 (by omega), ax9 (by omega), bm3, e0, eL']
            by_cases z : x = k
            · rw [if_pos z, if_pos z, if_neg (by omega)]
            · rw [if_neg z, if_neg z]
    · have z0 : zz M (k + i) k = 0 := by simpa using h1
      refine ⟨⟨_, rfl⟩, fun x h2 h3 => ?_⟩
      rcases Nat.lt_or_ge x (k + i) with y | y
      · exact hz x h2 y
      · rw [show x = k + i by omega]; exact z0
  · rintro σ H1 ⟨rfl, ⟨o2, rfl⟩, hz⟩
    rw [List.length_map, tl] at hz
    exact k1 (fun i h1 h2 => hz i h1 (by omega)) _ (d8.refl _)
def ag6 (K : PySem.W.Frag) : Sp := fun vs H Q _ => ∃ (a b : Addr) (L C : List Int) (k : Nat) (dv : Int) (W : Nat), vs = [.ref a, .ref b, .int k, .int dv] ∧ SqL K H a (L.map V.int) ∧ SqL K H b (C.map V.int) ∧ L.length = C.length ∧ k < L.length ∧ L.length ≤ 60 ∧ dv ≠ 0 ∧ dv.natAbs < 2 ^ W ∧ (∀ v ∈ L, Int.natAbs v < 2 ^ W) ∧ (∀ v ∈ C, Int.natAbs v < 2 ^ W) ∧ W ≤ 8900 ∧
  ∀ r T H', d8 H H' → H r = none → H' r = some (.lst (T.map V.int)) → T.length = L.length → (∀ j, j < T.length → aZ T j = (aZ C k * aZ L j - aZ L k * aZ C j).fdiv dv) → Q (.ref r) H'
abbrev M7 : Stmt := top 19
theorem af2 : m8 ["row", "chosen", "at", "before", "lead", "own"] ["row", "chosen", "at", "before"] (d7 M7) := by and_intros
set_option maxHeartbeats 0 in
theorem aI7 {f : Addr} (d : Df K mg "cleaned" M7 ["row", "chosen", "at", "before"] f) (n_zip : mg "zip" = none) : Def P w K mg base CX0 1 "cleaned" f ["row", "chosen", "at", "before"] (ag6 K) := by
  refine d.ok (N := ["row", "chosen", "at", "before", "lead", "own"]) af2 (by rintro vs H Q E ⟨_, _, _, _, _, _, _, h, _⟩; rw [h]; rfl) (fun cdv A outer s H vs Q E hr h => ?_)
  obtain ⟨a, b, R, F, k, dv, W, rfl, hR, hF, lF, kl, l60, d0, db, wR, wF, hW, kk⟩ := h
  refine ⟨_, (d5 (Z8 (q8 (b7 (t9 v8 (pv 1) (pv 2) (fun _ _ => rfl)) (b7 (t9 v8 (pv 0) (pv 2) (fun _ _ => rfl)) b8))) (show PG _ _ (ae1 K 2 (D7 (D3 4) (D7 (D3 5) ae2))) from by (refine P4 (n := 2) ?_ ?_ ?_ ?_; rfl; (refine u0 ?_ ?_ ?_; (exact (i7 (i := 4) af2.nd rfl (Or.inr rfl))); (refine u0 ?_ ?_ ?_; (exact (i7 (i := 5) af2.nd rfl (Or.inr rfl))); (exact K2); rfl); rfl); rfl; rfl)))
      (d9 (m5 (O6 (Nc := ["own", "lead", "before", "whole", "other"]) (caps := [some 5, some 4, some 3, none, none]) rfl (aa8.of (osc := d7 M7) (N := ["row", "chosen", "at", "before", "lead", "own"]) (ks := ["own", "lead", "before"]) rfl rfl rfl rfl (w8 rfl (w8 rfl (w8 rfl D8))) (by decide +kernel)) (aV4 rfl n_zip (b7 (pv 0) (b7 (pv 1) b8))) (fun C s₂ H₂ fp pins => (show PG _ _ (ae1 K 2 (D7 (D3 3) (D7 (D3 4) ae2))) from by (refine P4 (n := 2) ?_ ?_ ?_ ?_; rfl; (refine u0 ?_ ?_ ?_; (exact (i7 (i := 3) (show List.Nodup (["own", "lead", "before", "whole", "other"] : List Str) by decide +kernel) rfl (Or.inl rfl) (Or.inr rfl))); (refine u0 ?_ ?_ ?_; (exact (i7 (i := 4) (show List.Nodup (["own", "lead", "before", "whole", "other"] : List Str) by decide +kernel) rfl (Or.inl rfl) (Or.inr rfl))); (exact K2); rfl); rfl); rfl; rfl))) (fun C s₂ H₂ fp pins => (i6 J1 (i6 M1 (i6 C5 (pv 1) (pv 3)) (i6 C5 (pv 0) (pv 4))) (pv 2))))))), ?_⟩
  rw [show start ["row", "chosen", "at", "before", "lead", "own"] [.ref a, .ref b, .int k, .int dv] = [some (.ref a), some (.ref b), some (.int k), some (.int dv), none, none] from rfl]
  have get' : ∀ {G : List Int} {i : Nat}, i < G.length → (G.map V.int)[i]? = some (.int (aZ G i)) := fun {G i} h => by
    unfold aZ
    rw [List.getElem?_map, List.getElem?_eq_getElem h]; rfl
  obtain ⟨tf, htf⟩ : ∃ tf : Nat → Int, ∀ j, tf j = (aZ F k * aZ R j - aZ R k * aZ F j).fdiv dv := ⟨_, fun _ => rfl⟩
  subst_eqs
  refine ⟨_, hF, _, G3 (get' (by omega)), _, hR, _, G3 (get' kl), v3, fun p hp => ?_⟩
  obtain ⟨H3, y, X, g3⟩ := J4 (.tup [V.int (aZ F k), V.int (aZ R k)]) hp
  rw [← y]
  have R3 := X.seq hR
  have F3 := X.seq hF
  refine ⟨_, SqT.of g3, rfl, _, _, rfl, _, _, rfl, rfl, ⟨_, R3⟩, ⟨_, F3⟩, fun D hD => ?_⟩
  have mb : min (R.map V.int).length (F.map V.int).length = R.length := by rw [List.length_map, List.length_map, ← lF, Nat.min_self]
  refine aY6 (R.map V.int) (F.map V.int) (fun i σ H4 => ∃ o1 o2, σ = [some (V.int (aZ R k)), some (V.int (aZ F k)), some (V.int dv), o1, o2] ∧ d8 H3 H4 ∧ H4 D = some (.lst (((List.range i).map tf).map V.int))) ⟨_, _, rfl, d8.new hD _, d6⟩ (by rintro i σ H4 ⟨_, _, _, s4, _⟩; exact ⟨s4.seq R3, s4.seq F3⟩) ?_ ?_
  · rintro i x y σ H4 q hx hy ⟨o1, o2, rfl, s4, e4⟩ hq
    have hi : i < R.length := by
      have := (List.getElem?_eq_some_iff.mp hx).1
      rw [List.length_map] at this; exact this
    rw [get' hi] at hx
    rw [get' (by omega)] at hy
    cases hx
    cases hy
    have T := d8.new hq (.tup [.int (aZ R i), .int (aZ F i)])
    have eT := T _ _ e4
    subst_eqs
    refine ⟨_, SqT.of d6, rfl, _, _, rfl, _, _, rfl, rfl, ?_⟩
    refine ⟨_, rfl, W4 (V0 wF k) (V0 wR _) (by omega), _, rfl, W4 (V0 wR k) (V0 wF _) (by omega), ab1 d0 (T9 db (by omega)), ?_⟩
    rw [mb]
    refine G6.mk hi eT ?_ ⟨_, _, rfl, (s4.trans T).over hD _, ?_⟩
    · rw [List.length_map, List.length_map, List.length_range]
      exact Nat.lt_of_lt_of_le (show i < 100 by omega) (by decide)
    · rw [d6, List.range_succ, List.map_append, List.map_append, ← htf]; rfl
  · rintro σ H4 ⟨o1, o2, rfl, s4, e4⟩
    rw [mb] at e4
    refine kk D ((List.range R.length).map tf) H4 (X.trans s4) (X.free hD) e4 (by rw [List.length_map, List.length_range]) fun j hj => ?_
    rw [List.length_map, List.length_range] at hj
    rw [← htf]
    unfold aZ
    rw [List.getElem?_map, List.getElem?_range hj]; rfl
end
section
variable {P : Program} {w : World} {K : PySem.W.Frag} {mg : Str → Option Value} {base : Heap}
def eU (W n : Nat) : Nat := (W + 4) * n + 1
def eV (W n k : Nat) : Nat := W + k * (eU W n + 1)
theorem aP2 {a b c d dv : Int} {U V : Nat} (ha : a.natAbs < 2 ^ U) (hb : b.natAbs < 2 ^ V) (hc : c.natAbs < 2 ^ V) (hd : d.natAbs < 2 ^ U) : ((a * b - c * d).fdiv dv).natAbs < 2 ^ (V + (U + 1)) := by
  refine Nat.lt_of_le_of_lt (Int.natAbs_fdiv_le_natAbs _ _) ?_
  have h1 : (a * b).natAbs < 2 ^ (V + U) := by
    rw [Int.natAbs_mul, Nat.mul_comm, Nat.pow_add]
    exact Nat.mul_lt_mul'' hb ha
  have h2 : (c * d).natAbs < 2 ^ (V + U) := by
    rw [Int.natAbs_mul, Nat.pow_add]
    exact Nat.mul_lt_mul'' hc hd
  have e : 2 ^ (V + (U + 1)) = 2 ^ (V + U) + 2 ^ (V + U) := by rw [← Nat.add_assoc, Nat.pow_succ]; omega
  rw [e]
  omega
theorem Eb.dv0 {n : Nat} {A B : Mt} {k : Nat} {M : List (List Int)} {dv : Int} (E : Eb n A B k M dv) : dv ≠ 0 := fun z => by
  have := E.div
  rcases Nat.eq_zero_or_pos k with y | y
  · rw [y, z] at this
    have h : (0 : Int) = 1 := Rat.intCast_inj.mp this
    omega
  · exact E.led k y (Nat.le_refl _) (by rw [← this, z]; rfl)
theorem Eb.dvb {n : Nat} {A B : Mt} {k : Nat} {M : List (List Int)} {dv : Int} (E : Eb n A B k M dv) {W : Nat} (hb : ∀ r c, ∃ z : Int, B r c = (z : Rat) ∧ z.natAbs < 2 ^ W) (n15 : n ≤ 15) (hk : k ≤ n) : dv.natAbs < 2 ^ eU W n := by
  obtain ⟨z, e, b⟩ := ao5 (W := W) (n := k) (M := B) (by omega) hb
  have : dv = z := Rat.intCast_inj.mp (by rw [E.div, e])
  rw [this]
  unfold eU
  refine Nat.lt_of_le_of_lt b (Nat.lt_of_le_of_lt (Nat.pow_le_pow_right (by decide) (Nat.mul_le_mul_left _ hk)) ?_)
  rw [Nat.pow_succ]
  have := Nat.two_pow_pos ((W + 4) * n)
  omega
theorem Eb.leads {n : Nat} {A B : Mt} {k W : Nat} {M M' : List (List Int)} {dv : Int} (E : Eb n A B k M dv) (hb : ∀ r c, ∃ z : Int, B r c = (z : Rat) ∧ z.natAbs < 2 ^ W) (L : Led M M' k n n) : ∃ B', Eb n A B' k M' dv ∧ ∀ r c, ∃ z : Int, B' r c = (z : Rat) ∧ z.natAbs < 2 ^ W := by
  rcases L.alt with h | ⟨s, h1, h2, h3⟩
  · rw [h]; exact ⟨B, E, hb⟩
  · refine ⟨_, E.swap h1 h2 L.len L.row h3, fun r c => ?_⟩
    unfold swN
    split
    · exact hb _ _
    · split
      · obtain ⟨z, e, b⟩ := hb k c
        exact ⟨-z, by rw [e, Rat.intCast_neg], by rw [Int.natAbs_neg]; exact b⟩
      · exact hb _ _
theorem RwZ.at {H : Hp} {ts : List Addr} {M : List (List Int)} {n m : Nat} (h : RwZ H ts M) (ln : M.length = n) (lm : ∀ L ∈ M, L.length = m) {i : Nat} (hi : i < n) : ∃ (p : Addr) (L : List Int), ts[i]? = some p ∧ M[i]? = some L ∧ H p = some (.lst (L.map V.int)) ∧ L.length = m ∧ zz M i = aZ L := by
  have e := List.getElem?_eq_getElem (l := ts) (i := i) (by rw [h.length, ln]; exact hi)
  obtain ⟨L, e1, e2⟩ := h.get e
  exact ⟨_, L, e, e1, e2, lm L (List.mem_of_getElem? e1), by funext j; unfold zz; rw [e1]; rfl⟩
def ay8 (K : PySem.W.Frag) : Sp := fun vs H Q _ => ∃ (a : Addr) (ts : List Addr) (M : List (List Int)) (n W : Nat), vs = [.ref a] ∧ SqL K H a (ts.map V.ref) ∧ RwZ H ts M ∧ M.length = n ∧ (∀ L ∈ M, L.length = n) ∧ (∀ L ∈ M, ∀ v ∈ L, Int.natAbs v < 2 ^ W) ∧ n ≤ 15 ∧ eV W n n + eU W n ≤ 8900 ∧
  ∀ r (mn : Nat) (dv : Int) b H', d8 H H' → H' r = some (.tup [.int mn, .int dv, .ref b]) → ((mn = n ∧ (dv : Rat) = dt n (mZ M)) ∨ (mn ≠ n ∧ dt n (mZ M) = 0)) → Q (.ref r) H'
abbrev E4 : Stmt := top 20
theorem E6 : m8 ["rows", "divisor", "at", "led", "chosen"] ["rows"] (d7 E4) := by and_intros
set_option maxHeartbeats 0 in
theorem au1 {f f1 f2 : Addr} (d : Df K mg "eliminated" E4 ["rows"] f) (G_with_lead : Def P w K mg base CX0 1 "with_lead" f1 ["rows", "at"] (ba8 K)) (G_cleaned : Def P w K mg base CX0 1 "cleaned" f2 ["row", "chosen", "at", "before"] (ag6 K)) (n_len : mg "len" = none) (n_range : mg "range" = none) (n_enumerate : mg "enumerate" = none) : Def P w K mg base CX0 2 "eliminated" f ["rows"] (ay8 K) := by
  refine d.ok (N := ["rows", "divisor", "at", "led", "chosen"]) E6 (by rintro vs H Q E ⟨_, _, _, _, _, h, _⟩; rw [h]; rfl) (fun cdv A outer s H vs Q E hr h => ?_)
  obtain ⟨a, ts, M, n, W, rfl, hA, hR, ln, lm, hb, n15, hV, kk⟩ := h
  refine ⟨_, (d5 (i8 (i := 1) E6.nd rfl (Or.inr rfl) b9)
      (d5 (P2 PassesOwn.never rfl (P3 rfl n_range (b7 (j2 j0 rfl n_len (by decide +kernel) (b7 (pv 0) b8)) b8)) (i7 (i := 2) E6.nd rfl (Or.inr rfl)) (d5 (i8 (i := 3) E6.nd rfl (Or.inl rfl) (i3 G_with_lead hr (b7 (pv 0) (b7 (pv 2) b8)) j3))
      (d5 (F9 (p7 bj3 (pv 3) aV6 (j8 _)) (d9 (m5 (q8 (b7 (pv 2) (b7 (pv 1) (b7 (pv 0) b8)))))) v7)
      (d5 (i8 (i := 4) E6.nd rfl (Or.inr rfl) (t9 v8 (pv 3) (pv 2) (fun _ _ => rfl)))
      (d5 (Z7 (i₀ := 0) E6.nd rfl (Or.inl rfl) (Nc := ["divisor", "chosen", "at", "place", "row"]) (caps := [some 1, some 4, some 2, none, none]) rfl (aa8.of (osc := d7 E4) (N := ["rows", "divisor", "at", "led", "chosen"]) (ks := ["divisor", "chosen", "at"]) rfl rfl rfl rfl (w8 rfl (w8 rfl (w8 rfl D8))) (by decide +kernel)) (az9 rfl n_enumerate (b7 (pv 3) b8)) (fun C s₂ H₂ fp pins => (show PG _ _ (ae1 K 2 (D7 (D3 3) (D7 (D3 4) ae2))) from by (refine P4 (n := 2) ?_ ?_ ?_ ?_; rfl; (refine u0 ?_ ?_ ?_; (exact (i7 (i := 3) (show List.Nodup (["divisor", "chosen", "at", "place", "row"] : List Str) by decide +kernel) rfl (Or.inl rfl) (Or.inr rfl))); (refine u0 ?_ ?_ ?_; (exact (i7 (i := 4) (show List.Nodup (["divisor", "chosen", "at", "place", "row"] : List Str) by decide +kernel) rfl (Or.inl rfl) (Or.inr rfl))); (exact K2); rfl); rfl); rfl; rfl))) (fun C s₂ H₂ fp pins => (W3 (p7 T0 (pv 3) (pv 2) (j8 _)) (pv 4) (i3 G_cleaned hr (b7 (pv 4) (b7 (pv 1) (b7 (pv 2) (b7 (pv 0) b8)))) j3))))
      (d9 (i8 (i := 1) E6.nd rfl (Or.inr rfl) (t9 v8 (pv 4) (pv 2) (fun _ _ => rfl)))))))))
      (d9 (m5 (q8 (b7 (j2 j0 rfl n_len (by decide +kernel) (b7 (pv 0) b8)) (b7 (pv 1) (b7 (pv 0) b8)))))))), ?_⟩
  rw [show start ["rows", "divisor", "at", "led", "chosen"] [.ref a] = [some (.ref a), none, none, none, none] from rfl]
  simp! [ba8, ag6]
  have tl : ts.length = n := by rw [hR.length, ln]
  obtain ⟨I, hI⟩ : ∃ I : Nat → L2.St → Hp → Prop, ∀ i σ H1, I i σ H1 ↔ d8 H H1 ∧ ∃ (a' : Addr) (ts' : List Addr) (M' : List (List Int)) (B : Mt) (dv : Int) (o2 o3 o4 : Option V), σ = [some (.ref a'), some (.int dv), o2, o3, o4] ∧ SqL K H1 a' (ts'.map V.ref) ∧ RwZ H1 ts' M' ∧ Eb n (mZ M) B i M' dv ∧ (∀ r c, ∃ z : Int, B r c = (z : Rat) ∧ z.natAbs < 2 ^ W) ∧ ∀ L ∈ M', ∀ v ∈ L, Int.natAbs v < 2 ^ eV W n i := ⟨_, fun _ _ _ => Iff.rfl⟩
  have zlt : ∀ r c, (zz M r c).natAbs < 2 ^ W := fun r c => by
    unfold zz
    cases e : M[r]? with
    | none => exact Nat.two_pow_pos _
    | some L => exact V0 (hb L (List.mem_of_getElem? e)) c
  refine ⟨_, rfl, a, rfl, _, .inl hA, _, rfl, ?_, ?_, W9 I ((hI _ _ _).mpr ⟨d8.refl _, a, ts, M, mZ M, 1, _, _, _, rfl, hA, hR, Eb.start ln lm, fun r c => ⟨_, rfl, zlt r c⟩, ?_⟩) ?_ ?_⟩
  · omega
  · rw [List.length_map, tl]; omega
  · unfold eV
    rw [Nat.zero_mul]; exact hb
  · rintro i σ H1 hi h
    obtain ⟨S, a', ts', M', B, dv, o2, o3, o4, rfl, hA1, hR1, E, hB, hb1⟩ := (hI _ _ _).mp h
    rw [List.length_map, tl] at hi
    rw [Int.zero_add]
    have vi : eV W n i + eU W n ≤ 8900 := Nat.le_trans (Nat.add_le_add_right (Nat.add_le_add_left (Nat.mul_le_mul_right _ (by omega)) _) _) hV
    refine j9 (fun σ H2 => d8 H1 H2 ∧ ((σ = [some (.ref a'), some (.int dv), some (.int i), some .non, o4] ∧ ∀ x, i ≤ x → x < n → zz M' x i = 0) ∨ ∃ (a2 : Addr) (ts2 : List Addr) (M2 : List (List Int)), σ = [some (.ref a'), some (.int dv), some (.int i), some (.ref a2), o4] ∧ SqL K H2 a2 (ts2.map V.ref) ∧ RwZ H2 ts2 M2 ∧ Led M' M2 i n n)) (fun N hN => ?_) ?_
    · simp! [ba8]
      refine ⟨ts', M', i, rfl, hA1, hR1, n, E.row, by rw [E.len]; exact hi, hi, by rw [E.len]; omega, by omega, ?_⟩
      rw [E.len]
      exact ⟨fun hz H' s => hN _ _ ⟨s, .inl ⟨rfl, hz⟩⟩, fun r ts2 M2 H' s hA2 hR2 LD => hN _ _ ⟨s, .inr ⟨r, ts2, M2, rfl, hA2, hR2, LD⟩⟩⟩
    rintro σ H2 ⟨S2, h⟩
    rcases h with ⟨rfl, hz⟩ | ⟨a2, ts2, M2, rfl, hA2, hR2, LD⟩
    · subst_eqs
      refine ⟨by decide, fun p hp => ?_⟩
      exact kk p i dv a' _ ((S.trans S2).trans (d8.new hp _)) d6 (.inr ⟨by omega, E.stuck hi hz⟩)
    · simp! [ag6]
      obtain ⟨B2, E2, hB2⟩ := E.leads hB LD
      obtain ⟨c, C, c1, c2, c3, c4, c5⟩ := hR2.at E2.len E2.row hi
      have at' : ∀ (j : Nat) (p : Addr), ts2[j]? = some p → (ts2.map V.ref)[j]? = some (.ref p) := fun j p e => by rw [List.getElem?_map, e]; rfl
      have t2 : ts2.length = n := by rw [hR2.length, E2.len]
      have hb2 := LD.bit _ hb1
      have d0 := E2.dv0
      have cb : ∀ j, j < n → (aZ C j).natAbs < 2 ^ eU W n := fun j hj => by
        rw [← c5]
        refine Nat.lt_of_le_of_lt (E2.bits hB2 n15 hi (Nat.le_refl _) hi hj) ?_
        unfold eU
        rw [Nat.pow_succ]
        have := Nat.two_pow_pos ((W + 4) * n)
        omega
      refine ⟨_, hA2, _, G3 (at' _ _ c1), ⟨_, hA2⟩, fun D hD => ?_⟩
      obtain ⟨Pv, hPv⟩ : ∃ Pv : Nat → L2.St → Hp → Prop, ∀ j σ H4, Pv j σ H4 ↔ ∃ (us : List Addr) (N : List (List Int)) (o3 o4 : Option V), σ = [some (.int dv), some (.ref c), some (.int i), o3, o4] ∧ d8 H2 H4 ∧ H4 D = some (.lst (us.map V.ref)) ∧ D ∉ us ∧ RwZ H4 us N ∧ N.length = j ∧ (∀ L ∈ N, L.length = n ∧ ∀ v ∈ L, Int.natAbs v < 2 ^ eV W n (i + 1)) ∧ ∀ x y, x < j → x ≠ i → y < n → zz N x y = (zz M2 i i * zz M2 x y - zz M2 x i * zz M2 i y).fdiv dv := ⟨_, fun _ _ _ => Iff.rfl⟩
      have eVs : eV W n (i + 1) = eV W n i + (eU W n + 1) := by unfold eV; rw [Nat.succ_mul]; omega
      refine bd9 (ts2.map V.ref) Pv ((hPv _ _ _).mpr ⟨[], [], _, _, rfl, d8.new hD _, d6, by simp, .nil, rfl, by simp, fun x y h => by omega⟩) (by intro j σ H4 h; obtain ⟨_, _, _, _, _, s4, _⟩ := (hPv _ _ _).mp h; exact s4.seq hA2) ?_ ?_
      · intro j x σ H4 q hx h hq
        obtain ⟨us, N, o3, o4, rfl, s4, e4, nD, hN4, lN, rN, vN⟩ := (hPv _ _ _).mp h
        have hj : j < n := by
          have := (List.getElem?_eq_some_iff.mp hx).1
          rw [List.length_map, t2] at this; exact this
        obtain ⟨p, L, p1, p2, p3, p4, p5⟩ := hR2.at E2.len E2.row hj
        rw [at' _ _ p1] at hx
        cases hx
        simp! [ag6]
        obtain ⟨H5, y5, X, g5⟩ := J4 (.tup [V.int j, V.ref p]) hq
        rw [← y5]
        refine ⟨_, SqT.of g5, rfl, _, _, rfl, _, _, rfl, rfl, rfl, ?_⟩
        have e5 := X _ _ e4
        have sz : (us.map V.ref).length < sizeLine := by
          rw [List.length_map, hN4.length, lN]
          exact Nat.lt_of_lt_of_le (show j < 100 by omega) (by decide)
        have lj : j < (ts2.map V.ref).length := by rw [List.length_map, t2]; exact hj
        have add : ∀ (r : Addr) (T : List Int) (H6 : Hp), d8 H5 H6 → r ≠ D → H6 r = some (.lst (T.map V.int)) → T.length = n → (∀ v ∈ T, Int.natAbs v < 2 ^ eV W n (i + 1)) → (j ≠ i → ∀ y, y < n → aZ T y = (zz M2 i i * zz M2 j y - zz M2 j i * zz M2 i y).fdiv dv) → G6 D (ts2.map V.ref).length Pv j [some (.int dv), some (.ref c), some (.int i), some (.int j), some (.ref p)] (.ref r) H6 := fun r T H6 s6 hr e6 l6 b6 v6 => by
          have e7 := s6 _ _ e5
          refine G6.mk lj e7 sz ((hPv _ _ _).mpr ⟨us ++ [r], N ++ [T], _, _, rfl, (s4.trans (X.trans s6)).over hD _, by rw [d6, List.map_append]; rfl, ?_, ?_, by rw [List.length_append, lN]; rfl, ?_, ?_⟩)
          · intro z
            rcases List.mem_append.mp z with z | z
            · exact nD z
            · exact hr (List.mem_singleton.mp z).symm
          · refine RwZ.over ?_ ((hN4.same (X.trans s6)).append (.cons e6 .nil))
            intro z
            rcases List.mem_append.mp z with z | z
            · exact nD z
            · exact hr (List.mem_singleton.mp z).symm
          · intro L' hL'
            rcases List.mem_append.mp hL' with z | z
            · exact rN _ z
            · rw [List.mem_singleton.mp z]; exact ⟨l6, b6⟩
          · intro x y h1 h2 h3
            have ez : zz (N ++ [T]) x y = if x < j then zz N x y else aZ T y := by
              unfold zz
              by_cases z : x < j
              · rw [List.getElem?_append_left (by omega), if_pos z]
              · rw [List.getElem?_append_right (by omega), if_neg z, show x - N.length = 0 by omega]; rfl
            rw [ez]
            by_cases z : x < j
            · rw [if_pos z]; exact vN x y z h2 h3
            · rw [if_neg z]
              have : x = j := by omega
              rw [this]
              rw [this] at h2
              exact v6 h2 y h3
        refine G4 (fun h1 => ?_) (fun h1 => ?_)
        · have : j = i := by have := V.int.inj h1; omega
          refine add p L H5 (d8.refl _) (fun z => ?_) (X _ _ (s4 _ _ p3)) p4 (fun v hv => T9 (hb2 L (List.mem_of_getElem? p2) v hv) (by omega)) (fun h => absurd this h)
          rw [z, hD] at p3; cases p3
        · have hl : ∀ v ∈ L, Int.natAbs v < 2 ^ eV W n i := hb2 L (List.mem_of_getElem? p2)
          refine ⟨p, rfl, L, C, i, rfl, SqL.of (X _ _ (s4 _ _ p3)), SqL.of (X _ _ (s4 _ _ c3)), by rw [p4, c4], by omega, by omega, d0, eV W n i + eU W n, T9 (E2.dvb hB2 n15 (by omega)) (by omega), fun v hv => T9 (hl v hv) (by omega), fun v hv => T9 (hb2 C (List.mem_of_getElem? c2) v hv) (by omega), vi, fun r T H6 s6 f6 e6 l6 v6 => ?_⟩
          have val : ∀ y, y < n → aZ T y = (aZ C i * aZ L y - aZ L i * aZ C y).fdiv dv := fun y hy => v6 y (by omega)
          refine add r T H6 s6 (fun z => ?_) e6 (by omega) (fun v hv => ?_) (fun _ y hy => ?_)
          · rw [z, e5] at f6; cases f6
          · obtain ⟨y, hy, ey⟩ := List.mem_iff_getElem.mp hv
            have : aZ T y = v := by unfold aZ; rw [List.getElem?_eq_getElem hy, ey]; rfl
            rw [← this, val y (by omega), eVs]
            exact aP2 (cb i hi) (V0 hl y) (V0 hl i) (cb y (by omega))
          · rw [val y hy, c5, p5]
      · intro σ H4 h
        rw [List.length_map, t2] at h
        obtain ⟨us, N, o3, o4, rfl, s4, e4, nD, hN4, lN, rN, vN⟩ := (hPv _ _ _).mp h
        have gC : (C.map V.int)[i]? = some (.int (zz M2 i i)) := by
          rw [c5]
          unfold aZ
          rw [List.getElem?_map, List.getElem?_eq_getElem (by omega)]; rfl
        refine ⟨c, rfl, _, SqL.of (s4 _ _ c3), _, G3 gC, (hI _ _ _).mpr ⟨(S.trans S2).trans s4, D, us, N, B2, _, _, _, _, rfl, SqL.of e4, hN4, ?_, hB2, fun L hL => (rN L hL).2⟩⟩
        exact (E2.step hi LD.top lN (fun L hL => (rN L hL).1) fun x y h1 h2 h3 => vN x y h2 (by omega) h3).1
  · intro σ H1 h
    obtain ⟨S, a', ts', M', B, dv, o2, o3, o4, rfl, hA1, hR1, E, hB, hb1⟩ := (hI _ _ _).mp h
    subst_eqs
    have t1 : ts'.length = n := by rw [hR1.length, E.len]
    refine ⟨_, .inl hA1, by decide, fun p hp => ?_⟩
    rw [List.length_map, tl] at E
    rw [List.length_map, t1]
    exact kk p n dv a' _ (S.trans (d8.new hp _)) d6 (.inl ⟨rfl, E.done⟩)
end
section
variable {P : Program} {w : World} {K : PySem.W.Frag} {mg : Str → Option Value} {base : Heap}
def aD3 : Sp := fun vs H Q _ => ∃ a b : Int, vs = [.int a, .int b] ∧ (a.natAbs < 2 ^ 6000 ∨ b.natAbs < 2 ^ 6000) ∧ Q (.int (Int.gcd a b)) H
abbrev C2 : Stmt := top 11
theorem T4 : m8 ["one", "other"] ["one", "other"] (d7 C2) := by and_intros
theorem ah5 {f : Addr} (d : Df K mg "common_divisor" C2 ["one", "other"] f) (c_SHORT : ∃ t, mg "SHORT" = some (.int 6000 t)) (n_abs : mg "abs" = none) : Def P w K mg base CX0 1 "common_divisor" f ["one", "other"] aD3 := by
  obtain ⟨tS, c_SHORT⟩ := c_SHORT
  refine d.ok (N := ["one", "other"]) T4 (fun vs H Q E ⟨a, b, h, _⟩ => by rw [h]; rfl) (fun cdv A outer s H vs Q E hr h => ?_)
  obtain ⟨a, b, rfl, hab, q⟩ := h
  refine ⟨_, (d5 (F9 (PW.pt (aU8 (p7 ae8 (aI2 PySem.F.plainAttrs_int PySem.F.slot_int_bit_length PySem.F.type_int_bit_length aw1 (pv 1)) (ah4 (v := .int 6000) rfl c_SHORT ⟨_, rfl⟩) (j8 _)) (aL5 (p7 ae8 (aI2 PySem.F.plainAttrs_int PySem.F.slot_int_bit_length PySem.F.type_int_bit_length aw1 (pv 0)) (ah4 (v := .int 6000) rfl c_SHORT ⟨_, rfl⟩) (j8 _))))) (d9 aE0) v7)
      (d5 (ah2 PassesOwn.never (ah1 (pv 1) (fun _ => rfl)) (d9 (ac1 (i := 0) (j := 1) rfl T4.nd rfl rfl (by decide) rfl rfl (b7 (pv 1) (b7 (i6 R8 (pv 0) (pv 1)) b8)) rfl)))
      (d9 (m5 (j2 X9 rfl n_abs (by decide +kernel) (b7 (pv 0) b8)))))), ?_⟩
  rw [show start ["one", "other"] [.int a, .int b] = [some (.int a), some (.int b)] from rfl]
  have hno : ¬ ((6000 : Int) < Builtin.Int.intBits b ∧ (6000 : Int) < Builtin.Int.intBits a) := by
    rintro ⟨h1, h2⟩
    rcases hab with z | z
    · have := P5 z; omega
    · have := P5 z; omega
  have main : ∀ {D : ag1} , (∀ x : Int, ∀ y : Int, y = 0 → Int.gcd x y = Int.gcd a b → D.nx [some (.int x), some (.int y)] H) → ap1 (fun σ H_1 Q => ag3 1 σ H_1 fun x H' => ∃ k, aG4 K x H' k ∧ Q k H')
      (ba4 0 1 (ag4 (ag3 1) (ag4 (tOp (rI (fun x j => j ≠ 0) fun i j => V.int (i.fmod j)) (ag3 0) (ag3 1)) aH0))) D [some (.int a), some (.int b)] H := by
    intro D hD
    refine aC4 (fun σ H1 => H1 = H ∧ ∃ x y : Int, σ = [some (.int x), some (.int y)] ∧ Int.gcd x y = Int.gcd a b) (fun σ _ => match σ with | [_, some (.int y)] => y.natAbs | _ => 0) ⟨rfl, a, b, rfl, rfl⟩ ?_ ?_
    · rintro σ H1 ⟨rfl, x, y, rfl, hg⟩
      simp! [aG4]
      split
      · rename_i hy
        have hy' : y ≠ 0 := by simpa using hy
        exact ⟨hy', by rw [aF0]; exact hg, ac3 x hy'⟩
      · rename_i hy
        have hy' : y = 0 := by simpa using hy
        exact hD x y hy' hg
    · intro σ H1 Q Q' hQ h
      obtain ⟨v, e1, k, e2, e3⟩ := h
      exact ⟨v, e1, k, e2, hQ _ _ e3⟩
  have fin : ∀ x y : Int, y = 0 → Int.gcd x y = Int.gcd a b → Q (.int (if x < 0 then -x else x)) H := fun x y hy hg => by
    subst hy
    have e : (if x < 0 then -x else x) = (Int.gcd a b : Int) := by
      rw [← hg, Int.gcd_zero_right]
      split <;> omega
    rw [e]; exact q
  have nxt : ∀ x y : Int, y = 0 → Int.gcd x y = Int.gcd a b → (ba3 (tCB (fun xs H Q => ∃ i, xs = [V.int i] ∧ Q (V.int (if i < 0 then -i else i)) H) (ag4 (ag3 0) aH0)) { nx := fun x H' => Q V.non H', rt := Q }) [some (.int x), some (.int y)] H := fun x y hy hg => by
    subst_eqs
    exact fin x y hy hg
  subst_eqs
  split
  · split
    · exact hno ⟨‹_›, ‹_›⟩
    · exact main nxt
  · exact main nxt
def Z2 : Sp := fun vs H Q _ => ∃ t b : Int, vs = [.int t, .int b] ∧ b.natAbs < 2 ^ 6000 ∧ b ≠ 0 ∧ aK8 H Q (Rat.divInt t b)
abbrev L7 : Stmt := top 12
theorem ab7 : m8 ["top", "bottom", "shared"] ["top", "bottom"] (d7 L7) := by and_intros
theorem aE3 {f fc : Addr} (d : Df K mg "fraction" L7 ["top", "bottom"] f) (G_common_divisor : Def P w K mg base CX0 1 "common_divisor" fc ["one", "other"] aD3) : Def P w K mg base CX0 2 "fraction" f ["top", "bottom"] Z2 := by
  refine d.ok (N := ["top", "bottom", "shared"]) ab7 (by rintro vs H Q E ⟨a, b, h, _⟩; rw [h]; rfl) (fun cdv A outer s H vs Q E hr h => ?_)
  obtain ⟨t, b, rfl, hb, h0, q⟩ := h
  refine ⟨_, (d5 (F9 (p7 T0 (pv 1) b9 (j8 _)) (d9 aE0) v7)
      (d5 (i8 (i := 2) ab7.nd rfl (Or.inl rfl) (i3 G_common_divisor hr (b7 (pv 0) (b7 (pv 1) b8)) j3))
      (d5 (F9 (p7 R6 (pv 1) b9 (j8 _)) (d9 (i8 (i := 2) ab7.nd rfl (Or.inl rfl) (aa9 Q8 (pv 2)))) v7)
      (d9 (m5 (q8 (b7 (i6 J1 (pv 0) (pv 2)) (b7 (i6 J1 (pv 1) (pv 2)) b8)))))))), ?_⟩
  rw [show start ["top", "bottom", "shared"] [.int t, .int b] = [some (.int t), some (.int b), none] from rfl]
  simp! [aT9, aD3]
  rw [if_neg h0]
  refine ⟨.inr hb, ?_⟩
  have hg := aa2 (t := t) h0
  have hgl := aJ7 (a := t) h0 hb
  by_cases hs : b < 0
  · rw [if_pos hs]
    obtain ⟨e1, e2⟩ := aj9 (t := t) (g := -(Int.gcd t b : Int)) h0 (by rw [if_pos hs])
    have dv : ∀ i, at6 i (-(Int.gcd t b : Int)) := fun i => ab1 (by omega) (by rw [Int.natAbs_neg]; exact T9 hgl)
    refine ⟨dv _, dv _, v3, fun r hr' => ?_⟩
    exact q r _ (d8.new hr' _) (by rw [d6]; unfold B7; rw [e1, e2])
  · rw [if_neg hs]
    obtain ⟨e1, e2⟩ := aj9 (t := t) (g := (Int.gcd t b : Int)) h0 (by rw [if_neg hs])
    have dv : ∀ i, at6 i ((Int.gcd t b : Int)) := fun i => ab1 (by omega) (T9 hgl)
    refine ⟨dv _, dv _, v3, fun r hr' => ?_⟩
    exact q r _ (d8.new hr' _) (by rw [d6]; unfold B7; rw [e1, e2])
end
instance {K : PySem.W.Frag} {H : Hp} {vs : List V} {qs : List Rat} : Coe (z9 H vs qs) (C4 K H vs qs) := ⟨z9.toC⟩
theorem C4.get {K : PySem.W.Frag} {H : Hp} : ∀ {vs : List V} {qs : List Rat} {i : Nat} {q : Rat}, C4 K H vs qs → qs[i]? = some q → ∃ p, vs[i]? = some (.ref p) ∧ NmC K H p q
  | _, _, _, _, .nil, e => by simp at e
  | _, _, 0, _, .cons h _, e => by cases e; exact ⟨_, rfl, h⟩
  | _, _, i + 1, _, .cons _ t, e => t.get (i := i) (by simpa using e)
theorem C4.take {K : PySem.W.Frag} {H : Hp} : ∀ {vs : List V} {qs : List Rat} (m : Nat), C4 K H vs qs → C4 K H (vs.take m) (qs.take m)
  | _, _, 0, _ => by simp only [List.take_zero]; exact .nil
  | _, _, m + 1, .nil => by simp only [List.take_nil]; exact .nil
  | _, _, m + 1, .cons h t => by simp only [List.take_succ_cons]; exact .cons h (t.take m)
section
variable {P : Program} {w : World} {K : PySem.W.Frag} {mg : Str → Option Value} {base : Heap}
def ai9 (K : PySem.W.Frag) : Sp := fun vs H Q _ => ∃ a ws, vs = [.ref a] ∧ SqL K H a (ws.map V.int) ∧ (∀ w ∈ ws, Int.natAbs w < 2 ^ 6000) ∧ Q (.int (G0 ws)) H
abbrev G7 : Stmt := top 14
theorem P8 : m8 ["wholes", "content", "whole"] ["wholes"] (d7 G7) := by and_intros
set_option maxHeartbeats 0 in
theorem au2 {f fc : Addr} (d : Df K mg "content_of" G7 ["wholes"] f) (G_common_divisor : Def P w K mg base CX0 1 "common_divisor" fc ["one", "other"] aD3) : Def P w K mg base CX0 2 "content_of" f ["wholes"] (ai9 K) := by
  refine d.ok (N := ["wholes", "content", "whole"]) P8 (by rintro vs H Q E ⟨a, b, h, _⟩; rw [h]; rfl) (fun cdv A outer s H vs Q E hr h => ?_)
  obtain ⟨a, ws, rfl, hS, hb, k⟩ := h
  refine ⟨_, (d5 (i8 (i := 1) P8.nd rfl (Or.inl rfl) b9)
      (d5 (P2 PassesOwn.never rfl (K1 (pv 0)) (i7 (i := 2) P8.nd rfl (Or.inl rfl)) (d5 (i8 (i := 1) P8.nd rfl (Or.inl rfl) (i3 G_common_divisor hr (b7 (pv 2) (b7 (pv 1) b8)) j3))
      (d9 (F9 (p7 T0 (pv 1) b9 (j8 _)) (d9 (m5 b9)) v7))))
      (d9 (m5 (pv 1))))), ?_⟩
  rw [show start ["wholes", "content", "whole"] [.ref a] = [some (.ref a), none, none] from rfl]
  subst_eqs
  refine ⟨_, rfl, a, rfl, ⟨_, hS⟩, ai0 (xs := ws.map V.int) (fun i σ H1 => H1 = H ∧ ∃ o, σ = [some (.ref a), some (.int (G0 (ws.take i) : Nat)), o]) ⟨rfl, _, rfl⟩ (fun i σ H1 _ ⟨e, _⟩ => e ▸ hS) ?_ ?_⟩
  · rintro i x σ H1 hx ⟨rfl, o, rfl⟩
    rw [List.getElem?_map] at hx
    cases hw : ws[i]? with
    | none => rw [hw] at hx; cases hx
    | some v =>
      rw [hw] at hx
      cases hx
      have hm := List.mem_of_getElem? hw
      simp! [aD3]
      have es : ws.take (i + 1) = ws.take i ++ [v] := by rw [List.take_succ, hw]; rfl
      have eg : Int.gcd v (G0 (ws.take i) : Int) = G0 (ws.take (i + 1)) := by rw [es, aR1]
      refine ⟨.inl (Nat.lt_of_lt_of_le (hb v hm) (i5 (by decide))), ?_⟩
      rw [eg]
      refine ⟨rfl, G4 (fun h1 => ?_) (fun _ => ?_)⟩
      · have : G0 (ws.take (i + 1)) = 1 := by omega
        have e1 := aX6 _ this
        rw [e1] at k
        exact k
      · exact ⟨rfl, _, rfl⟩
  · rintro σ H1 ⟨rfl, o, rfl⟩
    rw [List.length_map, List.take_length]
    exact ⟨_, rfl, k⟩
def R9 (K : PySem.W.Frag) : Sp := fun vs H Q _ => ∃ a xs qs, vs = [.ref a] ∧ SqL K H a xs ∧ C4 K H xs qs ∧ (∃ W : Nat, ClN W qs ∧ W ≤ 6000) ∧ qs.length ≤ 100 ∧
  ∀ r l H', d8 H H' → H l = none → H' r = some (.tup [.ref l, .int (i9 qs)]) → H' l = some (.lst ((j1 (i9 qs) qs).map V.int)) → Q (.ref r) H'
abbrev M6 : Stmt := top 15
theorem Z4 : m8 ["numbers", "bottom", "number"] ["numbers"] (d7 M6) := by and_intros
set_option maxHeartbeats 0 in
theorem aI6 {f fc : Addr} (d : Df K mg "cleared" M6 ["numbers"] f) (G_common_divisor : Def P w K mg base CX0 1 "common_divisor" fc ["one", "other"] aD3) : Def P w K mg base CX0 2 "cleared" f ["numbers"] (R9 K) := by
  refine d.ok (N := ["numbers", "bottom", "number"]) Z4 (by rintro vs H Q E ⟨a, b, c, h, _⟩; rw [h]; rfl) (fun cdv A outer s H vs Q E hr h => ?_)
  obtain ⟨a, xs, qs, rfl, hS, hN, ⟨W, hs, hm⟩, hl, k⟩ := h
  refine ⟨_, (d5 (i8 (i := 1) Z4.nd rfl (Or.inr rfl) b9)
      (d5 (P2 PassesOwn.never rfl (K1 (pv 0)) (i7 (i := 2) Z4.nd rfl (Or.inl rfl)) (d9 (i8 (i := 1) Z4.nd rfl (Or.inr rfl) (i6 C5 (i6 J1 (pv 1) (i3 G_common_divisor hr (b7 (pv 1) (b7 (t9 y7 (pv 2) b9 (fun _ _ => rfl)) b8)) j3)) (t9 y7 (pv 2) b9 (fun _ _ => rfl))))))
      (d9 (m5 (q8 (b7 (O6 (Nc := ["bottom", "top", "under"]) (caps := [some 1, none, none]) rfl (aa8.of (osc := d7 M6) (N := ["numbers", "bottom", "number"]) (ks := ["bottom"]) rfl rfl rfl rfl (w8 rfl D8) (by decide +kernel)) (K1 (pv 0)) (fun C s₂ H₂ fp pins => (show PG _ _ (ae1 K 2 (D7 (D3 1) (D7 (D3 2) ae2))) from by (refine P4 (n := 2) ?_ ?_ ?_ ?_; rfl; (refine u0 ?_ ?_ ?_; (exact (i7 (i := 1) (show List.Nodup (["bottom", "top", "under"] : List Str) by decide +kernel) rfl (Or.inl rfl) (Or.inr rfl))); (refine u0 ?_ ?_ ?_; (exact (i7 (i := 2) (show List.Nodup (["bottom", "top", "under"] : List Str) by decide +kernel) rfl (Or.inl rfl) (Or.inr rfl))); (exact K2); rfl); rfl); rfl; rfl))) (fun C s₂ H₂ fp pins => (i6 C5 (pv 1) (i6 J1 (pv 0) (pv 2))))) (b7 (pv 1) b8))))))), ?_⟩
  rw [show start ["numbers", "bottom", "number"] [.ref a] = [some (.ref a), none, none] from rfl]
  subst_eqs
  have small : ∀ q ∈ qs, q.den < 2 ^ 6000 := fun q hq => Nat.lt_of_lt_of_le (hs.den hq) (i5 hm)
  have hB : ∀ i, 0 < i9 (qs.take i) ∧ i9 (qs.take i) < 2 ^ 6000 := fun i => by
    exact ⟨B9 _, Nat.lt_of_lt_of_le (hs.take i) (i5 hm)⟩
  refine ⟨_, rfl, a, rfl, ⟨_, hS⟩, ai0 (xs := xs) (fun i σ H1 => H1 = H ∧ ∃ o, σ = [some (.ref a), some (.int (i9 (qs.take i) : Nat)), o]) ⟨rfl, _, rfl⟩ (fun i σ H1 _ ⟨e, _⟩ => e ▸ hS) ?_ ?_⟩
  · rintro i x σ H1 hx ⟨rfl, o, rfl⟩
    obtain ⟨p, q, rfl, hq, hp⟩ := hN.getV hx
    obtain ⟨b1, b2⟩ := hB i
    have hd := small q (List.mem_of_getElem? hq)
    have hd0 := M8 q
    have es : qs.take (i + 1) = qs.take i ++ [q] := by rw [List.take_succ, hq]; rfl
    have gp : (0 : Int) < (Int.gcd (i9 (qs.take i) : Int) (q.den : Int) : Nat) := by
      have := aa2 (t := (i9 (qs.take i) : Int)) (b := (q.den : Int)) (by omega); omega
    have el : (i9 (qs.take i) : Int).fdiv (Int.gcd (i9 (qs.take i) : Int) (q.den : Int) : Nat) * (q.den : Int) = (i9 (qs.take (i + 1)) : Nat) := by
      rw [es, aQ6]
      obtain ⟨e, he⟩ := Int.gcd_dvd_left (i9 (qs.take i) : Int) (q.den : Int)
      have hg : Int.gcd (i9 (qs.take i) : Int) (q.den : Int) = Nat.gcd (i9 (qs.take i)) q.den := by simp [Int.gcd]
      have h1 : (i9 (qs.take i) : Int).fdiv (Int.gcd (i9 (qs.take i) : Int) (q.den : Int) : Nat) = e := by
        conv => lhs; arg 1; rw [he]
        exact o8 (by omega)
      rw [h1]
      have h2 : Nat.gcd (i9 (qs.take i)) q.den * Nat.lcm (i9 (qs.take i)) q.den = i9 (qs.take i) * q.den := Nat.gcd_mul_lcm _ _
      have h3 : ((Nat.gcd (i9 (qs.take i)) q.den : Nat) : Int) * (Nat.lcm (i9 (qs.take i)) q.den : Nat) = (i9 (qs.take i) : Int) * (q.den : Int) := by
        rw [← Int.natCast_mul, h2, Int.natCast_mul]
      rw [← hg] at h3
      have h4 : ((Int.gcd (i9 (qs.take i) : Int) (q.den : Int) : Nat) : Int) * (e * q.den) = ((Int.gcd (i9 (qs.take i) : Int) (q.den : Int) : Nat) : Int) * (Nat.lcm (i9 (qs.take i)) q.den : Nat) := by
        rw [h3, ← Int.mul_assoc, ← he]
      exact Int.eq_of_mul_eq_mul_left (by omega) h4
    simp! [aD3]
    have hd9 : (q.den : Int).natAbs < 2 ^ 6000 := by rw [Int.natAbs_natCast]; exact hd
    exact ⟨_, hp.sqt, _, at1 q, _, rfl, .inr (T9 hd9), ab1 (by omega) (aJ7 (by omega) (T9 hd9)), _, hp.sqt, _, at1 q, _, rfl, W4 (m := 6000) (n := 6000) (Nat.lt_of_le_of_lt (aB3 (by omega) (Int.gcd_dvd_left _ _)) (by rw [Int.natAbs_natCast]; exact b2)) hd9, el, _, rfl⟩
  · rintro σ H1 ⟨rfl, o, rfl⟩
    rw [← hN.length] at hl
    have e1 : qs.take xs.length = qs := by rw [hN.length, List.take_length]
    rw [e1]
    simp! [aD3]
    refine ⟨⟨_, hS⟩, fun D hD => ?_⟩
    refine U7 xs (fun i σ H2 => ∃ o1 o2, σ = [some (.int (i9 qs)), o1, o2] ∧ d8 H1 H2 ∧ H2 D = some (.lst ((j1 (i9 qs) (qs.take i)).map V.int))) ⟨_, _, rfl, d8.new hD _, d6⟩ (fun i σ H2 _ ⟨_, _, _, s2, _⟩ => s2.seq hS) ?_ ?_
    · rintro i x σ H2 hx ⟨o1, o2, rfl, s2, e2⟩
      have hi := (List.getElem?_eq_some_iff.mp hx).1
      obtain ⟨p, q, rfl, hq, hp⟩ := hN.getV hx
      have hd := small q (List.mem_of_getElem? hq)
      have hd0 := M8 q
      have hd9 : (q.den : Int).natAbs < 2 ^ 6000 := by rw [Int.natAbs_natCast]; exact hd
      have hn9 := hs.num (List.mem_of_getElem? hq)
      have es : qs.take (i + 1) = qs.take i ++ [q] := by rw [List.take_succ, hq]; rfl
      subst_eqs
      refine ⟨_, s2.tup hp.sqt, rfl, _, _, rfl, _, _, rfl, rfl, ?_⟩
      refine ⟨_, rfl, ab1 (by omega) (T9 hd9), _, rfl, W4 (m := 6000) (n := 6000) (Nat.lt_of_lt_of_le hn9 (i5 (by omega))) (Nat.lt_of_le_of_lt (aB3 (by omega) (Int.natCast_dvd_natCast.mpr (K8 (List.mem_of_getElem? hq)))) (by rw [Int.natAbs_natCast]; have := (hB qs.length).2; rwa [List.take_length] at this)), ?_⟩
      refine G6.mk hi e2 ?_ ⟨_, _, rfl, (s2.trans (d8.refl _)).over hD _, ?_⟩
      · simp only [List.length_map, j1, List.length_take]
        exact Nat.lt_of_le_of_lt (show _ ≤ 100 by omega) (by decide)
      · rw [d6, es]
        simp [j1]
    · rintro σ H2 ⟨o1, o2, rfl, s2, e2⟩
      rw [e1] at e2
      refine ⟨v3, fun p hp => k p D _ (s2.trans (d8.new hp _)) hD d6 ?_⟩
      rw [j5 (m9 e2 hp)]; exact e2
end
def O0 (s : Nat → Rat) : Nat → Rat
  | 0 => 1
  | n + 1 => O0 s n * s n
theorem N9 (s : Nat → Rat) : ∀ n, O0 s (n + 1) = s 0 * O0 (fun i => s (i + 1)) n
  | 0 => by show 1 * s 0 = s 0 * 1; grind
  | n + 1 => by
    show O0 s (n + 1) * s (n + 1) = s 0 * (O0 (fun i => s (i + 1)) n * s (n + 1))
    rw [N9 s n]; grind
theorem ah3 {s t : Nat → Rat} : ∀ {n}, (∀ i, i < n → s i = t i) → O0 s n = O0 t n
  | 0, _ => rfl
  | n + 1, h => by
    show O0 s n * s n = O0 t n * t n
    rw [ah3 fun i hi => h i (by omega), h n (by omega)]
theorem ak9 (s : Nat → Rat) : ∀ (n i : Nat), i ≤ n → O0 s (n + 1) = s i * O0 (fun r => s (if r < i then r else r + 1)) n
  | n, 0, _ => by
    rw [N9]
    congr 1
  | 0, i + 1, h => by omega
  | n + 1, i + 1, h => by
    rw [N9, ak9 (fun r => s (r + 1)) n i (by omega)]
    rw [N9 (fun r => s (if r < i + 1 then r else r + 1)) n, if_pos (by omega)]
    rw [ah3 (s := fun r => s (if r + 1 < i + 1 then r + 1 else r + 1 + 1)) (t := fun r => s ((if r < i then r else r + 1) + 1)) fun r _ => by
      congr 1
      by_cases z : r < i
      · rw [if_pos z, if_pos (by omega)]
      · rw [if_neg z, if_neg (by omega)]]
    grind
theorem aF6 : ∀ (n : Nat) (s : Nat → Rat) (B : Mt), dt n (fun r c => s r * B r c) = O0 s n * dt n B
  | 0, _, _ => by show (1 : Rat) = 1 * 1; grind
  | n + 1, s, B => by
    rw [D6, D6, V9]
    refine v5 fun i hi => ?_
    have e : mn (fun r c => s r * B r c) i = fun r c => (fun r => s (if r < i then r else r + 1)) r * mn B i r c := rfl
    rw [e, aF6 n, ak9 s n i (by omega)]
    grind
def Sc (W : Nat) (B : Mt) : Prop := ∃ b : Nat → Int, ∀ r, 0 < b r ∧ (b r).natAbs < 2 ^ W ∧ ∀ c, ∃ z : Int, ((b r : Int) : Rat) * B r c = (z : Rat) ∧ z.natAbs < 2 ^ W
def qq (M : List (List Rat)) (i j : Nat) : Rat := aQ ((M[i]?).getD []) j
structure Ld (W n : Nat) (A B : Mt) (sg : Rat) (k : Nat) (M : List (List Rat)) (fd : Rat) : Prop where
  len : M.length = n
  row : ∀ L ∈ M, L.length = n
  ent : ∀ i j, k ≤ i → i < n → k ≤ j → j < n → qq M i j * dt k B = mi B k i j
  zer : ∀ i j, k ≤ i → i < n → j < k → qq M i j = 0
  sc : Sc W B
  sgn : sg = 1 ∨ sg = -1
  det : dt n A = sg * dt n B
  led : ∀ m, 1 ≤ m → m ≤ k → dt m B ≠ 0
  fnd : fd = sg * dt k B
section
variable {P : Program} {w : World} {K : PySem.W.Frag} {mg : Str → Option Value} {base : Heap}
def bpN : List (List Rat) → Nat
  | [] => 1
  | L :: Ls => i9 L * bpN Ls
theorem aZ0 (X : List (List Rat)) (L : List Rat) : bpN (X ++ [L]) = bpN X * i9 L := by
  induction X with
  | nil => show i9 L * 1 = 1 * i9 L; omega
  | cons Y Ys ih => show i9 Y * bpN (Ys ++ [L]) = i9 Y * bpN Ys * i9 L; rw [ih, Nat.mul_assoc]
theorem aN8 : ∀ X : List (List Rat), 0 < bpN X
  | [] => Nat.one_pos
  | L :: Ls => Nat.mul_pos (B9 L) (aN8 Ls)
theorem aK5 {W : Nat} : ∀ {X : List (List Rat)}, (∀ L ∈ X, ClN W L) → bpN X ≤ 2 ^ (W * X.length)
  | [], _ => by show 1 ≤ _; exact Nat.one_le_two_pow
  | L :: Ls, h => by
    show i9 L * bpN Ls ≤ 2 ^ (W * (Ls.length + 1))
    rw [Nat.mul_succ, Nat.add_comm, Nat.pow_add]
    exact Nat.mul_le_mul (Nat.le_of_lt (h L List.mem_cons_self).l) (aK5 fun L' h' => h L' (List.mem_cons_of_mem _ h'))
theorem aG3 : ∀ X : List (List Rat), O0 (fun r => ((i9 ((X[r]?).getD []) : Nat) : Rat)) X.length = ((bpN X : Nat) : Rat)
  | [] => rfl
  | L :: Ls => by
    rw [List.length_cons, N9]
    have := aG3 Ls
    show ((i9 L : Nat) : Rat) * O0 (fun r => ((i9 ((Ls[r]?).getD []) : Nat) : Rat)) Ls.length = ((i9 L * bpN Ls : Nat) : Rat)
    rw [this, Rat.natCast_mul]
def ao9 (M : List (List Rat)) : List (List Int) := M.map fun L => j1 (i9 L) L
theorem aY1 {n : Nat} {M : List (List Rat)} (ln : M.length = n) (lm : ∀ L ∈ M, L.length = n) : dt n (mZ (ao9 M)) = ((bpN M : Nat) : Rat) * dt n (qq M) := by
  rw [← aG3, ln, ← aF6]
  refine K5 fun r hr c hc => ?_
  have e := List.getElem?_eq_getElem (l := M) (i := r) (by omega)
  generalize M[r]'(by omega) = L at e
  have lL := lm L (List.mem_of_getElem? e)
  unfold mZ zz qq ao9
  rw [List.getElem?_map, e]
  show ((aZ (j1 (i9 L) L) c : Int) : Rat) = ((i9 L : Nat) : Rat) * aQ L c
  have ec := List.getElem?_eq_getElem (l := L) (i := c) (by omega)
  generalize L[c]'(by omega) = q at ec
  have we := ao7 (B9 L) (K8 (List.mem_of_getElem? ec))
  unfold aZ aQ j1
  rw [List.getElem?_map, ec]
  show ((q.num * ((i9 L : Nat) : Int).fdiv (q.den : Int) : Int) : Rat) = ((i9 L : Nat) : Rat) * q
  generalize q.num * ((i9 L : Nat) : Int).fdiv (q.den : Int) = z at *
  have l0 : (((i9 L : Nat) : Int) : Rat) ≠ 0 := fun y => by
    have : ((i9 L : Nat) : Int) = 0 := Rat.intCast_inj.mp y
    have := B9 L
    omega
  rw [we, Rat.divInt_eq_div]
  show _ = (((i9 L : Nat) : Int) : Rat) * _
  rw [Rat.mul_comm, Rat.div_mul_cancel l0]
def aH4 (K : PySem.W.Frag) : Sp := fun vs H Q _ => ∃ (a : Addr) (ts : List Addr) (M : List (List Rat)) (n W : Nat), vs = [.ref a] ∧ SqL K H a (ts.map V.ref) ∧ V7 K H ts M ∧ M.length = n ∧ (∀ L ∈ M, L.length = n ∧ ClN W L) ∧ n ≤ 15 ∧ eV W n n + eU W n ≤ 5900 ∧
  ∀ r H', d8 H H' → NmC K H' r (dt n (qq M)) → Q (.ref r) H'
abbrev E7 : Stmt := top 21
theorem x8 : m8 ["table", "rows", "bottom", "row", "many", "divisor", "wholes", "row_bottom"] ["table"] (d7 E7) := by and_intros
set_option maxHeartbeats 0 in
theorem aq7 {f f1 f2 f3 aN : Addr} (d : Df K mg "determinant" E7 ["table"] f) (G_cleared : Def P w K mg base CX0 2 "cleared" f1 ["numbers"] (R9 K)) (G_eliminated : Def P w K mg base CX0 2 "eliminated" f2 ["rows"] (ay8 K)) (G_fraction : Def P w K mg base CX0 2 "fraction" f3 ["top", "bottom"] Z2) (c_NOUGHT : mg "NOUGHT" = some (.ref aN)) (tN : ∀ H, SqT K H aN (B7 0)) (n_len : mg "len" = none) : Def P w K mg base CX0 3 "determinant" f ["table"] (aH4 K) := by
  refine d.ok (N := ["table", "rows", "bottom", "row", "many", "divisor", "wholes", "row_bottom"]) x8 (by rintro vs H Q E ⟨_, _, _, _, _, h, _⟩; rw [h]; rfl) (fun cdv A outer s H vs Q E hr h => ?_)
  obtain ⟨a, ts, M, n, W, rfl, hA, hR, ln, lm, n15, hV, kk⟩ := h
  subst ln
  refine ⟨_, (d5 (i8 (i := 1) x8.nd rfl (Or.inl rfl) (D0 b8))
      (d5 (i8 (i := 2) x8.nd rfl (Or.inl rfl) b9)
      (d5 (P2 PassesOwn.never rfl (K1 (pv 0)) (i7 (i := 3) x8.nd rfl (Or.inl rfl)) (d5 (Z8 (i3 G_cleared hr (b7 (pv 3) b8) j3) (show PG _ _ (ae1 K 2 (D7 (D3 6) (D7 (D3 7) ae2))) from by (refine P4 (n := 2) ?_ ?_ ?_ ?_; rfl; (refine u0 ?_ ?_ ?_; (exact (i7 (i := 6) x8.nd rfl (Or.inl rfl))); (refine u0 ?_ ?_ ?_; (exact (i7 (i := 7) x8.nd rfl (Or.inl rfl))); (exact K2); rfl); rfl); rfl; rfl)))
      (d5 (ao2 (aV7 PySem.F.plainAttrs_list PySem.F.slot_list_append PySem.F.type_list_append S7 (pv 1) (b7 (pv 6) b8)))
      (d9 (bi3 (i := 2) x8.nd rfl (Or.inl rfl) (pv 7) bl1)))))
      (d5 (Z8 (i3 G_eliminated hr (b7 (pv 1) b8) j3) (show PG _ _ (ae1 K 3 (D7 (D3 4) (D7 (D3 5) (D7 (D3 1) ae2)))) from by (refine P4 (n := 3) ?_ ?_ ?_ ?_; rfl; (refine u0 ?_ ?_ ?_; (exact (i7 (i := 4) x8.nd rfl (Or.inl rfl))); (refine u0 ?_ ?_ ?_; (exact (i7 (i := 5) x8.nd rfl (Or.inl rfl))); (refine u0 ?_ ?_ ?_; (exact (i7 (i := 1) x8.nd rfl (Or.inl rfl))); (exact K2); rfl); rfl); rfl); rfl; rfl)))
      (d9 (m5 (W3 (p7 T0 (pv 4) (j2 j0 rfl n_len (by decide +kernel) (b7 (pv 0) b8)) (j8 _)) (i3 G_fraction hr (b7 (pv 5) (b7 (pv 2) b8)) j3) (ah4 (v := .ref _) rfl c_NOUGHT rfl)))))))), ?_⟩
  rw [show start ["table", "rows", "bottom", "row", "many", "divisor", "wholes", "row_bottom"] [.ref a] = [some (.ref a), none, none, none, none, none, none, none] from rfl]
  simp! [R9, ay8, Z2]
  have tl : ts.length = M.length := hR.length
  have W5 : W ≤ 5900 := by
    have : W ≤ eV W M.length M.length := Nat.le_add_right _ _
    omega
  have Wn : W * M.length ≤ 5900 := by
    have : W * M.length ≤ eU W M.length := Nat.le_trans (Nat.mul_le_mul_right _ (Nat.le_add_right _ _)) (Nat.le_add_right _ _)
    omega
  refine ⟨by decide, fun l hl => ?_⟩
  obtain ⟨I, hI⟩ : ∃ I : Nat → L2.St → Hp → Prop, ∀ i σ H1, I i σ H1 ↔ d8 H H1 ∧ ∃ (us : List Addr) (o3 o4 o5 o6 o7 : Option V), σ = [some (.ref a), some (.ref l), some (.int (bpN (M.take i) : Nat)), o3, o4, o5, o6, o7] ∧ H1 l = some (.lst (us.map V.ref)) ∧ l ∉ us ∧ RwZ H1 us (ao9 (M.take i)) := ⟨_, fun _ _ _ => Iff.rfl⟩
  refine ⟨_, rfl, a, rfl, ⟨_, (d8.new hl _).seq hA⟩, ai0 (xs := ts.map V.ref) I ((hI _ _ _).mpr ⟨d8.new hl _, [], _, _, _, _, _, rfl, d6, by simp, .nil⟩) (fun i σ H1 _ h => ((hI _ _ _).mp h).1.seq hA) ?_ ?_⟩
  · rintro i x σ H1 hx h
    obtain ⟨S, us, o3, o4, o5, o6, o7, rfl, el, nl, hU⟩ := (hI _ _ _).mp h
    obtain ⟨p, hp, rfl⟩ := ap8 hx
    obtain ⟨xs, L, e1, e2, e3⟩ := hR.get hp
    have hm := List.mem_of_getElem? e1
    have hi : i < M.length := (List.getElem?_eq_some_iff.mp e1).1
    obtain ⟨lL, cL⟩ := lm L hm
    simp! [R9]
    have eh : H1 p = some (.lst xs) := S _ _ e2
    refine ⟨_, SqL.of eh, L, e3.mono S.tups, ⟨W, cL, by omega⟩, by omega, fun r l1 H2 s2 f1 er el1 => ?_⟩
    have el2 := s2 _ _ el
    have nll : l ≠ l1 := fun z => by rw [z, f1] at el; cases el
    refine ⟨_, SqT.of er, rfl, _, _, rfl, _, _, rfl, rfl, .inl ⟨_, SqL.of el2⟩, _, el2, ?_, _, rfl, ?_, ?_⟩
    · rw [List.length_map, hU.length, ao9, List.length_map, List.length_take]
      exact Nat.lt_of_lt_of_le (show _ < 100 by omega) (by decide)
    · refine W4 (m := W * 15 + 1) (n := W) ?_ ?_ ?_
      · have b1 := aK5 (W := W) (X := M.take i) fun L' h' => (lm L' (List.mem_of_mem_take h')).2
        rw [List.length_take] at b1
        rw [Int.natAbs_natCast]
        refine Nat.lt_of_le_of_lt (Nat.le_trans b1 (Nat.pow_le_pow_right (by decide) (Nat.mul_le_mul_left W (show _ ≤ 15 by omega)))) ?_
        rw [Nat.pow_succ]
        have := Nat.two_pow_pos (W * 15)
        omega
      · rw [Int.natAbs_natCast]; exact cL.l
      · omega
    · have tk := B4 e1
      refine (hI _ _ _).mpr ⟨(S.trans s2).over hl _, us ++ [l1], some (.ref p), o4, o5, some (.ref l1), some (.int (i9 L : Nat)), ?_, ?_, ?_, ?_⟩
      · rw [tk, aZ0, Int.natCast_mul]
      · rw [d6, List.map_append]; rfl
      · intro z
        rcases List.mem_append.mp z with z | z
        · exact nl z
        · exact nll (List.mem_singleton.mp z)
      · rw [tk]
        unfold ao9
        rw [List.map_append]
        refine RwZ.over ?_ ((hU.same s2).append (.cons el1 .nil))
        intro z
        rcases List.mem_append.mp z with z | z
        · exact nl z
        · exact nll (List.mem_singleton.mp z)
  · rintro σ H1 h
    obtain ⟨S, us, o3, o4, o5, o6, o7, rfl, el, nl, hU⟩ := (hI _ _ _).mp h
    rw [List.length_map, tl, List.take_length] at *
    simp! [ay8, Z2]
    have lw : (ao9 M).length = M.length := List.length_map _
    refine ⟨us, SqL.of el, ao9 M, hU, ?_, W, ?_, by omega, by rw [lw]; omega, fun r mn dv b H2 s2 er alt => ?_⟩
    · intro L' h'
      obtain ⟨L, hL, rfl⟩ := List.mem_map.mp h'
      rw [lw, j1, List.length_map]; exact (lm L hL).1
    · intro L' h' v hv
      obtain ⟨L, hL, rfl⟩ := List.mem_map.mp h'
      exact (lm L hL).2.w v hv
    rw [lw, aY1 rfl fun L hL => (lm L hL).1] at alt
    have bp := aN8 M
    have b0 : (((bpN M : Nat) : Int) : Rat) ≠ 0 := fun y => by
      have : ((bpN M : Nat) : Int) = 0 := Rat.intCast_inj.mp y
      omega
    refine ⟨_, SqT.of er, rfl, _, _, rfl, _, _, rfl, _, _, rfl, rfl, _, .inl ((S.trans s2).seq hA), rfl, ?_⟩
    rw [List.length_map, hR.length]
    rcases alt with ⟨em, ed⟩ | ⟨em, ed⟩
    · rw [if_pos (by rw [em])]
      refine ⟨_, rfl, ?_, by omega, fun r3 H3 s3 e3 => kk r3 H3 ((S.trans s2).trans s3) (.inl ?_)⟩
      · rw [Int.natAbs_natCast]
        have := aK5 (W := W) fun L hL => (lm L hL).2
        exact Nat.lt_of_le_of_lt this (Nat.lt_of_le_of_lt (Nat.pow_le_pow_right (by decide) Wn) (Nat.pow_lt_pow_right (by decide) (by decide)))
      · rw [e3, Rat.divInt_eq_div, ed]
        show some (HO.tup (B7 ((((bpN M : Nat) : Int) : Rat) * _ / _))) = _
        rw [Rat.mul_comm, Rat.mul_div_cancel b0]
    · rw [if_neg (fun z => em (by have := V.int.inj z; omega))]
      refine kk aN H2 (S.trans s2) (.inr ?_)
      rcases Rat.mul_eq_zero.mp ed with z | z
      · exact absurd z b0
      · rw [z]; exact tN
end
section
variable {P : Program} {w : World} {K : PySem.W.Frag} {mg : Str → Option Value} {base : Heap}
def atQ (qs : List Rat) (k : Int) : Rat := if 0 ≤ k then aQ qs k.toNat else 0
def N0 (qs : List Rat) (n i : Nat) : List Rat := (List.range n).map fun (c : Nat) => atQ qs ((n : Int) - 1 - 2 * (c : Int) + (i : Int))
def P1 (qs : List Rat) (n : Nat) : List (List Rat) := (List.range n).map (N0 qs n)
def am7 (K : PySem.W.Frag) : Sp := fun vs H Q _ => ∃ (a : Addr) (xs : List V) (qs : List Rat) (k : Int), vs = [.ref a, .int k] ∧ SqL K H a xs ∧ C4 K H xs qs ∧ ∀ r, NmC K H r (atQ qs k) → Q (.ref r) H
abbrev J6 : Stmt := top 23
theorem az0 : m8 ["p", "power"] ["p", "power"] (d7 J6) := by and_intros
set_option maxHeartbeats 0 in
theorem aA1 {f aN : Addr} (d : Df K mg "number_at" J6 ["p", "power"] f) (c_NOUGHT : mg "NOUGHT" = some (.ref aN)) (tN : ∀ H, SqT K H aN (B7 0)) (n_len : mg "len" = none) : Def P w K mg base CX0 1 "number_at" f ["p", "power"] (am7 K) := by
  refine d.ok (N := ["p", "power"]) az0 (by rintro vs H Q E ⟨_, _, _, _, h, _⟩; rw [h]; rfl) (fun cdv A outer s H vs Q E hr h => ?_)
  obtain ⟨a, xs, qs, k, rfl, hA, hN, kk⟩ := h
  refine ⟨_, (d9 (m5 (W3 (aU9 aL8 R6 b9 (pv 1) (j2 j0 rfl n_len (by decide +kernel) (b7 (pv 0) b8))) (t9 v8 (pv 0) (pv 1) (fun _ _ => rfl)) (ah4 (v := .ref _) rfl c_NOUGHT rfl)))), ?_⟩
  rw [show start ["p", "power"] [.ref a, .int k] = [some (.ref a), some (.int k)] from rfl]
  subst_eqs
  have lx := hN.length
  refine G4 (fun h1 => ⟨xs, .inl hA, G4 (fun h2 => ?_) (fun h2 => ?_)⟩) (fun h1 => kk aN (.inr ?_))
  · obtain ⟨j, rfl⟩ : ∃ j : Nat, k = (j : Int) := ⟨k.toNat, by omega⟩
    have hj : j < qs.length := by omega
    have e := List.getElem?_eq_getElem hj
    obtain ⟨p, e1, e2⟩ := hN.get e
    refine ⟨xs, hA, _, G3 e1, kk p ?_⟩
    have : atQ qs (j : Int) = qs[j] := by
      unfold atQ aQ
      rw [if_pos (by omega), Int.toNat_natCast, e]; rfl
    rw [this]; exact e2
  · refine kk aN (.inr ?_)
    have : atQ qs k = 0 := by
      unfold atQ aQ
      rw [if_pos h1, List.getElem?_eq_none (by omega)]; rfl
    rw [this]; exact tN
  · have : atQ qs k = 0 := by
      unfold atQ
      rw [if_neg h1]
    rw [this]; exact tN
def ay6 (K : PySem.W.Frag) (C : Addr) : Sp := fun vs H Q E => ∃ (a : Addr) (xs : List V) (qs : List Rat), vs = [.ref a] ∧ SqL K H a xs ∧ C4 K H xs qs ∧ qs.length ≤ 16 ∧ (qs.length < 2 → E (.ref C) none H) ∧ (2 ≤ qs.length → aO4 K H Q (P1 qs (qs.length - 1)))
abbrev T5 : Stmt := top 24
theorem aD5 : m8 ["p", "n"] ["p"] (d7 T5) := by and_intros
set_option maxHeartbeats 0 in
theorem aV9 {f f1 C : Addr} (d : Df K mg "steep" T5 ["p"] f) (G_number_at : Def P w K mg base CX0 1 "number_at" f1 ["p", "power"] (am7 K)) (x_NoPolynomial : ExT K mg "NoPolynomial" C) (n_len : mg "len" = none) (n_range : mg "range" = none) : Def P w K mg base (CXR P w) 2 "steep" f ["p"] (ay6 K C) := by
  refine d.okR (N := ["p", "n"]) aD5 (by rintro vs H Q E ⟨_, _, _, h, _⟩; rw [h]; rfl) (fun cdv A outer s H vs Q E hr h => ?_)
  obtain ⟨a, xs, qs, rfl, hA, hN, l16, k1, k2⟩ := h
  refine ⟨_, (d5 (i8 (i := 1) aD5.nd rfl (Or.inr rfl) (i6 M1 (j2 j0 rfl n_len (by decide +kernel) (b7 (pv 0) b8)) b9))
      (d5 (F9 (p7 R6 (pv 1) b9 (j8 _)) (d9 (aV0 x_NoPolynomial.ox PySem.F.excBase_ValueError rfl rfl x_NoPolynomial.m aP5 (b7 bj1 b8))) v7)
      (d9 (m5 (aE1 (Nc := ["p", "n", "row"]) (caps := [some 0, some 1, none]) rfl (aG6.of (osc := d7 T5) (N := ["p", "n"]) (ks := ["p", "n"]) rfl rfl rfl rfl (w8 rfl (w8 rfl D8)) (by decide +kernel)) (P3 rfl n_range (b7 (pv 1) b8)) (fun C s₂ H₂ fp pins => (i7 (i := 2) (show List.Nodup (["p", "n", "row"] : List Str) by decide +kernel) rfl (Or.inr rfl) (Or.inl rfl))) (fun C s₂ H₂ fp pins => (O6 (Nc := ["row", "p", "n", "column"]) (caps := [some 2, some 0, some 1, none]) rfl (aa8.of (osc := _) (N := ["p", "n", "row"]) (ks := ["row", "p", "n"]) rfl rfl rfl rfl (w8 rfl (w8 rfl (w8 rfl D8))) (by kernel_rfl)) (P3 rfl n_range (b7 (pv 1) b8)) (fun C s₂ H₂ fp pins => (i7 (i := 3) (show List.Nodup (["row", "p", "n", "column"] : List Str) by decide +kernel) rfl (Or.inl rfl) (Or.inr rfl))) (fun C s₂ H₂ fp pins => (i3 G_number_at hr (b7 (pv 1) (b7 (i6 J0 (i6 M1 (i6 M1 (pv 2) b9) (i6 C5 b9 (pv 3))) (pv 0)) b8)) j3))))))))), ?_⟩
  rw [show start ["p", "n"] [.ref a] = [some (.ref a), none] from rfl]
  subst_eqs
  have lx := hN.length
  refine ⟨xs, .inl hA, G4 (fun h1 => ⟨by decide, k1 (by omega)⟩) (fun h1 => ?_)⟩
  obtain ⟨n, hn⟩ : ∃ n : Nat, qs.length = n + 1 := ⟨qs.length - 1, by omega⟩
  have k2 := k2 (by omega)
  rw [hn, Nat.add_sub_cancel] at k2
  have en : ((xs.length : Int) - 1) = (n : Int) := by omega
  rw [en]
  refine ⟨by omega, by omega, fun D hD => ?_⟩
  refine ai4 (fun i σ H2 => ∃ o, σ = [some (.ref a), some (.int n), o] ∧ at2 K H D ((P1 qs n).take i) H2) ⟨_, rfl, at2.start hD⟩ ?_ ?_
  · rintro i σ H2 hi ⟨o, rfl, T⟩
    simp! [am7]
    have hi' : i < n := by omega
    refine ⟨by omega, by omega, fun D2 hD2 => ?_⟩
    refine ai4 (fun j σ H3 => ∃ o, σ = [some (.int (0 + i)), some (.ref a), some (.int n), o] ∧ at3 K H2 D2 ((N0 qs n i).take j) H3) ⟨_, rfl, at3.start hD2⟩ ?_ ?_
    · rintro j σ H3 hj ⟨o, rfl, R⟩
      have hj' : j < n := by omega
      simp! [am7]
      have hg : (N0 qs n i)[j]? = some (atQ qs ((n : Int) - 1 - 2 * (j : Int) + (i : Int))) := by unfold N0; rw [List.getElem?_map, az3 hj']; rfl
      refine ⟨W4 (m := 2) (n := 20) (by decide) (Nat.lt_of_lt_of_le (show _ < 100 by omega) (by decide)) (by decide), xs, (T.same.trans R.same).seq hA, qs, hN.mono (T.same.trans R.same).tups, fun r hr => ?_⟩
      rw [Int.zero_add, Int.zero_add] at hr
      obtain ⟨ys, eD, yl, R'⟩ := R.add hD2 (fun b o h => h) hr
      refine G6.mk hj eD (ac5 (by rw [yl, List.length_take]; omega)) ⟨_, rfl, ?_⟩
      rw [B4 hg]
      exact R'
    · rintro σ H3 ⟨o, rfl, R⟩
      rw [ab4 (by simp [N0])] at R
      obtain ⟨ys, eD, yl, T'⟩ := T.add hD hD2 R
      refine G6.mk hi eD (ac5 (by rw [yl, List.length_take]; omega)) ⟨_, rfl, ?_⟩
      rw [B4 (show (P1 qs n)[i]? = some (N0 qs n i) by unfold P1; rw [List.getElem?_map, az3 hi']; rfl)]
      exact T'
  · rintro σ H2 ⟨o, rfl, T⟩
    rw [ab4 (by simp [P1])] at T
    exact T.res k2 hD
def W7 (M : List (List Rat)) (m : Nat) : List (List Rat) := (M.take m).map fun L => L.take m
def ay7 (K : PySem.W.Frag) : Sp := fun vs H Q _ => ∃ (a : Addr) (ts : List Addr) (M : List (List Rat)) (n W : Nat), vs = [.ref a] ∧ SqL K H a (ts.map V.ref) ∧ V7 K H ts M ∧ M.length = n ∧ (∀ L ∈ M, L.length = n ∧ ∀ m, ClN W (L.take m)) ∧ n ≤ 15 ∧ eV W n n + eU W n ≤ 5900 ∧
  ∀ r ys H', d8 H H' → H r = none → H' r = some (.lst ys) → C4 K H' ys ((List.range n).map fun m => dt (m + 1) (qq (W7 M (m + 1)))) → Q (.ref r) H'
abbrev T6 : Stmt := top 25
theorem aU0 : m8 ["table"] ["table"] (d7 T6) := by and_intros
set_option maxHeartbeats 0 in
theorem aW0 {f f1 : Addr} (d : Df K mg "leads" T6 ["table"] f) (G_determinant : Def P w K mg base CX0 3 "determinant" f1 ["table"] (aH4 K)) (n_len : mg "len" = none) (n_range : mg "range" = none) : Def P w K mg base CX0 4 "leads" f ["table"] (ay7 K) := by
  refine d.ok (N := ["table"]) aU0 (by rintro vs H Q E ⟨_, _, _, _, _, h, _⟩; rw [h]; rfl) (fun cdv A outer s H vs Q E hr h => ?_)
  obtain ⟨a, ts, M, n, W, rfl, hA, hR, ln, lm, n15, hV, kk⟩ := h
  refine ⟨_, (d9 (m5 (aE1 (Nc := ["table", "many"]) (caps := [some 0, none]) rfl (aG6.of (osc := d7 T6) (N := ["table"]) (ks := ["table"]) rfl rfl rfl rfl (w8 rfl D8) (by decide +kernel)) (av7 rfl n_range (b7 b9 (b7 (i6 J0 (j2 j0 rfl n_len (by decide +kernel) (b7 (pv 0) b8)) b9) b8))) (fun C s₂ H₂ fp pins => (i7 (i := 1) (show List.Nodup (["table", "many"] : List Str) by decide +kernel) rfl (Or.inr rfl) (Or.inl rfl))) (fun C s₂ H₂ fp pins => (i3 G_determinant hr (b7 (O6 (Nc := ["many", "row"]) (caps := [some 1, none]) rfl (aa8.of (osc := _) (N := ["table", "many"]) (ks := ["many"]) rfl rfl rfl rfl (w8 rfl D8) (by kernel_rfl)) (show PI _ _ _ (aM4 K _) from by exact (K1 (Q6 (by exact T3 : SlR _ (aU1 K)) (pv 0) P9 (K7 (pv 1))))) (fun C s₂ H₂ fp pins => (i7 (i := 1) (show List.Nodup (["many", "row"] : List Str) by decide +kernel) rfl (Or.inl rfl) (Or.inr rfl))) (fun C s₂ H₂ fp pins => (Q6 (by exact T3 : SlR _ (aU1 K)) (pv 1) P9 (K7 (pv 0))))) b8) j3))))), ?_⟩
  rw [show start ["table"] [.ref a] = [some (.ref a)] from rfl]
  subst_eqs
  subst ln
  have tl : (ts.map V.ref).length = M.length := by rw [List.length_map, hR.length]
  refine ⟨_, .inl hA, by decide, by decide, by omega, by omega, fun D hD => ?_⟩
  obtain ⟨lq, hlq⟩ : ∃ lq, lq = (List.range M.length).map fun m => dt (m + 1) (qq (W7 M (m + 1))) := ⟨_, rfl⟩
  rw [← hlq] at kk
  have ll : lq.length = M.length := by rw [hlq, List.length_map, List.length_range]
  refine ai4 (fun i σ H2 => ∃ o, σ = [some (.ref a), o] ∧ at3 K H D (lq.take i) H2) ⟨_, rfl, at3.start hD⟩ ?_ ?_
  · rintro i σ H2 hi ⟨o, rfl, R⟩
    have hi' : i < M.length := by omega
    have hg : lq[i]? = some (dt (i + 1) (qq (W7 M (i + 1)))) := by rw [hlq, List.getElem?_map, az3 hi']; rfl
    simp! [aH4]
    have A2 := R.same.seq hA
    have R2 := hR.same R.same
    rw [show (1 + (i : Int)) = ((i + 1 : Nat) : Int) by omega]
    refine ⟨_, A2, fun p hp => ?_⟩
    rw [as5 _ (show i + 1 ≤ (ts.map V.ref).length by omega)]
    obtain ⟨H3, y3, X, g3⟩ := J4 (.lst ((ts.map V.ref).take (i + 1))) hp
    rw [← y3]
    have R3 := R2.same X
    have lQ : (W7 M (i + 1)).length = i + 1 := by unfold W7; rw [List.length_map, List.length_take]; omega
    refine ⟨⟨_, SqL.of g3⟩, fun D2 hD2 => ?_⟩
    have lt' : ((ts.map V.ref).take (i + 1)).length = i + 1 := by rw [List.length_take]; omega
    refine U7 ((ts.map V.ref).take (i + 1)) (fun j σ H4 => ∃ o, σ = [some (.int ((i + 1 : Nat) : Int)), o] ∧ at2 K H3 D2 ((W7 M (i + 1)).take j) H4) ⟨_, rfl, at2.start hD2⟩ (fun j σ H4 _ ⟨_, _, T⟩ => SqL.of (T.same _ _ g3)) ?_ ?_
    · rintro j x σ H4 hx ⟨o, rfl, T⟩
      have hj := (List.getElem?_eq_some_iff.mp hx).1
      rw [lt'] at hj
      rw [List.getElem?_take_of_lt hj] at hx
      obtain ⟨t, ht, rfl⟩ := ap8 hx
      obtain ⟨xs, L, e1, e2, e3⟩ := R3.get ht
      obtain ⟨lL, cL⟩ := lm L (List.mem_of_getElem? e1)
      have lx := e3.length
      have hgj : (W7 M (i + 1))[j]? = some (L.take (i + 1)) := by
        unfold W7
        rw [List.getElem?_map, List.getElem?_take_of_lt hj, e1]; rfl
      subst_eqs
      refine ⟨xs, SqL.of (T.same _ _ e2), fun q hq => ?_⟩
      rw [as5 _ (show i + 1 ≤ xs.length by omega)]
      have Rq : at3 K H4 q (L.take (i + 1)) (upd H4 q (.lst (xs.take (i + 1)))) := ⟨d8.new hq _, _, d6, ((e3.take (i + 1)).mono T.same.tups).mono (d8.new hq _).tups⟩
      obtain ⟨ys, eD, yl, T'⟩ := T.add hD2 hq Rq
      refine G6.mk (by rw [lt']; exact hj) eD (ac5 (by rw [yl, List.length_take]; omega)) ⟨_, rfl, ?_⟩
      rw [B4 hgj]
      exact T'
    · rintro σ H4 ⟨o, rfl, T⟩
      rw [ab4 (by omega)] at T
      obtain ⟨s4, us, e4, _, _, R4⟩ := T
      have eb : eV W (i + 1) (i + 1) + eU W (i + 1) ≤ 5900 := by
        have h1 : eU W (i + 1) ≤ eU W M.length := Nat.add_le_add_right (Nat.mul_le_mul_left _ (by omega)) _
        have h2 : eV W (i + 1) (i + 1) ≤ eV W M.length M.length := Nat.add_le_add_left (Nat.mul_le_mul (by omega) (by omega)) _
        omega
      refine ⟨D2, rfl, us, SqL.of e4, W7 M (i + 1), R4, W, fun L' h' => ?_, by omega, by rw [lQ]; exact eb, fun r H5 s5 hr => ?_⟩
      · rw [lQ]
        unfold W7 at h'
        obtain ⟨L, hL, rfl⟩ := List.mem_map.mp h'
        obtain ⟨lL, cL⟩ := lm L (List.mem_of_mem_take hL)
        exact ⟨by rw [List.length_take]; omega, cL _⟩
      · rw [lQ] at hr
        obtain ⟨ys, eD, yl, R'⟩ := R.add hD (X.trans (s4.trans s5)) hr
        refine G6.mk hi eD (ac5 (by rw [yl, List.length_take]; omega)) ⟨_, rfl, ?_⟩
        rw [B4 hg]
        exact R'
  · rintro σ H2 ⟨o, rfl, R⟩
    rw [ab4 (by omega)] at R
    obtain ⟨s2, ys, e, n2⟩ := R
    exact kk D ys H2 s2 hD e n2
end
def sh (C : Nat → Rat) : Nat → Rat
  | 0 => 0
  | j + 1 => C j
theorem G1 (C : Nat → Rat) : sh C 0 = 0 := rfl
theorem A7 (C : Nat → Rat) (j : Nat) : sh C (j + 1) = C j := rfl
inductive Hs : Nat → (Nat → Rat) → (Nat → Rat) → Prop where
  | base {A B : Nat → Rat} (h0 : A 0 ≠ 0) (hA : ∀ j, A (j + 1) = 0) (hB : ∀ j, B j = 0) : Hs 0 A B
  | step {n : Nat} {A B C : Nat → Rat} {a : Rat} (ha : 0 < a) (hA : ∀ j, A j = a * B j + sh C j) (h : Hs n B C) : Hs (n + 1) A B
theorem Hs.scale {n : Nat} {A B : Nat → Rat} (h : Hs n A B) : ∀ {A' B' : Nat → Rat} {c d : Rat}, 0 < c → 0 < d → (∀ j, A' j = c * A j) → (∀ j, B' j = d * B j) → Hs n A' B' := by
  induction h with
  | base h0 hA hB =>
    intro A' B' c d hc hd eA eB
    refine .base ?_ (fun j => by rw [eA, hA]; grind) (fun j => by rw [eB, hB]; grind)
    rw [eA]
    intro z
    rcases Rat.mul_eq_zero.mp z with y | y
    · rw [y] at hc; exact absurd hc (by decide)
    · exact h0 y
  | @step n A B C a ha hA h ih =>
    intro A' B' c d hc hd eA eB
    refine .step (a := c * a * d⁻¹) (C := fun j => c * C j) (Rat.mul_pos (Rat.mul_pos hc ha) (Rat.inv_pos.mpr hd)) (fun j => ?_) (ih hd hc eB fun j => rfl)
    have hd' := Rat.mul_inv_cancel d (C9 hd)
    have e : sh (fun j => c * C j) j = c * sh C j := by cases j <;> simp [sh]
    rw [eA, eB, hA, e]
    generalize d⁻¹ = di at hd' ⊢
    grind
theorem Hs.lin {n : Nat} {A B : Nat → Rat} (h : Hs n A B) : ∀ {s t : Rat}, 0 < s → 0 < t → Hs (n + 1) (fun j => A j + s * sh B j) (fun j => B j + t * A j) := by
  induction h with
  | @base A B h0 hA hB =>
    intro s t hs ht
    refine .step (a := t⁻¹) (C := fun _ => 0) (Rat.inv_pos.mpr ht) (fun j => ?_) (.base ?_ (fun j => ?_) fun j => rfl)
    · have ht' := Rat.mul_inv_cancel t (C9 ht)
      have e1 : sh (fun _ => (0 : Rat)) j = 0 := by cases j <;> rfl
      have e2 : sh B j = 0 := by
        cases j with
        | zero => rfl
        | succ j => exact hB j
      rw [e1, e2, hB]
      generalize t⁻¹ = ti at ht' ⊢
      grind
    · show B 0 + t * A 0 ≠ 0
      rw [hB]
      intro z
      have : t * A 0 = 0 := by grind
      rcases Rat.mul_eq_zero.mp this with y | y
      · rw [y] at ht; exact absurd ht (by decide)
      · exact h0 y
    · show B (j + 1) + t * A (j + 1) = 0
      rw [hA, hB]; grind
  | @step n A B C a ha hA h ih =>
    intro s t hs ht
    have k0 : 0 < 1 + t * a := by
      have := Rat.mul_pos ht ha
      grind
    have ki := Rat.inv_pos.mpr k0
    have kk := Rat.mul_inv_cancel _ (C9 k0)
    generalize hk : (1 + t * a)⁻¹ = k at ki kk
    have ih' := ih (s := t * k) (t := s * (1 + t * a)) (Rat.mul_pos ht ki) (Rat.mul_pos hs k0)
    refine .step (a := a * k) (C := fun j => k * (C j + s * (1 + t * a) * B j)) (Rat.mul_pos ha ki) (fun j => ?_) (ih'.scale k0 ki (fun j => ?_) fun j => rfl)
    · have e : sh (fun j => k * (C j + s * (1 + t * a) * B j)) j = k * (sh C j + s * (1 + t * a) * sh B j) := by
        cases j with
        | zero => show (0 : Rat) = k * (0 + s * (1 + t * a) * 0); grind
        | succ j => rfl
      rw [e, hA]
      grind
    · rw [hA]
      have e : sh C j = sh C j := rfl
      grind
theorem rsq (x : Rat) : 0 ≤ x * x := by
  rcases Rat.le_total (a := 0) (b := x) with h | h
  · exact Rat.mul_nonneg h h
  · have : x * x = (-x) * (-x) := by grind
    rw [this]
    exact Rat.mul_nonneg (by grind) (by grind)
theorem bg2 {a b c : Rat} (ha : 0 < a) (hb : 0 < b) (hc : 0 < c) (h : a * b = c * c) : 0 ≤ a + b - 2 * c := by
  refine Classical.byContradiction fun z => ?_
  have z' : 0 < -(a + b - 2 * c) := by grind
  have y : 0 < a + b + 2 * c := by grind
  have m := Rat.mul_pos z' y
  have s := rsq (a - b)
  have e : -(a + b - 2 * c) * (a + b + 2 * c) = -((a - b) * (a - b)) + 4 * (c * c - a * b) := by grind
  rw [e, h] at m
  grind
theorem Hs.quad {b c : Rat} (hb : 0 < b) (hc : 0 < c) {n : Nat} {A B : Nat → Rat} (h : Hs n A B) : ∀ {c0 c1 s t : Rat}, 0 < c0 → 0 < c1 → c0 * c1 = c * c → 0 < s → s * t = b * b - 2 * c + c0 + c1 →
    Hs (n + 2) (fun j => A j + c0 * sh A j + s * sh B j) (fun j => B j + c1 * sh B j + t * A j) := by
  have tpos : ∀ {c0 c1 s t : Rat}, 0 < c0 → 0 < c1 → c0 * c1 = c * c → 0 < s → s * t = b * b - 2 * c + c0 + c1 → 0 < t := by
    intro c0 c1 s t h0 h1 hm hs he
    have h2 := bg2 h0 h1 hc hm
    have h3 := Rat.mul_pos hb hb
    have h4 : 0 < s * t := by rw [he]; grind
    refine Classical.byContradiction fun z => ?_
    have z' : 0 ≤ -t := by grind
    have := Rat.mul_nonneg (Rat.le_of_lt hs) z'
    grind
  induction h with
  | @base A B h0 hA hB =>
    intro c0 c1 s t p0 p1 hm hs he
    have ht := tpos p0 p1 hm hs he
    have ht' := Rat.mul_inv_cancel t (C9 ht)
    have hc' := Rat.mul_inv_cancel c0 (C9 p0)
    have sB : ∀ j, sh B j = 0 := fun j => by
      cases j with
      | zero => rfl
      | succ j => exact hB j
    refine .step (a := t⁻¹) (C := fun j => c0 * A j) (Rat.inv_pos.mpr ht) (fun j => ?_) (.step (a := t * c0⁻¹) (C := fun _ => 0) (Rat.mul_pos ht (Rat.inv_pos.mpr p0)) (fun j => ?_) (.base ?_ (fun j => ?_) fun j => rfl))
    · have e1 : sh (fun j => c0 * A j) j = c0 * sh A j := by
        cases j with
        | zero => show (0 : Rat) = c0 * 0; grind
        | succ j => rfl
      rw [e1, sB, hB]
      generalize t⁻¹ = ti at ht' ⊢
      grind
    · have e1 : sh (fun _ => (0 : Rat)) j = 0 := by cases j <;> rfl
      rw [e1, sB, hB]
      generalize c0⁻¹ = ci at hc' ⊢
      grind
    · intro z
      rcases Rat.mul_eq_zero.mp z with y | y
      · rw [y] at p0; exact absurd p0 (by decide)
      · exact h0 y
    · show c0 * A (j + 1) = 0
      rw [hA]; grind
  | @step n A B C a ha hA h ih =>
    intro c0 c1 s t p0 p1 hm hs he
    have ht := tpos p0 p1 hm hs he
    have k0 : 0 < 1 + t * a := by
      have := Rat.mul_pos ht ha
      grind
    have ki := Rat.inv_pos.mpr k0
    have kk := Rat.mul_inv_cancel _ (C9 k0)
    generalize hk : (1 + t * a)⁻¹ = k at ki kk
    have ih' := ih (c0 := c1 * k) (c1 := c0 * (1 + t * a)) (s := t * k) (t := (1 + t * a) * (a * c0 + s) - a * c1) (Rat.mul_pos p1 ki) (Rat.mul_pos p0 k0) (by grind) (Rat.mul_pos ht ki) (by grind)
    refine .step (a := a * k) (C := fun j => k * (C j + c0 * (1 + t * a) * sh C j + ((1 + t * a) * (a * c0 + s) - a * c1) * B j)) (Rat.mul_pos ha ki) (fun j => ?_) (ih'.scale k0 ki (fun j => ?_) fun j => rfl)
    · have e : sh (fun j => k * (C j + c0 * (1 + t * a) * sh C j + ((1 + t * a) * (a * c0 + s) - a * c1) * B j)) j = k * (sh C j + c0 * (1 + t * a) * sh (sh C) j + ((1 + t * a) * (a * c0 + s) - a * c1) * sh B j) := by
        cases j with
        | zero => show (0 : Rat) = k * (0 + c0 * (1 + t * a) * 0 + ((1 + t * a) * (a * c0 + s) - a * c1) * 0); grind
        | succ j => rfl
      have e2 : sh A j = a * sh B j + sh (sh C) j := by
        cases j with
        | zero => show (0 : Rat) = a * 0 + 0; grind
        | succ j => exact hA j
      rw [e, hA, e2]
      grind
    · rw [hA]
      grind
theorem am9 {x : Rat} (h : x ≠ 0) : 0 < x * x := by
  have h1 := rsq x
  have h2 : x * x ≠ 0 := fun z => by rcases Rat.mul_eq_zero.mp z with y | y <;> exact h y
  grind
theorem Hs.lead {n : Nat} {A B : Nat → Rat} (h : Hs n A B) : A 0 ≠ 0 := by
  induction h with
  | base h0 _ _ => exact h0
  | @step n A B C a ha hA h ih =>
    rw [hA 0, G1]
    intro z
    have : a * B 0 = 0 := by grind
    rcases Rat.mul_eq_zero.mp this with y | y
    · rw [y] at ha; exact absurd ha (by decide)
    · exact ih y
theorem Hs.supp {n : Nat} {A B : Nat → Rat} (h : Hs n A B) : (∀ j, n < 2 * j → A j = 0) ∧ ∀ j, n < 2 * j + 1 → B j = 0 := by
  induction h with
  | base h0 hA hB => exact ⟨fun j hj => by obtain ⟨m, rfl⟩ : ∃ m, j = m + 1 := ⟨j - 1, by omega⟩; exact hA m, fun j _ => hB j⟩
  | @step n A B C a ha hA h ih =>
    refine ⟨fun j hj => ?_, fun j hj => ih.1 j (by omega)⟩
    obtain ⟨m, rfl⟩ : ∃ m, j = m + 1 := ⟨j - 1, by omega⟩
    rw [hA, ih.1 (m + 1) (by omega), A7, ih.2 m (by omega)]; grind
theorem Hs.pos {n : Nat} {A B : Nat → Rat} (h : Hs n A B) : ∃ c : Rat, c ≠ 0 ∧ 0 < c * A 0 ∧ (∀ j, 2 * j ≤ n → 0 < c * A j) ∧ ∀ j, 2 * j + 1 ≤ n → 0 < c * B j := by
  induction h with
  | @base A B h0 hA hB =>
    have sq : 0 < A 0 * A 0 := am9 h0
    refine ⟨A 0, h0, sq, fun j hj => ?_, fun j hj => by omega⟩
    have : j = 0 := by omega
    subst this
    exact sq
  | @step n A B C a ha hA h ih =>
    obtain ⟨c, c0, cl, pB, pC⟩ := ih
    have pA : ∀ j, 2 * j ≤ n + 1 → 0 < c * A j := fun j hj => by
      rw [hA]
      cases j with
      | zero =>
        rw [G1]
        have := Rat.mul_pos ha cl
        grind
      | succ j =>
        rw [A7]
        have h2 := pC j (by omega)
        by_cases hb : 2 * (j + 1) ≤ n
        · have := Rat.mul_pos ha (pB (j + 1) hb)
          grind
        · rw [h.supp.1 (j + 1) (by omega)]
          grind
    exact ⟨c, c0, pA 0 (by omega), pA, fun j hj => pB j (by omega)⟩
def as3 : Nat → (Nat → Rat) → (Nat → Rat) → Bool
  | 0, _, _ => true
  | n + 1, A, B => decide (0 < A 0 * B 0) && as3 n B (fun j => A (j + 1) - A 0 / B 0 * B (j + 1))
theorem bd7 {n : Nat} {A B : Nat → Rat} (h : Hs n A B) : as3 n A B = true := by
  induction h with
  | base _ _ _ => rfl
  | @step n A B C a ha hA h ih =>
    have b0 := h.lead
    have e0 : A 0 = a * B 0 := by rw [hA, G1]; grind
    have ea : A 0 / B 0 = a := by
      rw [e0, Rat.div_def]
      have := Rat.mul_inv_cancel _ b0
      generalize (B 0)⁻¹ = bi at this ⊢
      grind
    have eC : (fun j => A (j + 1) - A 0 / B 0 * B (j + 1)) = C := by
      funext j
      rw [ea, hA, A7]; grind
    have sq : 0 < A 0 * B 0 := by
      obtain ⟨c, c0, cl, pB, _⟩ := h.pos
      rw [e0]
      have h1 := Rat.mul_pos (pB 0 (by omega)) cl
      have h3 : 0 < B 0 * B 0 := am9 b0
      have := Rat.mul_pos ha h3
      grind
    unfold as3
    rw [eC, ih, decide_eq_true sq]; rfl
theorem bf7 : ∀ {n : Nat} {A B : Nat → Rat}, A 0 ≠ 0 → (∀ j, n < 2 * j → A j = 0) → (∀ j, n < 2 * j + 1 → B j = 0) → as3 n A B = true → Hs n A B
  | 0, A, B, a0, sA, sB, _ => .base a0 (fun j => sA (j + 1) (by omega)) (fun j => sB j (by omega))
  | n + 1, A, B, a0, sA, sB, h => by
    unfold as3 at h
    rw [Bool.and_eq_true, decide_eq_true_eq] at h
    have b0 : B 0 ≠ 0 := fun z => by have := h.1; rw [z] at this; grind
    have bi := Rat.mul_inv_cancel _ b0
    have ea : A 0 / B 0 = A 0 * (B 0)⁻¹ := Rat.div_def ..
    have pa : 0 < A 0 / B 0 := by
      have h3 : 0 < B 0 * B 0 := am9 b0
      have h4 := Rat.mul_pos h.1 (Rat.inv_pos.mpr h3)
      have h5 := Rat.mul_inv_cancel _ (C9 h3)
      rw [ea]
      generalize (B 0)⁻¹ = x at bi ⊢
      generalize (B 0 * B 0)⁻¹ = y at h4 h5
      have : A 0 * x = A 0 * B 0 * y := by grind
      rw [this]; exact h4
    refine .step (a := A 0 / B 0) (C := fun j => A (j + 1) - A 0 / B 0 * B (j + 1)) pa (fun j => ?_) (bf7 b0 (fun j hj => sB j (by omega)) (fun j hj => ?_) h.2)
    · cases j with
      | zero =>
        rw [G1, ea]
        generalize (B 0)⁻¹ = x at bi ⊢
        grind
      | succ j => rw [A7]; grind
    · show A (j + 1) - A 0 / B 0 * B (j + 1) = 0
      rw [sA (j + 1) (by omega), sB (j + 1) (by omega)]; grind
def Lr (A B : Nat → Rat) : Nat → Nat → Rat
  | 0 => A
  | 1 => B
  | k + 2 => fun j => Lr A B k (j + 1) - Lr A B k 0 / Lr A B (k + 1) 0 * Lr A B (k + 1) (j + 1)
def Pl (A B : Nat → Rat) : Nat → Rat
  | 0 => 1
  | 1 => 1
  | k + 2 => Pl A B (k + 1) * Lr A B (k + 1) 0
theorem aV3 {A B : Nat → Rat} : ∀ k, (∀ i, 1 ≤ i → i < k → Lr A B i 0 ≠ 0) → Pl A B k ≠ 0
  | 0, _ => by unfold Pl; decide
  | 1, _ => by unfold Pl; decide
  | k + 2, h => by
    unfold Pl
    intro z
    rcases Rat.mul_eq_zero.mp z with y | y
    · exact aV3 (k + 1) (fun i h1 h2 => h i h1 (by omega)) y
    · exact h (k + 1) (by omega) (by omega) y
theorem ai7 {A B : Nat → Rat} : ∀ k, (∀ i, 1 ≤ i → i < k → Lr A B i 0 ≠ 0) → (∀ j, tau A B k j = Pl A B k * Lr A B k j) ∧ (0 < k → ∀ j, tau A B (k - 1) j = Pl A B (k - 1) * Lr A B (k - 1) j)
  | 0, _ => ⟨fun j => by rw [V8]; unfold Pl Lr; grind, fun h => by omega⟩
  | 1, _ => ⟨fun j => by rw [K6]; unfold Pl Lr; grind, fun _ j => by show tau A B 0 j = _; rw [V8]; unfold Pl Lr; grind⟩
  | k + 2, h => by
    obtain ⟨i1, i2⟩ := ai7 (k + 1) fun i h1 h2 => h i h1 (by omega)
    have i2 := i2 (by omega)
    rw [Nat.add_sub_cancel] at i2
    have l1 := h (k + 1) (by omega) (by omega)
    have tn : ∀ i, 1 ≤ i → i < k + 1 → tau A B i 0 ≠ 0 := fun i h1 h2 => by
      rw [(ai7 i fun i' h1' h2' => h i' h1' (by omega)).1 0]
      intro z
      rcases Rat.mul_eq_zero.mp z with y | y
      · exact aV3 i (fun i' h1' h2' => h i' h1' (by omega)) y
      · exact h i h1 (by omega) y
    refine ⟨fun j => ?_, fun _ => i1⟩
    have r := ay2 (k + 1) A B (by omega) tn (fun hk => by
      have : k = 0 := by omega
      subst this
      exact l1) j
    rw [Nat.add_sub_cancel, i1, i1, i2, i2] at r
    have dl : dlt A B (k + 1) = Pl A B k := by
      unfold dlt
      split
      · have : k = 0 ∨ k = 1 := by omega
        rcases this with rfl | rfl <;> rfl
      · obtain ⟨m, rfl⟩ : ∃ m, k = m + 2 := ⟨k - 2, by omega⟩
        rw [show m + 2 + 1 - 2 = m + 1 by omega, (ai7 (m + 1) fun i' h1' h2' => h i' h1' (by omega)).1 0]; rfl
    rw [dl] at r
    have pk := aV3 k fun i h1 h2 => h i h1 (by omega)
    have eL : Lr A B (k + 2) j = Lr A B k (j + 1) - Lr A B k 0 / Lr A B (k + 1) 0 * Lr A B (k + 1) (j + 1) := rfl
    have eP : Pl A B (k + 2) = Pl A B (k + 1) * Lr A B (k + 1) 0 := rfl
    refine Z5 pk ?_
    rw [eL, eP, Rat.div_def]
    have li := Rat.mul_inv_cancel _ l1
    generalize (Lr A B (k + 1) 0)⁻¹ = x at li ⊢
    grind
theorem ad8 : ∀ {n : Nat} {A B : Nat → Rat}, 0 < A 0 → (as3 n A B = true ↔ ∀ k, 1 ≤ k → k ≤ n → 0 < Lr A B k 0)
  | 0, A, B, _ => ⟨fun _ k h1 h2 => by omega, fun _ => rfl⟩
  | n + 1, A, B, a0 => by
    have hB : ∀ k, Lr B (fun j => A (j + 1) - A 0 / B 0 * B (j + 1)) k = Lr A B (k + 1) := fun k => by
      have two : ∀ k, Lr B (fun j => A (j + 1) - A 0 / B 0 * B (j + 1)) k = Lr A B (k + 1) ∧ Lr B (fun j => A (j + 1) - A 0 / B 0 * B (j + 1)) (k + 1) = Lr A B (k + 2) := fun k => by
        induction k with
        | zero => exact ⟨rfl, rfl⟩
        | succ k ih =>
          refine ⟨ih.2, ?_⟩
          show (fun j => Lr B _ k (j + 1) - Lr B _ k 0 / Lr B _ (k + 1) 0 * Lr B _ (k + 1) (j + 1)) = _
          rw [ih.1, ih.2]; rfl
      exact (two k).1
    unfold as3
    rw [Bool.and_eq_true, decide_eq_true_eq]
    constructor
    · rintro ⟨h1, h2⟩ k k1 kn
      have b0 : 0 < B 0 := by
        refine Classical.byContradiction fun z => ?_
        have z' : 0 ≤ -(B 0) := by grind
        have := Rat.mul_nonneg (Rat.le_of_lt a0) z'
        grind
      obtain ⟨m, rfl⟩ : ∃ m, k = m + 1 := ⟨k - 1, by omega⟩
      cases m with
      | zero => exact b0
      | succ m =>
        have := (ad8 (n := n) (A := B) (B := fun j => A (j + 1) - A 0 / B 0 * B (j + 1)) b0).mp h2 (m + 1) (by omega) (by omega)
        rw [hB] at this
        exact this
    · intro h
      have b0 := h 1 (by omega) (by omega)
      have b0' : 0 < B 0 := b0
      refine ⟨Rat.mul_pos a0 b0', (ad8 b0').mpr fun k k1 kn => ?_⟩
      rw [hB]
      exact h (k + 1) (by omega) (by omega)
theorem aH9 {A B : Nat → Rat} : ∀ k, (∀ i, 1 ≤ i → i < k → 0 < Lr A B i 0) → 0 < Pl A B k
  | 0, _ => by unfold Pl; decide
  | 1, _ => by unfold Pl; decide
  | k + 2, h => Rat.mul_pos (aH9 (k + 1) fun i h1 h2 => h i h1 (by omega)) (h (k + 1) (by omega) (by omega))
theorem ay3 {n : Nat} {A B : Nat → Rat} : (∀ k, 1 ≤ k → k ≤ n → 0 < tau A B k 0) ↔ ∀ k, 1 ≤ k → k ≤ n → 0 < Lr A B k 0 := by
  constructor
  · intro h k
    induction k using Nat.strongRecOn with
    | _ k ih =>
      intro k1 kn
      have lp : ∀ i, 1 ≤ i → i < k → 0 < Lr A B i 0 := fun i h1 h2 => ih i h2 h1 (by omega)
      have := h k k1 kn
      rw [(ai7 k fun i h1 h2 => C9 (lp i h1 h2)).1 0] at this
      have pp := aH9 k lp
      refine Classical.byContradiction fun z => ?_
      have z' : 0 ≤ -(Lr A B k 0) := by grind
      have := Rat.mul_nonneg (Rat.le_of_lt pp) z'
      grind
  · intro h k k1 kn
    have lp : ∀ i, 1 ≤ i → i < k → 0 < Lr A B i 0 := fun i h1 h2 => h i h1 (by omega)
    rw [(ai7 k fun i h1 h2 => C9 (lp i h1 h2)).1 0]
    exact Rat.mul_pos (aH9 k lp) (h k k1 kn)
abbrev Cz := Rat × Rat
def zm (u w v : Rat) (x : Cz) : Cz := (u * x.1 - v * w * x.2, u * x.2 + w * x.1)
def zw (u w v : Rat) : Nat → Cz
  | 0 => (1, 0)
  | n + 1 => zm u w v (zw u w v n)
def Ez (u w v : Rat) : Nat → (Nat → Rat) → Cz
  | 0, A => (A 0, 0)
  | 1, A => zm u w v (A 0, 0)
  | n + 2, A => (A 0 * (zw u w v (n + 2)).1 + (Ez u w v n fun j => A (j + 1)).1, A 0 * (zw u w v (n + 2)).2 + (Ez u w v n fun j => A (j + 1)).2)
theorem K4 {x y : Cz} (h1 : x.1 = y.1) (h2 : x.2 = y.2) : x = y := Prod.ext h1 h2
section
variable {u w v : Rat}
theorem ac6 (a b : Rat) : ∀ (n : Nat) (A B : Nat → Rat), (Ez u w v n fun j => a * A j + b * B j) = (a * (Ez u w v n A).1 + b * (Ez u w v n B).1, a * (Ez u w v n A).2 + b * (Ez u w v n B).2)
  | 0, A, B => by refine K4 rfl ?_; show (0 : Rat) = a * 0 + b * 0; grind
  | 1, A, B => by
    refine K4 ?_ ?_
    · show u * (a * A 0 + b * B 0) - v * w * 0 = a * (u * A 0 - v * w * 0) + b * (u * B 0 - v * w * 0); grind
    · show u * 0 + w * (a * A 0 + b * B 0) = a * (u * 0 + w * A 0) + b * (u * 0 + w * B 0); grind
  | n + 2, A, B => by
    have ih := ac6 a b n (fun j => A (j + 1)) (fun j => B (j + 1))
    unfold Ez
    rw [ih]
    refine K4 ?_ ?_ <;> simp only <;> grind
theorem al8 : ∀ (n : Nat) (B : Nat → Rat), (∀ j, n < 2 * j → B j = 0) → Ez u w v (n + 1) B = zm u w v (Ez u w v n B)
  | 0, B, _ => rfl
  | 1, B, h => by
    have b1 := h 1 (by decide)
    refine K4 ?_ ?_
    · show B 0 * (zm u w v (zm u w v (1, 0))).1 + B 1 = (zm u w v (zm u w v (B 0, 0))).1
      rw [b1]; simp only [zm]; grind
    · show B 0 * (zm u w v (zm u w v (1, 0))).2 + 0 = (zm u w v (zm u w v (B 0, 0))).2
      simp only [zm]; grind
  | n + 2, B, h => by
    have ih := al8 n (fun j => B (j + 1)) fun j hj => h (j + 1) (by omega)
    show (B 0 * (zm u w v (zw u w v (n + 2))).1 + (Ez u w v (n + 1) fun j => B (j + 1)).1, B 0 * (zm u w v (zw u w v (n + 2))).2 + (Ez u w v (n + 1) fun j => B (j + 1)).2) = _
    rw [ih]
    have e : Ez u w v (n + 2) B = (B 0 * (zw u w v (n + 2)).1 + (Ez u w v n fun j => B (j + 1)).1, B 0 * (zw u w v (n + 2)).2 + (Ez u w v n fun j => B (j + 1)).2) := rfl
    rw [e]
    refine K4 ?_ ?_ <;> simp only [zm] <;> grind
theorem aF4 (n : Nat) (C : Nat → Rat) : Ez u w v (n + 2) (sh C) = Ez u w v n C := by
  refine K4 ?_ ?_
  · show (0 : Rat) * _ + (Ez u w v n fun j => sh C (j + 1)).1 = _
    show (0 : Rat) * _ + (Ez u w v n C).1 = _
    grind
  · show (0 : Rat) * _ + (Ez u w v n C).2 = _
    grind
def ip (v : Rat) (x y : Cz) : Rat := x.1 * y.1 + v * (x.2 * y.2)
theorem bl0 (hv : 0 < v) (x : Cz) : 0 ≤ ip v x x := by
  have h1 := rsq x.1
  have h2 := Rat.mul_nonneg (Rat.le_of_lt hv) (rsq x.2)
  unfold ip
  grind
theorem bc8 (hv : 0 < v) {x : Cz} (h : ip v x x ≤ 0) : x = (0, 0) := by
  have h1 := rsq x.1
  have h2 := Rat.mul_nonneg (Rat.le_of_lt hv) (rsq x.2)
  unfold ip at h
  have e1 : x.1 * x.1 = 0 := by grind
  have e2 : v * (x.2 * x.2) = 0 := by grind
  refine K4 ?_ ?_
  · rcases Rat.mul_eq_zero.mp e1 with y | y <;> exact y
  · rcases Rat.mul_eq_zero.mp e2 with y | y
    · rw [y] at hv; exact absurd hv (by decide)
    · rcases Rat.mul_eq_zero.mp y with y | y <;> exact y
theorem Hs.ez (hu : 0 ≤ u) (hv : 0 < v) : ∀ (n : Nat) {A B : Nat → Rat}, Hs (n + 1) A B → 0 ≤ ip v (Ez u w v (n + 1) A) (Ez u w v n B) ∧ ¬ (Ez u w v (n + 1) A = (0, 0) ∧ Ez u w v n B = (0, 0))
  | 0, A, B, h => by
    cases h with
    | @step _ _ _ C a ha hA h =>
      have b0 := h.lead
      have e0 : A 0 = a * B 0 := by rw [hA, G1]; grind
      refine ⟨?_, fun z => b0 (congrArg Prod.fst z.2)⟩
      show 0 ≤ (u * A 0 - v * w * 0) * B 0 + v * ((u * 0 + w * A 0) * 0)
      have := Rat.mul_nonneg (Rat.mul_nonneg hu (Rat.le_of_lt ha)) (rsq (B 0))
      rw [e0]; grind
  | m + 1, A, B, h => by
    cases h with
    | @step _ _ _ C a ha hA h =>
      obtain ⟨i1, i2⟩ := Hs.ez hu hv m h
      have eA : A = fun j => a * B j + 1 * sh C j := by funext j; rw [hA]; grind
      have e0 : Ez u w v (m + 2) A = (a * (zm u w v (Ez u w v (m + 1) B)).1 + (Ez u w v m C).1, a * (zm u w v (Ez u w v (m + 1) B)).2 + (Ez u w v m C).2) := by
        rw [eA, ac6, aF4, al8 (m + 1) B h.supp.1]
        refine K4 ?_ ?_ <;> simp only <;> grind
      show 0 ≤ ip v (Ez u w v (m + 2) A) _ ∧ ¬ (Ez u w v (m + 2) A = _ ∧ _)
      rw [e0]
      generalize Ez u w v (m + 1) B = F1 at *
      generalize Ez u w v m C = F2 at *
      refine ⟨?_, fun z => i2 ⟨z.2, ?_⟩⟩
      · have := Rat.mul_nonneg (Rat.mul_nonneg hu (Rat.le_of_lt ha)) (bl0 hv F1)
        unfold ip at this i1 ⊢
        simp only [zm] at this ⊢
        grind
      · obtain ⟨z1, z2⟩ := z
        rw [z2] at z1
        have z3 := congrArg Prod.fst z1
        have z4 := congrArg Prod.snd z1
        simp only [zm] at z3 z4
        exact K4 (by show F2.1 = 0; grind) (by show F2.2 = 0; grind)
theorem Hs.noroot (hu : 0 ≤ u) (hv : 0 < v) {n : Nat} {A B : Nat → Rat} (h : Hs (n + 1) A B) (z1 : (Ez u w v (n + 1) A).1 + (Ez u w v n B).1 = 0) (z2 : (Ez u w v (n + 1) A).2 + (Ez u w v n B).2 = 0) : False := by
  obtain ⟨i1, i2⟩ := Hs.ez (w := w) hu hv n h
  generalize Ez u w v (n + 1) A = F0 at *
  generalize Ez u w v n B = F1 at *
  have e1 : F0.1 = -F1.1 := by grind
  have e2 : F0.2 = -F1.2 := by grind
  have n1 : ip v F1 F1 ≤ 0 := by
    unfold ip at i1 ⊢
    rw [e1, e2] at i1
    grind
  have f1 := bc8 hv n1
  refine i2 ⟨K4 ?_ ?_, f1⟩
  · rw [e1, f1]; show -(0 : Rat) = 0; decide
  · rw [e2, f1]; show -(0 : Rat) = 0; decide
end
theorem bj6 {r : Rat} (hr : 0 ≤ r) {n : Nat} {A B : Nat → Rat} (sA : ∀ j, n < 2 * j → A j = 0) (sB : ∀ j, n < 2 * j + 1 → B j = 0) : ¬ Hs (n + 1) (fun j => A j + -r * sh B j) (fun j => B j + -r * A j) := fun h => by
  have eP : (fun j => A j + -r * sh B j) = fun j => 1 * A j + -r * sh B j := by funext j; grind
  have eQ : (fun j => B j + -r * A j) = fun j => 1 * B j + -r * A j := by funext j; grind
  rw [eP, eQ] at h
  have up := al8 (u := r) (w := 0) (v := 1) n A sA
  have key : ∀ (x : Cz), zm r 0 1 x = (r * x.1, r * x.2) := fun x => K4 (by simp only [zm]; grind) (by simp only [zm]; grind)
  have hb : ∃ Y : Cz, Ez r 0 1 (n + 1) (sh B) = Y ∧ Ez r 0 1 n B = (r * Y.1, r * Y.2) := by
    cases n with
    | zero =>
      refine ⟨(0, 0), ?_, ?_⟩
      · show zm r 0 1 (0, 0) = _
        rw [key]; exact K4 (by show r * 0 = 0; grind) (by show r * 0 = 0; grind)
      · show (B 0, (0 : Rat)) = _
        rw [sB 0 (by omega)]; exact K4 (by show 0 = r * 0; grind) (by show 0 = r * 0; grind)
    | succ m => exact ⟨Ez r 0 1 m B, aF4 m B, by rw [al8 m B fun j hj => sB j (by omega), key]⟩
  obtain ⟨Y, y1, y2⟩ := hb
  refine h.noroot (u := r) (w := 0) (v := 1) hr (by decide) ?_ ?_
  · rw [ac6, ac6, up, key, y1, y2]; simp only; grind
  · rw [ac6, ac6, up, key, y1, y2]; simp only; grind
theorem bc2 {u v : Rat} (hu : 0 ≤ u) (hv : 0 < v) {n : Nat} {A B : Nat → Rat} (sA : ∀ j, n < 2 * j → A j = 0) (sB : ∀ j, n < 2 * j + 1 → B j = 0) : ¬ Hs (n + 2) (fun j => A j + (u * u + v) * sh A j + -2 * u * sh B j) (fun j => B j + (u * u + v) * sh B j + -2 * u * A j) := fun h => by
  have lin3 : ∀ (m : Nat) (X Y Z : Nat → Rat) (b c : Rat), Ez u 1 v m (fun j => X j + b * Y j + c * Z j) = ((Ez u 1 v m X).1 + b * (Ez u 1 v m Y).1 + c * (Ez u 1 v m Z).1, (Ez u 1 v m X).2 + b * (Ez u 1 v m Y).2 + c * (Ez u 1 v m Z).2) := fun m X Y Z b c => by
    have e1 : (fun j => X j + b * Y j + c * Z j) = fun j => 1 * (fun j => 1 * X j + b * Y j) j + c * Z j := by funext j; grind
    rw [e1, ac6, ac6]
    refine K4 ?_ ?_ <;> simp only <;> grind
  have a1 := al8 (u := u) (w := 1) (v := v) n A sA
  have a2 := al8 (u := u) (w := 1) (v := v) (n + 1) A fun j hj => sA j (by omega)
  rw [a1] at a2
  have b2 : Ez u 1 v (n + 2) (sh B) = Ez u 1 v n B := aF4 n B
  have b1 := al8 (u := u) (w := 1) (v := v) n B fun j hj => sB j (by omega)
  have hb : ∃ Y : Cz, Ez u 1 v (n + 1) (sh B) = Y ∧ Ez u 1 v n B = zm u 1 v Y := by
    cases n with
    | zero =>
      refine ⟨(0, 0), ?_, ?_⟩
      · show zm u 1 v (0, 0) = _
        exact K4 (by simp only [zm]; grind) (by simp only [zm]; grind)
      · show (B 0, (0 : Rat)) = _
        rw [sB 0 (by omega)]; exact K4 (by simp only [zm]; grind) (by simp only [zm]; grind)
    | succ m => exact ⟨Ez u 1 v m B, aF4 m B, al8 m B fun j hj => sB j (by omega)⟩
  obtain ⟨Y, y1, y2⟩ := hb
  have a0 : Ez u 1 v (n + 2) (sh A) = Ez u 1 v n A := aF4 n A
  refine Hs.noroot (n := n + 1) (u := u) (w := 1) (v := v) hu hv h ?_ ?_
  · rw [lin3, lin3]
    show (Ez u 1 v (n + 2) A).1 + _ * (Ez u 1 v (n + 2) (sh A)).1 + _ * (Ez u 1 v (n + 2) (sh B)).1 + ((Ez u 1 v (n + 1) B).1 + _ * (Ez u 1 v (n + 1) (sh B)).1 + _ * (Ez u 1 v (n + 1) A).1) = 0
    rw [a2, a0, b2, b1, y1, a1, y2]; simp only [zm]; grind
  · rw [lin3, lin3]
    show (Ez u 1 v (n + 2) A).2 + _ * (Ez u 1 v (n + 2) (sh A)).2 + _ * (Ez u 1 v (n + 2) (sh B)).2 + ((Ez u 1 v (n + 1) B).2 + _ * (Ez u 1 v (n + 1) (sh B)).2 + _ * (Ez u 1 v (n + 1) A).2) = 0
    rw [a2, a0, b2, b1, y1, a1, y2]; simp only [zm]; grind
def evM (e1 e2 : Rat) (X : Nat → Rat) : Nat → Rat := fun j => X j + e1 * sh X j + e2 * sh (sh X) j
theorem bl6 (e1 e2 : Rat) (X : Nat → Rat) (j : Nat) : evM e1 e2 (sh X) j = sh (evM e1 e2 X) j := by
  cases j with
  | zero => show (0 : Rat) + e1 * 0 + e2 * 0 = 0; grind
  | succ j => rfl
theorem aM0 {X : Nat → Rat} : ∀ (N : Nat), (∀ j, N ≤ j → X j = 0) → (∃ j, X j ≠ 0) → ∃ j, X j ≠ 0 ∧ ∀ i, j < i → X i = 0
  | 0, h, ⟨j, hj⟩ => absurd (h j (by omega)) hj
  | N + 1, h, hx => by
    by_cases z : X N = 0
    · exact aM0 N (fun j hj => by
        rcases Nat.eq_or_lt_of_le hj with e | e
        · rw [← e]; exact z
        · exact h j e) hx
    · exact ⟨N, z, fun i hi => h i hi⟩
theorem aL9 {e1 e2 : Rat} (he : e1 ≠ 0 ∨ e2 ≠ 0) {n : Nat} {A B : Nat → Rat} (h : Hs n A B) : ∀ {A' B' : Nat → Rat} {N : Nat}, (∀ j, N ≤ j → A' j = 0) → (∀ j, N ≤ j → B' j = 0) → (∀ j, A j = evM e1 e2 A' j) → (∀ j, B j = evM e1 e2 B' j) → False := by
  induction h with
  | @base A B h0 hA hB =>
    intro A' B' N fA fB eA eB
    have a0 : A' 0 ≠ 0 := fun z => h0 (by rw [eA]; show A' 0 + e1 * 0 + e2 * 0 = 0; rw [z]; grind)
    obtain ⟨j, hj, hmax⟩ := aM0 N fA ⟨0, a0⟩
    by_cases h2 : e2 = 0
    · have h1 : e1 ≠ 0 := he.elim id fun z => absurd h2 z
      have z := hA j
      rw [eA] at z
      have z' : A' (j + 1) + e1 * A' j + e2 * sh (sh A') (j + 1) = 0 := z
      rw [hmax (j + 1) (by omega), h2] at z'
      have : e1 * A' j = 0 := by grind
      rcases Rat.mul_eq_zero.mp this with y | y
      · exact h1 y
      · exact hj y
    · have z := hA (j + 1)
      rw [eA] at z
      have z' : A' (j + 2) + e1 * A' (j + 1) + e2 * A' j = 0 := z
      rw [hmax (j + 2) (by omega), hmax (j + 1) (by omega)] at z'
      have : e2 * A' j = 0 := by grind
      rcases Rat.mul_eq_zero.mp this with y | y
      · exact h2 y
      · exact hj y
  | @step n A B C a ha hA h ih =>
    intro A' B' N fA fB eA eB
    have d0 : A' 0 - a * B' 0 = 0 := by
      have := hA 0
      rw [eA, eB, G1] at this
      have : A' 0 + e1 * 0 + e2 * 0 = a * (B' 0 + e1 * 0 + e2 * 0) + 0 := this
      grind
    have dd : ∀ j, A' j - a * B' j = sh (fun j => A' (j + 1) - a * B' (j + 1)) j := fun j => by
      cases j with
      | zero => exact d0
      | succ j => rfl
    refine ih (A' := B') (B' := fun j => A' (j + 1) - a * B' (j + 1)) (N := N) fB (fun j hj => by show A' (j + 1) - a * B' (j + 1) = 0; rw [fA _ (by omega), fB _ (by omega)]; grind) eB fun j => ?_
    have e : sh C (j + 1) = sh (evM e1 e2 fun j => A' (j + 1) - a * B' (j + 1)) (j + 1) := by
      rw [← bl6]
      have h1 := hA (j + 1)
      rw [eA, eB] at h1
      unfold evM at h1 ⊢
      have s1 : ∀ i, sh (fun j => A' (j + 1) - a * B' (j + 1)) i = A' i - a * B' i := fun i => (dd i).symm
      have s2 : ∀ i, sh (sh fun j => A' (j + 1) - a * B' (j + 1)) i = sh A' i - a * sh B' i := fun i => by
        cases i with
        | zero => show (0 : Rat) = 0 - a * 0; grind
        | succ i => exact s1 i
      have s3 : ∀ i, sh (sh (sh fun j => A' (j + 1) - a * B' (j + 1))) i = sh (sh A') i - a * sh (sh B') i := fun i => by
        cases i with
        | zero => show (0 : Rat) = 0 - a * 0; grind
        | succ i => exact s2 i
      rw [s1, s2, s3]
      grind
    exact e
def bF (c x : Nat) : Nat := (c + 1) * (x * (x + 1))
structure SgS (c d0 L K : Nat) (P0 Q0 : List Int) (s t : Rat) (A B : List Int) : Prop where
  tA : at4 A A.length
  tB : at4 B B.length
  lA : A.length ≤ L
  lB : B.length < A.length
  gB : B ≠ [] → G0 B = 1
  eu : Eu (zc P0) (zc Q0) (zc A) (zc B) P0.length Q0.length A.length B.length
  s0 : s ≠ 0
  t0 : t ≠ 0
  wA : ∀ k, (aZ A k).natAbs < 2 ^ (c * (2 * (L - A.length) + 1))
  wB : ∀ k, (aZ B k).natAbs < 2 ^ (c * (2 * (L - A.length) + 1))
  sd : s.den < 2 ^ (d0 + bF c (L - A.length - 1))
  sn : s.num.natAbs < 2 ^ (d0 + 2 * bF c (L - A.length - 1))
  td : t.den < 2 ^ (d0 + bF c (L - A.length))
  tn : t.num.natAbs < 2 ^ (d0 + 2 * bF c (L - A.length))
def FmX (K : PySem.W.Frag) (D : Addr) (H : Hp) (r : Addr) (s : Rat) (ws : List Int) : Prop := ∃ rs l, SqT K H r [.ref rs, .ref l] ∧ SqT K H rs (B7 s) ∧ H l = some (.lst (ws.map V.int)) ∧ l ≠ D
inductive Fms (K : PySem.W.Frag) (D : Addr) (H : Hp) : List V → List (Rat × List Int) → Prop where
  | nil : Fms K D H [] []
  | cons {r : Addr} {s : Rat} {ws : List Int} {xs : List V} {fs : List (Rat × List Int)} (h : FmX K D H r s ws) (t : Fms K D H xs fs) : Fms K D H (.ref r :: xs) ((s, ws) :: fs)
structure Pf where
  f : Nat → Rat
theorem Pf.ext {a b : Pf} (h : ∀ k, a.f k = b.f k) : a = b := by
  cases a; cases b; congr 1; exact funext h
def aj2 (c : Rat) : Pf := ⟨fun k => if k = 0 then c else 0⟩
def aI3 (a b : Pf) : Pf := ⟨cv a.f b.f⟩
def bn6 (a : Pf) : Nat → Pf
  | 0 => aj2 1
  | n + 1 => aI3 (bn6 a n) a
theorem as4 (c : Rat) (h : Nat → Rat) (k : Nat) : cv (fun k => if k = 0 then c else 0) h k = c * h k := by
  rw [aw7, if_pos (by omega), Nat.sub_zero]
theorem aE2 (c : Rat) (a : Pf) (k : Nat) : (aI3 (aj2 c) a).f k = c * a.f k := as4 c a.f k
instance instPf : Lean.Grind.CommRing Pf where
  add a b := ⟨fun k => a.f k + b.f k⟩
  mul := aI3
  neg a := ⟨fun k => - a.f k⟩
  sub a b := ⟨fun k => a.f k - b.f k⟩
  natCast := ⟨fun n => aj2 n⟩
  ofNat n := ⟨aj2 n⟩
  intCast := ⟨fun n => aj2 n⟩
  nsmul := ⟨fun n a => aI3 (aj2 n) a⟩
  zsmul := ⟨fun n a => aI3 (aj2 n) a⟩
  npow := ⟨bn6⟩
  add_zero a := Pf.ext fun k => by
    show a.f k + (if k = 0 then ((0 : Nat) : Rat) else 0) = a.f k
    have : ((0 : Nat) : Rat) = 0 := rfl
    rw [this]; split <;> grind
  add_comm a b := Pf.ext fun k => by show a.f k + b.f k = b.f k + a.f k; grind
  add_assoc a b c := Pf.ext fun k => by show a.f k + b.f k + c.f k = a.f k + (b.f k + c.f k); grind
  mul_assoc a b c := Pf.ext fun k => aF9 k a.f b.f c.f
  one_mul a := Pf.ext fun k => by
    show cv (fun k => if k = 0 then ((1 : Nat) : Rat) else 0) a.f k = a.f k
    rw [as4]
    have : ((1 : Nat) : Rat) = 1 := rfl
    rw [this]; grind
  right_distrib a b c := Pf.ext fun k => aK2 a.f b.f c.f k
  mul_zero a := Pf.ext fun k => by
    show cv a.f (fun k => if k = 0 then ((0 : Nat) : Rat) else 0) k = (if k = 0 then ((0 : Nat) : Rat) else 0)
    rw [X0, as4]
    have : ((0 : Nat) : Rat) = 0 := rfl
    rw [this]; split <;> grind
  mul_comm a b := Pf.ext fun k => X0 a.f b.f k
  mul_one a := Pf.ext fun k => by
    show cv a.f (fun k => if k = 0 then ((1 : Nat) : Rat) else 0) k = a.f k
    rw [X0, as4]
    have : ((1 : Nat) : Rat) = 1 := rfl
    rw [this]; grind
  left_distrib a b c := Pf.ext fun k => by
    show cv a.f (fun k => b.f k + c.f k) k = cv a.f b.f k + cv a.f c.f k
    rw [X0, aK2, X0 b.f, X0 c.f]
  zero_mul a := Pf.ext fun k => by
    show cv (fun k => if k = 0 then ((0 : Nat) : Rat) else 0) a.f k = (if k = 0 then ((0 : Nat) : Rat) else 0)
    rw [as4]
    have : ((0 : Nat) : Rat) = 0 := rfl
    rw [this]; split <;> grind
  pow_zero a := Pf.ext fun k => by
    show (if k = 0 then (1 : Rat) else 0) = if k = 0 then ((1 : Nat) : Rat) else 0
    rfl
  pow_succ a n := rfl
  ofNat_succ n := Pf.ext fun k => by
    show (if k = 0 then ((n + 1 : Nat) : Rat) else 0) = (if k = 0 then (n : Rat) else 0) + (if k = 0 then ((1 : Nat) : Rat) else 0)
    split
    · rw [Rat.natCast_add]
    · grind
  neg_add_cancel a := Pf.ext fun k => by
    show - a.f k + a.f k = if k = 0 then ((0 : Nat) : Rat) else 0
    have : ((0 : Nat) : Rat) = 0 := rfl
    rw [this]; split <;> grind
  sub_eq_add_neg a b := Pf.ext fun k => by show a.f k - b.f k = a.f k + - b.f k; grind
  neg_zsmul i a := Pf.ext fun k => by
    show (aI3 (aj2 ((-i : Int) : Rat)) a).f k = - (aI3 (aj2 (i : Rat)) a).f k
    rw [aE2, aE2, Rat.intCast_neg]; grind
  intCast_neg i := Pf.ext fun k => by
    show (if k = 0 then ((-i : Int) : Rat) else 0) = - (if k = 0 then (i : Rat) else 0)
    split
    · rw [Rat.intCast_neg]
    · grind
theorem aq2 (a b : Pf) (k : Nat) : (a + b).f k = a.f k + b.f k := rfl
theorem bi9 (a b : Pf) (k : Nat) : (a * b).f k = cv a.f b.f k := rfl
def zp (ws : List Int) : Pf := ⟨zc ws⟩
theorem O1 (k : Nat) : (0 : Pf).f k = 0 := by
  show (if k = 0 then ((0 : Nat) : Rat) else 0) = 0
  have : ((0 : Nat) : Rat) = 0 := rfl
  rw [this]; split <;> rfl
structure Ev (p q A B fa ha fb hb : Pf) (lp lq la lb : Nat) : Prop where
  inv : ∀ m, m < la → ∀ u v : Pf, Dg u.f (lq - m) → Dg v.f (lp - m) → Dg (u * p + v * q).f m →
    ∃ a b : Pf, u = a * fa + b * fb ∧ v = a * ha + b * hb ∧ Dg a.f (lb - m) ∧ Dg b.f (la - m)
  idA : A = fa * p + ha * q
  idB : B = fb * p + hb * q
  cr : ∃ δ : Rat, δ ≠ 0 ∧ aj2 δ * p = hb * A - ha * B ∧ aj2 δ * q = fa * B - fb * A
  le : la ≤ max lp lq
def ExZ (one other : List Int) : Prop := ∃ (V : Nat → Int) (n : Nat), (∀ k, n ≤ k → V k = 0) ∧ ∀ k, zc one k = cv (fun i => (V i : Rat)) (zc other) k
def fz (v : Nat → Int) : Pf := ⟨fun k => (v k : Rat)⟩
def wL (c L la : Nat) : Nat := c * (2 * (L + 1 - la))
structure LC (P0 Q0 : List Int) (K c L : Nat) : Prop where
  tP : at4 P0 P0.length
  tQ : at4 Q0 Q0.length
  lp : P0.length ≤ L
  lq : Q0.length ≤ L
  kP : ∀ k, (aZ P0 k).natAbs ≤ K
  kQ : ∀ k, (aZ Q0 k).natAbs ≤ K
  k1 : 1 ≤ K
  l1 : 1 ≤ L
  hc : 4 * L * K ≤ 2 ^ c
structure LS (P0 Q0 : List Int) (c L w : Nat) (A Fa B Fb : List Int) (ha hb : Pf) : Prop where
  ev : Ev (zp P0) (zp Q0) (zp A) (zp B) (zp Fa) ha (zp Fb) hb P0.length Q0.length A.length B.length
  tA : at4 A A.length
  tB : at4 B B.length
  lA : A.length ≤ L
  lB : B.length ≤ L
  st : (A = P0 ∧ B = Q0 ∧ Fa = [1] ∧ Fb = [] ∧ ha = 0 ∧ hb = 1 ∧ w = c) ∨ (B.length < A.length ∧ A.length ≤ Q0.length ∧ w = wL c L A.length)
  bA : ∀ k, (aZ A k).natAbs < 2 ^ w
  bFa : ∀ k, (aZ Fa k).natAbs < 2 ^ w
  bB : B ≠ [] → ∀ k, (aZ B k).natAbs < 2 ^ w
  bFb : B ≠ [] → ∀ k, (aZ Fb k).natAbs < 2 ^ w
  hA : ∀ k (z : Int), ha.f k = (z : Rat) → z.natAbs < 2 ^ w
  hB : B ≠ [] → ∀ k (z : Int), hb.f k = (z : Rat) → z.natAbs < 2 ^ w
  dA : ∃ n, Dg ha.f n
  dB : ∃ n, Dg hb.f n
  lFa : Fa.length ≤ max 1 (Q0.length + 1 - A.length)
  lFb : Fb.length ≤ Q0.length + 1 - A.length
  tFa : at4 Fa Fa.length
  tFb : at4 Fb Fb.length
structure LRes (P0 Q0 A F : List Int) (w L c : Nat) : Prop where
  tA : at4 A A.length
  nA : A ≠ []
  lA : A.length ≤ L
  lF : F.length ≤ L
  lF2 : F.length ≤ max 1 (Q0.length + 1 - A.length)
  tF : at4 F F.length
  bA : ∀ k, (aZ A k).natAbs < 2 ^ w
  bF : ∀ k, (aZ F k).natAbs < 2 ^ w
  bA2 : ∀ k, (aZ A k).natAbs < 2 ^ wL c L A.length
  idA : ∃ h : Pf, (∃ n, Dg h.f n) ∧ zp A = zp F * zp P0 + h * zp Q0 ∧ ∀ k (z : Int), h.f k = (z : Rat) → z.natAbs < 2 ^ w
  p1 : ∃ (κ : Rat) (v : Nat → Int), (∃ n, ∀ k, n ≤ k → v k = 0) ∧ zp P0 = aj2 κ * (fz v * zp A) ∧ (∀ k, (v k).natAbs < 2 ^ wL c L A.length) ∧ κ.num.natAbs < 2 ^ c ∧ κ.den < 2 ^ (wL c L A.length + wL c L A.length)
  q1 : ∃ (κ : Rat) (v : Nat → Int), (∃ n, ∀ k, n ≤ k → v k = 0) ∧ zp Q0 = aj2 κ * (fz v * zp A) ∧ (∀ k, (v k).natAbs < 2 ^ wL c L A.length) ∧ κ.num.natAbs < 2 ^ c ∧ κ.den < 2 ^ (wL c L A.length + wL c L A.length)
  q0 : Q0 = [] → A = P0 ∧ F = [1]
def OvP (B W : Nat) (p : Pf) : Prop := ∀ k, OvB B W (p.f k)
theorem OvP.mono {B V W : Nat} {p : Pf} (h : OvP B V p) (l : V ≤ W) : OvP B W p := fun k => (h k).mono l
theorem OvP.mul {B C V W n : Nat} (hB : 0 < B) (hC : 0 < C) {p q : Pf} (hp : OvP B V p) (hq : OvP C W q) (dp : Dg p.f n) : OvP (B * C) (V + W + n) (p * q) := fun k => by
  have e : (p * q).f k = o9 (fun i => p.f i * if i ≤ k then q.f (k - i) else 0) n := be1 dp q.f k
  rw [e]
  refine ao3 (Nat.mul_pos hB hC) (fun i => ?_) n
  split
  · exact (hp i).mul (hq _)
  · have : p.f i * 0 = 0 := by grind
    rw [this]; exact OvB.zero _ _
theorem OvP.add {B W : Nat} (hB : 0 < B) {p q : Pf} (hp : OvP B W p) (hq : OvP B W q) : OvP B (W + 1) (p + q) := fun k => (hp k).add hB (hq k)
theorem OvP.up {B W : Nat} {p : Pf} (h : OvP B W p) (hB : 0 < B) {C c : Nat} (hC : 0 < C) (hc : C < 2 ^ c) : OvP (B * C) (W + c) p := fun k => (h k).up hB hC hc
def qp (l : List Rat) : Pf := ⟨aQ l⟩
theorem aU5 (p q : List Rat) : qp (M3 p q) = qp p * qp q := Pf.ext fun k => aO3 p q k
theorem aU6 (p q : List Rat) : qp (aa6 p q) = qp p + qp q := Pf.ext fun k => be6 p q k
theorem W0 (l : List Rat) : Dg (qp l).f l.length := fun k hk => by
  show aQ l k = 0
  unfold aQ; rw [List.getElem?_eq_none hk]; rfl
theorem bi2 : qp [] = 0 := Pf.ext fun k => by rw [O1]; rfl
theorem aH6 {B W : Nat} {l : List Rat} (h : ∀ x ∈ l, OvB B W x) : OvP B W (qp l) := fun k => by
  show OvB B W (aQ l k)
  unfold aQ
  cases hk : l[k]? with
  | none => exact OvB.zero _ _
  | some x => exact h x (List.mem_of_getElem? hk)
theorem aq5 {B W : Nat} {l : List Rat} (h : OvP B W (qp l)) : ∀ x ∈ l, OvB B W x := fun x hx => by
  obtain ⟨k, hk, e⟩ := List.getElem_of_mem hx
  have := h k
  have e2 : (qp l).f k = x := by
    show aQ l k = x
    unfold aQ; rw [List.getElem?_eq_getElem hk, e]; rfl
  rw [e2] at this; exact this
def fld (M : List (List Rat)) (last : List Rat) : Nat → Pf × Pf
  | 0 => (qp last, 0)
  | n + 1 => (qp ((M[M.length - 1 - n]?).getD []) * (fld M last n).1 + (fld M last n).2, (fld M last n).1)
mutual
inductive HD (H : Hp) : V → D → Prop where
  | v {x : V} (f : aF2 x = true) : HD H x (.v x)
  | tup {p : Addr} {xs : List V} {ds : List D} (h : H p = some (.tup xs)) (t : HDs H xs ds) : HD H (.ref p) (.tup ds)
  | lst {p : Addr} {xs : List V} {ds : List D} (h : H p = some (.lst xs)) (t : HDs H xs ds) : HD H (.ref p) (.lst ds)
inductive HDs (H : Hp) : List V → List D → Prop where
  | nil : HDs H [] []
  | cons {x : V} {xs : List V} {d : D} {ds : List D} (h : HD H x d) (t : HDs H xs ds) : HDs H (x :: xs) (d :: ds)
end
def evZ (qs : List Rat) : Bool := (evs qs).all fun q => decide (q = 0)
def odZ (qs : List Rat) : Bool := (ods qs).all fun q => decide (q = 0)
def cOk (c T : Nat) : Prop := (c = 10 ∧ T ≤ 14) ∨ (c = 40 ∧ T ≤ 5)
def Ub (c D : Nat) : Nat := 1 + 2 * c + (3 * c + 4) * D
theorem bn2 {c T D : Nat} (h : cOk c T) (l : D ≤ T) : Ub c D ≤ 701 := by
  unfold Ub
  rcases h with ⟨rfl, h⟩ | ⟨rfl, h⟩ <;> omega
theorem bg1 (c D : Nat) : 1 ≤ Ub c D := by unfold Ub; omega
theorem aL1 {c D d : Nat} (hd : 1 ≤ d) : Ub c D + (1 + c * (d + 1) + c) + (d + 1) + 1 ≤ Ub c (D + d) := by
  unfold Ub
  have e1 : (3 * c + 4) * (D + d) = (3 * c + 4) * D + (3 * c + 4) * d := Nat.mul_add _ _ _
  have e2 : (3 * c + 4) * d = 3 * (c * d) + 4 * d := by rw [Nat.add_mul, Nat.mul_assoc]
  have e3 : c * (d + 1) = c * d + c := Nat.mul_succ _ _
  have e4 : c ≤ c * d := Nat.le_mul_of_pos_right _ hd
  omega
structure Y1 (c : Nat) (M : List (List Rat)) (last : List Rat) : Prop where
  m : ∀ L ∈ M, J3 L L.length ∧ 2 ≤ L.length ∧ evZ L = true ∧ ∀ x ∈ L, BdN c x
  t : J3 last last.length
  n : last ≠ []
  p : evZ last = true ∨ odZ last = true
  o : ∀ x ∈ last, BdN c x
  z : cOk c (last.length - 1 + (M.map fun L => L.length - 1).sum)
theorem Y1.s {c : Nat} {M : List (List Rat)} {last : List Rat} (R : Y1 c M last) : last.length + (M.map fun L => L.length - 1).sum ≤ 15 := by
  have := List.length_pos_iff.mpr R.n
  rcases R.z with ⟨_, h⟩ | ⟨_, h⟩ <;> omega
theorem Y1.c1 {c : Nat} {M : List (List Rat)} {last : List Rat} (R : Y1 c M last) : 10 ≤ c ∧ c ≤ 40 := by
  rcases R.z with ⟨h, _⟩ | ⟨h, _⟩ <;> omega
def aB6 (M : List (List Rat)) : Nat → Nat
  | 0 => 0
  | n + 1 => aB6 M n + (((M[M.length - 1 - n]?).getD []).length - 1)
theorem aC8 (M : List (List Rat)) : ∀ n, n ≤ M.length → aB6 M n = ((M.drop (M.length - n)).map fun L => L.length - 1).sum
  | 0, _ => by rw [Nat.sub_zero, List.drop_length]; rfl
  | n + 1, h => by
    rw [aB6, aC8 M n (by omega)]
    have e : M.drop (M.length - (n + 1)) = (M[M.length - 1 - n]'(by omega)) :: M.drop (M.length - n) := by
      rw [show M.length - (n + 1) = M.length - 1 - n by omega, List.drop_eq_getElem_cons (by omega), show M.length - 1 - n + 1 = M.length - n by omega]
    rw [e, List.map_cons, List.sum_cons, List.getElem?_eq_getElem (by omega), Option.getD_some]
    omega
theorem aN0 {M : List (List Rat)} {n : Nat} (h : n ≤ M.length) : aB6 M n ≤ (M.map fun L => L.length - 1).sum := by
  have h2 := aC8 M n h
  have h3 : ((M.drop (M.length - n)).map fun L => L.length - 1).sum ≤ (M.map fun L => L.length - 1).sum := by
    conv => rhs; rw [← List.take_append_drop (M.length - n) M]
    rw [List.map_append, List.sum_append]
    omega
  omega
theorem Y1.sum {c : Nat} {M : List (List Rat)} {last : List Rat} (R : Y1 c M last) {n : Nat} (h : n ≤ M.length) : last.length + aB6 M n ≤ 15 := by
  have := R.s
  have := aN0 h
  omega
def dn (M : List (List Rat)) (last : List Rat) (n : Nat) : Nat := last.length - 1 + aB6 M n
theorem Y1.ub {c : Nat} {M : List (List Rat)} {last : List Rat} (R : Y1 c M last) {n : Nat} (h : n ≤ M.length) : Ub c (dn M last n) ≤ 701 := bn2 R.z (by
  have := aN0 h
  unfold dn
  omega)
theorem Y1.len {c : Nat} {M : List (List Rat)} {last : List Rat} (R : Y1 c M last) : M.length ≤ 14 := by
  have key : ∀ (N : List (List Rat)), (∀ L ∈ N, 2 ≤ L.length) → N.length ≤ (N.map fun L => L.length - 1).sum := by
    intro N
    induction N with
    | nil => intro _; simp
    | cons L N ih =>
      intro h
      have h1 := h L List.mem_cons_self
      have h2 := ih fun L hL => h L (List.mem_cons_of_mem _ hL)
      rw [List.map_cons, List.sum_cons, List.length_cons]
      omega
  have h1 := key M fun L hL => (R.m L hL).2.1
  have h2 := R.s
  have h3 := List.length_pos_iff.mpr R.n
  omega
theorem Y1.at {c : Nat} {M : List (List Rat)} {last : List Rat} (R : Y1 c M last) {n : Nat} (h : n < M.length) : ∃ L, M[M.length - 1 - n]? = some L ∧ L ∈ M ∧ dn M last (n + 1) = dn M last n + (L.length - 1) ∧ (fld M last (n + 1)).1 = qp L * (fld M last n).1 + (fld M last n).2 ∧ (fld M last (n + 1)).2 = (fld M last n).1 := by
  have hg : M[M.length - 1 - n]? = some (M[M.length - 1 - n]'(by omega)) := List.getElem?_eq_getElem (by omega)
  refine ⟨_, hg, List.mem_of_getElem? hg, ?_, ?_, rfl⟩
  · unfold dn
    rw [aB6, hg, Option.getD_some]
    omega
  · show qp ((M[M.length - 1 - n]?).getD []) * (fld M last n).1 + (fld M last n).2 = _
    rw [hg]; rfl
theorem Y1.l15 {c : Nat} {M : List (List Rat)} {last : List Rat} (R : Y1 c M last) {L : List Rat} (h : L ∈ M) : L.length ≤ 15 := by
  have key : ∀ (N : List (List Rat)), L ∈ N → L.length - 1 ≤ (N.map fun L => L.length - 1).sum := by
    intro N
    induction N with
    | nil => intro h; cases h
    | cons L' N ih =>
      intro h
      rw [List.map_cons, List.sum_cons]
      rcases List.mem_cons.mp h with z | z
      · rw [z]; omega
      · have := ih z; omega
  have := key M h
  have := R.s
  have := List.length_pos_iff.mpr R.n
  omega
theorem aM7 {c : Nat} {M : List (List Rat)} {last : List Rat} (R : Y1 c M last) : ∀ n, n ≤ M.length → ∃ B, 0 < B ∧ B < 2 ^ Ub c (dn M last n) ∧ OvP B (Ub c (dn M last n)) (fld M last n).1 ∧ OvP B (Ub c (dn M last n)) (fld M last n).2
  | 0, _ => by
    have cl := as6 R.o
    have hp := List.length_pos_iff.mpr R.n
    have le : 1 + c * last.length + c ≤ Ub c (dn M last 0) := by
      unfold Ub dn
      rw [aB6]
      obtain ⟨e, he⟩ : ∃ e, last.length = e + 1 := ⟨last.length - 1, by omega⟩
      rw [he, Nat.mul_succ, Nat.add_sub_cancel, Nat.add_zero, Nat.add_mul, Nat.mul_assoc, Nat.add_zero]
      omega
    have cl := cl.mono le
    exact ⟨i9 last, B9 _, cl.l, aH6 fun x hx => aI4 cl hx, fun k => by rw [show (fld M last 0).2 = 0 from rfl, O1]; exact OvB.zero _ _⟩
  | n + 1, h => by
    obtain ⟨B, B0, hB, h1, h2⟩ := aM7 R n (by omega)
    obtain ⟨L, hg, hL, hd, e1, e2⟩ := R.at (n := n) (by omega)
    obtain ⟨tL, l2, _, bL⟩ := R.m L hL
    have cl := as6 bL
    obtain ⟨d, hd'⟩ : ∃ d, L.length = d + 1 := ⟨L.length - 1, by omega⟩
    rw [hd'] at cl hd l2
    rw [Nat.add_sub_cancel] at hd
    have st := aL1 (c := c) (D := dn M last n) (d := d) (by omega)
    rw [← hd] at st
    generalize 1 + c * (d + 1) + c = v at *
    have m1 : OvP (i9 L * B) (v + Ub c (dn M last n) + (d + 1)) (qp L * (fld M last n).1) := OvP.mul (B9 _) B0 (aH6 fun x hx => aI4 cl hx) h1 (by rw [← hd']; exact W0 L)
    have m2 : OvP (B * i9 L) (Ub c (dn M last n) + v) (fld M last n).2 := h2.up B0 (B9 _) cl.l
    have u1 : OvP (B * i9 L) (Ub c (dn M last n) + v) (fld M last n).1 := h1.up B0 (B9 _) cl.l
    rw [Nat.mul_comm] at m1
    have Bp : 0 < B * i9 L := Nat.mul_pos B0 (B9 _)
    refine ⟨B * i9 L, Bp, ?_, ?_, ?_⟩
    · have : B * i9 L < 2 ^ (Ub c (dn M last n)) * 2 ^ v := Nat.mul_lt_mul'' hB cl.l
      rw [← Nat.pow_add] at this
      exact Nat.lt_of_lt_of_le this (i5 (by omega))
    · rw [e1]
      exact (OvP.add Bp (m1.mono (show _ ≤ Ub c (dn M last n) + v + (d + 1) by omega)) (m2.mono (by omega))).mono (by omega)
    · rw [e2]
      exact u1.mono (by omega)
theorem aJ8 {c : Nat} {M : List (List Rat)} {last : List Rat} (R : Y1 c M last) : ∀ n, n ≤ M.length → Dg (fld M last n).1.f (dn M last n + 1) ∧ Dg (fld M last n).2.f (dn M last n)
  | 0, _ => by
    have hp := List.length_pos_iff.mpr R.n
    refine ⟨?_, fun k _ => by rw [show (fld M last 0).2 = 0 from rfl]; exact O1 k⟩
    have e : dn M last 0 + 1 = last.length := by unfold dn; rw [aB6]; omega
    rw [e]; exact W0 last
  | n + 1, h => by
    obtain ⟨h1, h2⟩ := aJ8 R n (by omega)
    obtain ⟨L, hg, hL, hd, e1, e2⟩ := R.at (n := n) (by omega)
    obtain ⟨tL, l2, _, bL⟩ := R.m L hL
    rw [e1, e2, hd]
    refine ⟨fun k hk => ?_, fun k hk => h1 k (by omega)⟩
    rw [aq2, h2 k (by omega)]
    have : (qp L * (fld M last n).1).f k = 0 := Dg.cv (W0 L) h1 k (by omega)
    rw [this]; grind
structure Prt (M : List (List Rat)) (last : List Rat) (l : Rat) : Prop where
  m : ∀ L ∈ M, ∃ a : Rat, 0 < a ∧ L = [0, a]
  e : last = [l]
  n : l ≠ 0
theorem ap9 (a : Rat) (p : Pf) (k : Nat) : (qp [0, a] * p).f k = if 1 ≤ k then a * p.f (k - 1) else 0 := by
  rw [bi9]
  have : (qp [0, a]).f = fun i => if i = 1 then a else 0 := by
    funext i
    show (([0, a] : List Rat)[i]?).getD 0 = _
    match i with
    | 0 => rfl
    | 1 => rfl
    | i + 2 => rw [if_neg (by omega), List.getElem?_eq_none (by simp)]; rfl
  rw [this, aw7]
def gP (M : List (List Rat)) (last : List Rat) (rh : Rat) (i j : Nat) : Rat := if 2 * j ≤ i then rh * (fld M last i).1.f (i - 2 * j) else 0
section
variable {M : List (List Rat)} {last : List Rat} {l rh : Rat}
theorem bd0 (P : Prt M last l) (j : Nat) : gP M last rh 0 j = if j = 0 then rh * l else 0 := by
  unfold gP
  by_cases h : j = 0
  · subst h
    rw [if_pos (by omega), if_pos rfl]
    show rh * (qp last).f 0 = _
    rw [P.e]; rfl
  · rw [if_neg (by omega), if_neg h]
theorem aM5 (P : Prt M last l) {i : Nat} (h : i < M.length) : ∃ a : Rat, 0 < a ∧ gP M last rh (i + 1) 0 = a * gP M last rh i 0 ∧ ∀ j, gP M last rh (i + 1) (j + 1) = a * gP M last rh i (j + 1) + (if i = 0 then 0 else gP M last rh (i - 1) j) := by
  have hg : M[M.length - 1 - i]? = some (M[M.length - 1 - i]'(by omega)) := List.getElem?_eq_getElem (by omega)
  obtain ⟨a, ha, eL⟩ := P.m _ (List.mem_of_getElem? hg)
  have e1 : (fld M last (i + 1)).1 = qp [0, a] * (fld M last i).1 + (fld M last i).2 := by
    show qp ((M[M.length - 1 - i]?).getD []) * (fld M last i).1 + (fld M last i).2 = _
    rw [hg, Option.getD_some, eL]
  have e2 : ∀ k, (fld M last i).2.f k = if i = 0 then 0 else (fld M last (i - 1)).1.f k := fun k => by
    cases i with
    | zero => rw [if_pos rfl]; exact O1 k
    | succ i => rw [if_neg (by omega)]; rfl
  refine ⟨a, ha, ?_, fun j => ?_⟩
  · unfold gP
    rw [if_pos (by omega), if_pos (by omega), e1, aq2, ap9, if_pos (by omega), e2]
    have : (if i = 0 then (0 : Rat) else (fld M last (i - 1)).1.f (i + 1 - 2 * 0)) = 0 := by
      split
      · rfl
      · have key : ∀ k, k < M.length + 1 → Dg (fld M last k).1.f (k + 1) ∧ Dg (fld M last k).2.f k := by
          intro k
          induction k with
          | zero =>
            intro _
            refine ⟨fun q hq => ?_, fun q _ => O1 q⟩
            show (qp last).f q = 0
            rw [P.e]
            exact W0 [l] q (by simpa using hq)
          | succ k ih =>
            intro hk
            obtain ⟨d1, d2⟩ := ih (by omega)
            obtain ⟨b, _, eb⟩ := P.m _ (List.getElem_mem (l := M) (n := M.length - 1 - k) (by omega))
            have e3 : (fld M last (k + 1)).1 = qp [0, b] * (fld M last k).1 + (fld M last k).2 := by
              show qp ((M[M.length - 1 - k]?).getD []) * (fld M last k).1 + (fld M last k).2 = _
              rw [List.getElem?_eq_getElem (by omega), Option.getD_some, eb]
            refine ⟨fun q hq => ?_, fun q hq => d1 q (by omega)⟩
            rw [e3, aq2, ap9, d2 q (by omega)]
            split
            · rw [d1 (q - 1) (by omega)]; grind
            · grind
        exact (key (i - 1) (by omega)).1 _ (by omega)
    rw [this, show i + 1 - 2 * 0 - 1 = i - 2 * 0 by omega]; grind
  · unfold gP
    by_cases h2 : 2 * (j + 1) ≤ i + 1
    · rw [if_pos h2, e1, aq2, ap9, e2]
      by_cases i0 : i = 0
      · omega
      · rw [if_neg i0, if_neg i0, if_pos (show 2 * j ≤ i - 1 by omega), show i + 1 - 2 * (j + 1) = i - 1 - 2 * j by omega]
        by_cases h3 : 2 * (j + 1) ≤ i
        · rw [if_pos h3, if_pos (by omega), show i - 1 - 2 * j - 1 = i - 2 * (j + 1) by omega]; grind
        · rw [if_neg h3, if_neg (by omega)]; grind
    · rw [if_neg h2, if_neg (by omega)]
      split
      · grind
      · rw [if_neg (by omega)]; grind
theorem aB2 (P : Prt M last l) (h0 : 0 < rh * l) : ∀ i, i ≤ M.length → ∀ j, 2 * j ≤ i → 0 < gP M last rh i j := by
  intro i
  induction i using Nat.strongRecOn with
  | _ i ih =>
    intro hi j hj
    cases i with
    | zero =>
      have : j = 0 := by omega
      rw [bd0 P, if_pos this]; exact h0
    | succ i =>
      obtain ⟨a, ha, e0, e1⟩ := aM5 (rh := rh) P (i := i) (by omega)
      cases j with
      | zero => rw [e0]; exact aD6 ha (ih i (by omega) (by omega) 0 (by omega))
      | succ j =>
        rw [e1]
        have i0 : i ≠ 0 := by omega
        rw [if_neg i0]
        have p2 := ih (i - 1) (by omega) (by omega) j (by omega)
        by_cases h3 : 2 * (j + 1) ≤ i
        · have p1 := aD6 ha (ih i (by omega) (by omega) (j + 1) h3)
          grind
        · have : gP M last rh i (j + 1) = 0 := by unfold gP; rw [if_neg h3]
          rw [this]
          have e : a * 0 + gP M last rh (i - 1) j = gP M last rh (i - 1) j := by grind
          rw [e]; exact p2
end
theorem ah0 (a : Rat) (es : List Rat) (g : Pf) (k : Nat) : (qp (a :: es) * g).f k = a * g.f k + (if k = 0 then 0 else (qp es * g).f (k - 1)) := by
  cases k with
  | zero =>
    show cv (aQ (a :: es)) g.f 0 = _
    rw [ak3, if_pos rfl]
    show a * g.f 0 = _; grind
  | succ k =>
    show cv (aQ (a :: es)) g.f (k + 1) = _
    rw [ac8, if_neg (by omega), Nat.add_sub_cancel]
    rfl
theorem bb4 (g : Pf) (k : Nat) : (qp [] * g).f k = 0 := be0 (fun _ => rfl) g.f k
def at' (g : Pf) (d k : Nat) : Rat := if d ≤ k then g.f (k - d) else 0
theorem aZ1 (g : Pf) (d k : Nat) : at' g (d + 1) (k + 1) = at' g d k := by
  unfold at'
  by_cases h : d ≤ k
  · rw [if_pos h, if_pos (by omega : d + 1 ≤ k + 1), Nat.add_sub_add_right]
  · rw [if_neg h, if_neg (by omega : ¬ d + 1 ≤ k + 1)]
theorem aZ2 (g : Pf) (d : Nat) : at' g (d + 1) 0 = 0 := if_neg (by omega)
theorem bo7 (g : Pf) (k : Nat) : at' g 0 k = g.f k := if_pos (Nat.zero_le _)
theorem bo1 (g : Pf) (k : Nat) : (qp [1] * g).f k = g.f k := by
  rw [ah0]
  split
  · grind
  · rw [bb4]; grind
theorem al0 (c : Rat) (g : Pf) (k : Nat) : (qp [c, 1] * g).f k = c * g.f k + at' g 1 k := by
  rw [ah0]
  cases k with
  | zero => rw [if_pos rfl, aZ2]
  | succ k => rw [if_neg (Nat.succ_ne_zero k), Nat.add_sub_cancel, bo1, aZ1, bo7]
theorem Z6 (c b : Rat) (g : Pf) (k : Nat) : (qp [c, b, 1] * g).f k = c * g.f k + b * at' g 1 k + at' g 2 k := by
  rw [ah0]
  cases k with
  | zero => rw [if_pos rfl, aZ2, aZ2]; grind
  | succ k => rw [if_neg (Nat.succ_ne_zero k), Nat.add_sub_cancel, al0, aZ1, aZ1, bo7]; grind
theorem az6 (c : Rat) (g : Pf) (k : Nat) : (qp [c, 0, 0, 0, 1] * g).f k = c * g.f k + at' g 4 k := by
  rw [ah0]
  have z3 : ∀ k, (qp [0, 0, 0, 1] * g).f k = at' g 3 k := fun k => by
    rw [ah0]
    cases k with
    | zero => rw [if_pos rfl, aZ2]; grind
    | succ k => rw [if_neg (Nat.succ_ne_zero k), Nat.add_sub_cancel, Z6, aZ1]; grind
  cases k with
  | zero => rw [if_pos rfl, aZ2]
  | succ k => rw [if_neg (Nat.succ_ne_zero k), Nat.add_sub_cancel, z3, aZ1]
def rwA (p : Nat → Rat) (n : Nat) : Nat → Rat := fun j => if 2 * j ≤ n then p (n - 2 * j) else 0
def rwB (p : Nat → Rat) (n : Nat) : Nat → Rat := fun j => if 2 * j + 1 ≤ n then p (n - 1 - 2 * j) else 0
theorem ac0 (p : Nat → Rat) (n : Nat) : ∀ j, n < 2 * j → rwA p n j = 0 := fun j hj => by unfold rwA; rw [if_neg (by omega)]
theorem ab9 (p : Nat → Rat) (n : Nat) : ∀ j, n < 2 * j + 1 → rwB p n j = 0 := fun j hj => by unfold rwB; rw [if_neg (by omega)]
def Hp' (p : Pf) (n : Nat) : Prop := Hs n (rwA p.f n) (rwB p.f n)
theorem aA9 {n : Nat} {A B A' B' : Nat → Rat} (h : Hs n A B) (eA : ∀ j, A' j = A j) (eB : ∀ j, B' j = B j) : Hs n A' B' := by
  have zA : A' = A := funext eA
  have zB : B' = B := funext eB
  rw [zA, zB]
  exact h
section
variable {g : Pf} {n : Nat}
theorem aE8 (hg : ∀ k, n < k → g.f k = 0) (c : Rat) : (∀ j, rwA (qp [c, 1] * g).f (n + 1) j = rwA g.f n j + c * sh (rwB g.f n) j) ∧ ∀ j, rwB (qp [c, 1] * g).f (n + 1) j = rwB g.f n j + c * rwA g.f n j := by
  refine ⟨fun j => ?_, fun j => ?_⟩
  · cases j with
    | zero =>
      unfold rwA
      rw [if_pos (by omega), if_pos (by omega), al0, G1, hg _ (by omega)]
      unfold at'
      rw [if_pos (by omega)]
      simp only [Nat.mul_zero, Nat.sub_zero, Nat.add_sub_cancel]; grind
    | succ j =>
      rw [A7]
      unfold rwA rwB
      by_cases h1 : 2 * (j + 1) ≤ n
      · rw [if_pos (by omega), if_pos h1, if_pos (by omega), al0]
        unfold at'
        rw [if_pos (by omega), show n + 1 - 2 * (j + 1) - 1 = n - 2 * (j + 1) by omega, show n + 1 - 2 * (j + 1) = n - 1 - 2 * j by omega]; grind
      · by_cases h2 : 2 * (j + 1) ≤ n + 1
        · rw [if_pos h2, if_neg h1, if_pos (by omega), al0]
          unfold at'
          rw [if_neg (by omega), show n + 1 - 2 * (j + 1) = n - 1 - 2 * j by omega]; grind
        · rw [if_neg h2, if_neg h1, if_neg (by omega)]; grind
  · unfold rwA rwB
    by_cases h1 : 2 * j + 1 ≤ n
    · rw [if_pos (by omega), if_pos h1, if_pos (by omega), al0]
      unfold at'
      rw [if_pos (by omega), show n + 1 - 1 - 2 * j - 1 = n - 1 - 2 * j by omega, show n + 1 - 1 - 2 * j = n - 2 * j by omega]; grind
    · by_cases h2 : 2 * j + 1 ≤ n + 1
      · rw [if_pos h2, if_neg h1, if_pos (by omega), al0]
        unfold at'
        rw [if_neg (by omega), show n + 1 - 1 - 2 * j = n - 2 * j by omega]; grind
      · rw [if_neg h2, if_neg h1, if_neg (by omega)]; grind
theorem aj1 (hg : ∀ k, n < k → g.f k = 0) (c b : Rat) : (∀ j, rwA (qp [c, b, 1] * g).f (n + 2) j = rwA g.f n j + c * sh (rwA g.f n) j + b * sh (rwB g.f n) j) ∧ ∀ j, rwB (qp [c, b, 1] * g).f (n + 2) j = rwB g.f n j + c * sh (rwB g.f n) j + b * rwA g.f n j := by
  refine ⟨fun j => ?_, fun j => ?_⟩
  · cases j with
    | zero =>
      unfold rwA
      rw [if_pos (by omega), if_pos (by omega), Z6, G1, G1, hg _ (by omega)]
      unfold at'
      rw [if_pos (by omega), if_pos (by omega), hg _ (by omega)]
      simp only [Nat.mul_zero, Nat.sub_zero, Nat.add_sub_cancel]; grind
    | succ j =>
      rw [A7, A7]
      unfold rwA rwB
      by_cases h0 : 2 * (j + 1) ≤ n + 2
      · rw [if_pos h0, Z6, if_pos (show 2 * j ≤ n by omega), show n + 2 - 2 * (j + 1) = n - 2 * j by omega]
        unfold at'
        by_cases h1 : 2 * j + 1 ≤ n
        · rw [if_pos (by omega), if_pos h1, show n - 2 * j - 1 = n - 1 - 2 * j by omega]
          by_cases h2 : 2 * (j + 1) ≤ n
          · rw [if_pos (by omega), if_pos h2, show n - 2 * j - 2 = n - 2 * (j + 1) by omega]; grind
          · rw [if_neg (by omega), if_neg h2]; grind
        · rw [if_neg (by omega), if_neg h1, if_neg (by omega), if_neg (by omega)]; grind
      · rw [if_neg h0, if_neg (by omega), if_neg (by omega), if_neg (by omega)]; grind
  · cases j with
    | zero =>
      unfold rwA rwB
      rw [if_pos (by omega), G1, if_pos (show 2 * 0 ≤ n by omega), Z6]
      unfold at'
      rw [if_pos (by omega), hg (n + 2 - 1 - 2 * 0) (by omega)]
      by_cases h1 : 2 * 0 + 1 ≤ n
      · rw [if_pos (by omega), if_pos h1, show n + 2 - 1 - 2 * 0 - 1 = n - 2 * 0 by omega, show n + 2 - 1 - 2 * 0 - 2 = n - 1 - 2 * 0 by omega]; grind
      · rw [if_neg (by omega), if_neg h1, show n + 2 - 1 - 2 * 0 - 1 = n - 2 * 0 by omega]; grind
    | succ j =>
      rw [A7]
      unfold rwA rwB
      by_cases h0 : 2 * (j + 1) + 1 ≤ n + 2
      · rw [if_pos h0, Z6, if_pos (show 2 * j + 1 ≤ n by omega), show n + 2 - 1 - 2 * (j + 1) = n - 1 - 2 * j by omega]
        unfold at'
        by_cases h1 : 2 * (j + 1) ≤ n
        · rw [if_pos (by omega), if_pos h1, show n - 1 - 2 * j - 1 = n - 2 * (j + 1) by omega]
          by_cases h2 : 2 * (j + 1) + 1 ≤ n
          · rw [if_pos (by omega), if_pos h2, show n - 1 - 2 * j - 2 = n - 1 - 2 * (j + 1) by omega]; grind
          · rw [if_neg (by omega), if_neg h2]; grind
        · rw [if_neg (by omega), if_neg h1, if_neg (by omega), if_neg (by omega)]; grind
      · rw [if_neg h0, if_neg (by omega), if_neg (by omega), if_neg (by omega)]; grind
end
def aa4 (p : Nat → Rat) (n : Nat) : Bool := as3 n (rwA p n) (rwB p n)
theorem as2 {c : Rat} (hc : c ≠ 0) : ∀ {n : Nat} {A B A' B' : Nat → Rat}, (∀ j, A' j = c * A j) → (∀ j, B' j = c * B j) → as3 n A' B' = as3 n A B
  | 0, _, _, _, _, _, _ => rfl
  | n + 1, A, B, A', B', eA, eB => by
    unfold as3
    have h2 := am9 hc
    have e1 : decide (0 < A' 0 * B' 0) = decide (0 < A 0 * B 0) := by
      rw [decide_eq_decide, eA, eB]
      constructor
      · intro h
        refine Classical.byContradiction fun z => ?_
        have z' : 0 ≤ -(A 0 * B 0) := by grind
        have := Rat.mul_nonneg (Rat.le_of_lt h2) z'
        grind
      · intro h
        have := Rat.mul_pos h2 h
        grind
    by_cases hb : 0 < A 0 * B 0
    · have b0 : B 0 ≠ 0 := fun z => by rw [z] at hb; grind
      rw [e1, as2 hc eB (A := B) (B := fun j => A (j + 1) - A 0 / B 0 * B (j + 1)) fun j => ?_]
      have bi := Rat.mul_inv_cancel _ b0
      have ci := Rat.mul_inv_cancel _ hc
      have cb : c * B 0 ≠ 0 := fun z => by rcases Rat.mul_eq_zero.mp z with y | y; exact hc y; exact b0 y
      have cbi := Rat.mul_inv_cancel _ cb
      show A' (j + 1) - A' 0 / B' 0 * B' (j + 1) = c * (A (j + 1) - A 0 / B 0 * B (j + 1))
      have q : A' 0 / B' 0 = A 0 / B 0 := by
        rw [eA, eB, Rat.div_def, Rat.div_def]
        generalize (c * B 0)⁻¹ = x at cbi ⊢
        generalize (B 0)⁻¹ = y at bi ⊢
        have : c * A 0 * x = A 0 * y * (c * B 0 * x) := by grind
        rw [this, cbi]; grind
      rw [q, eA, eB]; grind
    · rw [e1, decide_eq_false hb]; rfl
theorem af9 {c : Rat} (hc : c ≠ 0) {p p' : Nat → Rat} (h : ∀ k, p' k = c * p k) (n : Nat) : aa4 p' n = aa4 p n := by
  refine as2 hc (fun j => ?_) fun j => ?_
  · unfold rwA; split
    · exact h _
    · grind
  · unfold rwB; split
    · exact h _
    · grind
theorem aN1 {p : Nat → Rat} {n : Nat} (h : p n ≠ 0) : aa4 p n = true ↔ Hs n (rwA p n) (rwB p n) :=
  ⟨fun z => bf7 (by unfold rwA; rw [if_pos (by omega)]; exact h) (ac0 p n) (ab9 p n) z, bd7⟩
theorem aY4 {p : Nat → Rat} {n : Nat} (h : 0 < p n) (d : aa4 p n = true) : ∀ k, k ≤ n → 0 < p k := by
  have hs := (aN1 (C9 h)).mp d
  obtain ⟨c, c0, cl, pA, pB⟩ := hs.pos
  have a0 : rwA p n 0 = p n := by unfold rwA; rw [if_pos (by omega)]; rfl
  rw [a0] at cl
  have cp : 0 < c := by
    refine Classical.byContradiction fun z => ?_
    have z' : 0 ≤ -c := by grind
    have := Rat.mul_nonneg z' (Rat.le_of_lt h)
    grind
  have fin : ∀ x, 0 < c * x → 0 < x := fun x hx => by
    refine Classical.byContradiction fun z => ?_
    have z' : 0 ≤ -x := by grind
    have := Rat.mul_nonneg (Rat.le_of_lt cp) z'
    grind
  intro k hk
  by_cases z : (n - k) % 2 = 0
  · have := fin _ (pA ((n - k) / 2) (by omega))
    unfold rwA at this
    rw [if_pos (by omega), show n - 2 * ((n - k) / 2) = k by omega] at this
    exact this
  · have := fin _ (pB ((n - k) / 2) (by omega))
    unfold rwB at this
    rw [if_pos (by omega), show n - 1 - 2 * ((n - k) / 2) = k by omega] at this
    exact this
theorem aP7 {g : Pf} {n : Nat} (hg : ∀ k, n < k → g.f k = 0) (c : Rat) : (∀ j, rwA (qp [c, 0, 0, 0, 1] * g).f (n + 4) j = evM 0 c (rwA g.f n) j) ∧ ∀ j, rwB (qp [c, 0, 0, 0, 1] * g).f (n + 4) j = evM 0 c (rwB g.f n) j := by
  refine ⟨fun j => ?_, fun j => ?_⟩
  · unfold evM rwA
    by_cases h0 : 2 * j ≤ n + 4
    · rw [if_pos h0, az6]
      unfold at'
      match j with
      | 0 => rw [if_pos (by omega), if_pos (by omega), hg _ (by omega), G1, G1, show n + 4 - 2 * 0 - 4 = n - 2 * 0 by omega]; grind
      | 1 =>
        rw [A7, A7, G1, hg _ (by omega)]
        by_cases h1 : 2 * 1 ≤ n
        · rw [if_pos (by omega), if_pos h1, show n + 4 - 2 * 1 - 4 = n - 2 * 1 by omega]; grind
        · rw [if_neg (by omega), if_neg h1]; grind
      | j + 2 =>
        rw [A7, A7, A7, if_pos (show 2 * j ≤ n by omega), show n + 4 - 2 * (j + 2) = n - 2 * j by omega]
        by_cases h1 : 2 * (j + 2) ≤ n
        · rw [if_pos (by omega), if_pos h1, show n - 2 * j - 4 = n - 2 * (j + 2) by omega]; grind
        · rw [if_neg (by omega), if_neg h1]; grind
    · rw [if_neg h0, if_neg (by omega)]
      obtain ⟨m, rfl⟩ : ∃ m, j = m + 2 := ⟨j - 2, by omega⟩
      rw [A7, A7, A7, if_neg (by omega), if_neg (by omega)]; grind
  · unfold evM rwB
    by_cases h0 : 2 * j + 1 ≤ n + 4
    · rw [if_pos h0, az6]
      unfold at'
      match j with
      | 0 =>
        rw [G1, G1, hg _ (by omega)]
        by_cases h1 : 2 * 0 + 1 ≤ n
        · rw [if_pos (by omega), if_pos h1, show n + 4 - 1 - 2 * 0 - 4 = n - 1 - 2 * 0 by omega]; grind
        · rw [if_neg (by omega), if_neg h1]; grind
      | 1 =>
        rw [A7, A7, G1, hg _ (by omega)]
        by_cases h1 : 2 * 1 + 1 ≤ n
        · rw [if_pos (by omega), if_pos h1, show n + 4 - 1 - 2 * 1 - 4 = n - 1 - 2 * 1 by omega]; grind
        · rw [if_neg (by omega), if_neg h1]; grind
      | j + 2 =>
        rw [A7, A7, A7, if_pos (show 2 * j + 1 ≤ n by omega), show n + 4 - 1 - 2 * (j + 2) = n - 1 - 2 * j by omega]
        by_cases h1 : 2 * (j + 2) + 1 ≤ n
        · rw [if_pos (by omega), if_pos h1, show n - 1 - 2 * j - 4 = n - 1 - 2 * (j + 2) by omega]; grind
        · rw [if_neg (by omega), if_neg h1]; grind
    · rw [if_neg h0, if_neg (by omega)]
      obtain ⟨m, rfl⟩ : ∃ m, j = m + 2 := ⟨j - 2, by omega⟩
      rw [A7, A7, A7, if_neg (by omega), if_neg (by omega)]; grind
inductive aG7 : Nat → Pf → Prop where
  | lin {r : Rat} (h : 0 ≤ r) : aG7 1 (qp [-r, 1])
  | quad {u v : Rat} (h : 0 ≤ u) (hv : 0 < v) : aG7 2 (qp [u * u + v, -2 * u, 1])
  | ev2 {c : Rat} (h : c ≠ 0) : aG7 2 (qp [c, 0, 1])
  | ev4 {c : Rat} (h : c ≠ 0) : aG7 4 (qp [c, 0, 0, 0, 1])
theorem aG7.no {d : Nat} {e : Pf} (b : aG7 d e) {g : Pf} {m : Nat} (hg : ∀ k, m < k → g.f k = 0) : ¬ Hp' (e * g) (m + d) := fun h => by
  unfold Hp' at h
  cases b with
  | @lin r hr =>
    obtain ⟨r1, r2⟩ := aE8 hg (-r)
    exact bj6 hr (ac0 g.f m) (ab9 g.f m) (aA9 h (fun j => (r1 j).symm) fun j => (r2 j).symm)
  | @quad u v hu hv =>
    obtain ⟨r1, r2⟩ := aj1 hg (u * u + v) (-2 * u)
    exact bc2 hu hv (ac0 g.f m) (ab9 g.f m) (aA9 h (fun j => (r1 j).symm) fun j => (r2 j).symm)
  | @ev2 c hc =>
    obtain ⟨r1, r2⟩ := aj1 hg c 0
    refine aL9 (e1 := c) (e2 := 0) (.inl hc) h (A' := rwA g.f m) (B' := rwB g.f m) (N := m + 1) (fun j hj => ac0 g.f m j (by omega)) (fun j hj => ab9 g.f m j (by omega)) (fun j => ?_) fun j => ?_
    · rw [r1]; unfold evM; grind
    · rw [r2]; unfold evM; grind
  | @ev4 c hc =>
    obtain ⟨r1, r2⟩ := aP7 hg c
    exact aL9 (e1 := 0) (e2 := c) (.inr hc) h (A' := rwA g.f m) (B' := rwB g.f m) (N := m + 1) (fun j hj => ac0 g.f m j (by omega)) (fun j hj => ab9 g.f m j (by omega)) r1 r2
structure Fac (d l : Nat) (f : Pf) : Prop where
  dg : ∀ (g : Pf) (m : Nat), (∀ k, m < k → g.f k = 0) → ∀ k, m + d < k → (f * g).f k = 0
  ld : ∀ (g : Pf) (m : Nat), (∀ k, m < k → g.f k = 0) → (f * g).f (m + d) = g.f m
  le : l ≤ d
  go : (l = d ∧ ∀ (p : Pf) (n : Nat), (∀ k, n < k → p.f k = 0) → Hp' p n → Hp' (f * p) (n + d)) ∨ (l < d ∧ aG7 d f)
theorem am0 {g : Pf} {m : Nat} (hg : ∀ k, m < k → g.f k = 0) (d k : Nat) (h : m + d < k) : at' g d k = 0 := by
  unfold at'
  rw [if_pos (by omega), hg _ (by omega)]
theorem aC1 (g : Pf) (m d : Nat) : at' g d (m + d) = g.f m := by
  unfold at'
  rw [if_pos (by omega), Nat.add_sub_cancel]
theorem aM8 (r : Rat) : Fac 1 (if r < 0 then 1 else 0) (qp [-r, 1]) := by
  refine ⟨fun g m hg k hk => ?_, fun g m hg => ?_, by split <;> omega, ?_⟩
  · rw [al0, hg k (by omega), am0 hg 1 k hk]; grind
  · rw [al0, hg (m + 1) (by omega), aC1]; grind
  · by_cases h : r < 0
    · rw [if_pos h]
      refine .inl ⟨rfl, fun p n hp H => ?_⟩
      obtain ⟨r1, r2⟩ := aE8 hp (-r)
      exact aA9 (Hs.lin H (s := -r) (t := -r) (by grind) (by grind)) r1 r2
    · rw [if_neg h]
      exact .inr ⟨by decide, .lin (by grind)⟩
theorem aF3 (u : Rat) {v : Rat} (hv : 0 < v) : Fac 2 (if u < 0 then 2 else 0) (qp [u * u + v, -2 * u, 1]) := by
  refine ⟨fun g m hg k hk => ?_, fun g m hg => ?_, by split <;> omega, ?_⟩
  · rw [Z6, hg k (by omega), am0 hg 1 k (by omega), am0 hg 2 k hk]; grind
  · rw [Z6, hg (m + 2) (by omega), am0 hg 1 (m + 2) (by omega), aC1]; grind
  · by_cases h : u < 0
    · rw [if_pos h]
      refine .inl ⟨rfl, fun p n hp H => ?_⟩
      obtain ⟨r1, r2⟩ := aj1 hp (u * u + v) (-2 * u)
      have c0 : 0 < u * u + v := by have := rsq u; grind
      have b0 : 0 < -2 * u := by grind
      exact aA9 (Hs.quad (b := -2 * u) (c := u * u + v) b0 c0 H (c0 := u * u + v) (c1 := u * u + v) (s := -2 * u) (t := -2 * u) c0 c0 rfl b0 (by grind)) r1 r2
    · rw [if_neg h]
      exact .inr ⟨by decide, .quad (by grind) hv⟩
theorem bd3 {c : Rat} (hc : c ≠ 0) : Fac 2 1 (qp [c, 0, 1]) := by
  refine ⟨fun g m hg k hk => ?_, fun g m hg => ?_, by decide, .inr ⟨by decide, .ev2 hc⟩⟩
  · rw [Z6, hg k (by omega), am0 hg 1 k (by omega), am0 hg 2 k hk]; grind
  · rw [Z6, hg (m + 2) (by omega), am0 hg 1 (m + 2) (by omega), aC1]; grind
theorem bd2 {c : Rat} (hc : c ≠ 0) : Fac 4 2 (qp [c, 0, 0, 0, 1]) := by
  refine ⟨fun g m hg k hk => ?_, fun g m hg => ?_, by decide, .inr ⟨by decide, .ev4 hc⟩⟩
  · rw [az6, hg k (by omega), am0 hg 4 k hk]; grind
  · rw [az6, hg (m + 4) (by omega), aC1]; grind
structure Rt (n l : Nat) (p : Pf) : Prop where
  nz : p.f n ≠ 0
  hi : ∀ k, n < k → p.f k = 0
  le : l ≤ n
  go : (l = n ∧ Hp' p n) ∨ (l < n ∧ ∃ d e g m, n = m + d ∧ aG7 d e ∧ p = e * g ∧ ∀ k, m < k → g.f k = 0)
theorem Rt.start {c : Rat} (hc : c ≠ 0) : Rt 0 0 (qp [c]) := by
  refine ⟨hc, fun k hk => ?_, Nat.le_refl _, .inl ⟨rfl, .base ?_ (fun j => ?_) fun j => ?_⟩⟩
  · obtain ⟨m, rfl⟩ : ∃ m, k = m + 1 := ⟨k - 1, by omega⟩
    rfl
  · exact hc
  · unfold rwA; rw [if_neg (by omega)]
  · unfold rwB; rw [if_neg (by omega)]
theorem Rt.mul {n l d l' : Nat} {p f : Pf} (R : Rt n l p) (F : Fac d l' f) : Rt (n + d) (l + l') (f * p) := by
  have le1 := R.le
  have le2 := F.le
  refine ⟨by rw [F.ld p n R.hi]; exact R.nz, F.dg p n R.hi, by omega, ?_⟩
  rcases R.go with ⟨e1, H⟩ | ⟨h1, d', e, g, m, en, be, ep, hg⟩
  · rcases F.go with ⟨e2, go⟩ | ⟨h2, bf⟩
    · exact .inl ⟨by omega, go p n R.hi H⟩
    · exact .inr ⟨by omega, d, f, p, n, rfl, bf, rfl, R.hi⟩
  · refine .inr ⟨by omega, d', e, f * g, m + d, by omega, be, ?_, F.dg g m hg⟩
    rw [ep]; grind
theorem Rt.dies {n l : Nat} {p : Pf} (R : Rt n l p) : aa4 p.f n = decide (l = n) := by
  rw [Bool.eq_iff_iff, aN1 R.nz, decide_eq_true_eq]
  rcases R.go with ⟨e, H⟩ | ⟨h, d, e, g, m, en, be, ep, hg⟩
  · exact ⟨fun _ => e, fun _ => H⟩
  · refine ⟨fun H => ?_, fun e => by omega⟩
    subst en ep
    exact absurd H (be.no hg)
def sgQ (q : Rat) : Int := if 0 < q then 1 else if q < 0 then -1 else 0
theorem bh5 (q : Rat) : (if q.num > 0 then (1 : Int) else 0) - (if q.num < 0 then 1 else 0) = sgQ q := by
  unfold sgQ
  have h1 : (0 < q) ↔ q.num > 0 := by
    rw [Rat.lt_iff]
    show (0 : Int) * (q.den : Int) < q.num * ((1 : Nat) : Int) ↔ _
    rw [Int.zero_mul]; simp
  have h2 : (q < 0) ↔ q.num < 0 := by
    rw [Rat.lt_iff]
    show q.num * ((1 : Nat) : Int) < (0 : Int) * (q.den : Int) ↔ _
    rw [Int.zero_mul]; simp
  by_cases a : q.num > 0
  · rw [if_pos a, if_neg (by omega), if_pos (h1.mpr a)]; rfl
  · rw [if_neg a, if_neg (fun z => a (h1.mp z))]
    by_cases b : q.num < 0
    · rw [if_pos b, if_pos (h2.mpr b)]; rfl
    · rw [if_neg b, if_neg (fun z => b (h2.mp z))]; rfl
theorem NK.o60 {kd : Int} {q : Rat} (h : NK kd q) (hk : kd = 0 ∨ kd = 1) : OvB 60 10 q := by
  rcases hk with rfl | rfl
  · exact h.ovb0
  · have := h.ovb1.up (C := 60) (c := 6) (by decide) (by decide) (by decide)
    exact this
theorem bp7 (kd : Int) : NK kd 0 := by
  unfold NK
  split
  · exact ⟨by decide, by decide⟩
  · split
    · exact OvB.zero _ _
    · exact OvB.zero _ _
theorem T7 {B : Nat} (t : Int) {W : Nat} (hB : 0 < B) (h : (t * B).natAbs < 2 ^ W) : OvB B W (t : Rat) := by
  refine ⟨t * B, ?_, h⟩
  have b0 : ((B : Int) : Rat) ≠ 0 := fun z => by
    have := (Rat.intCast_inj (a := (B : Int)) (b := 0)).mp z
    omega
  rw [Rat.divInt_eq_div, Rat.div_def, Rat.intCast_mul, Rat.mul_assoc, Rat.mul_inv_cancel _ b0, Rat.mul_one]
theorem aT8 (q : Rat) : (if sgQ q < 0 then (1 : Int) else 0) = (((if q < 0 then 1 else 0 : Nat) : Nat) : Int) := by
  unfold sgQ
  by_cases h : 0 < q
  · rw [if_pos h, if_neg (by decide), if_neg (by grind)]; rfl
  · rw [if_neg h]
    by_cases h' : q < 0
    · rw [if_pos h', if_pos (by decide), if_pos h']; rfl
    · rw [if_neg h', if_neg (by decide), if_neg h']; rfl
theorem aL4 (q : Rat) : 2 * (if sgQ q < 0 then (1 : Int) else 0) = (((if q < 0 then 2 else 0 : Nat) : Nat) : Int) := by
  rw [aT8]; split <;> rfl
theorem ap0 {fs : List Rat} (h : fs.getLast? = some 1) : J3 fs fs.length := ⟨Nat.le_refl _, fun i q hi e => by
  have := (List.getElem?_eq_some_iff.mp e).1; omega, fun _ q e => by
  rw [← List.getLast?_eq_getElem?, h] at e
  cases e; decide⟩
theorem V3 : (3 : Nat) ≤ sizeLine := by decide
theorem bh3 : (5 : Nat) ≤ sizeLine := by decide
theorem B3 {H : Hp} {u a : Addr} (o : HO) (h : H a = none) (hu : v4 H u) : ∃ H', upd H a o = H' ∧ d8 H H' ∧ H' a = some o ∧ v4 H' u ∧ a ≠ u := ⟨_, rfl, d8.new h o, d6, P6 hu h, Z0 hu h⟩
theorem ad6 (c : Prop) [Decidable c] : IntMulOk 2 (if c then 1 else 0) := by
  split <;> exact bk1 (by decide)
section
variable {P : Program} {w : World} {K : PySem.W.Frag} {mg : Str → Option Value} {base : Heap}
def bf3 (K : PySem.W.Frag) : Sp := fun vs H Q _ => ∃ x q, vs = [x] ∧ Num K H x q ∧ Q (.int (sgQ q)) H
abbrev J8 : Stmt := top 36
theorem az1 : m8 ["_law_number_here"] ["_law_number_here"] (d7 J8) := by and_intros
set_option maxHeartbeats 0 in
theorem aA3 {f : Addr} (d : Df K mg "_law_sign" J8 ["_law_number_here"] f) (n_int : mg "int" = none) : Def P w K mg base CX0 1 "_law_sign" f ["_law_number_here"] (bf3 K) := by
  refine d.ok (N := ["_law_number_here"]) az1 (by rintro vs H Q E ⟨_, _, h, _⟩; rw [h]; rfl) (fun cdv A outer s H vs Q E hr h => ?_)
  obtain ⟨x, q, rfl, ⟨a, rfl, ha⟩, k⟩ := h
  refine ⟨_, (d9 (m5 (i6 M1 (B6 K3 rfl n_int (by decide +kernel) (b7 (G2 ae8 (t9 y7 (pv 0) b9 (fun _ _ => rfl)) b9 (j8 _)) b8)) (B6 K3 rfl n_int (by decide +kernel) (b7 (G2 R6 (t9 y7 (pv 0) b9 (fun _ _ => rfl)) b9 (j8 _)) b8))))), ?_⟩
  rw [show start ["_law_number_here"] [.ref a] = [some (.ref a)] from rfl]
  subst_eqs
  refine ⟨_, ha, _, at0 q, _, rfl, _, ha, _, at0 q, _, rfl, ?_⟩
  rw [← bh5] at k
  exact k
structure aK9 (u : Addr) (H : Hp) (r : Addr) (fs : List Rat) (d l : Nat) : Prop where
  ex : ∃ lf tn ys, ∃ o rr : Int, H r = some (.tup [.ref lf, .ref tn]) ∧ lf ≠ u ∧ H lf = some (.lst ys) ∧ z9 H ys fs ∧ H tn = some (.tup [.int (l : Int), .int o, .int rr])
  fac : Fac d l (qp fs)
  len : fs.length = d + 1
  d4 : d ≤ 4
  d1 : 1 ≤ d
  tl : J3 fs fs.length
  ov : ∃ e, e + (d + 1) ≤ 12 * d ∧ ∀ q ∈ fs, OvB (60 ^ d) e q
def aD2 : Sp := fun vs H Q _ => ∃ u kd, vs = [.ref u, .int kd] ∧ v4 H u ∧ (kd = 0 ∨ kd = 1) ∧ ∀ r fs d l H', w4 u H H' → v4 H' u → aK9 u H' r fs d l → Q (.ref r) H'
abbrev F7 : Stmt := top 44
theorem C7 : m8 ["_law_urn_here", "_law_kind", "_law_way", "_law_v", "_law_root", "_law_sign_here", "_law_u", "_law_found"] ["_law_urn_here", "_law_kind"] (d7 F7) := by and_intros
set_option maxHeartbeats 0 in
theorem ar0 {f f1 f2 f3 f4 f5 f6 : Addr} (d : Df K mg "_law_factor" F7 ["_law_urn_here", "_law_kind"] f) (G__law_draw : Def P w K mg base CX0 1 "_law_draw" f1 ["_law_urn_here", "_law_many"] N3) (GD__law_number : Def P w K mg base CX0 2 "_law_number" f2 ["_law_urn_here", "_law_kind"] ai8) (G__law_sign : Def P w K mg base CX0 1 "_law_sign" f3 ["_law_number_here"] (bf3 K)) (G__law_above : Def P w K mg base CX0 4 "_law_above" f4 ["_law_urn_here", "_law_kind"] ag7) (G__law_plus : Def P w K mg base CX0 2 "_law_plus" f5 ["_law_one", "_law_other_here"] (Z1 K (· + ·))) (G__law_times : Def P w K mg base CX0 2 "_law_times" f6 ["_law_one", "_law_other_here"] (Z1 K (· * ·))) (n_int : mg "int" = none) : Def P w K mg base CX0 5 "_law_factor" f ["_law_urn_here", "_law_kind"] aD2 := by
  have G__law_number := GD__law_number
  refine d.ok (N := ["_law_urn_here", "_law_kind", "_law_way", "_law_v", "_law_root", "_law_sign_here", "_law_u", "_law_found"]) C7 (by rintro vs H Q E ⟨_, _, h, _⟩; rw [h]; rfl) (fun cdv A outer s H vs Q E hr h => ?_)
  obtain ⟨u, kd, rfl, hu, hk, k⟩ := h
  refine ⟨_, (d5 (i8 (i := 2) C7.nd rfl (Or.inl rfl) (i3 G__law_draw hr (b7 (pv 0) (b7 b9 b8)) j3))
      (d5 (F9 (p7 R6 (pv 2) b9 (j8 _)) (d5 (i8 (i := 4) C7.nd rfl (Or.inl rfl) (i3 G__law_number hr (b7 (pv 0) (b7 (pv 1) b8)) j3))
      (d5 (i8 (i := 5) C7.nd rfl (Or.inl rfl) (i3 G__law_sign hr (b7 (pv 4) b8) j3))
      (d9 (m5 (q8 (b7 (D0 (b7 (q8 (b7 (i6 M1 b9 (t9 y7 (pv 4) b9 (fun _ _ => rfl))) (b7 (t9 y7 (pv 4) b9 (fun _ _ => rfl)) b8))) (b7 (q8 (b7 b9 (b7 b9 b8))) b8))) (b7 (q8 (b7 (B6 K3 rfl n_int (by decide +kernel) (b7 (G2 R6 (pv 5) b9 (j8 _)) b8)) (b7 (B6 K3 rfl n_int (by decide +kernel) (b7 (G2 T0 (pv 5) b9 (j8 _)) b8)) (b7 (B6 K3 rfl n_int (by decide +kernel) (b7 (G2 ae8 (pv 5) b9 (j8 _)) b8)) b8)))) b8))))))) v7)
      (d5 (i8 (i := 3) C7.nd rfl (Or.inl rfl) (i3 G__law_above hr (b7 (pv 0) (b7 (pv 1) b8)) j3))
      (d5 (F9 (p7 R6 (pv 2) b9 (j8 _)) (d5 (i8 (i := 6) C7.nd rfl (Or.inl rfl) (W3 (p7 R6 (pv 2) b9 (j8 _)) (i3 G__law_number hr (b7 (pv 0) (b7 (pv 1) b8)) j3) (q8 (b7 b9 (b7 b9 b8)))))
      (d5 (i8 (i := 5) C7.nd rfl (Or.inl rfl) (i3 G__law_sign hr (b7 (pv 6) b8) j3))
      (d5 (i8 (i := 7) C7.nd rfl (Or.inl rfl) (D0 (b7 (i3 G__law_plus hr (b7 (i3 G__law_times hr (b7 (pv 6) (b7 (pv 6) b8)) j3) (b7 (pv 3) b8)) j3) (b7 (i3 G__law_times hr (b7 (q8 (b7 (aa9 Q8 b9) (b7 b9 b8))) (b7 (pv 6) b8)) j3) (b7 (q8 (b7 b9 (b7 b9 b8))) b8)))))
      (d9 (m5 (q8 (b7 (pv 7) (b7 (q8 (b7 (i6 C5 b9 (B6 K3 rfl n_int (by decide +kernel) (b7 (G2 R6 (pv 5) b9 (j8 _)) b8))) (b7 (i6 C5 b9 (B6 K3 rfl n_int (by decide +kernel) (b7 (G2 T0 (pv 5) b9 (j8 _)) b8))) (b7 (i6 C5 b9 (B6 K3 rfl n_int (by decide +kernel) (b7 (G2 ae8 (pv 5) b9 (j8 _)) b8))) b8)))) b8)))))))) v7)
      (d5 (F9 (p7 T0 (pv 2) b9 (j8 _)) (d9 (m5 (q8 (b7 (D0 (b7 (q8 (b7 (i6 M1 b9 (t9 y7 (pv 3) b9 (fun _ _ => rfl))) (b7 (t9 y7 (pv 3) b9 (fun _ _ => rfl)) b8))) (b7 (q8 (b7 b9 (b7 b9 b8))) (b7 (q8 (b7 b9 (b7 b9 b8))) b8)))) (b7 (q8 (b7 b9 (b7 b9 (b7 b9 b8)))) b8))))) v7)
      (d9 (m5 (q8 (b7 (D0 (b7 (pv 3) (b7 (q8 (b7 b9 (b7 b9 b8))) (b7 (q8 (b7 b9 (b7 b9 b8))) (b7 (q8 (b7 b9 (b7 b9 b8))) (b7 (q8 (b7 b9 (b7 b9 b8))) b8)))))) (b7 (q8 (b7 b9 (b7 b9 (b7 b9 b8)))) b8)))))))))), ?_⟩
  rw [show start ["_law_urn_here", "_law_kind", "_law_way", "_law_v", "_law_root", "_law_sign_here", "_law_u", "_law_found"] [.ref u, .int kd] = [some (.ref u), some (.int kd), none, none, none, none, none, none] from rfl]
  refine j9 (fun σ H1 => ∃ way : Int, σ = [some (.ref u), some (.int kd), some (.int way), none, none, none, none, none] ∧ w4 u H H1 ∧ v4 H1 u) (fun N hN => ?_) ?_
  · simp! [N3]
    exact ⟨hu, by decide, by decide, fun r H1 _ _ s1 u1 => hN _ _ ⟨r, rfl, s1, u1⟩⟩
  rintro σ H1 ⟨way, rfl, s1, u1⟩
  refine j9 (fun σ H2 => σ = [some (.ref u), some (.int kd), some (.int way), none, none, none, none, none] ∧ H2 = H1) (fun N hN => ?_) ?_
  · subst_eqs
    refine G4 (fun h3 => ?_) (fun h3 => hN _ _ ⟨rfl, rfl⟩)
    refine ⟨u, kd, rfl, u1, fun rr q H2 nq s2 u2 e2 => ?_⟩
    refine ⟨_, q, rfl, ⟨rr, rfl, SqT.of e2⟩, rr, rfl, _, SqT.of e2, _, at0 q, _, rfl, rr, rfl, _, SqT.of e2, _, at1 q, v3, fun p1 h1 => ?_⟩
    obtain ⟨A1, y1, S1, g1, U1, _⟩ := B3 (.tup [.int (0 - q.num), .int q.den]) h1 u2
    rw [y1]
    refine ⟨v3, fun p2 h2 => ?_⟩
    obtain ⟨A2, y2, S2, g2, U2, _⟩ := B3 (.tup [.int 1, .int 1]) h2 U1
    rw [y2]
    refine ⟨v3, fun p3 h3' => ?_⟩
    obtain ⟨A3, y3, S3, g3, U3, n3⟩ := B3 (.lst [.ref p1, .ref p2]) h3' U2
    rw [y3]
    refine ⟨_, rfl, rfl, _, rfl, V3, fun p4 h4 => ?_⟩
    obtain ⟨A4, y4, S4, g4, U4, _⟩ := B3 (.tup [.int (if sgQ q < 0 then 1 else 0), .int (if V.int (sgQ q) = V.int 0 then 1 else 0), .int (if 0 < sgQ q then 1 else 0)]) h4 U3
    rw [y4]
    refine ⟨v3, fun p5 h5 => ?_⟩
    obtain ⟨A5, y5, S5, g5, U5, _⟩ := B3 (.tup [.ref p3, .ref p4]) h5 U4
    rw [y5]
    rw [aT8] at g4
    rw [Int.zero_sub] at g1
    have S := S1.trans (S2.trans (S3.trans (S4.trans S5)))
    have e1' : A5 p1 = some (.tup (B7 (-q))) := (S2.trans (S3.trans (S4.trans S5))) p1 _ g1
    have e2' : A5 p2 = some (.tup (B7 1)) := (S3.trans (S4.trans S5)) p2 _ g2
    have e3' := (S4.trans S5) p3 _ g3
    have e4' := S5 p4 _ g4
    refine k p5 [-q, 1] 1 (if q < 0 then 1 else 0) _ (s1.trans (s2.trans (d8.x S u))) U5 ⟨⟨p3, p4, _, _, _, g5, n3, e3', .cons e1' (.cons e2' .nil), e4'⟩, aM8 q, rfl, by decide, by decide, ap0 rfl, 10, by decide, ?_⟩
    intro x hx
    simp only [List.mem_cons, List.not_mem_nil, or_false] at hx
    rcases hx with rfl | rfl
    · exact (nq.o60 hk).neg
    · exact T7 1 (by decide) (by decide)
  rintro σ H2 ⟨rfl, rfl⟩
  refine j9 (fun σ H3 => ∃ rv v, σ = [some (.ref u), some (.int kd), some (.int way), some (.ref rv), none, none, none, none] ∧ w4 u H H3 ∧ v4 H3 u ∧ H3 rv = some (.tup (B7 v)) ∧ NK kd v ∧ 0 < v) (fun N hN => ?_) ?_
  · subst_eqs
    exact ⟨u, kd, rfl, u1, fun r q H3 nq q0 s3 u3 e3 => hN _ _ ⟨r, q, rfl, s1.trans s3, u3, e3, nq, q0⟩⟩
  clear u1 s1
  rintro σ H3 ⟨rv, v, rfl, s3, u3, ev, nv, v0⟩
  refine j9 (fun σ H4 => σ = [some (.ref u), some (.int kd), some (.int way), some (.ref rv), none, none, none, none] ∧ H4 = H3) (fun N hN => ?_) ?_
  · subst_eqs
    refine G4 (fun h6 => ?_) (fun h6 => hN _ _ ⟨rfl, rfl⟩)
    refine G4 (fun h5 => ⟨u, kd, rfl, u3, fun pu q H5 nq s5 u5 e5 => ?_⟩) (fun h5 => ⟨v3, fun pu hpu => ?_⟩)
    rotate_left
    · have nq : NK kd 0 := bp7 kd
      have s5 := d8.x (d8.new hpu (.tup [.int 0, .int 1])) u
      have u5 := P6 (o := .tup [.int 0, .int 1]) u3 hpu
      have e5 : upd H3 pu (.tup [.int 0, .int 1]) pu = some (.tup (B7 0)) := d6
      generalize (0 : Rat) = q at nq e5
      generalize upd H3 pu (.tup [.int 0, .int 1]) = H5 at s5 u5 e5 ⊢
      have oq := nq.o60 hk
      have ov := nv.o60 hk
      have bq : BtN 6 q := oq.bt (by decide) (by decide) (by decide)
      have bv : BtN 6 v := ov.bt (by decide) (by decide) (by decide)
      have bqq : BtN 12 (q * q) := (oq.mul oq).bt (by decide) (by decide) (by decide)
      have ev5 : H5 rv = some (.tup (B7 v)) := s5.tups u3 _ _ ev
      refine ⟨_, q, rfl, ⟨pu, rfl, SqT.of e5⟩, ?_⟩
      refine ⟨_, _, q, q, 6, 6, rfl, ⟨pu, rfl, SqT.of e5⟩, ⟨pu, rfl, SqT.of e5⟩, bq, bq, by decide, fun r6 H6 s6 e6 => ⟨_, _, _, v, 12, 6, rfl, ⟨r6, rfl, SqT.of e6⟩, ⟨rv, rfl, SqT.of (s6 _ _ ev5)⟩, bqq, bv, by decide, fun r7 H7 s7 e7 => ⟨v3, fun p8 h8 => ?_⟩⟩⟩
      have u6 := d8.urn s6 u5
      have u7 := d8.urn s7 u6
      obtain ⟨H8, y8, S8, g8, u8, _⟩ := B3 (.tup [.int (-2), .int 1]) h8 u7
      rw [y8]
      refine ⟨_, _, (-2 : Rat), q, 1, 6, rfl, ⟨p8, rfl, SqT.of g8⟩, ⟨pu, rfl, SqT.of (S8 _ _ (s7 _ _ (s6 _ _ e5)))⟩, ⟨by decide, by decide⟩, bq, by decide, fun r9 H9 s9 e9 => ⟨v3, fun p1 h1 => ?_⟩⟩
      have u9 := d8.urn s9 u8
      obtain ⟨A1, y1, S1, g1, U1, _⟩ := B3 (.tup [.int 1, .int 1]) h1 u9
      rw [y1]
      refine ⟨V3, fun p3 h3' => ?_⟩
      obtain ⟨A3, y3, S3, g3, U3, n3⟩ := B3 (.lst [.ref r7, .ref r9, .ref p1]) h3' U1
      rw [y3]
      refine ⟨_, rfl, ad6 _, rfl, ad6 _, _, rfl, ad6 _, V3, fun p4 h4 => ?_⟩
      obtain ⟨A4, y4, S4, g4, U4, _⟩ := B3 (.tup [.int (2 * if sgQ q < 0 then 1 else 0), .int (2 * if V.int (sgQ q) = V.int 0 then 1 else 0), .int (2 * if 0 < sgQ q then 1 else 0)]) h4 U3
      rw [y4]
      refine ⟨v3, fun p5 h5' => ?_⟩
      obtain ⟨A5, y5, S5, g5, U5, _⟩ := B3 (.tup [.ref p3, .ref p4]) h5' U4
      rw [y5]
      rw [aL4] at g4
      have S35 := S3.trans (S4.trans S5)
      have S' := s6.trans (s7.trans (S8.trans (s9.trans (S1.trans S35))))
      refine k p5 [q * q + v, -2 * q, 1] 2 (if q < 0 then 2 else 0) _ (s3.trans (s5.trans (d8.x S' u))) U5 ⟨⟨p3, p4, _, _, _, g5, n3, (S4.trans S5) _ _ g3, .cons ((S8.trans (s9.trans (S1.trans S35))) _ _ e7) (.cons ((S1.trans S35) _ _ e9) (.cons (S35 _ _ g1) .nil)), S5 _ _ g4⟩, aF3 q v0, rfl, by decide, by decide, ap0 rfl, 21, by decide, ?_⟩
      intro x hx
      simp only [List.mem_cons, List.not_mem_nil, or_false] at hx
      rcases hx with rfl | rfl | rfl
      · exact OvB.add (by decide) ((oq.mul oq).mono (by decide)) ((ov.up (C := 60) (c := 6) (by decide) (by decide) (by decide)).mono (by decide))
      · have := (T7 (B := 60) (-2) (W := 7) (by decide) (by decide)).mul oq
        exact this.mono (by decide)
      · exact T7 1 (by decide) (by decide)
    have oq := nq.o60 hk
    have ov := nv.o60 hk
    have bq : BtN 6 q := oq.bt (by decide) (by decide) (by decide)
    have bv : BtN 6 v := ov.bt (by decide) (by decide) (by decide)
    have bqq : BtN 12 (q * q) := (oq.mul oq).bt (by decide) (by decide) (by decide)
    have ev5 : H5 rv = some (.tup (B7 v)) := s5.tups u3 _ _ ev
    refine ⟨_, q, rfl, ⟨pu, rfl, SqT.of e5⟩, ?_⟩
    refine ⟨_, _, q, q, 6, 6, rfl, ⟨pu, rfl, SqT.of e5⟩, ⟨pu, rfl, SqT.of e5⟩, bq, bq, by decide, fun r6 H6 s6 e6 => ⟨_, _, _, v, 12, 6, rfl, ⟨r6, rfl, SqT.of e6⟩, ⟨rv, rfl, SqT.of (s6 _ _ ev5)⟩, bqq, bv, by decide, fun r7 H7 s7 e7 => ⟨v3, fun p8 h8 => ?_⟩⟩⟩
    have u6 := d8.urn s6 u5
    have u7 := d8.urn s7 u6
    obtain ⟨H8, y8, S8, g8, u8, _⟩ := B3 (.tup [.int (-2), .int 1]) h8 u7
    rw [y8]
    refine ⟨_, _, (-2 : Rat), q, 1, 6, rfl, ⟨p8, rfl, SqT.of g8⟩, ⟨pu, rfl, SqT.of (S8 _ _ (s7 _ _ (s6 _ _ e5)))⟩, ⟨by decide, by decide⟩, bq, by decide, fun r9 H9 s9 e9 => ⟨v3, fun p1 h1 => ?_⟩⟩
    have u9 := d8.urn s9 u8
    obtain ⟨A1, y1, S1, g1, U1, _⟩ := B3 (.tup [.int 1, .int 1]) h1 u9
    rw [y1]
    refine ⟨V3, fun p3 h3' => ?_⟩
    obtain ⟨A3, y3, S3, g3, U3, n3⟩ := B3 (.lst [.ref r7, .ref r9, .ref p1]) h3' U1
    rw [y3]
    refine ⟨_, rfl, ad6 _, rfl, ad6 _, _, rfl, ad6 _, V3, fun p4 h4 => ?_⟩
    obtain ⟨A4, y4, S4, g4, U4, _⟩ := B3 (.tup [.int (2 * if sgQ q < 0 then 1 else 0), .int (2 * if V.int (sgQ q) = V.int 0 then 1 else 0), .int (2 * if 0 < sgQ q then 1 else 0)]) h4 U3
    rw [y4]
    refine ⟨v3, fun p5 h5' => ?_⟩
    obtain ⟨A5, y5, S5, g5, U5, _⟩ := B3 (.tup [.ref p3, .ref p4]) h5' U4
    rw [y5]
    rw [aL4] at g4
    have S35 := S3.trans (S4.trans S5)
    have S' := s6.trans (s7.trans (S8.trans (s9.trans (S1.trans S35))))
    refine k p5 [q * q + v, -2 * q, 1] 2 (if q < 0 then 2 else 0) _ (s3.trans (s5.trans (d8.x S' u))) U5 ⟨⟨p3, p4, _, _, _, g5, n3, (S4.trans S5) _ _ g3, .cons ((S8.trans (s9.trans (S1.trans S35))) _ _ e7) (.cons ((S1.trans S35) _ _ e9) (.cons (S35 _ _ g1) .nil)), S5 _ _ g4⟩, aF3 q v0, rfl, by decide, by decide, ap0 rfl, 21, by decide, ?_⟩
    intro x hx
    simp only [List.mem_cons, List.not_mem_nil, or_false] at hx
    rcases hx with rfl | rfl | rfl
    · exact OvB.add (by decide) ((oq.mul oq).mono (by decide)) ((ov.up (C := 60) (c := 6) (by decide) (by decide) (by decide)).mono (by decide))
    · have := (T7 (B := 60) (-2) (W := 7) (by decide) (by decide)).mul oq
      exact this.mono (by decide)
    · exact T7 1 (by decide) (by decide)
  rintro σ H4 ⟨rfl, rfl⟩
  simp! [aT9]
  have ov := nv.o60 hk
  refine G4 (fun h6 => ?_) (fun h6 => ?_)
  · refine ⟨_, SqT.of ev, _, at0 v, _, rfl, _, SqT.of ev, _, at1 v, v3, fun p1 h1 => ?_⟩
    obtain ⟨A1, y1, S1, g1, U1, _⟩ := B3 (.tup [.int (0 - v.num), .int v.den]) h1 u3
    rw [y1]
    refine ⟨v3, fun p2 h2 => ?_⟩
    obtain ⟨A2, y2, S2, g2, U2, _⟩ := B3 (.tup [.int 0, .int 1]) h2 U1
    rw [y2]
    refine ⟨v3, fun p0 h0 => ?_⟩
    obtain ⟨A0, y0, S0, g0, U0, _⟩ := B3 (.tup [.int 1, .int 1]) h0 U2
    rw [y0]
    refine ⟨V3, fun p3 h3' => ?_⟩
    obtain ⟨A3, y3, S3, g3, U3, n3⟩ := B3 (.lst [.ref p1, .ref p2, .ref p0]) h3' U0
    rw [y3]
    refine ⟨V3, fun p4 h4 => ?_⟩
    obtain ⟨A4, y4, S4, g4, U4, _⟩ := B3 (.tup [.int 1, .int 0, .int 1]) h4 U3
    rw [y4]
    refine ⟨v3, fun p5 h5 => ?_⟩
    obtain ⟨A5, y5, S5, g5, U5, _⟩ := B3 (.tup [.ref p3, .ref p4]) h5 U4
    rw [y5]
    rw [Int.zero_sub] at g1
    have S35 := S3.trans (S4.trans S5)
    have e1' : A5 p1 = some (.tup (B7 (-v))) := (S2.trans (S0.trans S35)) p1 _ g1
    have e2' : A5 p2 = some (.tup (B7 0)) := (S0.trans S35) p2 _ g2
    have e0' : A5 p0 = some (.tup (B7 1)) := S35 p0 _ g0
    refine k p5 [-v, 0, 1] 2 1 _ (s3.trans (d8.x (S1.trans (S2.trans (S0.trans S35))) u)) U5 ⟨⟨p3, p4, _, _, _, g5, n3, (S4.trans S5) _ _ g3, .cons e1' (.cons e2' (.cons e0' .nil)), S5 _ _ g4⟩, bd3 (by grind), rfl, by decide, by decide, ap0 rfl, 21, by decide, ?_⟩
    intro x hx
    simp only [List.mem_cons, List.not_mem_nil, or_false] at hx
    rcases hx with rfl | rfl | rfl
    · exact ((ov.neg).up (C := 60) (c := 6) (by decide) (by decide) (by decide)).mono (by decide)
    · exact OvB.zero _ _
    · exact T7 1 (by decide) (by decide)
  · refine ⟨v3, fun p1 h1 => ?_⟩
    obtain ⟨A1, y1, S1, g1, U1, _⟩ := B3 (.tup [.int 0, .int 1]) h1 u3
    rw [y1]
    refine ⟨v3, fun p2 h2 => ?_⟩
    obtain ⟨A2, y2, S2, g2, U2, _⟩ := B3 (.tup [.int 0, .int 1]) h2 U1
    rw [y2]
    refine ⟨v3, fun p6 h6' => ?_⟩
    obtain ⟨A6, y6, S6, g6, U6, _⟩ := B3 (.tup [.int 0, .int 1]) h6' U2
    rw [y6]
    refine ⟨v3, fun p0 h0 => ?_⟩
    obtain ⟨A0, y0, S0, g0, U0, _⟩ := B3 (.tup [.int 1, .int 1]) h0 U6
    rw [y0]
    refine ⟨bh3, fun p3 h3' => ?_⟩
    obtain ⟨A3, y3, S3, g3, U3, n3⟩ := B3 (.lst [.ref rv, .ref p1, .ref p2, .ref p6, .ref p0]) h3' U0
    rw [y3]
    refine ⟨V3, fun p4 h4 => ?_⟩
    obtain ⟨A4, y4, S4, g4, U4, _⟩ := B3 (.tup [.int 2, .int 0, .int 2]) h4 U3
    rw [y4]
    refine ⟨v3, fun p5 h5 => ?_⟩
    obtain ⟨A5, y5, S5, g5, U5, _⟩ := B3 (.tup [.ref p3, .ref p4]) h5 U4
    rw [y5]
    have S35 := S3.trans (S4.trans S5)
    have S65 := S6.trans (S0.trans S35)
    have e1' : A5 p1 = some (.tup (B7 0)) := (S2.trans S65) p1 _ g1
    have e2' : A5 p2 = some (.tup (B7 0)) := S65 p2 _ g2
    have e6' : A5 p6 = some (.tup (B7 0)) := (S0.trans S35) p6 _ g6
    have e0' : A5 p0 = some (.tup (B7 1)) := S35 p0 _ g0
    have S := S1.trans (S2.trans S65)
    refine k p5 [v, 0, 0, 0, 1] 4 2 _ (s3.trans (d8.x S u)) U5 ⟨⟨p3, p4, _, _, _, g5, n3, (S4.trans S5) _ _ g3, .cons (S _ _ ev) (.cons e1' (.cons e2' (.cons e6' (.cons e0' .nil)))), S5 _ _ g4⟩, bd2 (by grind), rfl, by decide, by decide, ap0 rfl, 43, by decide, ?_⟩
    intro x hx
    simp only [List.mem_cons, List.not_mem_nil, or_false] at hx
    rcases hx with rfl | rfl | rfl | rfl | rfl
    · exact (ov.up (C := 60 ^ 3) (c := 18) (by decide) (by decide) (by decide)).mono (W := 43) (by decide)
    · exact OvB.zero _ _
    · exact OvB.zero _ _
    · exact OvB.zero _ _
    · exact T7 1 (by decide) (by decide)
end
theorem ao1 {l : List Rat} {m : Nat} (t : J3 l m) : qp (l.take m) = qp l := Pf.ext fun k => aO2 t k
theorem av1 {l : List Rat} {p : Pf} {n : Nat} (t : J3 l l.length) (e : qp l = p) (d : Dg p.f n) : l.length ≤ n := by
  rcases Nat.lt_or_ge n l.length with z | z
  · have hg := List.getElem?_eq_getElem (l := l) (show l.length - 1 < l.length by omega)
    have h1 := t.last (by omega) _ hg
    have h2 := d (l.length - 1) (by omega)
    rw [← e] at h2
    have h3 : aQ l (l.length - 1) = 0 := h2
    unfold aQ at h3
    rw [hg] at h3
    exact absurd h3 h1
  · exact z
section
variable {P : Program} {w : World} {K : PySem.W.Frag} {mg : Str → Option Value} {base : Heap}
def ap4 (K : PySem.W.Frag) : Sp := fun vs H Q _ => ∃ (a b : Addr) (ts : List Addr) (xs : List V) (c : Nat) (M : List (List Rat)) (last : List Rat), vs = [.ref a, .ref b] ∧ SqL K H a (ts.map V.ref) ∧ Rws H ts M ∧ SqL K H b xs ∧ z9 H xs last ∧ Y1 c M last ∧
  ∀ r zs ps H', d8 H H' → H r = none → H' r = some (.lst zs) → z9 H' zs ps → J3 ps ps.length → qp ps = (fld M last M.length).1 + (fld M last M.length).2 → Q (.ref r) H'
abbrev E9 : Stmt := top 46
theorem N7 : m8 ["_law_quotients", "_law_last", "_law_one", "_law_first", "_law_second"] ["_law_quotients", "_law_last"] (d7 E9) := by and_intros
set_option maxHeartbeats 0 in
theorem aq9 {f f1 f2 : Addr} (d : Df K mg "_law_folded" E9 ["_law_quotients", "_law_last"] f) (G__law_poly_plus : Def P w K mg base CX0 3 "_law_poly_plus" f1 ["_law_p", "_law_q"] (aT6 K)) (G__law_poly_times : Def P w K mg base CX0 3 "_law_poly_times" f2 ["_law_p", "_law_q"] (am8 K)) (n_reversed : mg "reversed" = none) : Def P w K mg base CX0 4 "_law_folded" f ["_law_quotients", "_law_last"] (ap4 K) := by
  refine d.ok (N := ["_law_quotients", "_law_last", "_law_one", "_law_first", "_law_second"]) N7 (by rintro vs H Q E ⟨_, _, _, _, _, _, _, h, _⟩; rw [h]; rfl) (fun cdv A outer s H vs Q E hr h => ?_)
  obtain ⟨a, b, ts, xs, c, M, last, rfl, hS, hR, hSb, hNb, R, k⟩ := h
  refine ⟨_, (d5 (ac1 (i := 3) (j := 4) rfl N7.nd rfl rfl (by decide) rfl rfl (b7 (pv 1) (b7 (D0 b8) b8)) rfl)
      (d5 (P2 PassesOwn.never rfl (aV5 rfl n_reversed (b7 (pv 0) b8)) (i7 (i := 2) N7.nd rfl (Or.inl rfl)) (d9 (ac1 (i := 3) (j := 4) rfl N7.nd rfl rfl (by decide) rfl rfl (b7 (i3 G__law_poly_plus hr (b7 (i3 G__law_poly_times hr (b7 (pv 2) (b7 (pv 3) b8)) j3) (b7 (pv 4) b8)) j3) (b7 (pv 3) b8)) rfl)))
      (d9 (m5 (i3 G__law_poly_plus hr (b7 (pv 3) (b7 (pv 4) b8)) j3))))), ?_⟩
  rw [show start ["_law_quotients", "_law_last", "_law_one", "_law_first", "_law_second"] [.ref a, .ref b] = [some (.ref a), some (.ref b), none, none, none] from rfl]
  have ll : last.length ≤ 15 := by have := R.s; omega
  have lM := R.len
  have lts := hR.length
  have ov := aM7 R
  obtain ⟨c10, c40⟩ := R.c1
  refine j9 (fun σ H1 => ∃ l, σ = [some (.ref a), some (.ref b), none, some (.ref b), some (.ref l)] ∧ d8 H H1 ∧ H1 l = some (.lst [])) (fun N hN => ?_) ?_
  · subst_eqs
    exact ⟨by decide, fun p hp => hN _ _ ⟨p, rfl, d8.new hp _, d6⟩⟩
  rintro σ H1 ⟨l0, rfl, S1, e0⟩
  obtain ⟨I, hI⟩ : ∃ I : Nat → L2.St → Hp → Prop, ∀ i σ H2, I i σ H2 ↔ ∃ o2 p1 p2 z1 z2 F1 F2, σ = [some (.ref a), some (.ref b), o2, some (.ref p1), some (.ref p2)] ∧ d8 H H2 ∧ SqL K H2 p1 z1 ∧ SqL K H2 p2 z2 ∧ z9 H2 z1 F1 ∧ z9 H2 z2 F2 ∧ J3 F1 F1.length ∧ J3 F2 F2.length ∧ qp F1 = (fld M last i).1 ∧ qp F2 = (fld M last i).2 := ⟨_, fun _ _ _ => Iff.rfl⟩
  refine j9 (I M.length) (fun N hN => ?_) ?_
  · refine ⟨_, rfl, a, _, rfl, S1.seq hS, aM6 (xs := ts.map V.ref) I ((hI _ _ _).mpr ⟨_, b, l0, xs, [], last, [], rfl, S1, S1.seq hSb, SqL.of e0, hNb.mono S1.tups, .nil, R.t, bg4, rfl, bi2⟩) (by rintro i σ H2 _ h2; obtain ⟨_, _, _, _, _, _, _, _, s2, _⟩ := (hI _ _ _).mp h2; exact s2.seq hS) ?_ (by rintro σ H2 h2; rw [List.length_map, lts] at h2; exact hN _ _ h2)⟩
    rintro i x σ H2 hi hx h2
    obtain ⟨o2, p1, p2, z1, z2, F1, F2, rfl, s2, q1, q2, n1, n2, t1, t2, e1, e2⟩ := (hI _ _ _).mp h2
    rw [List.length_map] at hi hx
    have him : i < M.length := by omega
    obtain ⟨L, hg, hLM, hdn, ei, _⟩ := R.at him
    obtain ⟨pL, hpL, rfl⟩ := ap8 hx
    obtain ⟨ys, L', hL', eL, nL⟩ := hR.get hpL
    rw [show ts.length - 1 - i = M.length - 1 - i by omega, hg] at hL'
    cases hL'
    obtain ⟨tL, l2, _, oL⟩ := R.m L hLM
    have l15 := R.l15 hLM
    have cl := as6 oL
    have st := aL1 (c := c) (D := dn M last i) (d := L.length - 1) (by omega)
    rw [← hdn, Nat.sub_add_cancel (by omega)] at st
    generalize 1 + c * L.length + c = vb at cl st
    have ubi := R.ub (n := i + 1) (by omega)
    have sm := R.sum (n := i) (by omega)
    have edn : dn M last i + 1 ≤ 15 := by
      have := List.length_pos_iff.mpr R.n
      unfold dn; omega
    obtain ⟨dg1, dg2⟩ := aJ8 R i (by omega)
    have lF1 := av1 t1 e1 dg1
    have lF2 := av1 t2 e2 dg2
    obtain ⟨B, B0, hB, ov1, ov2⟩ := ov i (by omega)
    have up := bg1 c (dn M last i)
    generalize Ub c (dn M last i) = ub at *
    have o1 : ∀ x ∈ F1, OvB B ub x := aq5 (by rw [e1]; exact ov1)
    have o2' : ∀ x ∈ F2, OvB B ub x := aq5 (by rw [e2]; exact ov2)
    have BC : i9 L * B < 2 ^ 710 := by
      have h1 : i9 L * B < 2 ^ vb * 2 ^ ub := Nat.mul_lt_mul'' cl.l hB
      rw [← Nat.pow_add] at h1
      exact Nat.lt_of_lt_of_le h1 (i5 (by omega))
    subst_eqs
    refine ⟨pL, p1, ys, z1, L, F1, i9 L, B, vb, ub, 710, rfl, SqL.of (s2 _ _ eL), q1, nL.mono s2.tups, n1, (fun x hx => aI4 cl hx), o1, B9 _, B0, BC, by decide, by decide, by omega, by omega, by omega, fun m r3 z3 H3 tm3 ob3 s3 f3 e3 n3 => ?_⟩
    have lm : (M3 L F1).length ≤ 40 := by
      by_cases zz : F1 = []
      · subst zz
        have : M3 L [] = [] := by unfold M3; rw [if_pos (.inr rfl)]
        rw [this]; simp
      · have := ah8 (p := L) (q := F1) (fun z => by rw [z] at l2; simp at l2) zz
        omega
    refine ⟨r3, p2, z3, z2, _, F2, rfl, SqL.of e3, s3.seq q2, n3, n2.mono s3.tups, ⟨710, 710, fun q hq => (ob3 q (List.mem_of_mem_take hq)).bt (Nat.mul_pos (B9 _) B0) BC (by omega), fun q hq => (o2' q hq).bt B0 (Nat.lt_of_lt_of_le hB (i5 (by omega))) (by omega), by decide, by decide, by decide⟩, by rw [List.length_take]; omega, by omega, fun m4 r4 z4 H4 tm4 s4 f4 e4 n4 => ?_⟩
    refine (hI _ _ _).mpr ⟨_, r4, p1, z4, z1, _, F1, rfl, s2.trans (s3.trans s4), SqL.of e4, (s3.trans s4).seq q1, n4, n1.mono (s3.trans s4).tups, am6 tm4, t1, ?_, e1⟩
    rw [ao1 tm4, aU6, ao1 tm3, aU5, e1, e2, ei]
  rintro σ H2 h2
  obtain ⟨o2, p1, p2, z1, z2, F1, F2, rfl, s2, q1, q2, n1, n2, t1, t2, e1, e2⟩ := (hI _ _ _).mp h2
  have sm := R.sum (n := M.length) (Nat.le_refl _)
  obtain ⟨dg1, dg2⟩ := aJ8 R M.length (Nat.le_refl _)
  have lF1 := av1 t1 e1 dg1
  have lF2 := av1 t2 e2 dg2
  have edn : dn M last M.length + 1 ≤ 15 := by
    have := List.length_pos_iff.mpr R.n
    unfold dn; omega
  have ubm := R.ub (n := M.length) (Nat.le_refl _)
  obtain ⟨B, B0, hB, ov1, ov2⟩ := ov M.length (Nat.le_refl _)
  have o1 : ∀ x ∈ F1, OvB B (Ub c (dn M last M.length)) x := aq5 (by rw [e1]; exact ov1)
  have o2' : ∀ x ∈ F2, OvB B (Ub c (dn M last M.length)) x := aq5 (by rw [e2]; exact ov2)
  subst_eqs
  refine ⟨p1, p2, z1, z2, F1, F2, rfl, q1, q2, n1, n2, ⟨710, 710, fun q hq => (o1 q hq).bt B0 (Nat.lt_of_lt_of_le hB (i5 (by omega))) (by omega), fun q hq => (o2' q hq).bt B0 (Nat.lt_of_lt_of_le hB (i5 (by omega))) (by omega), by decide, by decide, by decide⟩, by omega, by omega, fun m4 r4 z4 H4 tm4 s4 f4 e4 n4 => ?_⟩
  exact k r4 z4 _ H4 (s2.trans s4) (s2.free f4) e4 n4 (am6 tm4) (by rw [ao1 tm4, aU6, e1, e2])
end
end R
set_option maxRecDepth 100000
namespace L2
open PySem PySem.Spec PyProof.Rows
section
variable {K : PySem.W.Frag} {a b D : Addr} {xs ys : List V} {g : TG} {te : TE} {σ0 : St} {H0 : Hp} {Q : VK}
theorem bd8 (xs ys : List V) (Pv : Nat → St → Hp → Prop) (h0 : Pv 0 σ0 H0) (hl : ∀ i σ H, Pv i σ H → SqT K H a xs ∧ SqT K H b ys)
    (hs : ∀ i x y σ H p, xs[i]? = some x → ys[i]? = some y → Pv i σ H → H p = none → g (.ref p) σ (upd H p (.tup [x, y])) fun σ4 H4 => te σ4 H4 fun v H5 => G6 D (min xs.length ys.length) Pv i σ4 v H5)
    (hd : ∀ σ H, Pv (min xs.length ys.length) σ H → Q (.ref D) H) : at5 (bm9 K a b) D σ0 H0 g te Q := by
  refine ⟨fun i m σ H => m = min xs.length ys.length - i ∧ i ≤ min xs.length ys.length ∧ Pv i σ H, ⟨_, rfl, Nat.zero_le _, h0⟩, ?_⟩
  rintro i m σ H ⟨rfl, hi, p⟩
  obtain ⟨q, q'⟩ := hl i σ H p
  by_cases hlt : i < min xs.length ys.length
  · have h1 : i < xs.length := by omega
    have h2 : i < ys.length := by omega
    refine .inr ⟨⟨xs, ys, xs[i], ys[i], q, q', List.getElem?_eq_getElem h1, List.getElem?_eq_getElem h2⟩, ?_⟩
    intro v H3 hy
    obtain ⟨x, y, r, e1, e2, hr, rfl, rfl⟩ := hy xs ys q q'
    exact hs i x y σ _ r e1 e2 p hr
  · have e : i = min xs.length ys.length := by omega
    subst e
    exact .inl ⟨⟨xs, ys, q, q', by omega⟩, hd σ H p⟩
end
end L2
set_option maxRecDepth 100000
namespace R
open PySem L2 PyProof.Rows
def Ris (m : Nat) (R : Nat → Nat) : Prop := ∀ i j, i < j → j < m → R i < R j
def TN (M : Mt) : Prop := ∀ (m : Nat) (R C : Nat → Nat), Ris m R → Ris m C → 0 ≤ dt m fun r c => M (R r) (C c)
def Hz (p : Nat → Rat) (n : Nat) : Mt := fun r j => if 2 * j + 1 ≤ n + r then p (n + r - (2 * j + 1)) else 0
section
variable {M : List (List Rat)} {last : List Rat} {l : Rat}
theorem Prt.fld_succ (P : Prt M last l) {i : Nat} (h : i < M.length) : ∃ a : Rat, 0 < a ∧ [0, a] ∈ M ∧ ∀ k, (fld M last (i + 1)).1.f k = (if 1 ≤ k then a * (fld M last i).1.f (k - 1) else 0) + (fld M last i).2.f k := by
  have hg : M[M.length - 1 - i]? = some (M[M.length - 1 - i]'(by omega)) := List.getElem?_eq_getElem (by omega)
  obtain ⟨a, ha, eL⟩ := P.m _ (List.mem_of_getElem? hg)
  have hm := List.mem_of_getElem? hg
  rw [eL] at hm
  refine ⟨a, ha, hm, fun k => ?_⟩
  rw [← ap9]
  show (qp ((M[M.length - 1 - i]?).getD []) * (fld M last i).1 + (fld M last i).2).f k = _
  rw [hg, Option.getD_some, eL]; rfl
theorem Prt.par (P : Prt M last l) : ∀ i, i ≤ M.length → (∀ k, k % 2 ≠ i % 2 → (fld M last i).1.f k = 0) ∧ (∀ k, k % 2 = i % 2 → (fld M last i).2.f k = 0)
  | 0, _ => ⟨fun k hk => by
      show (qp last).f k = 0
      rw [P.e]
      exact W0 [l] k (by show 1 ≤ k; omega), fun k _ => O1 k⟩
  | i + 1, h => by
    obtain ⟨h1, h2⟩ := P.par i (by omega)
    obtain ⟨a, _, _, e⟩ := P.fld_succ (i := i) (by omega)
    refine ⟨fun k hk => ?_, fun k hk => h1 k (by omega)⟩
    rw [e, h2 k (by omega)]
    split
    · rw [h1 (k - 1) (by omega)]; grind
    · grind
theorem Prt.ov (P : Prt M last l) (hM : ∀ a, [0, a] ∈ M → OvB 60 10 a) (hl : OvB 60 10 l) : ∀ n, n ≤ M.length → (∀ k, OvB (60 ^ (n + 1)) (11 * (n + 1)) ((fld M last n).1.f k)) ∧ ∀ k, OvB (60 ^ (n + 1)) (11 * (n + 1)) ((fld M last n).2.f k)
  | 0, _ => ⟨fun k => by
      show OvB (60 ^ 1) 11 ((qp last).f k)
      rw [P.e, Nat.pow_one]
      by_cases z : k = 0
      · subst z; exact hl.mono (by omega)
      · rw [W0 [l] k (by show 1 ≤ k; omega)]; exact OvB.zero _ _, fun k => by rw [show (fld M last 0).2.f k = 0 from O1 k]; exact OvB.zero _ _⟩
  | n + 1, h => by
    obtain ⟨h1, h2⟩ := P.ov hM hl n (by omega)
    obtain ⟨a, _, hm, e⟩ := P.fld_succ (i := n) (by omega)
    have ha := hM a hm
    have up : ∀ {q : Rat}, OvB (60 ^ (n + 1)) (11 * (n + 1)) q → OvB (60 ^ (n + 1 + 1)) (11 * (n + 1) + 10) q := fun hq => by
      rw [Nat.pow_succ]
      exact (hq.up (Nat.pow_pos (by decide)) (C := 60) (c := 6) (by decide) (by decide)).mono (by omega)
    refine ⟨fun k => ?_, fun k => (up (h1 k)).mono (by omega)⟩
    rw [e]
    refine (OvB.add (W := 11 * (n + 1) + 10) (Nat.pow_pos (by decide)) ?_ (up (h2 k))).mono (by omega)
    split
    · have := ha.mul (h1 (k - 1))
      rw [Nat.mul_comm, ← Nat.pow_succ, Nat.add_comm 10] at this
      exact this
    · exact OvB.zero _ _
end
theorem aX3 {p : Nat → Rat} {n : Nat} (h : ∀ k, n < k → p k = 0) (i c : Nat) : Hz p n i c = hz (rwA p n) (rwB p n) i c := by
  unfold Hz hz rwA rwB
  by_cases h1 : c < i / 2
  · rw [if_pos h1]
    split
    · exact h _ (by omega)
    · rfl
  · rw [if_neg h1]
    by_cases h2 : i % 2 = 0
    · rw [if_pos h2]
      by_cases h3 : 2 * c + 1 ≤ n + i
      · rw [if_pos h3, if_pos (by omega)]; congr 1; omega
      · rw [if_neg h3, if_neg (by omega)]
    · rw [if_neg h2]
      by_cases h3 : 2 * c + 1 ≤ n + i
      · rw [if_pos h3, if_pos (by omega)]; congr 1; omega
      · rw [if_neg h3, if_neg (by omega)]
theorem ai6 {p : Nat → Rat} {n : Nat} (h : ∀ k, n < k → p k = 0) (k : Nat) : dt (k + 1) (Hz p n) = tau (rwA p n) (rwB p n) (k + 1) 0 := by
  unfold tau
  rw [if_neg (by omega)]
  refine K5 fun r _ c _ => ?_
  rw [aX3 h]
  congr 1
  unfold R0; split <;> rfl
theorem aQ5 {p : Nat → Rat} {n : Nat} (h : ∀ k, n < k → p k = 0) (h0 : 0 < p n) : (∀ k, k < n → 0 < dt (k + 1) (Hz p n)) ↔ aa4 p n = true := by
  have a0 : 0 < rwA p n 0 := by unfold rwA; rw [if_pos (by omega)]; exact h0
  unfold aa4
  rw [ad8 a0, ← ay3]
  constructor
  · intro z k k1 kn
    have := z (k - 1) (by omega)
    rw [ai6 h, show k - 1 + 1 = k by omega] at this
    exact this
  · intro z k hk
    rw [ai6 h]
    exact z (k + 1) (by omega) (by omega)
section
variable {M : List (List Rat)} {last : List Rat} {l : Rat}
theorem Prt.prt (P : Prt M last l) : ∀ i, i ≤ M.length → (∀ k, (k + i) % 2 = 1 → (fld M last i).1.f k = 0) ∧ ∀ k, (k + i) % 2 = 0 → (fld M last i).2.f k = 0
  | 0, _ => ⟨fun k hk => by show (qp last).f k = 0; rw [P.e]; exact W0 [l] k (by show 1 ≤ k; omega), fun k _ => O1 k⟩
  | i + 1, h => by
    obtain ⟨h1, h2⟩ := P.prt i (by omega)
    obtain ⟨a, _, _, e⟩ := P.fld_succ (i := i) (by omega)
    refine ⟨fun k hk => ?_, fun k hk => h1 k (by omega)⟩
    rw [e, h2 k (by omega)]
    split
    · rw [h1 (k - 1) (by omega)]; grind
    · grind
def pS (M : List (List Rat)) (last : List Rat) : Nat → Rat := fun k => (fld M last M.length).1.f k + (fld M last M.length).2.f k
theorem Prt.rows (P : Prt M last l) (h1 : 1 ≤ M.length) : (∀ j, rwA (pS M last) M.length j = gP M last 1 M.length j) ∧ ∀ j, rwB (pS M last) M.length j = gP M last 1 (M.length - 1) j := by
  obtain ⟨p1, p2⟩ := P.prt M.length (Nat.le_refl _)
  refine ⟨fun j => ?_, fun j => ?_⟩
  · unfold rwA gP pS
    by_cases z : 2 * j ≤ M.length
    · rw [if_pos z, if_pos z, p2 _ (by omega)]; grind
    · rw [if_neg z, if_neg z]
  · unfold rwB gP pS
    by_cases z : 2 * j + 1 ≤ M.length
    · rw [if_pos z, if_pos (by omega), p1 _ (by omega)]
      obtain ⟨m, hm⟩ : ∃ m, M.length = m + 1 := ⟨M.length - 1, by omega⟩
      rw [hm, Nat.add_sub_cancel]
      show 0 + (fld M last m).1.f _ = _
      grind
    · rw [if_neg z, if_neg (by omega)]
theorem Prt.lr (P : Prt M last l) (hl : 0 < l) (h1 : 1 ≤ M.length) : ∀ k, k ≤ M.length → (∀ j, Lr (rwA (pS M last) M.length) (rwB (pS M last) M.length) k j = gP M last 1 (M.length - k) j) ∧ (k + 1 ≤ M.length → ∀ j, Lr (rwA (pS M last) M.length) (rwB (pS M last) M.length) (k + 1) j = gP M last 1 (M.length - (k + 1)) j)
  | 0, _ => ⟨(P.rows h1).1, fun _ => (P.rows h1).2⟩
  | k + 1, h => by
    obtain ⟨i0, i1⟩ := P.lr hl h1 k (by omega)
    have i1 := i1 h
    refine ⟨i1, fun h2 j => ?_⟩
    show Lr _ _ k (j + 1) - Lr _ _ k 0 / Lr _ _ (k + 1) 0 * Lr _ _ (k + 1) (j + 1) = _
    rw [i0, i0, i1, i1]
    obtain ⟨i, hi⟩ : ∃ i, M.length - (k + 1) = i + 1 := ⟨M.length - (k + 1) - 1, by omega⟩
    rw [hi, show M.length - k = i + 1 + 1 by omega, show M.length - (k + 1 + 1) = i by omega]
    obtain ⟨a, _, e0, e1⟩ := aM5 (rh := 1) P (i := i + 1) (by omega)
    have g0 := C9 (aB2 P (rh := 1) (by grind) (i + 1) (by omega) 0 (by omega))
    rw [e0, e1, if_neg (by omega), Nat.add_sub_cancel, Rat.div_def]
    have gi := Rat.mul_inv_cancel _ g0
    generalize (gP M last 1 (i + 1) 0)⁻¹ = x at gi ⊢
    have : a * gP M last 1 (i + 1) 0 * x = a := by rw [Rat.mul_assoc, gi, Rat.mul_one]
    rw [this]; grind
def ae3 (g : Nat → Rat) : Nat → Rat
  | 0 => g 0
  | m + 1 => ae3 g m * g (m + 1)
theorem Prt.leads (P : Prt M last l) (hl : 0 < l) (h1 : 1 ≤ M.length) : ∀ m, m < M.length → dt (m + 1) (Hz (pS M last) M.length) = ae3 (fun t => gP M last 1 (M.length - 1 - t) 0) m := by
  intro m hm
  have hz : ∀ k, M.length < k → pS M last k = 0 := by
    have key : ∀ i, i ≤ M.length → (∀ k, i < k → (fld M last i).1.f k = 0) ∧ ∀ k, i ≤ k → (fld M last i).2.f k = 0 := by
      intro i
      induction i with
      | zero => exact fun _ => ⟨fun k hk => by show (qp last).f k = 0; rw [P.e]; exact W0 [l] k hk, fun k _ => O1 k⟩
      | succ i ih =>
        intro h
        obtain ⟨a1, a2⟩ := ih (by omega)
        obtain ⟨a, _, _, e⟩ := P.fld_succ (i := i) (by omega)
        refine ⟨fun k hk => ?_, fun k hk => a1 k (by omega)⟩
        rw [e, if_pos (by omega), a1 (k - 1) (by omega), a2 k (by omega)]; grind
    intro k hk
    obtain ⟨a1, a2⟩ := key M.length (Nat.le_refl _)
    unfold pS
    rw [a1 k hk, a2 k (by omega)]; grind
  have L0 : ∀ i, i ≤ M.length → Lr (rwA (pS M last) M.length) (rwB (pS M last) M.length) i 0 = gP M last 1 (M.length - i) 0 := fun i hi => (P.lr hl h1 i hi).1 0
  have nz : ∀ i, i ≤ M.length → Lr (rwA (pS M last) M.length) (rwB (pS M last) M.length) i 0 ≠ 0 := fun i hi => by
    rw [L0 i hi]; exact C9 (aB2 P (rh := 1) (by grind) _ (by omega) 0 (by omega))
  rw [ai6 hz, (ai7 (m + 1) fun i _ h2 => nz i (by omega)).1 0]
  have key : ∀ m, m < M.length → Pl (rwA (pS M last) M.length) (rwB (pS M last) M.length) (m + 1) * Lr (rwA (pS M last) M.length) (rwB (pS M last) M.length) (m + 1) 0 = ae3 (fun t => gP M last 1 (M.length - 1 - t) 0) m := by
    intro m
    induction m with
    | zero =>
      intro h
      rw [L0 1 h]
      show 1 * _ = gP M last 1 (M.length - 1 - 0) 0
      rw [Nat.sub_zero]; grind
    | succ m ih =>
      intro h
      show Pl _ _ (m + 1) * Lr _ _ (m + 1) 0 * _ = ae3 _ m * gP M last 1 (M.length - 1 - (m + 1)) 0
      rw [ih (by omega), L0 _ (by omega), show M.length - (m + 1 + 1) = M.length - 1 - (m + 1) by omega]
  exact key m hm
theorem Prt.dies (P : Prt M last l) (hl : 0 < l) (h1 : 1 ≤ M.length) : aa4 (pS M last) M.length = true := by
  have a0 : 0 < rwA (pS M last) M.length 0 := by
    rw [(P.rows h1).1]; exact aB2 P (rh := 1) (by grind) _ (Nat.le_refl _) 0 (by omega)
  unfold aa4
  rw [ad8 a0]
  intro k _ hk
  rw [(P.lr hl h1 k hk).1]
  exact aB2 P (rh := 1) (by grind) _ (by omega) 0 (by omega)
end
theorem aM9 {g : Nat → Rat} (h : ∀ t, 0 < g t) : ∀ m, 0 < ae3 g m
  | 0 => h 0
  | m + 1 => Rat.mul_pos (aM9 h m) (h _)
theorem aK9.samex {u r : Addr} {H H' : Hp} {fs : List Rat} {d l : Nat} (h : aK9 u H r fs d l) (s : w4 u H H') (hu : v4 H u) : aK9 u H' r fs d l := by
  obtain ⟨lf, tn, ys, o, rr, e1, n, e2, e3, e4⟩ := h.ex
  have t := s.tups hu
  exact ⟨⟨lf, tn, ys, o, rr, t _ _ e1, n, s _ _ e2 n, e3.mono t, t _ _ e4⟩, h.fac, h.len, h.d4, h.d1, h.tl, h.ov⟩
theorem aW4 {l : List Rat} {N : Nat} (t : J3 l l.length) (h1 : (qp l).f N ≠ 0) (h2 : ∀ k, N < k → (qp l).f k = 0) : l.length = N + 1 := by
  have g2 : N < l.length := Classical.byContradiction fun z => h1 (W0 l _ (by omega))
  have g3 := av1 (n := N + 1) t rfl fun k hk => h2 k (by omega)
  omega
structure RtL (qs : List Rat) (n l : Nat) : Prop where
  rt : Rt n l (qp qs)
  len : qs.length = n + 1
  tl : J3 qs qs.length
  ov : ∀ q ∈ qs, OvB (60 ^ (n + 1)) (12 * (n + 1)) q
theorem RtL.mul {qs fs : List Rat} {n l d l' m : Nat} (R : RtL qs n l) (F : Fac d l' (qp fs)) (fl : fs.length = d + 1) {e : Nat} (he : e + (d + 1) ≤ 12 * d) (fo : ∀ q ∈ fs, OvB (60 ^ d) e q) (t : J3 (M3 qs fs) m) : RtL ((M3 qs fs).take m) (n + d) (l + l') := by
  have eq : qp ((M3 qs fs).take m) = qp fs * qp qs := by
    rw [ao1 t, aU5]; grind
  have R' := R.rt.mul F
  rw [← eq] at R'
  have tt := am6 t
  refine ⟨R', aW4 tt R'.nz R'.hi, tt, fun q hq => ?_⟩
  have := bc3 (Nat.pow_pos (by decide)) (Nat.pow_pos (by decide)) R.ov fo q (List.mem_of_mem_take hq)
  rw [← Nat.pow_add, show n + 1 + d = n + d + 1 by omega] at this
  exact this.mono (by omega)
theorem RtL.start {c : Rat} (hc : c ≠ 0) (h : OvB 60 10 c) : RtL [c] 0 0 := ⟨Rt.start hc, rfl, af0 fun x hx => by cases hx; exact hc, fun q hq => by rw [List.mem_singleton.mp hq]; exact h.mono (by decide)⟩
section
variable {P : Program} {w : World} {K : PySem.W.Frag} {mg : Str → Option Value} {base : Heap}
def aD0 : Sp := fun vs H Q _ => ∃ u kd, vs = [.ref u, .int kd, .int 6] ∧ v4 H u ∧ (kd = 0 ∨ kd = 1) ∧ ∀ r lf tn ys qs n l o rr H', w4 u H H' → v4 H' u → H' r = some (.tup [.ref lf, .ref tn]) → LsX u H' lf ys qs → H' tn = some (.tup [.int ((l : Nat) : Int), .int o, .int rr]) → RtL qs n l → n ≤ 6 → Q (.ref r) H'
abbrev D5 : Stmt := top 45
theorem C6 : m8 ["_law_urn_here", "_law_kind", "_law_most", "_law_found", "_law_numbers", "_law_factor_here", "_law_turn"] ["_law_urn_here", "_law_kind", "_law_most"] (d7 D5) := by and_intros
set_option maxHeartbeats 0 in
theorem aq8 {f f1 f2 f3 f4 : Addr} (d : Df K mg "_law_rooted" D5 ["_law_urn_here", "_law_kind", "_law_most"] f) (G__law_draw : Def P w K mg base CX0 1 "_law_draw" f1 ["_law_urn_here", "_law_many"] N3) (GD__law_other : Def P w K mg base CX0 3 "_law_other" f2 ["_law_urn_here", "_law_kind"] ap3) (G__law_factor : Def P w K mg base CX0 5 "_law_factor" f3 ["_law_urn_here", "_law_kind"] aD2) (G__law_poly_times : Def P w K mg base CX0 3 "_law_poly_times" f4 ["_law_p", "_law_q"] (am8 K)) (n_range : mg "range" = none) (n_len : mg "len" = none) (n_tuple : mg "tuple" = none) (n_zip : mg "zip" = none) : Def P w K mg base CX0 6 "_law_rooted" f ["_law_urn_here", "_law_kind", "_law_most"] aD0 := by
  have G__law_other := GD__law_other
  refine d.ok (N := ["_law_urn_here", "_law_kind", "_law_most", "_law_found", "_law_numbers", "_law_factor_here", "_law_turn"]) C6 (by rintro vs H Q E ⟨_, _, h, _⟩; rw [h]; rfl) (fun cdv A outer s H vs Q E hr h => ?_)
  obtain ⟨u, kd, rfl, hu, hk, k⟩ := h
  refine ⟨_, (d5 (i8 (i := 3) C6.nd rfl (Or.inl rfl) (D0 (b7 (i3 G__law_other hr (b7 (pv 0) (b7 (pv 1) b8)) j3) b8)))
      (d5 (i8 (i := 4) C6.nd rfl (Or.inl rfl) (q8 (b7 b9 (b7 b9 (b7 b9 b8)))))
      (d5 (i8 (i := 5) C6.nd rfl (Or.inl rfl) (i3 G__law_factor hr (b7 (pv 0) (b7 (pv 1) b8)) j3))
      (d5 (P2 PassesOwn.never rfl (P3 rfl n_range (b7 (i3 G__law_draw hr (b7 (pv 0) (b7 (i6 J0 (pv 2) b9) b8)) j3) b8)) (i7 (i := 6) C6.nd rfl (Or.inl rfl)) (d5 (F9 (p7 ae8 (i3 G__law_draw hr (b7 (pv 0) (b7 b9 b8)) j3) b9 (j8 _)) (d9 (i8 (i := 5) C6.nd rfl (Or.inl rfl) (i3 G__law_factor hr (b7 (pv 0) (b7 (pv 1) b8)) j3))) v7)
      (d9 (F9 (p7 aL8 (i6 M1 (i6 J0 (j2 j0 rfl n_len (by decide +kernel) (b7 (pv 3) b8)) (j2 j0 rfl n_len (by decide +kernel) (b7 (t9 y7 (pv 5) b9 (fun _ _ => rfl)) b8))) b9) (pv 2) (j8 _)) (d5 (i8 (i := 3) C6.nd rfl (Or.inl rfl) (i3 G__law_poly_times hr (b7 (pv 3) (b7 (t9 y7 (pv 5) b9 (fun _ _ => rfl)) b8)) j3))
      (d9 (i8 (i := 4) C6.nd rfl (Or.inl rfl) (B6 au8 rfl n_tuple (by decide +kernel) (b7 (O6 (Nc := ["_law_a", "_law_b"]) (caps := [none, none]) rfl (aa8.of (osc := d7 D5) (N := ["_law_urn_here", "_law_kind", "_law_most", "_law_found", "_law_numbers", "_law_factor_here", "_law_turn"]) (ks := []) rfl rfl rfl rfl D8 (by decide +kernel)) (bb6 rfl n_zip (b7 (pv 4) (b7 (t9 y7 (pv 5) b9 (fun _ _ => rfl)) b8))) (fun C s₂ H₂ fp pins => (show PG _ _ (ae1 K 2 (D7 (D3 0) (D7 (D3 1) ae2))) from by (refine P4 (n := 2) ?_ ?_ ?_ ?_; rfl; (refine u0 ?_ ?_ ?_; (exact (i7 (i := 0) (show List.Nodup (["_law_a", "_law_b"] : List Str) by decide +kernel) rfl (Or.inl rfl) (Or.inr rfl))); (refine u0 ?_ ?_ ?_; (exact (i7 (i := 1) (show List.Nodup (["_law_a", "_law_b"] : List Str) by decide +kernel) rfl (Or.inl rfl) (Or.inr rfl))); (exact K2); rfl); rfl); rfl; rfl))) (fun C s₂ H₂ fp pins => (i6 J0 (pv 0) (pv 1)))) b8))))) v7))))
      (d9 (m5 (q8 (b7 (pv 3) (b7 (pv 4) b8))))))))), ?_⟩
  rw [show start ["_law_urn_here", "_law_kind", "_law_most", "_law_found", "_law_numbers", "_law_factor_here", "_law_turn"] [.ref u, .int kd, .int 6] = [some (.ref u), some (.int kd), some (.int 6), none, none, none, none] from rfl]
  refine j9 (fun σ H1 => ∃ lf ys qs, σ = [some (.ref u), some (.int kd), some (.int 6), some (.ref lf), none, none, none] ∧ w4 u H H1 ∧ v4 H1 u ∧ LsX u H1 lf ys qs ∧ RtL qs 0 0) (fun N hN => ?_) ?_
  · subst_eqs
    refine ⟨u, kd, rfl, hu, fun r q H1 nq q0 s1 u1 e1 => ⟨aj0, fun p hp => ?_⟩⟩
    have S := d8.new hp (.lst [.ref r])
    exact hN _ _ ⟨p, _, [q], rfl, s1.trans (d8.x S u), P6 u1 hp, ⟨Z0 u1 hp, d6, .cons (S _ _ e1) .nil⟩, RtL.start q0 (nq.o60 hk)⟩
  rintro σ H1 ⟨lf, ys, qs, rfl, s1, u1, X1, R1⟩
  refine j9 (fun σ H2 => ∃ tn, σ = [some (.ref u), some (.int kd), some (.int 6), some (.ref lf), some (.ref tn), none, none] ∧ w4 u H H2 ∧ v4 H2 u ∧ LsX u H2 lf ys qs ∧ H2 tn = some (.tup [.int 0, .int 0, .int 0])) (fun N hN => ?_) ?_
  · subst_eqs
    refine ⟨V3, fun p hp => ?_⟩
    have S := d8.new hp (.tup [.int 0, .int 0, .int 0])
    exact hN _ _ ⟨p, rfl, s1.trans (d8.x S u), P6 u1 hp, X1.same S, d6⟩
  rintro σ H2 ⟨tn, rfl, s2, u2, X2, e2⟩
  refine j9 (fun σ H3 => ∃ fr fs d l, σ = [some (.ref u), some (.int kd), some (.int 6), some (.ref lf), some (.ref tn), some (.ref fr), none] ∧ w4 u H H3 ∧ v4 H3 u ∧ LsX u H3 lf ys qs ∧ H3 tn = some (.tup [.int 0, .int 0, .int 0]) ∧ aK9 u H3 fr fs d l) (fun N hN => ?_) ?_
  · subst_eqs
    exact ⟨u, kd, rfl, u2, hk, fun r fs d l H3 s3 u3 F => hN _ _ ⟨r, fs, d, l, rfl, s2.trans s3, u3, X2.samex s3 u2, s3.tups u2 _ _ e2, F⟩⟩
  rintro σ H3 ⟨fr, fs, d0, l0, rfl, s3, u3, X3, e3, F3⟩
  obtain ⟨I, hI⟩ : ∃ I : Nat → L2.St → Hp → Prop, ∀ i σ H4, I i σ H4 ↔ ∃ (o6 : Option V) (lf : Addr) (ys : List V) (qs : List Rat) (n l : Nat) (tn : Addr) (o rr : Int) (fr : Addr) (fs : List Rat) (d l' : Nat), σ = [some (.ref u), some (.int kd), some (.int 6), some (.ref lf), some (.ref tn), some (.ref fr), o6] ∧ w4 u H H4 ∧ v4 H4 u ∧ LsX u H4 lf ys qs ∧ RtL qs n l ∧ n ≤ 6 ∧ H4 tn = some (.tup [.int (l : Int), .int o, .int rr]) ∧ aK9 u H4 fr fs d l' := ⟨_, fun _ _ _ => Iff.rfl⟩
  refine j9 (fun σ H4 => ∃ i, I i σ H4) (fun N hN => ?_) ?_
  · refine ⟨_, rfl, _, rfl, _, _, rfl, rfl, u, _, rfl, u3, by decide, by decide, fun r H4 r0 r7 s4 u4 => ⟨r, rfl, by omega, by omega, W9 I ((hI _ _ _).mpr ⟨_, lf, ys, qs, 0, 0, tn, 0, 0, fr, fs, d0, l0, rfl, s3.trans s4, u4, X3.samex s4 u3, R1, by decide, s4.tups u3 _ _ e3, F3.samex s4 u3⟩) ?_ ?_⟩⟩
    · rintro i σ H5 hi h
      obtain ⟨o6, lf, ys, qs, n, l, tn, o, rr, fr, fs, d, l', rfl, s5, u5, X5, R5, n6, e5, F5⟩ := (hI _ _ _).mp h
      refine j9 (fun σ H6 => ∃ (fr : Addr) (fs : List Rat) (d l' : Nat), σ = [some (.ref u), some (.int kd), some (.int 6), some (.ref lf), some (.ref tn), some (.ref fr), some (.int (0 + (i : Int)))] ∧ w4 u H5 H6 ∧ v4 H6 u ∧ aK9 u H6 fr fs d l') (fun N hN => ?_) ?_
      · simp! [N3]
        refine ⟨u5, by decide, by decide, fun r H6 _ _ s6 u6 => G4 (fun _ => ?_) (fun _ => hN _ _ ⟨fr, fs, d, l', rfl, s6, u6, F5.samex s6 u5⟩)⟩
        exact ⟨u, kd, rfl, u6, hk, fun r fs d l H7 s7 u7 F => hN _ _ ⟨r, fs, d, l, rfl, s6.trans s7, u7, F⟩⟩
      clear F5
      rintro σ H6 ⟨fr, fs, d, l', rfl, s6, u6, F6⟩
      have X6 := X5.samex s6 u5
      have e6 := s6.tups u5 _ _ e5
      obtain ⟨ff, ft, zs, fo, frr, g1, gn, g2, g3, g4⟩ := F6.ex
      obtain ⟨e, he, ov⟩ := F6.ov
      subst_eqs
      have lx := X6.nums.length
      have lf' := g3.length
      have l1 := R5.len
      have l2 := F6.len
      have d4 := F6.d4
      refine ⟨_, .inl (SqL.of X6.at'), _, SqT.of g1, _, rfl, ff, rfl, _, .inl (SqL.of g2), G4 (fun hle => ?_) (fun hgt => ?_)⟩
      · have p1 : 0 < 60 ^ (n + 1) := Nat.pow_pos (by decide)
        have p2 : 0 < 60 ^ d := Nat.pow_pos (by decide)
        have hBC : 60 ^ (n + 1) * 60 ^ d < 2 ^ 100 := by
          rw [← Nat.pow_add]
          exact Nat.lt_of_le_of_lt (Nat.pow_le_pow_right (by decide) (show n + 1 + d ≤ 11 by omega)) (by decide)
        refine ⟨_, SqT.of g1, _, rfl, lf, ff, _, zs, qs, fs, _, _, 12 * (n + 1), e, 100, rfl, SqL.of X6.at', SqL.of g2, X6.nums, g3, R5.ov, ov, p1, p2, hBC, by decide, by decide, by omega, by omega, by omega, fun m1 r1 zs1 H7 tm1 _ s7 f7 e7 n7 => ?_⟩
        have RL := R5.mul F6.fac l2 he ov tm1
        refine ⟨_, SqT.of (s7 _ _ g1), _, rfl, ft, rfl, ⟨_, SqT.of (s7 _ _ e6)⟩, ⟨_, SqT.of (s7 _ _ g4)⟩, fun D hD => ?_⟩
        refine bd8 [.int (l : Int), .int o, .int rr] [.int (l' : Int), .int fo, .int frr] (fun j σ H8 => ∃ o1 o2, σ = [o1, o2] ∧ d8 H7 H8 ∧ H8 D = some (.lst (([(l : Int) + l', o + fo, rr + frr].take j).map V.int))) ⟨_, _, rfl, d8.new hD _, d6⟩ (by rintro j σ H8 ⟨_, _, _, s8, _⟩; exact ⟨SqT.of (s8 _ _ (s7 _ _ e6)), SqT.of (s8 _ _ (s7 _ _ g4))⟩) ?_ ?_
        · rintro j x y σ H8 pt hx hy ⟨o1, o2, rfl, s8, e8⟩ hpt
          have hj : j < 3 := (List.getElem?_eq_some_iff.mp hx).1
          obtain ⟨v1, hv1, rfl⟩ := W8 (ws := [(l : Int), o, rr]) hx
          obtain ⟨v2, hv2, rfl⟩ := W8 (ws := [(l' : Int), fo, frr]) hy
          have st := d8.new hpt (.tup [.int v1, .int v2])
          have eg : [(l : Int) + l', o + fo, rr + frr][j]? = some (v1 + v2) := by
            have : j = 0 ∨ j = 1 ∨ j = 2 := by omega
            rcases this with rfl | rfl | rfl
            · cases hv1; cases hv2; rfl
            · cases hv1; cases hv2; rfl
            · cases hv1; cases hv2; rfl
          subst_eqs
          refine ⟨_, SqT.of d6, rfl, _, _, rfl, _, _, rfl, rfl, _, rfl, _, rfl, G6.mk hj (st _ _ e8) (ac5 (by rw [List.length_map, List.length_take]; simp; omega)) ⟨_, _, rfl, (s8.trans st).over hD _, ?_⟩⟩
          rw [d6, B4 eg, List.map_append]; rfl
        · rintro σ H8 ⟨o1, o2, rfl, s8, e8⟩
          refine ⟨D, rfl, _, .inl ⟨SqL.of e8, fun q hq => ?_⟩⟩
          have S8 := s8.trans (d8.new hq (.tup [.int ((l : Int) + l'), .int (o + fo), .int (rr + frr)]))
          have S := s7.trans S8
          exact (hI _ _ _).mpr ⟨_, r1, zs1, _, n + d, l + l', q, _, _, fr, fs, d, l', rfl, (s5.trans s6).trans (d8.x S u), d8.urn S u6, ⟨Z0 u6 f7, S8 _ _ e7, n7.mono S8.tups⟩, RL, by omega, by rw [Int.natCast_add]; exact d6, F6.samex (d8.x S u) u6⟩
      · exact (hI _ _ _).mpr ⟨_, lf, ys, qs, n, l, tn, o, rr, fr, fs, d, l', rfl, s5.trans s6, u6, X6, R5, n6, e6, F6⟩
    · intro σ H5 h
      exact hN _ _ ⟨_, h⟩
  rintro σ H4 ⟨i, h⟩
  obtain ⟨o6, lf, ys, qs, n, l, tn, o, rr, fr, fs, d, l', rfl, s4, u4, X4, R4, n6, e4, F4⟩ := (hI _ _ _).mp h
  subst_eqs
  refine ⟨v3, fun p hp => ?_⟩
  have S := d8.new hp (.tup [.ref lf, .ref tn])
  exact k p lf tn ys qs n l o rr _ (s4.trans (d8.x S u)) (P6 u4 hp) d6 (X4.same S) (S _ _ e4) R4 n6
end
theorem bc4 {qs : List Rat} (hc : G0 (j1 (i9 qs) qs) ≠ 0) :
    let c : Int := G0 (j1 (i9 qs) qs)
    (Rat.divInt c (i9 qs)).num = c ∧ ((Rat.divInt c (i9 qs)).den : Int) = i9 qs ∧ qs = scl (Rat.divInt c (i9 qs)) ((j1 (i9 qs) qs).map fun v => v.fdiv c) := by
  intro c
  have hB := B9 qs
  obtain ⟨h1, h2⟩ := af6 (n := c) (d := (i9 qs : Int)) (by omega) (aB9 qs)
  refine ⟨h1, h2, ?_⟩
  unfold scl j1
  rw [List.map_map, List.map_map]
  conv => lhs; rw [← List.map_id qs]
  refine List.map_congr_left fun q hq => ?_
  show q = Rat.divInt c (i9 qs) * (((q.num * (i9 qs : Int).fdiv (q.den : Int)).fdiv c : Int) : Rat)
  obtain ⟨e, he⟩ := T2 (ws := j1 (i9 qs) qs) (List.mem_map.mpr ⟨q, hq, rfl⟩)
  have hc' : c ≠ 0 := by show ((G0 (j1 (i9 qs) qs) : Nat) : Int) ≠ 0; omega
  have e1 : (q.num * (i9 qs : Int).fdiv (q.den : Int)).fdiv c = e := by
    conv => lhs; arg 1; rw [he]
    exact o8 hc'
  rw [e1]
  conv => lhs; rw [ao7 hB (K8 hq)]
  rw [he]
  have e2 : (e : Rat) = Rat.divInt e 1 := by
    have := Rat.num_divInt_den (e : Rat)
    rw [Rat.num_intCast, Rat.den_intCast] at this
    exact this.symm
  rw [e2, Rat.divInt_mul_divInt, Int.mul_one]
theorem bd1 {ws : List Int} {v : Int} (h : v ∈ ws) (hv : v ≠ 0) : G0 ws ≠ 0 := fun z => by
  obtain ⟨e, he⟩ := T2 h
  rw [z] at he
  simp at he
  exact hv he
theorem aJ9 {a g : Int} {n : Nat} (hg : 0 < g) (hd : g ∣ a) (h : a.natAbs < n) : (a.fdiv g).natAbs < n := Nat.lt_of_le_of_lt (aB3 hg hd) h
section
variable {P : Program} {w : World} {K : PySem.W.Frag} {mg : Str → Option Value} {base : Heap}
theorem aw5 {d : Nat} : ∀ (ws : List Int) (c : Nat), d ∣ c → (∀ w ∈ ws, (d : Int) ∣ w) → d ∣ ws.foldl (fun c w => Int.gcd w c) c
  | [], c, h, _ => h
  | w :: r, c, h, hw => aw5 r _ (Int.dvd_gcd (hw w List.mem_cons_self) (Int.natCast_dvd_natCast.mpr h)) fun x hx => hw x (List.mem_cons_of_mem _ hx)
theorem aR2 {ws : List Int} (hc : G0 ws ≠ 0) : G0 (ws.map fun v => v.fdiv ((G0 ws : Nat) : Int)) = 1 := by
  obtain ⟨g, hg⟩ : ∃ g, g = G0 ws := ⟨_, rfl⟩
  obtain ⟨e, he⟩ : ∃ e, e = G0 (ws.map fun v => v.fdiv ((G0 ws : Nat) : Int)) := ⟨_, rfl⟩
  have hd : (g * e) ∣ G0 ws := aw5 ws 0 (Nat.dvd_zero _) fun w hw => by
    obtain ⟨y, hy⟩ := T2 hw
    have h1 : w.fdiv ((G0 ws : Nat) : Int) = y := by
      conv => lhs; arg 1; rw [hy]
      exact o8 (by omega)
    obtain ⟨z, hz⟩ := T2 (List.mem_map.mpr ⟨w, hw, rfl⟩ : w.fdiv ((G0 ws : Nat) : Int) ∈ ws.map fun v => v.fdiv ((G0 ws : Nat) : Int))
    rw [h1, ← he] at hz
    exact ⟨z, by rw [hy, ← hg, hz, Int.natCast_mul, Int.mul_assoc]⟩
  rw [← hg] at hd
  obtain ⟨z, hz⟩ := hd
  have h2 : g * 1 = g * (e * z) := by rw [Nat.mul_one, ← Nat.mul_assoc]; exact hz
  have h3 := Nat.eq_of_mul_eq_mul_left (show 0 < g by omega) h2
  rw [← he]
  exact Nat.dvd_one.mp ⟨z, h3⟩
def av3 (K : PySem.W.Frag) : Sp := fun vs H Q _ => ∃ a xs qs, vs = [.ref a] ∧ SqL K H a xs ∧ C4 K H xs qs ∧ ∃ W : Nat, ClN W qs ∧ W ≤ 6000 ∧ 1 ≤ W ∧ qs.length ≤ 100 ∧ J3 qs qs.length ∧
  ∀ r rs l s ws H', d8 H H' → H l = none → H' r = some (.tup [.ref rs, .ref l]) → SqT K H' rs (B7 s) → H' l = some (.lst (ws.map V.int)) → BdN W s → s ≠ 0 → (∀ v ∈ ws, Int.natAbs v < 2 ^ W) → ws.length = qs.length → qs = scl s ws → (ws ≠ [] → G0 ws = 1) → Q (.ref r) H'
def aP3 (K : PySem.W.Frag) : Sp := fun vs H Q _ => ∃ a xs qs, vs = [.ref a] ∧ SqL K H a xs ∧ C4 K H xs qs ∧ ∃ W : Nat, ClN W qs ∧ W ≤ 6000 ∧ 1 ≤ W ∧ qs.length ≤ 100 ∧ J3 qs qs.length ∧
  ∀ r rs l s ws H', d8 H H' → H l = none → H' r = some (.tup [.ref rs, .ref l]) → SqT K H' rs (B7 s) → H' l = some (.lst (ws.map V.int)) → BdN W s → s ≠ 0 → (∀ v ∈ ws, Int.natAbs v < 2 ^ W) → ws.length = qs.length → qs = scl s ws → (ws ≠ [] → G0 ws = 1) → 0 < s → Q (.ref r) H'
abbrev N8 : Stmt := top 16
theorem ad5 : m8 ["p", "content", "wholes", "bottom"] ["p"] (d7 N8) := by and_intros
set_option maxHeartbeats 0 in
theorem aI8 {f fc fk aN : Addr} (d : Df K mg "lifted" N8 ["p"] f) (G_cleared : Def P w K mg base CX0 2 "cleared" fc ["numbers"] (R9 K)) (G_content_of : Def P w K mg base CX0 2 "content_of" fk ["wholes"] (ai9 K)) (c_ONE : mg "ONE" = some (.ref aN)) (tN : ∀ H, SqT K H aN (B7 1)) : Def P w K mg base CX0 3 "lifted" f ["p"] (aP3 K) := by
  refine d.ok (N := ["p", "content", "wholes", "bottom"]) ad5 (by rintro vs H Q E ⟨a, b, c, h, _⟩; rw [h]; rfl) (fun cdv A outer s H vs Q E hr h => ?_)
  obtain ⟨a, xs, qs, rfl, hS, hN, m, hs, hm, hm1, hl, ht, k⟩ := h
  refine ⟨_, (d5 (Z8 (i3 G_cleared hr (b7 (pv 0) b8) j3) (show PG _ _ (ae1 K 2 (D7 (D3 2) (D7 (D3 3) ae2))) from by (refine P4 (n := 2) ?_ ?_ ?_ ?_; rfl; (refine u0 ?_ ?_ ?_; (exact (i7 (i := 2) ad5.nd rfl (Or.inl rfl))); (refine u0 ?_ ?_ ?_; (exact (i7 (i := 3) ad5.nd rfl (Or.inl rfl))); (exact K2); rfl); rfl); rfl; rfl)))
      (d5 (F9 (az7 (ah1 (pv 2) (fun _ => rfl))) (d9 (m5 (q8 (b7 (ah4 (v := .ref _) rfl c_ONE rfl) (b7 (D0 b8) b8))))) v7)
      (d5 (i8 (i := 1) ad5.nd rfl (Or.inr rfl) (i3 G_content_of hr (b7 (pv 2) b8) j3))
      (d9 (m5 (q8 (b7 (q8 (b7 (pv 1) (b7 (pv 3) b8))) (b7 (O6 (Nc := ["content", "whole"]) (caps := [some 1, none]) rfl (aa8.of (osc := d7 N8) (N := ["p", "content", "wholes", "bottom"]) (ks := ["content"]) rfl rfl rfl rfl (w8 rfl D8) (by decide +kernel)) (K1 (pv 2)) (fun C s₂ H₂ fp pins => (i7 (i := 1) (show List.Nodup (["content", "whole"] : List Str) by decide +kernel) rfl (Or.inl rfl) (Or.inr rfl))) (fun C s₂ H₂ fp pins => (i6 J1 (pv 1) (pv 0)))) b8)))))))), ?_⟩
  rw [show start ["p", "content", "wholes", "bottom"] [.ref a] = [some (.ref a), none, none, none] from rfl]
  simp! [aG4]
  refine ⟨a, xs, qs, rfl, hS, hN, ⟨m, hs, hm⟩, hl, fun r l H1 s1 hl1 er el => ?_⟩
  have hB := B9 qs
  have hB1 := hs.l
  have wl := hs.w
  refine ⟨r, rfl, _, SqT.of er, rfl, _, _, rfl, _, _, rfl, rfl, _, .inl ⟨_, SqL.of el, rfl⟩, G4 (fun h0 => ?_) (fun h0 => ?_)⟩
  · have hq : qs = [] := by
      cases qs with
      | nil => rfl
      | cons q r => simp [j1] at h0
    subst hq
    refine ⟨by decide, fun p hp => ⟨v3, fun p1 hp1 => ?_⟩⟩
    refine k p1 aN p 1 [] _ (s1.trans ((d8.new hp _).trans (d8.new hp1 _))) (s1.free hp) d6 (tN _) (by rw [j5 (bk0 hp1).symm]; exact d6) ⟨Nat.lt_of_lt_of_le (show _ < 2 ^ 1 by decide) (i5 (by omega)), Nat.lt_of_lt_of_le (show _ < 2 ^ 1 by decide) (i5 (by omega))⟩ (by decide) (by simp) (by simp) rfl (fun z => absurd rfl z) (by decide)
  · have hq : qs ≠ [] := fun z => h0 (by rw [z]; rfl)
    have lp : 0 < qs.length := List.length_pos_iff.mpr hq
    have hlast : qs.length - 1 < qs.length := by omega
    have hne : qs[qs.length - 1] ≠ 0 := ht.last (by omega) _ (List.getElem?_eq_getElem hlast)
    have hmem : qs[qs.length - 1] ∈ qs := List.getElem_mem hlast
    have hc : G0 (j1 (i9 qs) qs) ≠ 0 := by
      refine bd1 (List.mem_map.mpr ⟨_, hmem, rfl⟩) ?_
      obtain ⟨e, he⟩ := K8 hmem
      have h0 : (qs[qs.length - 1].den : Int) ≠ 0 := by have := qs[qs.length - 1].den_nz; omega
      have e1 : (i9 qs : Int).fdiv (qs[qs.length - 1].den : Int) = (e : Int) := by
        rw [he, Int.natCast_mul]; exact o8 h0
      rw [e1]
      refine Int.mul_ne_zero (fun z => hne (ar2.mp z)) ?_
      intro z
      have : e = 0 := by omega
      rw [this] at he; omega
    obtain ⟨f1, f2, f3⟩ := bc4 hc
    have cpos : (0 : Int) < (G0 (j1 (i9 qs) qs) : Nat) := by omega
    have cle : G0 (j1 (i9 qs) qs) < 2 ^ m := by
      have hm : qs[qs.length - 1].num * (i9 qs : Int).fdiv (qs[qs.length - 1].den : Int) ∈ j1 (i9 qs) qs := List.mem_map.mpr ⟨_, hmem, rfl⟩
      obtain ⟨e, he⟩ := T2 hm
      have w1 := wl _ hm
      rw [he, Int.natAbs_mul, Int.natAbs_natCast] at w1
      have e0 : e.natAbs ≠ 0 := fun z => by
        have hz : e = 0 := by omega
        rw [hz, Int.mul_zero] at he
        rcases Int.mul_eq_zero.mp he with q1 | q1
        · exact hne (ar2.mp q1)
        · obtain ⟨e', he'⟩ := K8 hmem
          have h0 : (qs[qs.length - 1].den : Int) ≠ 0 := by have := qs[qs.length - 1].den_nz; omega
          have e1 : (i9 qs : Int).fdiv (qs[qs.length - 1].den : Int) = (e' : Int) := by
            rw [he', Int.natCast_mul]; exact o8 h0
          rw [e1] at q1
          have : e' = 0 := by omega
          rw [this] at he'; omega
      exact Nat.lt_of_le_of_lt (Nat.le_mul_of_pos_right _ (by omega)) w1
    refine ⟨l, _, rfl, SqL.of el, fun v hv => Nat.lt_of_lt_of_le (wl v hv) (i5 hm), v3, fun p hp => ⟨l, rfl, ⟨_, SqL.of (d8.new hp _ _ _ el)⟩, fun D hD => ?_⟩⟩
    have sp := d8.new hp (.tup [.int (G0 (j1 (i9 qs) qs) : Nat), .int (i9 qs)])
    refine U7 ((j1 (i9 qs) qs).map V.int) (fun i σ H2 => ∃ o, σ = [some (.int (G0 (j1 (i9 qs) qs) : Nat)), o] ∧ d8 (upd H1 p (.tup [.int (G0 (j1 (i9 qs) qs) : Nat), .int (i9 qs)])) H2 ∧ H2 D = some (.lst ((((j1 (i9 qs) qs).take i).map fun v => v.fdiv (G0 (j1 (i9 qs) qs) : Nat)).map V.int)))
      ⟨_, rfl, d8.new hD _, d6⟩ (fun i σ H2 _ ⟨_, _, s2, _⟩ => SqL.of (s2 _ _ (sp _ _ el))) ?_ ?_
    · rintro i x σ H2 hx ⟨o, rfl, s2, e2⟩
      have hi := (List.getElem?_eq_some_iff.mp hx).1
      rw [List.getElem?_map] at hx
      cases hw : (j1 (i9 qs) qs)[i]? with
      | none => rw [hw] at hx; cases hx
      | some v =>
        rw [hw] at hx
        cases hx
        subst_eqs
        refine ⟨ab1 (by omega) (by rw [Int.natAbs_natCast]; exact T9 cle (by omega)), G6.mk hi e2 ?_ ⟨_, rfl, s2.over hD _, ?_⟩⟩
        · simp only [List.length_map, List.length_take, j1]
          exact Nat.lt_of_le_of_lt (show _ ≤ 100 by omega) (by decide)
        · rw [d6, List.take_succ, hw]
          simp
    · rintro σ H2 ⟨o, rfl, s2, e2⟩
      rw [List.length_map, List.take_length] at e2
      refine ⟨v3, fun p1 hp1 => ?_⟩
      have S := (s1.trans sp).trans (s2.trans (d8.new hp1 (.tup [.ref p, .ref D])))
      have ep : SqT K (upd H2 p1 (.tup [.ref p, .ref D])) p (B7 (Rat.divInt (G0 (j1 (i9 qs) qs) : Nat) (i9 qs))) := by
        refine SqT.of ?_
        rw [j5 (m9 (s2 _ _ d6) hp1), s2 _ _ d6]
        unfold B7
        rw [f1, f2]
      refine k p1 p D _ ((j1 (i9 qs) qs).map fun v => v.fdiv (G0 (j1 (i9 qs) qs) : Nat)) _ S (s1.free (aW2 hD)) d6 ep (by rw [j5 (m9 e2 hp1)]; exact e2) ⟨?_, ?_⟩ ?_ ?_ ?_ f3 (fun _ => aR2 hc) ?_
      · rw [f1, Int.natAbs_natCast]; exact cle
      · have : (Rat.divInt (G0 (j1 (i9 qs) qs) : Nat) (i9 qs)).den = i9 qs := by omega
        rw [this]; exact hB1
      · intro z
        rw [z] at f1
        have : (0 : Rat).num = 0 := rfl
        omega
      · intro v hv
        obtain ⟨v', hv', rfl⟩ := List.mem_map.mp hv
        exact aJ9 cpos (T2 hv') (wl v' hv')
      · simp only [List.length_map, j1]
      · exact ap7 (by rw [f1]; exact cpos)
theorem aI9 {f fc fk aN : Addr} (d : Df K mg "lifted" N8 ["p"] f) (G_cleared : Def P w K mg base CX0 2 "cleared" fc ["numbers"] (R9 K)) (G_content_of : Def P w K mg base CX0 2 "content_of" fk ["wholes"] (ai9 K)) (c_ONE : mg "ONE" = some (.ref aN)) (tN : ∀ H, SqT K H aN (B7 1)) : Def P w K mg base CX0 3 "lifted" f ["p"] (av3 K) :=
  (aI8 d G_cleared G_content_of c_ONE tN).imp (by
    rintro vs H Q E ⟨a, xs, qs, h1, h2, h3, W, h4, h5, h6, h7, h8, k⟩
    exact ⟨a, xs, qs, h1, h2, h3, W, h4, h5, h6, h7, h8, fun r rs l s ws H' a1 a2 a3 a4 a5 a6 a7 a8 a9 b1 b2 _ => k r rs l s ws H' a1 a2 a3 a4 a5 a6 a7 a8 a9 b1 b2⟩)
end
section
variable {P : Program} {w : World} {K : PySem.W.Frag} {mg : Str → Option Value} {base : Heap}
def aD4 (K : PySem.W.Frag) : Sp := fun vs H Q _ => ∃ (a b : Addr) (R F : List Int) (dv : Int) (W : Nat), vs = [.ref a, .ref b, .int dv] ∧ SqL K H a (R.map V.int) ∧ SqL K H b (F.map V.int) ∧ F ≠ [] ∧ F.length ≤ R.length ∧ R.length ≤ 20 ∧ dv ≠ 0 ∧ dv.natAbs < 2 ^ W ∧ (∀ v ∈ R, Int.natAbs v < 2 ^ W) ∧ (∀ v ∈ F, Int.natAbs v < 2 ^ W) ∧ W ≤ 8900 ∧
  ∀ r T H', d8 H H' → H r = none → H' r = some (.lst (T.map V.int)) → T.length = R.length - 1 → (∀ j, j < T.length → aZ T j = (aZ F 0 * aZ R (j + 1) - aZ R 0 * aZ F (j + 1)).fdiv dv) → Q (.ref r) H'
abbrev E3 : Stmt := top 27
theorem P7 : m8 ["row", "further", "divisor", "beside", "lead", "own"] ["row", "further", "divisor"] (d7 E3) := by and_intros
set_option maxHeartbeats 0 in
theorem au0 {f : Addr} (d : Df K mg "row_behind" E3 ["row", "further", "divisor"] f) (n_len : mg "len" = none) (n_zip : mg "zip" = none) : Def P w K mg base CX0 1 "row_behind" f ["row", "further", "divisor"] (aD4 K) := by
  refine d.ok (N := ["row", "further", "divisor", "beside", "lead", "own"]) P7 (by rintro vs H Q E ⟨_, _, _, _, _, _, h, _⟩; rw [h]; rfl) (fun cdv A outer s H vs Q E hr h => ?_)
  obtain ⟨a, b, R, F, dv, W, rfl, hR, hF, fn, lF, l20, d0, db, wR, wF, hW, k⟩ := h
  refine ⟨_, (d5 (Z8 (q8 (b7 (t9 v8 (pv 1) b9 (fun _ _ => rfl)) (b7 (t9 v8 (pv 0) b9 (fun _ _ => rfl)) b8))) (show PG _ _ (ae1 K 2 (D7 (D3 4) (D7 (D3 5) ae2))) from by (refine P4 (n := 2) ?_ ?_ ?_ ?_; rfl; (refine u0 ?_ ?_ ?_; (exact (i7 (i := 4) P7.nd rfl (Or.inr rfl))); (refine u0 ?_ ?_ ?_; (exact (i7 (i := 5) P7.nd rfl (Or.inr rfl))); (exact K2); rfl); rfl); rfl; rfl)))
      (d5 (i8 (i := 3) P7.nd rfl (Or.inl rfl) (i6 aj4 (Q6 T3 (pv 1) (K7 b9) P9) (i6 aV8 (D0 (b7 b9 b8)) (i6 M1 (j2 j0 rfl n_len (by decide +kernel) (b7 (pv 0) b8)) (j2 j0 rfl n_len (by decide +kernel) (b7 (pv 1) b8))))))
      (d9 (m5 (O6 (Nc := ["own", "lead", "divisor", "whole", "other"]) (caps := [some 5, some 4, some 2, none, none]) rfl (aa8.of (osc := d7 E3) (N := ["row", "further", "divisor", "beside", "lead", "own"]) (ks := ["own", "lead", "divisor"]) rfl rfl rfl rfl (w8 rfl (w8 rfl (w8 rfl D8))) (by decide +kernel)) (aV4 rfl n_zip (b7 (Q6 T3 (pv 0) (K7 b9) P9) (b7 (pv 3) b8))) (fun C s₂ H₂ fp pins => (show PG _ _ (ae1 K 2 (D7 (D3 3) (D7 (D3 4) ae2))) from by (refine P4 (n := 2) ?_ ?_ ?_ ?_; rfl; (refine u0 ?_ ?_ ?_; (exact (i7 (i := 3) (show List.Nodup (["own", "lead", "divisor", "whole", "other"] : List Str) by decide +kernel) rfl (Or.inl rfl) (Or.inr rfl))); (refine u0 ?_ ?_ ?_; (exact (i7 (i := 4) (show List.Nodup (["own", "lead", "divisor", "whole", "other"] : List Str) by decide +kernel) rfl (Or.inl rfl) (Or.inr rfl))); (exact K2); rfl); rfl); rfl; rfl))) (fun C s₂ H₂ fp pins => (i6 J1 (i6 M1 (i6 C5 (pv 1) (pv 3)) (i6 C5 (pv 0) (pv 4))) (pv 2)))))))), ?_⟩
  rw [show start ["row", "further", "divisor", "beside", "lead", "own"] [.ref a, .ref b, .int dv] = [some (.ref a), some (.ref b), some (.int dv), none, none, none] from rfl]
  have fp := List.length_pos_iff.mpr fn
  have hf0 : (F.map V.int)[0]? = some (.int (aZ F 0)) := by
    rw [List.getElem?_map, List.getElem?_eq_getElem (by omega)]
    unfold aZ
    rw [List.getElem?_eq_getElem (by omega)]; rfl
  have hr0 : (R.map V.int)[0]? = some (.int (aZ R 0)) := by
    rw [List.getElem?_map, List.getElem?_eq_getElem (by omega)]
    unfold aZ
    rw [List.getElem?_eq_getElem (by omega)]; rfl
  refine j9 (fun σ H1 => σ = [some (.ref a), some (.ref b), some (.int dv), none, some (.int (aZ F 0)), some (.int (aZ R 0))] ∧ d8 H H1) (fun N hN => ?_) ?_
  · subst_eqs
    refine ⟨_, hF, _, G3 (j := 0) hf0, _, hR, _, G3 (j := 0) hr0, v3, fun p hp => ?_⟩
    exact ⟨_, SqT.of d6, rfl, _, _, rfl, _, _, rfl, rfl, hN _ _ ⟨rfl, d8.new hp _⟩⟩
  rintro σ H1 ⟨rfl, S1⟩
  refine j9 (fun σ H2 => ∃ be, σ = [some (.ref a), some (.ref b), some (.int dv), some (.ref be), some (.int (aZ F 0)), some (.int (aZ R 0))] ∧ d8 H1 H2 ∧ H2 be = some (.lst ((F.drop 1 ++ List.replicate (R.length - F.length) 0).map V.int))) (fun N hN => ?_) ?_
  · subst_eqs
    simp only [aN6]
    have lx : (((R.map V.int).length : Int) - ((F.map V.int).length : Int)).toNat = R.length - F.length := by rw [List.length_map, List.length_map]; omega
    refine ⟨_, S1.seq hF, fun p hp => ⟨by decide, fun p1 hp1 => ?_⟩⟩
    have X1 := d8.new hp (.lst ((F.map V.int).drop 1))
    have X2 := d8.new hp1 (.lst [.int 0])
    have X := X1.trans X2
    refine ⟨_, .inl ((S1.trans X).seq hR), _, .inl ((S1.trans X).seq hF), _, d6, by rw [List.length_map, List.length_map]; omega, by rw [List.length_map, List.length_map]; omega, ?_, fun p2 hp2 => ?_⟩
    · rw [lx]
      exact Nat.le_trans (show _ ≤ 100 by simp; omega) (by decide)
    rw [lx, List.flatten_replicate_singleton]
    have X3 := d8.new hp2 (.lst (List.replicate (R.length - F.length) (V.int 0)))
    refine ⟨_, X3 _ _ (X2 _ _ d6), _, d6, ?_, fun p3 hp3 => ?_⟩
    · rw [List.length_drop, List.length_map, List.length_replicate]
      exact Nat.le_trans (show _ ≤ 100 by omega) (by decide)
    have X4 := d8.new hp3 (.lst ((F.map V.int).drop 1 ++ List.replicate (R.length - F.length) (V.int 0)))
    exact hN _ _ ⟨p3, rfl, X.trans (X3.trans X4), by rw [d6, List.map_append, List.map_drop, List.map_replicate]⟩
  rintro σ H2 ⟨be, rfl, S2, ebe⟩
  subst_eqs
  simp only [aN6]
  obtain ⟨bs, hbs⟩ : ∃ bs, bs = F.drop 1 ++ List.replicate (R.length - F.length) 0 := ⟨_, rfl⟩
  have lbs : bs.length = R.length - 1 := by rw [hbs, List.length_append, List.length_drop, List.length_replicate]; omega
  have bsg : ∀ j v, bs[j]? = some v → v = aZ F (j + 1) := fun j v h => by
    rw [hbs] at h
    unfold aZ
    rcases Nat.lt_or_ge j (F.drop 1).length with z | z
    · rw [List.getElem?_append_left z, List.getElem?_drop, Nat.add_comm] at h
      rw [h]; rfl
    · rw [List.getElem?_append_right z] at h
      have h0 := (List.mem_replicate.mp (List.mem_of_getElem? h)).2
      rw [List.length_drop] at z
      rw [List.getElem?_eq_none (by omega), h0]; rfl
  rw [← hbs] at ebe
  obtain ⟨tf, htf⟩ : ∃ tf : Nat → Int, ∀ j, tf j = (aZ F 0 * aZ R (j + 1) - aZ R 0 * aZ F (j + 1)).fdiv dv := ⟨_, fun _ => rfl⟩
  have S12 := S1.trans S2
  refine ⟨_, S12.seq hR, fun p hp => ?_⟩
  have X := d8.new hp (.lst ((R.map V.int).drop 1))
  have ep : (upd H2 p (.lst ((R.map V.int).drop 1))) p = some (.lst ((R.drop 1).map V.int)) := by rw [d6, List.map_drop]
  have eb2 := X _ _ ebe
  refine ⟨⟨_, SqL.of ep⟩, ⟨_, SqL.of eb2⟩, fun D hD => ?_⟩
  generalize upd H2 p (.lst ((R.map V.int).drop 1)) = H3 at *
  have lr1 : ((R.drop 1).map V.int).length = R.length - 1 := by rw [List.length_map, List.length_drop]
  have lb1 : (bs.map V.int).length = R.length - 1 := by rw [List.length_map, lbs]
  have mb : min ((R.drop 1).map V.int).length (bs.map V.int).length = R.length - 1 := by rw [lr1, lb1, Nat.min_self]
  refine aY6 ((R.drop 1).map V.int) (bs.map V.int) (fun i σ H4 => ∃ o1 o2, σ = [some (V.int (aZ R 0)), some (V.int (aZ F 0)), some (V.int dv), o1, o2] ∧ d8 H3 H4 ∧ H4 D = some (.lst (((List.range i).map tf).map V.int))) ⟨_, _, rfl, d8.new hD _, d6⟩ (by rintro i σ H4 ⟨_, _, _, s4, _⟩; exact ⟨SqL.of (s4 _ _ ep), SqL.of (s4 _ _ eb2)⟩) ?_ ?_
  · rintro i x y σ H4 q hx hy ⟨o1, o2, rfl, s4, e4⟩ hq
    have hi := (List.getElem?_eq_some_iff.mp hy).1
    obtain ⟨x', hx', rfl⟩ := W8 hx
    obtain ⟨y', hy', rfl⟩ := W8 hy
    have ex : x' = aZ R (i + 1) := by
      rw [List.getElem?_drop, Nat.add_comm] at hx'
      unfold aZ; rw [hx']; rfl
    have ey := bsg i y' hy'
    subst ex ey
    have T := d8.new hq (.tup [.int (aZ R (i + 1)), .int (aZ F (i + 1))])
    have eT := T _ _ e4
    subst_eqs
    refine ⟨_, SqT.of d6, rfl, _, _, rfl, _, _, rfl, rfl, ?_⟩
    refine ⟨_, rfl, W4 (V0 wF 0) (V0 wR _) (by omega), _, rfl, W4 (V0 wR 0) (V0 wF _) (by omega), ab1 d0 (T9 db (by omega)), ?_⟩
    rw [mb]
    rw [lb1] at hi
    refine G6.mk hi eT ?_ ⟨_, _, rfl, (s4.trans T).over hD _, ?_⟩
    · rw [List.length_map, List.length_map, List.length_range]
      exact Nat.lt_of_lt_of_le (show i < 100 by omega) (by decide)
    · rw [d6, List.range_succ, List.map_append, List.map_append, ← htf]; rfl
  · rintro σ H4 ⟨o1, o2, rfl, s4, e4⟩
    rw [mb] at e4
    refine k D ((List.range (R.length - 1)).map tf) H4 ?_ ?_ e4 (by rw [List.length_map, List.length_range]) fun j hj => ?_
    · exact (S12.trans X).trans s4
    · exact (S12.trans X).free hD
    · rw [List.length_map, List.length_range] at hj
      rw [← htf]
      unfold aZ
      rw [List.getElem?_map, List.getElem?_range hj]; rfl
end
section
variable {P : Program} {w : World} {K : PySem.W.Frag} {mg : Str → Option Value} {base : Heap}
structure WDD (H : Hp) (one other : List Int) (n W1 W2 kst : Nat) (lq lr : Addr) (many : Int) (Qz Rz : List Int) (H3 : Hp) : Prop where
  same : d8 H H3
  fq : H lq = none
  fr : H lr = none
  nqr : lq ≠ lr
  eq : H3 lq = some (.lst (Qz.map V.int))
  er : H3 lr = some (.lst (Rz.map V.int))
  m1 : 1 ≤ many
  mb : many.natAbs < 2 ^ (kst * W2 + 1)
  qb : ∀ v ∈ Qz, Int.natAbs v < 2 ^ (W1 + kst * (W2 + 1))
  rb : ∀ v ∈ Rz, Int.natAbs v < 2 ^ (W1 + kst * (W2 + 1))
  kl : kst + Rz.length ≤ one.length
  ks : kst = 0 ∨ kst + n ≤ one.length
  k0 : kst = 0 → Rz.length = one.length
  rt : at4 Rz Rz.length
  ql : Qz.length = one.length - n
  qz : ∀ i, i + n < Rz.length → aZ Qz i = 0
  qlast : kst ≠ 0 → ∀ v, Qz[Qz.length - 1]? = some v → v ≠ 0
  dv : Dv one other Qz Rz many
  ex : ExZ one other → many = 1
def ab0 (k : Nat) (σ : L2.St) (H : Hp) : Nat := match σ[k]? with
  | some (some (.ref r)) => (match H r with
    | some (.lst xs) => xs.length
    | _ => 0)
  | _ => 0
theorem ah9 {k : Nat} {σ : L2.St} {H : Hp} {r : Addr} {xs : List V} (h : σ[k]? = some (some (.ref r))) (e : H r = some (.lst xs)) : ab0 k σ H = xs.length := by
  unfold ab0; rw [h]; simp only [e]
end
theorem bi8 : ∀ m, m ≤ 15 → sliceRange (sliceBounds none none (some (-2)) m).1 (sliceBounds none none (some (-2)) m).2.1 (sliceBounds none none (some (-2)) m).2.2 = (List.range ((m + 1) / 2)).map fun j => m - 1 - 2 * j := by decide +kernel
theorem bi7 : ∀ m, m ≤ 15 → sliceRange (sliceBounds (some (-2)) none (some (-2)) m).1 (sliceBounds (some (-2)) none (some (-2)) m).2.1 (sliceBounds (some (-2)) none (some (-2)) m).2.2 = (List.range (m / 2)).map fun j => m - 2 - 2 * j := by decide +kernel
def R7 (ws : List Int) (s k : Nat) : List Int := (List.range k).map fun j => aZ ws (s - 2 * j)
theorem aq0 {ws : List Int} {s : Nat} : ∀ k, (∀ j, j < k → s - 2 * j < ws.length) → ((List.range k).map fun j => s - 2 * j).filterMap ((ws.map V.int)[·]?) = (R7 ws s k).map V.int
  | 0, _ => rfl
  | k + 1, h => by
    unfold R7
    rw [List.range_succ, List.map_append, List.filterMap_append, aq0 k fun j hj => h j (by omega), List.map_append, List.map_append]
    congr 1
    have hk := h k (by omega)
    have : (ws.map V.int)[s - 2 * k]? = some (V.int (aZ ws (s - 2 * k))) := by
      rw [List.getElem?_map, List.getElem?_eq_getElem hk]
      unfold aZ
      rw [List.getElem?_eq_getElem hk]; rfl
    show [s - 2 * k].filterMap _ = _
    rw [List.filterMap_cons, this]; rfl
theorem bn5 {ws : List Int} (h : ws.length ≤ 15) : aq1 (ws.map V.int) none none (some (-2)) = (R7 ws (ws.length - 1) ((ws.length + 1) / 2)).map V.int := by
  unfold aq1
  rw [List.length_map, bi8 _ h]
  exact aq0 _ fun j hj => by omega
theorem bn4 {ws : List Int} (h : ws.length ≤ 15) : aq1 (ws.map V.int) (some (-2)) none (some (-2)) = (R7 ws (ws.length - 2) (ws.length / 2)).map V.int := by
  unfold aq1
  rw [List.length_map, bi7 _ h]
  exact aq0 _ fun j hj => by omega
theorem ax3 (ws : List Int) (s k : Nat) : (R7 ws s k).length = k := by unfold R7; rw [List.length_map, List.length_range]
theorem ax4 (ws : List Int) (s k j : Nat) : aZ (R7 ws s k) j = if j < k then aZ ws (s - 2 * j) else 0 := by
  unfold R7
  by_cases h : j < k
  · rw [if_pos h]
    show (((List.range k).map _)[j]?).getD 0 = _
    rw [List.getElem?_map, List.getElem?_range h]; rfl
  · rw [if_neg h]
    show (((List.range k).map _)[j]?).getD 0 = _
    rw [List.getElem?_eq_none (by rw [List.length_map, List.length_range]; omega)]; rfl
structure WG (n : Nat) (ws : List Int) (W : Nat) : Prop where
  len : ws.length = n + 1
  n14 : n ≤ 14
  ld : 0 < aZ ws n
  w : ∀ v ∈ ws, Int.natAbs v < 2 ^ W
  b : (W + 4) * (n + 1) ≤ 8800
def zr (ws : List Int) : Nat → Rat := fun k => ((aZ ws k : Int) : Rat)
abbrev gA (ws : List Int) (n : Nat) := rwA (zr ws) n
abbrev gB (ws : List Int) (n : Nat) := rwB (zr ws) n
def Lk (n k : Nat) : Nat := if k ≤ n then (n - k) / 2 + 1 else 0
structure Tg (n : Nat) (ws : List Int) (W k : Nat) (T : List Int) : Prop where
  l : T.length = Lk n k
  e : ∀ j, ((aZ T j : Int) : Rat) = tau (gA ws n) (gB ws n) k j
  b : ∀ v ∈ T, Int.natAbs v < 2 ^ ((W + 4) * (n + 1) + 1)
section
variable {n : Nat} {ws : List Int} {W : Nat}
theorem WG.ints (h : WG n ws W) : (∀ j, ∃ z : Int, gA ws n j = (z : Rat) ∧ z.natAbs < 2 ^ W) ∧ ∀ j, ∃ z : Int, gB ws n j = (z : Rat) ∧ z.natAbs < 2 ^ W := by
  refine ⟨fun j => ?_, fun j => ?_⟩
  · by_cases z : 2 * j ≤ n
    · exact ⟨aZ ws (n - 2 * j), by unfold gA rwA; rw [if_pos z]; rfl, V0 h.w _⟩
    · exact ⟨0, by unfold gA rwA; rw [if_neg z]; rfl, Nat.two_pow_pos _⟩
  · by_cases z : 2 * j + 1 ≤ n
    · exact ⟨aZ ws (n - 1 - 2 * j), by unfold gB rwB; rw [if_pos z]; rfl, V0 h.w _⟩
    · exact ⟨0, by unfold gB rwB; rw [if_neg z]; rfl, Nat.two_pow_pos _⟩
theorem ay0 (h : WG n ws W) (hn : 1 ≤ n) {k : Nat} (hk : k ≤ n + 1) {T : List Int} (e : ∀ j, ((aZ T j : Int) : Rat) = tau (gA ws n) (gB ws n) k j) : ∀ v ∈ T, Int.natAbs v < 2 ^ ((W + 4) * (n + 1) + 1) := by
  obtain ⟨i1, i2⟩ := h.ints
  have n14 := h.n14
  have key : ∀ j, (aZ T j).natAbs < 2 ^ ((W + 4) * (n + 1) + 1) := fun j => by
    obtain ⟨z, ez, bz⟩ := aC5 (m := n + 1) i1 i2 hk (by omega) (by omega) j
    have : aZ T j = z := Rat.intCast_inj.mp (by rw [e j, ez])
    rw [this]
    refine Nat.lt_of_le_of_lt bz ?_
    rw [Nat.pow_succ]
    have := Nat.two_pow_pos ((W + 4) * (n + 1))
    omega
  intro v hv
  obtain ⟨k, hk, ek⟩ := List.getElem_of_mem hv
  have h2 : aZ T k = v := by unfold aZ; rw [List.getElem?_eq_getElem hk, ek]; rfl
  rw [← h2]; exact key k
theorem WG.start (h : WG n ws W) (hn : 1 ≤ n) : Tg n ws W 0 (R7 ws (ws.length - 1) ((ws.length + 1) / 2)) ∧ Tg n ws W 1 (R7 ws (ws.length - 2) (ws.length / 2)) := by
  have hl := h.len
  have e0 : ∀ j, ((aZ (R7 ws (ws.length - 1) ((ws.length + 1) / 2)) j : Int) : Rat) = tau (gA ws n) (gB ws n) 0 j := fun j => by
    rw [V8, ax4]
    unfold gA rwA
    by_cases z : 2 * j ≤ n
    · rw [if_pos (by omega), if_pos z, hl, Nat.add_sub_cancel]; rfl
    · rw [if_neg (by omega), if_neg z]; rfl
  have e1 : ∀ j, ((aZ (R7 ws (ws.length - 2) (ws.length / 2)) j : Int) : Rat) = tau (gA ws n) (gB ws n) 1 j := fun j => by
    rw [K6, ax4]
    unfold gB rwB
    by_cases z : 2 * j + 1 ≤ n
    · rw [if_pos (by omega), if_pos z, hl, show n + 1 - 2 = n - 1 by omega]; rfl
    · rw [if_neg (by omega), if_neg z]; rfl
  refine ⟨⟨?_, e0, ay0 h hn (by omega) e0⟩, ⟨?_, e1, ay0 h hn (by omega) e1⟩⟩
  · rw [ax3]; unfold Lk; rw [if_pos (by omega)]; omega
  · rw [ax3]; unfold Lk; rw [if_pos (by omega)]; omega
theorem WG.next (h : WG n ws W) (hn : 1 ≤ n) {k : Nat} (k1 : 1 ≤ k) (kn : k ≤ n) (lead : ∀ i, 1 ≤ i → i ≤ k → 0 < tau (gA ws n) (gB ws n) i 0) {R F T : List Int} {dv : Int} (d0 : dv ≠ 0) (tR : Tg n ws W (k - 1) R) (tF : Tg n ws W k F) (ed : ((dv : Int) : Rat) = dlt (gA ws n) (gB ws n) k) (lT : T.length = R.length - 1) (eT : ∀ j, j < T.length → aZ T j = (aZ F 0 * aZ R (j + 1) - aZ R 0 * aZ F (j + 1)).fdiv dv) : Tg n ws W (k + 1) T := by
  have rc := ay2 k (gA ws n) (gB ws n) k1 (fun i h1 hi => C9 (lead i h1 (by omega))) (fun hk => by
    have := lead 1 (by omega) (by omega)
    rw [K6] at this
    exact C9 this)
  obtain ⟨i1, i2⟩ := h.ints
  have n14 := h.n14
  have lR := tR.l
  have lL : T.length = Lk n (k + 1) := by
    rw [lT, lR]
    unfold Lk
    rw [if_pos (by omega)]
    split <;> omega
  have e : ∀ j, ((aZ T j : Int) : Rat) = tau (gA ws n) (gB ws n) (k + 1) j := fun j => by
    obtain ⟨z, ez, _⟩ := aC5 (m := n + 1) i1 i2 (k := k + 1) (by omega) (by omega) (by omega) j
    have r := rc j
    rw [ez, ← ed, ← tF.e, ← tF.e, ← tR.e, ← tR.e] at r
    have ri : z * dv = aZ F 0 * aZ R (j + 1) - aZ R 0 * aZ F (j + 1) := Rat.intCast_inj.mp (by
      rw [Rat.intCast_mul, Rat.intCast_sub, Rat.intCast_mul, Rat.intCast_mul]; exact r)
    rcases Nat.lt_or_ge j T.length with y | y
    · rw [ez, eT j y, ← ri]
      congr 1
      rw [Int.mul_comm]; exact o8 d0
    · have t0 : aZ T j = 0 := by unfold aZ; rw [List.getElem?_eq_none y]; rfl
      rw [t0, ez]
      congr 1
      have f1 : aZ R (j + 1) = 0 := by unfold aZ; rw [List.getElem?_eq_none (by omega)]; rfl
      have lF := tF.l
      have f2 : aZ F (j + 1) = 0 := by
        unfold aZ
        rw [List.getElem?_eq_none]; rfl
        rw [lF]
        unfold Lk at lR ⊢
        rw [if_pos (by omega)] at lR ⊢
        omega
      rw [f1, f2, Int.mul_zero, Int.mul_zero, Int.sub_zero] at ri
      rcases Int.mul_eq_zero.mp ri with x | x
      · exact x.symm
      · exact absurd x d0
  exact ⟨lL, e, ay0 h hn (by omega) e⟩
theorem WG.a0 (h : WG n ws W) : 0 < gA ws n 0 := by
  unfold gA rwA zr
  rw [if_pos (by omega)]
  exact Rat.intCast_pos.mpr h.ld
theorem WG.no (h : WG n ws W) {k : Nat} (k1 : 1 ≤ k) (kn : k ≤ n) (z : ¬ 0 < tau (gA ws n) (gB ws n) k 0) : aa4 (zr ws) n = false := by
  refine Bool.eq_false_iff.mpr fun d => z ?_
  exact ay3.mpr ((ad8 h.a0).mp d) k k1 kn
theorem WG.yes (h : WG n ws W) (z : ∀ k, 1 ≤ k → k ≤ n → 0 < tau (gA ws n) (gB ws n) k 0) : aa4 (zr ws) n = true := (ad8 h.a0).mpr (ay3.mp z)
end
section
variable {P : Program} {w : World} {K : PySem.W.Frag} {mg : Str → Option Value} {base : Heap}
def aT5 (K : PySem.W.Frag) : Sp := fun vs H Q _ => ∃ (a : Addr) (ws : List Int) (n W : Nat), vs = [.ref a] ∧ SqL K H a (ws.map V.int) ∧ ws.length = n + 1 ∧ n ≤ 14 ∧ aZ ws n ≠ 0 ∧ (∀ v ∈ ws, Int.natAbs v < 2 ^ W) ∧ (W + 4) * (n + 1) ≤ 8800 ∧ ∀ H', d8 H H' → Q (.bl (aa4 (zr ws) n)) H'
abbrev E1 : Stmt := top 28
theorem D4 : m8 ["wholes", "divisor", "ahead", "row", "further", "lead"] ["wholes"] (d7 E1) := by and_intros
set_option maxHeartbeats 0 in
theorem at9 {f f1 : Addr} (d : Df K mg "whole_dies" E1 ["wholes"] f) (G_row_behind : Def P w K mg base CX0 1 "row_behind" f1 ["row", "further", "divisor"] (aD4 K)) (n_min : mg "min" = none) : Def P w K mg base CX0 2 "whole_dies" f ["wholes"] (aT5 K) := by
  refine d.ok (N := ["wholes", "divisor", "ahead", "row", "further", "lead"]) D4 (by rintro vs H Q E ⟨_, _, _, _, h, _⟩; rw [h]; rfl) (fun cdv A outer s H vs Q E hr h => ?_)
  obtain ⟨a, ws, n, W, rfl, hS, hl, n14, ld0, bw, hb, k⟩ := h
  refine ⟨_, (d5 (F9 (p7 R6 (t9 v8 (pv 0) (aa9 Q8 b9) (fun _ _ => rfl)) b9 (j8 _)) (d9 (Z7 (i₀ := 0) D4.nd rfl (Or.inl rfl) (Nc := ["whole"]) (caps := [none]) rfl (aa8.of (osc := d7 E1) (N := ["wholes", "divisor", "ahead", "row", "further", "lead"]) (ks := []) rfl rfl rfl rfl D8 (by decide +kernel)) (K1 (pv 0)) (fun C s₂ H₂ fp pins => (i7 (i := 0) (show List.Nodup (["whole"] : List Str) by decide +kernel) rfl (Or.inl rfl) (Or.inr rfl))) (fun C s₂ H₂ fp pins => (aa9 Q8 (pv 0))))) v7)
      (d5 (F9 (p7 aL8 (j2 (aS0 rfl) rfl n_min (by decide +kernel) (b7 (pv 0) b8)) b9 (j8 _)) (d9 (m5 aq3)) v7)
      (d5 (ac1 (i := 3) (j := 4) rfl D4.nd rfl rfl (by decide) rfl rfl (b7 (av8 (pv 0) P9 P9 (K7 (aa9 Q8 b9))) (b7 (av8 (pv 0) (K7 (aa9 Q8 b9)) P9 (K7 (aa9 Q8 b9))) b8)) rfl)
      (d5 (bb5 b9 (i7 (i := 1) D4.nd rfl (Or.inl rfl)) (i7 (i := 2) D4.nd rfl (Or.inl rfl)))
      (d5 (ah2 PassesOwn.never (ah1 (pv 4) (fun _ => rfl)) (d5 (i8 (i := 5) D4.nd rfl (Or.inl rfl) (t9 v8 (pv 4) b9 (fun _ _ => rfl)))
      (d5 (F9 (p7 aL8 (pv 5) b9 (j8 _)) (d9 (m5 aq3)) v7)
      (d5 (ac1 (i := 3) (j := 4) rfl D4.nd rfl rfl (by decide) rfl rfl (b7 (pv 4) (b7 (i3 G_row_behind hr (b7 (pv 3) (b7 (pv 4) (b7 (pv 1) b8))) j3) b8)) rfl)
      (d9 (ac1 (i := 1) (j := 2) rfl D4.nd rfl rfl (by decide) rfl rfl (b7 (pv 2) (b7 (pv 5) b8)) rfl))))))
      (d9 (m5 aq3))))))), ?_⟩
  rw [show start ["wholes", "divisor", "ahead", "row", "further", "lead"] [.ref a] = [some (.ref a), none, none, none, none, none] from rfl]
  refine j9 (fun σ H1 => ∃ a ws', σ = [some (.ref a), none, none, none, none, none] ∧ d8 H H1 ∧ SqL K H1 a (ws'.map V.int) ∧ WG n ws' W ∧ aa4 (zr ws') n = aa4 (zr ws) n) (fun N hN => ?_) ?_
  · subst_eqs
    have lastv : (ws.map V.int)[(ws.map V.int).length - 1]? = some (.int (aZ ws n)) := by
      rw [List.length_map, hl, Nat.add_sub_cancel, List.getElem?_map, List.getElem?_eq_getElem (by omega)]
      unfold aZ
      rw [List.getElem?_eq_getElem (by omega)]; rfl
    refine ⟨_, hS, _, aW7 lastv, _, rfl, G4 (fun hneg => ?_) (fun hpos => ?_)⟩
    · have az : ∀ k, aZ (ws.map fun v => -v) k = - aZ ws k := fun k => by
        unfold aZ
        rw [List.getElem?_map]
        cases ws[k]? <;> rfl
      have G : WG n (ws.map fun v => -v) W := ⟨by rw [List.length_map]; exact hl, n14, by rw [az]; omega, fun v hv => by
        obtain ⟨w, hw, rfl⟩ := List.mem_map.mp hv
        rw [Int.natAbs_neg]; exact bw w hw, hb⟩
      refine ⟨⟨_, hS⟩, fun D1 hD1 => ?_⟩
      refine U7 (ws.map V.int) (fun j σ H3 => ∃ o, σ = [o] ∧ d8 H H3 ∧ H3 D1 = some (.lst (((ws.take j).map fun v => -v).map V.int))) ⟨_, rfl, d8.new hD1 _, d6⟩ (by rintro j σ H3 _ ⟨_, _, s3, _⟩; exact s3.seq hS) ?_ ?_
      · rintro j x σ H3 hx ⟨o, rfl, s3, e3⟩
        have hj := (List.getElem?_eq_some_iff.mp hx).1
        obtain ⟨v, hv, rfl⟩ := W8 hx
        subst_eqs
        refine G6.mk hj e3 ?_ ⟨_, rfl, s3.over hD1 _, ?_⟩
        · rw [List.length_map, List.length_map, List.length_take]
          rw [List.length_map] at hj
          exact Nat.lt_of_le_of_lt (show _ ≤ 100 by omega) (by decide)
        · rw [d6, List.take_succ, hv, List.map_append, List.map_append]; rfl
      · rintro σ H3 ⟨o, rfl, s3, e3⟩
        rw [List.length_map, List.take_length] at e3
        refine hN _ _ ⟨D1, _, rfl, s3, SqL.of e3, G, af9 (c := -1) (by decide) (fun k => ?_) n⟩
        show ((aZ (ws.map fun v => -v) k : Int) : Rat) = -1 * ((aZ ws k : Int) : Rat)
        rw [az, Rat.intCast_neg]; grind
    · exact hN _ _ ⟨a, ws, rfl, d8.refl _, hS, ⟨hl, n14, by omega, bw, hb⟩, rfl⟩
  rintro σ H1 ⟨a, ws', rfl, S1, hS, D, eD⟩
  rw [← eD] at k
  clear hl ld0 bw eD
  obtain ⟨ws, rfl⟩ : ∃ ws, ws = ws' := ⟨_, rfl⟩
  have hl := D.len
  refine j9 (fun σ H2 => σ = [some (.ref a), none, none, none, none, none] ∧ H2 = H1) (fun N hN => ?_) ?_
  · simp! [bf4]
    refine ⟨ws, hS, fun z => by rw [z] at hl; simp at hl, fun i hi => G4 (fun h0 => ?_) (fun _ => hN _ _ ⟨rfl, rfl⟩)⟩
    have e : aa4 (zr ws) n = false := Bool.eq_false_iff.mpr fun d => by
      obtain ⟨kk, hk, ek⟩ := List.getElem_of_mem hi
      have h2 : aZ ws kk = i := by unfold aZ; rw [List.getElem?_eq_getElem hk, ek]; rfl
      have := aY4 (p := zr ws) (Rat.intCast_pos.mpr D.ld) d kk (by omega)
      have := Rat.intCast_pos.mp this
      omega
    rw [e] at k
    exact k H1 S1
  rintro σ H2 ⟨rfl, rfl⟩
  refine j9 (fun σ H3 => ∃ r f, σ = [some (.ref a), none, none, some (.ref r), some (.ref f), none] ∧ d8 H2 H3 ∧ H3 r = some (.lst ((R7 ws (ws.length - 1) ((ws.length + 1) / 2)).map V.int)) ∧ H3 f = some (.lst ((R7 ws (ws.length - 2) (ws.length / 2)).map V.int))) (fun N hN => ?_) ?_
  · subst_eqs
    refine ⟨_, hS, by decide, fun p hp => ?_⟩
    rw [bn5 (by omega)]
    have X1 := d8.new hp (.lst ((R7 ws (ws.length - 1) ((ws.length + 1) / 2)).map V.int))
    refine ⟨_, X1.seq hS, by decide, fun p1 hp1 => ?_⟩
    rw [bn4 (by omega)]
    have X2 := d8.new hp1 (.lst ((R7 ws (ws.length - 2) (ws.length / 2)).map V.int))
    exact hN _ _ ⟨p, p1, rfl, X1.trans X2, X2 _ _ d6, d6⟩
  rintro σ H3 ⟨r, f, rfl, S3, er, ef⟩
  refine j9 (fun σ H4 => σ = [some (.ref a), some (.int 1), some (.int 1), some (.ref r), some (.ref f), none] ∧ H4 = H3) (fun N hN => ?_) ?_
  · simp! [bf1]
    exact hN _ _ ⟨rfl, rfl⟩
  rintro σ H4 ⟨rfl, rfl⟩
  have S14 := S1.trans S3
  refine j9 (fun σ H5 => d8 H H5 ∧ aa4 (zr ws) n = true) (fun N hN => ?_) ?_
  · show ap1 _ _ _ _ _
    rcases Nat.eq_zero_or_pos n with n0 | n1
    · have e0 : ws.length / 2 = 0 := by omega
      rw [e0] at ef
      refine ao8 (fun σ H5 => σ = [some (.ref a), some (.int 1), some (.int 1), some (.ref r), some (.ref f), none] ∧ H5 = H4) (fun _ _ => 0) ⟨rfl, rfl⟩ ?_
      rintro σ H5 ⟨rfl, rfl⟩
      simp! [aG4]
      exact ⟨_, .inl ⟨_, SqL.of ef, rfl⟩, G4 (fun h => by cases h) (fun _ => hN _ _ ⟨S14, by rw [n0]; rfl⟩)⟩
    obtain ⟨t0, t1⟩ := D.start n1
    refine ao8 (fun σ H5 => ∃ k r f R F dv ah o, σ = [some (.ref a), some (.int dv), some (.int ah), some (.ref r), some (.ref f), o] ∧ d8 H H5 ∧ H5 r = some (.lst (R.map V.int)) ∧ H5 f = some (.lst (F.map V.int)) ∧ 1 ≤ k ∧ (k ≤ n + 1 ∧ ∀ i, 1 ≤ i → i < k → 0 < tau (gA ws n) (gB ws n) i 0) ∧ Tg n ws W (k - 1) R ∧ Tg n ws W k F ∧ (((dv : Int) : Rat) = dlt (gA ws n) (gB ws n) k ∧ dv.natAbs < 2 ^ ((W + 4) * (n + 1) + 1)) ∧ ((ah : Int) : Rat) = (if k = 1 then 1 else tau (gA ws n) (gB ws n) (k - 1) 0) ∧ ah.natAbs < 2 ^ ((W + 4) * (n + 1) + 1)) (fun σ H5 => ab0 3 σ H5 + ab0 4 σ H5) ⟨1, r, f, _, _, 1, 1, none, rfl, S14, er, ef, Nat.le_refl _, ⟨by omega, fun i h1 h2 => by omega⟩, t0, t1, ⟨by unfold dlt; rw [if_pos (by decide)]; rfl, ?_⟩, by rw [if_pos rfl]; rfl, ?_⟩ ?_
    · exact Nat.lt_of_lt_of_le (show 1 < 2 ^ 1 by decide) (i5 (by omega))
    · exact Nat.lt_of_lt_of_le (show 1 < 2 ^ 1 by decide) (i5 (by omega))
    rintro σ H5 ⟨k', r, f, R, F, dv, ah, o, rfl, S5, er, ef, k1, ⟨kn, lead⟩, tR, tF, ⟨ed, bd⟩, ea, ba⟩
    simp! [aG4]
    refine ⟨_, .inl ⟨_, SqL.of ef, rfl⟩, G4 (fun hF => WhB.mk ?_) (fun hF => hN _ _ ⟨S5, D.yes fun i h1 h2 => lead i h1 ?_⟩)⟩
    rotate_left
    · have lF := tF.l
      have F0 : F = [] := by
        cases F with
        | nil => rfl
        | cons x F => exact absurd rfl hF
      rw [F0] at lF
      unfold Lk at lF
      split at lF
      · simp at lF
      · omega
    have Fn : F ≠ [] := fun z => by rw [z] at hF; simp at hF
    have Fp := List.length_pos_iff.mpr Fn
    have lF := tF.l
    have lR := tR.l
    have kn' : k' ≤ n := by
      rcases Nat.lt_or_ge n k' with z | z
      · rw [lF] at Fp
        unfold Lk at Fp
        rw [if_neg (by omega)] at Fp
        omega
      · exact z
    have hf0 : (F.map V.int)[0]? = some (.int (aZ F 0)) := by
      rw [List.getElem?_map, List.getElem?_eq_getElem Fp]
      unfold aZ
      rw [List.getElem?_eq_getElem Fp]; rfl
    have d0 : dv ≠ 0 := fun z => by
      have dn : dlt (gA ws n) (gB ws n) k' ≠ 0 := by
        unfold dlt
        split
        · decide
        · exact C9 (lead _ (by omega) (by omega))
      exact dn (by rw [← ed, z]; rfl)
    subst_eqs
    refine ⟨_, SqL.of ef, _, G3 (j := 0) hf0, _, rfl, G4 (fun h => ?_) (fun hl0 => ?_)⟩
    · have e : aa4 (zr ws) n = false := D.no k1 kn' fun z => by
        rw [← tF.e 0] at z
        have := Rat.intCast_pos.mp z
        omega
      rw [e] at k
      exact k H5 S5
    have lead' : ∀ i, 1 ≤ i → i ≤ k' → 0 < tau (gA ws n) (gB ws n) i 0 := fun i h1 h2 => by
      rcases Nat.eq_or_lt_of_le h2 with z | z
      · rw [z, ← tF.e 0]; exact Rat.intCast_pos.mpr (by omega)
      · exact lead i h1 z
    have lFR : F.length ≤ R.length := by
      rw [lF, lR]
      unfold Lk
      rw [if_pos kn', if_pos (by omega)]; omega
    have lR20 : R.length ≤ 20 := by
      rw [lR]
      unfold Lk
      split <;> omega
    have hb := D.b
    refine ⟨r, f, R, F, dv, _, rfl, SqL.of er, SqL.of ef, Fn, lFR, lR20, d0, bd, tR.b, tF.b, by omega, fun r' T H6 S6 fr er' lT eT => ?_⟩
    have tT := D.next n1 k1 kn' lead' d0 tR tF ed lT eT
    have e3 : ab0 3 [some (V.ref a), some (V.int ah), some (V.int (aZ F 0)), some (V.ref f), some (V.ref r'), some (V.int (aZ F 0))] H6 = F.length := by
      rw [ah9 (k := 3) rfl (S6 _ _ ef), List.length_map]
    have e4 : ab0 4 [some (V.ref a), some (V.int ah), some (V.int (aZ F 0)), some (V.ref f), some (V.ref r'), some (V.int (aZ F 0))] H6 = T.length := by
      rw [ah9 (k := 4) rfl er', List.length_map]
    have e5 : ab0 3 [some (V.ref a), some (V.int dv), some (V.int ah), some (V.ref r), some (V.ref f), o] H5 = R.length := by
      rw [ah9 (k := 3) rfl er, List.length_map]
    have e6 : ab0 4 [some (V.ref a), some (V.int dv), some (V.int ah), some (V.ref r), some (V.ref f), o] H5 = F.length := by
      rw [ah9 (k := 4) rfl ef, List.length_map]
    refine WhN.mk ⟨k' + 1, f, r', F, T, ah, aZ F 0, _, rfl, S5.trans S6, S6 _ _ ef, er', by omega, by omega, fun i h1 h2 => lead' i h1 (by omega), by rw [Nat.add_sub_cancel]; exact tF, tT, ?_, ba, ?_, V0 tF.b 0⟩ ?_
    · rw [ea]
      unfold dlt
      rcases Nat.lt_or_ge k' 2 with z | z
      · rw [if_pos (by omega), if_pos (by omega)]
      · rw [if_neg (by omega), if_neg (by omega), show k' + 1 - 2 = k' - 1 by omega]
    · rw [if_neg (by omega), Nat.add_sub_cancel]; exact tF.e 0
    · show ab0 3 _ _ + ab0 4 _ _ < ab0 3 _ _ + ab0 4 _ _
      rw [e3, e4, e5, e6]
      omega
  rintro σ H5 ⟨S5, e5⟩
  subst_eqs
  rw [e5] at k
  exact k _ S5
def aK1 (qs : List Rat) : Bool := if qs = [] then false else aa4 (aQ qs) (qs.length - 1)
def aH3 (K : PySem.W.Frag) : Sp := fun vs H Q _ => ∃ (a : Addr) (xs : List V) (qs : List Rat) (W : Nat), vs = [.ref a] ∧ SqL K H a xs ∧ C4 K H xs qs ∧ J3 qs qs.length ∧ ClN W qs ∧ 1 ≤ W ∧ qs.length ≤ 15 ∧ (W + 4) * qs.length ≤ 8800 ∧ W ≤ 6000 ∧ ∀ H', d8 H H' → Q (.bl (aK1 qs)) H'
abbrev af4 : Stmt := top 29
theorem bb0 : m8 ["p"] ["p"] (d7 af4) := by and_intros
set_option maxHeartbeats 0 in
theorem bb9 {f f1 f2 : Addr} (d : Df K mg "dies" af4 ["p"] f) (GD_lifted : Def P w K mg base CX0 3 "lifted" f1 ["p"] (av3 K)) (G_whole_dies : Def P w K mg base CX0 2 "whole_dies" f2 ["wholes"] (aT5 K)) (n_bool : mg "bool" = none) : Def P w K mg base CX0 4 "dies" f ["p"] (aH3 K) := by
  have G_lifted := GD_lifted
  refine d.ok (N := ["p"]) bb0 (by rintro vs H Q E ⟨_, _, _, _, h, _⟩; rw [h]; rfl) (fun cdv A outer s H vs Q E hr h => ?_)
  obtain ⟨a, xs, qs, W, rfl, hS, hN, tl, cl, w1, l15, hb, w6, k⟩ := h
  refine ⟨_, (d9 (m5 (aq4 (B6 aK4 rfl n_bool (by decide +kernel) (b7 (pv 0) b8)) (aI1 (i3 G_whole_dies hr (b7 (t9 y7 (i3 G_lifted hr (b7 (pv 0) b8) j3) b9 (fun _ _ => rfl)) b8) j3))))), ?_⟩
  rw [show start ["p"] [.ref a] = [some (.ref a)] from rfl]
  simp! [aG4, aU3]
  have lx := hN.length
  refine ⟨xs, hS, G4 (fun h0 => ?_) (fun h0 => ?_)⟩
  · refine ⟨a, xs, qs, rfl, hS, hN, W, cl, w6, w1, by omega, tl, fun r rs l' s' ws H1 S1 fl er ers el bs s0 wb wl e g => ?_⟩
    have q0 : qs ≠ [] := fun z => by
      cases xs with
      | nil => cases h0
      | cons => rw [z] at lx; simp at lx
    have ql := List.length_pos_iff.mpr q0
    have eq : ∀ k, aQ qs k = s' * zr ws k := fun k => by
      rw [e]
      unfold aQ zr aZ scl
      rw [List.getElem?_map]
      cases ws[k]? with
      | none => show (0 : Rat) = s' * ((0 : Int) : Rat); rw [show ((0 : Int) : Rat) = 0 from rfl]; grind
      | some v => rfl
    have ld : aQ qs (qs.length - 1) ≠ 0 := by
      have h1 : qs[qs.length - 1]? = some (qs[qs.length - 1]'(by omega)) := List.getElem?_eq_getElem (by omega)
      unfold aQ
      rw [h1]
      exact tl.last (by omega) _ h1
    refine ⟨r, rfl, _, SqT.of er, _, rfl, l', ws, qs.length - 1, W, rfl, SqL.of el, by omega, by omega, fun z => ld ?_, wb, by rw [show qs.length - 1 + 1 = qs.length by omega]; exact hb, fun H2 S2 => ?_⟩
    · rw [eq]; unfold zr; rw [z, show ((0 : Int) : Rat) = 0 from rfl]; grind
    · have := k H2 (S1.trans S2)
      unfold aK1 at this
      rw [if_neg q0, af9 s0 eq] at this
      exact this
  · have q0 : qs = [] := by
      cases xs with
      | nil => exact List.eq_nil_of_length_eq_zero lx.symm
      | cons => exact absurd rfl h0
    have := k H (d8.refl _)
    unfold aK1 at this
    rw [if_pos q0] at this
    exact this
end
def pR (ks : List Rat) : List (List Rat) := ks.map fun q => [0, q]
theorem bi5 {ks : List Rat} {c0 : Rat} {cc : Nat} (hp : ∀ q ∈ ks, 0 < q) (hb : ∀ q ∈ ks, BdN cc q) (c1 : c0 ≠ 0) (bc : BdN cc c0) (z : cOk cc ks.length) : Y1 cc (pR ks) [c0] := by
  have c10 : 10 ≤ cc := by rcases z with ⟨h, _⟩ | ⟨h, _⟩ <;> omega
  refine ⟨fun L hL => ?_, ?_, by simp, .inr rfl, fun x hx => by rw [List.mem_singleton.mp hx]; exact bc, ?_⟩
  · obtain ⟨q, hq, rfl⟩ := List.mem_map.mp hL
    have qn := C9 (hp q hq)
    refine ⟨af0 fun x hx => ?_, Nat.le_refl 2, rfl, fun x hx => ?_⟩
    · cases hx; exact qn
    · simp only [List.mem_cons, List.not_mem_nil, or_false] at hx
      rcases hx with h | h
      · rw [h]; exact ⟨Nat.two_pow_pos _, Nat.lt_of_lt_of_le (show 1 < 2 ^ 1 by decide) (i5 (by omega))⟩
      · rw [h]; exact hb q hq
  · exact af0 fun x hx => by cases hx; exact c1
  · have e : ((pR ks).map fun L => L.length - 1).sum = ks.length := by
      unfold pR
      rw [List.map_map]
      induction ks with
      | nil => rfl
      | cons q ks ih =>
        rw [List.map_cons, List.sum_cons, List.length_cons]
        have := ih (fun q hq => hp q (List.mem_cons_of_mem _ hq)) (fun q hq => hb q (List.mem_cons_of_mem _ hq)) (by
          rcases z with ⟨h, h2⟩ | ⟨h, h2⟩
          · exact .inl ⟨h, by simp at h2; omega⟩
          · exact .inr ⟨h, by simp at h2; omega⟩)
        rw [this]
        show 2 - 1 + _ = _
        omega
    rw [e]
    show cOk cc (1 - 1 + ks.length)
    rw [show 1 - 1 + ks.length = ks.length by omega]; exact z
theorem aZ4 {n : Nat} (f : Nat → Rat) {j : Nat} (hj : j < n) : aQ ((List.range n).map f) j = f j := by
  unfold aQ
  rw [List.getElem?_map, List.getElem?_range hj]; rfl
theorem aU4 {ps : List Rat} {n i j : Nat} (hi : i < n) (hj : j < n) : qq (P1 ps n) i j = Hz (aQ ps) n i j := by
  unfold qq P1
  rw [List.getElem?_map, List.getElem?_range hi]
  show aQ (N0 ps n i) j = _
  unfold N0
  rw [aZ4 _ hj]
  unfold atQ Hz
  by_cases z : 2 * j + 1 ≤ n + i
  · rw [if_pos z, if_pos (by omega)]
    congr 1; omega
  · rw [if_neg z, if_neg (by omega)]
theorem aT4 {ps : List Rat} {n B W : Nat} (h : ∀ k, OvB B W (aQ ps k)) : (P1 ps n).length = n ∧ ∀ L ∈ P1 ps n, L.length = n ∧ ∀ q ∈ L, OvB B W q := by
  refine ⟨by unfold P1; rw [List.length_map, List.length_range], fun L hL => ?_⟩
  obtain ⟨i, _, rfl⟩ := List.mem_map.mp hL
  refine ⟨by unfold N0; rw [List.length_map, List.length_range], fun q hq => ?_⟩
  obtain ⟨c, _, rfl⟩ := List.mem_map.mp hq
  unfold atQ
  split
  · exact h _
  · exact OvB.zero _ _
theorem Prt.deg {M : List (List Rat)} {last : List Rat} {l : Rat} (P : Prt M last l) (hl : 0 < l) : ∀ i, i ≤ M.length → (∀ k, i < k → (fld M last i).1.f k = 0) ∧ (∀ k, i ≤ k → (fld M last i).2.f k = 0) ∧ 0 < (fld M last i).1.f i
  | 0, _ => ⟨fun k hk => by show (qp last).f k = 0; rw [P.e]; exact W0 [l] k hk, fun k _ => O1 k, by show 0 < (qp last).f 0; rw [P.e]; exact hl⟩
  | i + 1, h => by
    obtain ⟨h1, h2, h3⟩ := P.deg hl i (by omega)
    obtain ⟨a, ha, _, e⟩ := P.fld_succ (i := i) (by omega)
    refine ⟨fun k hk => ?_, fun k hk => h1 k (by omega), ?_⟩
    · rw [e, if_pos (by omega), h1 (k - 1) (by omega), h2 k (by omega)]; grind
    · rw [e, if_pos (by omega), h2 (i + 1) (by omega), Nat.add_sub_cancel]
      have := Rat.mul_pos ha h3
      grind
theorem aN9 {n : Nat} (h : n ≤ 7) : eV 90 n n + eU 90 n ≤ 5900 := by
  have : n = 0 ∨ n = 1 ∨ n = 2 ∨ n = 3 ∨ n = 4 ∨ n = 5 ∨ n = 6 ∨ n = 7 := by omega
  rcases this with rfl | rfl | rfl | rfl | rfl | rfl | rfl | rfl <;> decide
def fa (ks : List Rat) (c0 : Rat) : Nat → Rat
  | 0 => c0
  | i + 1 => (ks[ks.length - 1 - i]?).getD 0 * fa ks c0 i
theorem aV1 {ks : List Rat} {c0 : Rat} (hk : ∀ q ∈ ks, OvB 60 10 q ∧ 0 < q) (h0 : OvB 60 10 c0 ∧ 0 < c0) : Prt (pR ks) [c0] c0 := ⟨fun L hL => by obtain ⟨q, hq, rfl⟩ := List.mem_map.mp hL; exact ⟨q, (hk q hq).2, rfl⟩, rfl, C9 h0.2⟩
theorem bg0 {ks : List Rat} {c0 : Rat} (P : Prt (pR ks) [c0] c0) (hl : 0 < c0) : ∀ i, i ≤ ks.length → (fld (pR ks) [c0] i).1.f i = fa ks c0 i
  | 0, _ => rfl
  | i + 1, h => by
    have lp : (pR ks).length = ks.length := List.length_map _
    have ih := bg0 P hl i (by omega)
    have hd := (P.deg hl i (by rw [lp]; omega)).2.1 (i + 1) (by omega)
    have hg : (pR ks)[(pR ks).length - 1 - i]? = some [0, (ks[ks.length - 1 - i]?).getD 0] := by
      unfold pR
      rw [List.getElem?_map, List.length_map, List.getElem?_eq_getElem (by omega)]; rfl
    show (qp (((pR ks)[(pR ks).length - 1 - i]?).getD []) * (fld (pR ks) [c0] i).1 + (fld (pR ks) [c0] i).2).f (i + 1) = _
    rw [hg, Option.getD_some, aq2, ap9, if_pos (by omega), hd, Nat.add_sub_cancel, ih]
    show _ = (ks[ks.length - 1 - i]?).getD 0 * fa ks c0 i
    grind
theorem bo3 {ks : List Rat} {c0 : Rat} (P : Prt (pR ks) [c0] c0) (hl : 0 < c0) {i : Nat} (h : i ≤ ks.length) : gP (pR ks) [c0] 1 i 0 = fa ks c0 i := by
  unfold gP
  rw [if_pos (by omega), Nat.mul_zero, Nat.sub_zero, bg0 P hl i h]; grind
theorem bf9 {ks : List Rat} {c0 : Rat} (hk : ∀ q ∈ ks, OvB 60 10 q ∧ 0 < q) (h0 : OvB 60 10 c0 ∧ 0 < c0) : ∀ i, i ≤ ks.length → OvB (60 ^ (i + 1)) (10 * (i + 1)) (fa ks c0 i) ∧ 0 < fa ks c0 i
  | 0, _ => h0
  | i + 1, h => by
    obtain ⟨o, p⟩ := bf9 hk h0 i (by omega)
    have hm := hk (ks[ks.length - 1 - i]'(by omega)) (List.getElem_mem _)
    have e : (ks[ks.length - 1 - i]?).getD 0 = ks[ks.length - 1 - i]'(by omega) := by rw [List.getElem?_eq_getElem (by omega)]; rfl
    unfold fa
    rw [e]
    refine ⟨?_, Rat.mul_pos hm.2 p⟩
    have := hm.1.mul o
    rw [show 60 * 60 ^ (i + 1) = 60 ^ (i + 1 + 1) by rw [Nat.pow_succ 60 (i + 1), Nat.mul_comm]] at this
    exact this.mono (by omega)
structure ax8 (ks : List Rat) (c0 : Rat) (ps : List Rat) : Prop where
  len : ps.length = ks.length + 1
  tl : J3 ps ps.length
  ea : aQ ps = pS (pR ks) [c0]
  ov : ∀ k, OvB (60 ^ 8) 90 (aQ ps k)
theorem bi6 {ks ps : List Rat} {c0 : Rat} (hk : ∀ q ∈ ks, OvB 60 10 q ∧ 0 < q) (h0 : OvB 60 10 c0 ∧ 0 < c0) (l1 : 1 ≤ ks.length) (l7 : ks.length ≤ 7) (R : Y1 10 (pR ks) [c0]) (t : J3 ps ps.length) (e : qp ps = (fld (pR ks) [c0] (pR ks).length).1 + (fld (pR ks) [c0] (pR ks).length).2) : ax8 ks c0 ps := by
  have lp : (pR ks).length = ks.length := List.length_map _
  have P : Prt (pR ks) [c0] c0 := ⟨fun L hL => by obtain ⟨q, hq, rfl⟩ := List.mem_map.mp hL; exact ⟨q, (hk q hq).2, rfl⟩, rfl, C9 h0.2⟩
  have ea : ∀ k, aQ ps k = (fld (pR ks) [c0] ks.length).1.f k + (fld (pR ks) [c0] ks.length).2.f k := fun k => by
    have := congrArg (fun z => Pf.f z k) e
    rw [lp] at this
    exact this
  have hM : ∀ a, [0, a] ∈ pR ks → OvB 60 10 a := fun a ha => by
    obtain ⟨q, hq, e⟩ := List.mem_map.mp ha
    have : q = a := by injection e with _ e; injection e
    rw [← this]; exact (hk q hq).1
  obtain ⟨o1, o2⟩ := P.ov hM h0.1 ks.length (by rw [lp]; exact Nat.le_refl _)
  obtain ⟨d1, d2, d3⟩ := P.deg h0.2 ks.length (by rw [lp]; exact Nat.le_refl _)
  refine ⟨?_, t, funext fun k => by rw [ea]; unfold pS; rw [lp], fun k => ?_⟩
  · have g1 : aQ ps ks.length ≠ 0 := by
      rw [ea, d2 _ (Nat.le_refl _)]
      have := C9 d3
      grind
    have g2 : ks.length < ps.length := Classical.byContradiction fun z => g1 (W0 ps _ (by omega))
    have g3 := av1 (n := ks.length + 1) (p := qp ps) t rfl fun k hk => by
      show aQ ps k = 0
      rw [ea, d1 k (by omega), d2 k (by omega)]; grind
    omega
  · rw [ea]
    have h := (o1 k).add (Nat.pow_pos (by decide)) (o2 k)
    have up := h.up (Nat.pow_pos (by decide)) (C := 60 ^ (7 - ks.length)) (c := 6 * (7 - ks.length) + 1) (Nat.pow_pos (by decide)) ?_
    · rw [← Nat.pow_add, show ks.length + 1 + (7 - ks.length) = 8 by omega] at up
      exact up.mono (by omega)
    · have h1 : 60 ^ (7 - ks.length) ≤ 64 ^ (7 - ks.length) := Nat.pow_le_pow_left (by decide) _
      have h2 : 64 ^ (7 - ks.length) = 2 ^ (6 * (7 - ks.length)) := by rw [Nat.pow_mul]
      have := Nat.two_pow_pos (6 * (7 - ks.length))
      rw [Nat.pow_succ]; omega
theorem bb3 {M : List (List Rat)} {k i j : Nat} (hi : i < k) (hj : j < k) : qq (W7 M k) i j = qq M i j := by
  unfold qq W7
  rw [List.getElem?_map, List.getElem?_take_of_lt hi]
  cases M[i]? with
  | none => rfl
  | some L =>
    show aQ (L.take k) j = aQ L j
    unfold aQ
    rw [List.getElem?_take_of_lt hj]
theorem al1 {ps : List Rat} {n : Nat} : ((List.range n).map fun m => dt (m + 1) (qq (W7 (P1 ps n) (m + 1)))) = (List.range n).map fun m => dt (m + 1) (Hz (aQ ps) n) := by
  refine List.map_congr_left fun m hm => ?_
  have hm' := List.mem_range.mp hm
  exact K5 fun r hr c hc => by rw [bb3 hr hc, aU4 (by omega) (by omega)]
theorem aC9 {ps : List Rat} {n B W : Nat} (hB : 0 < B) (hW : B < 2 ^ W) (h : ∀ q ∈ ps, OvB B W q) : (P1 ps n).length = n ∧ ∀ L ∈ P1 ps n, L.length = n ∧ ∀ m, ClN W (L.take m) := by
  obtain ⟨l, o⟩ := aT4 (n := n) (fun k => aH6 h k)
  exact ⟨l, fun L hL => ⟨(o L hL).1, fun m => ak5 hB hW fun x hx => (o L hL).2 x (List.mem_of_mem_take hx)⟩⟩
theorem ax8.leads {ks ps : List Rat} {c0 : Rat} (F : ax8 ks c0 ps) (hk : ∀ q ∈ ks, OvB 60 10 q ∧ 0 < q) (h0 : OvB 60 10 c0 ∧ 0 < c0) (l1 : 1 ≤ ks.length) : ((List.range ks.length).map fun m => dt (m + 1) (Hz (aQ ps) ks.length)) = (List.range ks.length).map fun m => ae3 (fun t => fa ks c0 (ks.length - 1 - t)) m := by
  have P := aV1 hk h0
  have lp : (pR ks).length = ks.length := List.length_map _
  refine List.map_congr_left fun m hm => ?_
  have hm' := List.mem_range.mp hm
  have := P.leads h0.2 (by rw [lp]; exact l1) m (by rw [lp]; exact hm')
  rw [lp] at this
  rw [F.ea, this]
  congr 1
  funext t
  exact bo3 P h0.2 (by omega)
theorem ax8.dies {ks ps : List Rat} {c0 : Rat} (F : ax8 ks c0 ps) (hk : ∀ q ∈ ks, OvB 60 10 q ∧ 0 < q) (h0 : OvB 60 10 c0 ∧ 0 < c0) (l1 : 1 ≤ ks.length) : aK1 ps = true := by
  have P := aV1 hk h0
  have lp : (pR ks).length = ks.length := List.length_map _
  have := P.dies h0.2 (by rw [lp]; exact l1)
  rw [lp, ← F.ea] at this
  unfold aK1
  rw [if_neg (fun z => by have := F.len; rw [z] at this; simp at this), F.len, Nat.add_sub_cancel]
  exact this
theorem aY0 {g : Nat → Rat} (h : ∀ t, OvB (60 ^ 8) 80 (g t)) : ∀ m, OvB (60 ^ (8 * (m + 1))) (80 * (m + 1)) (ae3 g m)
  | 0 => h 0
  | m + 1 => by
    have := (aY0 h m).mul (h (m + 1))
    rw [← Nat.pow_add, show 8 * (m + 1) + 8 = 8 * (m + 1 + 1) by omega] at this
    exact this.mono (by omega)
section
variable {P : Program} {w : World} {K : PySem.W.Frag} {mg : Str → Option Value} {base : Heap}
def av4 (K : PySem.W.Frag) : Sp := fun vs H Q _ => ∃ (x : V) (c : Rat) (a : Addr) (xs : List V) (ps : List Rat) (m1 m2 : Nat), vs = [x, .ref a] ∧ Num K H x c ∧ SqL K H a xs ∧ z9 H xs ps ∧ BtN m1 c ∧ (∀ q ∈ ps, BtN m2 q) ∧ m1 + m2 ≤ 6000 ∧ ps.length ≤ 20 ∧
  ∀ m r zs H', J3 (ps.map (c * ·)) m → d8 H H' → H r = none → H' r = some (.lst zs) → z9 H' zs ((ps.map (c * ·)).take m) → Q (.ref r) H'
abbrev w5 : Stmt := top 42
theorem af3 : m8 ["_law_number_here", "_law_p"] ["_law_number_here", "_law_p"] (d7 w5) := by and_intros
set_option maxHeartbeats 0 in
theorem ae0 {f fp f1 : Addr} (d : Df K mg "_law_poly_often" w5 ["_law_number_here", "_law_p"] f) (G__law_times : Def P w K mg base CX0 2 "_law_times" fp ["_law_one", "_law_other_here"] (Z1 K (· * ·))) (G__law_trim : Def P w K mg base CX0 1 "_law_trim" f1 ["_law_numbers"] (ay5 K)) : Def P w K mg base CX0 3 "_law_poly_often" f ["_law_number_here", "_law_p"] (av4 K) := by
  refine d.ok (N := ["_law_number_here", "_law_p"]) af3 (fun vs H Q E ⟨_, _, _, _, _, _, _, h, _⟩ => by rw [h]; rfl) (fun cdv A outer s H vs Q E hr h => ?_)
  obtain ⟨x, c, a, xs, ps, m1, m2, rfl, hx, hS, hN, bc, hs, hm, hl, k⟩ := h
  refine ⟨_, (d9 (m5 (i3 G__law_trim hr (b7 (O6 (Nc := ["_law_number_here", "_law_one"]) (caps := [some 0, none]) rfl (aa8.of (osc := d7 w5) (N := ["_law_number_here", "_law_p"]) (ks := ["_law_number_here"]) rfl rfl rfl rfl (w8 rfl D8) (by decide +kernel)) (K1 (pv 1)) (fun C s₂ H₂ fp pins => (i7 (i := 1) (show List.Nodup (["_law_number_here", "_law_one"] : List Str) by decide +kernel) rfl (Or.inl rfl) (Or.inr rfl))) (fun C s₂ H₂ fp pins => (i3 G__law_times hr (b7 (pv 0) (b7 (pv 1) b8)) j3))) b8) j3))), ?_⟩
  rw [show start ["_law_number_here", "_law_p"] [x, .ref a] = [some (x), some (.ref a)] from rfl]
  subst_eqs
  have lx := hN.length
  refine ⟨⟨_, hS⟩, fun D hD => ?_⟩
  refine U7 xs (fun i σ H2 => ∃ o, σ = [some x, o] ∧ d8 H H2 ∧ ∃ zs, H2 D = some (.lst zs) ∧ z9 H2 zs ((ps.map (c * ·)).take i)) ⟨_, rfl, d8.new hD _, [], d6, .nil⟩ (fun i σ H2 _ ⟨_, _, s2, _⟩ => s2.seq hS) ?_ ?_
  · rintro i y σ H2 hy ⟨o, rfl, s2, zs, e2, n2⟩
    have hi := (List.getElem?_eq_some_iff.mp hy).1
    obtain ⟨py, q, rfl, hq, hpy⟩ := hN.getV hy
    subst_eqs
    refine ⟨_, _, c, q, m1, m2, rfl, hx.same s2, ⟨py, rfl, SqT.of (s2 _ _ hpy)⟩, bc, hs q (List.mem_of_getElem? hq), hm, fun r H4 s4 e4 => ?_⟩
    refine G6.mk hi (s4 _ _ e2) ?_ ⟨_, rfl, (s2.trans s4).over hD _, _, d6, ?_⟩
    · rw [n2.length, List.length_take, List.length_map]
      exact Nat.lt_of_le_of_lt (show _ ≤ 20 by omega) (by decide)
    · rw [B4 (show (ps.map (c * ·))[i]? = some (c * q) by rw [List.getElem?_map, hq]; rfl)]
      exact ((n2.mono s4.tups).append (.cons e4 .nil)).mono (aa7.lst (s4 _ _ e2))
  · rintro σ H2 ⟨o, rfl, s2, zs, e2, n2⟩
    have e7 : (ps.map (c * ·)).take xs.length = ps.map (c * ·) := by
      rw [List.take_of_length_le (by rw [List.length_map]; omega)]
    rw [e7] at n2
    refine ⟨D, zs, _, rfl, SqL.of e2, n2, fun m r H3 tl s3 hr e3 => ?_⟩
    exact k m r _ _ tl (s2.trans s3) (s2.free hr) e3 ((n2.take m).mono s3.tups)
end
structure aG5 (ps : List Rat) (n l : Nat) : Prop where
  len : ps.length = n + 1
  tl : J3 ps ps.length
  hd : 0 < aQ ps n
  die : aa4 (aQ ps) n = decide (l = n)
  ov : ∀ q ∈ ps, OvB (60 ^ (n + 1)) (12 * (n + 1)) q
theorem aZ3 (c : Rat) (qs : List Rat) (k : Nat) : aQ (qs.map (c * ·)) k = c * aQ qs k := by
  unfold aQ
  rw [List.getElem?_map]
  cases qs[k]? with
  | none => show (0 : Rat) = c * 0; grind
  | some q => rfl
theorem be4 {qs : List Rat} {n : Nat} (h : qs.length = n + 1) : qs[n]? = some (aQ qs n) := by
  unfold aQ
  rw [List.getElem?_eq_getElem (by omega)]; rfl
theorem RtL.pos {qs : List Rat} {n l : Nat} (R : RtL qs n l) (h : ¬ aQ qs n < 0) : aG5 qs n l := by
  refine ⟨R.len, R.tl, ?_, R.rt.dies, R.ov⟩
  have := R.rt.nz
  have e : (qp qs).f n = aQ qs n := rfl
  rw [e] at this
  grind
theorem RtL.neg {qs : List Rat} {n l m : Nat} (R : RtL qs n l) (h : aQ qs n < 0) (t : J3 (qs.map ((-1 : Rat) * ·)) m) : aG5 ((qs.map ((-1 : Rat) * ·)).take m) n l := by
  have ea : ∀ k, aQ ((qs.map ((-1 : Rat) * ·)).take m) k = -1 * aQ qs k := fun k => by rw [aO2 t, aZ3]
  have tt := am6 t
  have lm : ((qs.map ((-1 : Rat) * ·)).take m).length = n + 1 := aW4 tt (by show aQ _ n ≠ 0; rw [ea]; grind) fun k hk => by
    show aQ _ k = 0
    rw [ea]
    have e : (qp qs).f k = aQ qs k := rfl
    rw [← e, R.rt.hi k hk]; grind
  refine ⟨lm, tt, by rw [ea]; grind, ?_, fun q hq => ?_⟩
  · rw [af9 (c := -1) (by decide) ea]
    exact R.rt.dies
  · obtain ⟨x, hx, rfl⟩ := List.mem_map.mp (List.mem_of_mem_take hq)
    have := (R.ov x hx).neg
    rw [show (-1 : Rat) * x = -x by grind]; exact this
theorem aD8 (q : Rat) : 0 < q ↔ 0 < q.num := by
  rw [Rat.lt_iff]
  show (0 : Int) * (q.den : Int) < q.num * ((1 : Nat) : Int) ↔ _
  rw [Int.zero_mul]; simp
theorem aD7 (q : Rat) : q.num < 0 ↔ q < 0 := by
  rw [Rat.lt_iff]
  show _ ↔ q.num * ((1 : Nat) : Int) < (0 : Int) * (q.den : Int)
  rw [Int.zero_mul]; simp
theorem aO1 {qs : List Rat} : ((qs.map fun q => decide (0 < q.num)).all id = true) ↔ ∀ q ∈ qs, 0 < q := by
  rw [List.all_map, List.all_eq_true]
  refine ⟨fun h q hq => (aD8 q).mpr (by simpa using h q hq), fun h q hq => by simpa using (aD8 q).mp (h q hq)⟩
theorem aG5.all {ps : List Rat} {n l : Nat} (F : aG5 ps n l) : ((((List.range n).map fun m => dt (m + 1) (Hz (aQ ps) n)).map fun q => decide (0 < q.num)).all id) = decide (l = n) := by
  rw [← F.die, Bool.eq_iff_iff, aO1, ← aQ5 (fun k hk => by
    have := W0 ps k (by rw [F.len]; omega)
    exact this) F.hd]
  refine ⟨fun h k hk => h _ (List.mem_map.mpr ⟨k, List.mem_range.mpr hk, rfl⟩), fun h q hq => ?_⟩
  obtain ⟨m, hm, rfl⟩ := List.mem_map.mp hq
  exact h m (List.mem_range.mp hm)
def ar5 : Rat := ⟨1, 2, by decide, by decide⟩
theorem aX7 : Fac 1 1 (qp [ar5, 1]) := by
  have := aM8 (-ar5)
  rw [if_pos (by decide), show -(-ar5) = ar5 from rfl] at this
  exact this
section
variable {P : Program} {w : World} {K : PySem.W.Frag} {mg : Str → Option Value} {base : Heap}
theorem aY7 {tl D : Addr} {H1 : Hp} {zs : List V} {qs : List Rat} {Q : VK} (hs : SqL K H1 tl zs) (hN : C4 K H1 zs qs) (hD : H1 D = none) (l : qs.length ≤ 50) (k : ∀ H2, d8 H1 H2 → H2 D = some (.lst ((qs.map fun q => decide (0 < q.num)).map V.bl)) → Q (.ref D) H2) : at5 (Itl K tl) D [none] (upd H1 D (.lst [])) (D3 0) (tOp (rI0 fun i j => V.bl (decide (j < i))) (tOp (aP6 K) (ag3 0) (tC (V.int 0))) (tC (V.int 0))) Q := by
  have lz := hN.length
  refine U7 zs (fun i σ H2 => ∃ o, σ = [o] ∧ d8 H1 H2 ∧ H2 D = some (.lst (((qs.map fun q => decide (0 < q.num)).take i).map V.bl))) ⟨_, rfl, d8.new hD _, d6⟩ (fun i σ H2 _ ⟨_, _, s2, _⟩ => s2.seq hs) ?_ ?_
  · rintro i x σ H2 hx ⟨o, rfl, s2, e2⟩
    obtain ⟨p, q, rfl, hq, hp⟩ := hN.getV hx
    subst_eqs
    refine ⟨_, (hp.mono s2.tups).sqt, _, at0 q, _, rfl, G6.mk (List.getElem?_eq_some_iff.mp hx).1 e2 (ac5 (by rw [List.length_map, List.length_take, List.length_map]; omega)) ⟨_, rfl, s2.over hD _, ?_⟩⟩
    rw [d6, B4 (show (qs.map fun q => decide (0 < q.num))[i]? = some (decide (0 < q.num)) by rw [List.getElem?_map, hq]; rfl), List.map_append]; rfl
  · rintro σ H2 ⟨o, rfl, s2, e2⟩
    rw [List.take_of_length_le (by rw [List.length_map]; omega)] at e2
    exact k H2 s2 e2
def ag5 : Sp := fun vs H Q _ => ∃ u, vs = [.ref u] ∧ v4 H u ∧ ∀ H', w4 u H H' → v4 H' u → Q (.bl true) H'
abbrev o0 : Stmt := top 48
theorem j4 : m8 ["_law_urn_here", "_law_kind", "_law_told", "_law_dead", "_law_found", "_law_p", "_law_numbers"] ["_law_urn_here"] (d7 o0) := by and_intros
set_option maxHeartbeats 0 in
theorem V4 {f f1 f2 f3 f4 f5 f6 f7 C1 : Addr} (d : Df K mg "_law_of_factors_right" o0 ["_law_urn_here"] f) (G__law_draw : Def P w K mg base CX0 1 "_law_draw" f1 ["_law_urn_here", "_law_many"] N3) (G__law_rooted : Def P w K mg base CX0 6 "_law_rooted" f2 ["_law_urn_here", "_law_kind", "_law_most"] aD0) (G__law_poly_times : Def P w K mg base CX0 3 "_law_poly_times" f3 ["_law_p", "_law_q"] (am8 K)) (GD__law_poly_often : Def P w K mg base CX0 3 "_law_poly_often" f4 ["_law_number_here", "_law_p"] (av4 K)) (G_steep : Def P w K mg base (CXR P w) 2 "steep" f5 ["p"] (ay6 K C1)) (G_leads : Def P w K mg base CX0 4 "leads" f6 ["table"] (ay7 K)) (G_dies : Def P w K mg base CX0 4 "dies" f7 ["p"] (aH3 K)) (n_len : mg "len" = none) (n_list : mg "list" = none) (n_isinstance : mg "isinstance" = none) (n_bool : mg "bool" = none) (n_all : mg "all" = none) : Def P w K mg base CX0 7 "_law_of_factors_right" f ["_law_urn_here"] ag5 := by
  have G__law_poly_often := GD__law_poly_often
  have G_steep := G_steep.calmR
  refine d.ok (N := ["_law_urn_here", "_law_kind", "_law_told", "_law_dead", "_law_found", "_law_p", "_law_numbers"]) j4 (by rintro vs H Q E ⟨_, h, _⟩; rw [h]; rfl) (fun cdv A outer s H vs Q E hr h => ?_)
  obtain ⟨u, rfl, hu, k⟩ := h
  refine ⟨_, (d5 (i8 (i := 1) j4.nd rfl (Or.inl rfl) (i3 G__law_draw hr (b7 (pv 0) (b7 b9 b8)) j3))
      (d5 (Z8 (i3 G__law_rooted hr (b7 (pv 0) (b7 (pv 1) (b7 b9 b8))) j3) (show PG _ _ (ae1 K 2 (D7 (D3 5) (D7 (D3 6) ae2))) from by (refine P4 (n := 2) ?_ ?_ ?_ ?_; rfl; (refine u0 ?_ ?_ ?_; (exact (i7 (i := 5) j4.nd rfl (Or.inl rfl))); (refine u0 ?_ ?_ ?_; (exact (i7 (i := 6) j4.nd rfl (Or.inl rfl))); (exact K2); rfl); rfl); rfl; rfl)))
      (d5 (F9 (p7 R6 (j2 j0 rfl n_len (by decide +kernel) (b7 (pv 5) b8)) b9 (j8 _)) (d9 (ac1 (i := 5) (j := 6) rfl j4.nd rfl rfl (by decide) rfl rfl (b7 (i3 G__law_poly_times hr (b7 (pv 5) (b7 (D0 (b7 (q8 (b7 b9 (b7 b9 b8))) (b7 (q8 (b7 b9 (b7 b9 b8))) b8))) b8)) j3) (b7 (q8 (b7 b9 (b7 b9 (b7 b9 b8)))) b8)) rfl)) v7)
      (d5 (F9 (p7 R6 (t9 y7 (t9 v8 (pv 5) (aa9 Q8 b9) (fun _ _ => rfl)) b9 (fun _ _ => rfl)) b9 (j8 _)) (d9 (i8 (i := 5) j4.nd rfl (Or.inl rfl) (i3 G__law_poly_often hr (b7 (q8 (b7 (aa9 Q8 b9) (b7 b9 b8))) (b7 (pv 5) b8)) j3))) v7)
      (d5 (i8 (i := 2) j4.nd rfl (Or.inl rfl) (i3 G_leads hr (b7 (i3 G_steep hr (b7 (B6 O7 rfl n_list (by decide +kernel) (b7 (pv 5) b8)) b8) j3) b8) j3))
      (d5 (F9 (PW.pt (aU7 (az7 (aH8 (j2 al9 rfl n_isinstance (by decide +kernel) (b7 (pv 2) (b7 (aL6 (v := .ty "list") rfl n_list (by decide +kernel) rfl) b8))))) (aH7 (p7 bn8 (j2 j0 rfl n_len (by decide +kernel) (b7 (pv 2) b8)) (i6 M1 (j2 j0 rfl n_len (by decide +kernel) (b7 (pv 5) b8)) b9) (j8 _))))) (d9 (m5 aq3)) v7)
      (d5 (i8 (i := 3) j4.nd rfl (Or.inl rfl) (G2 T0 (t9 y7 (pv 6) b9 (fun _ _ => rfl)) (i6 M1 (j2 j0 rfl n_len (by decide +kernel) (b7 (pv 5) b8)) b9) (j8 _)))
      (d5 (i8 (i := 4) j4.nd rfl (Or.inl rfl) (i3 G_dies hr (b7 (B6 O7 rfl n_list (by decide +kernel) (b7 (pv 5) b8)) b8) j3))
      (d9 (m5 (aq4 (G2 T0 (j2 (aG2 rfl) rfl n_all (by decide +kernel) (b7 (O6 (Nc := ["_law_one"]) (caps := [none]) rfl (aa8.of (osc := d7 o0) (N := ["_law_urn_here", "_law_kind", "_law_told", "_law_dead", "_law_found", "_law_p", "_law_numbers"]) (ks := []) rfl rfl rfl rfl D8 (by decide +kernel)) (K1 (pv 2)) (fun C s₂ H₂ fp pins => (i7 (i := 0) (show List.Nodup (["_law_one"] : List Str) by decide +kernel) rfl (Or.inl rfl) (Or.inr rfl))) (fun C s₂ H₂ fp pins => (G2 ae8 (t9 (by exact y7 : IxR _ (aP6 K)) (pv 0) b9 (fun _ _ => rfl)) b9 (j8 _)))) b8)) (pv 3) (j8 _)) (aq4 (j2 al9 rfl n_isinstance (by decide +kernel) (b7 (pv 4) (b7 (aL6 (v := .ty "bool") rfl n_bool (by decide +kernel) rfl) b8))) (aI1 (G2 T0 (pv 4) (pv 3) (j8 _))))))))))))))), ?_⟩
  rw [show start ["_law_urn_here", "_law_kind", "_law_told", "_law_dead", "_law_found", "_law_p", "_law_numbers"] [.ref u] = [some (.ref u), none, none, none, none, none, none] from rfl]
  refine j9 (fun σ H1 => ∃ kd : Int, σ = [some (.ref u), some (.int kd), none, none, none, none, none] ∧ w4 u H H1 ∧ v4 H1 u ∧ (kd = 0 ∨ kd = 1)) (fun N hN => ?_) ?_
  · simp! [N3]
    exact ⟨hu, by decide, by decide, fun r H1 r0 r2 s1 u1 => hN _ _ ⟨r, rfl, s1, u1, by omega⟩⟩
  rintro σ H1 ⟨kd, rfl, s1, u1, hkd⟩
  refine j9 (fun σ H2 => ∃ (lf tn : Addr) (ys : List V) (qs : List Rat) (n l : Nat) (o rr : Int), σ = [some (.ref u), some (.int kd), none, none, none, some (.ref lf), some (.ref tn)] ∧ w4 u H H2 ∧ v4 H2 u ∧ LsX u H2 lf ys qs ∧ H2 tn = some (.tup [.int (l : Int), .int o, .int rr]) ∧ RtL qs n l ∧ n ≤ 6) (fun N hN => ?_) ?_
  · subst_eqs
    refine ⟨u, kd, rfl, u1, hkd, fun r lf tn ys qs n l o rr H2 s2 u2 e2 X2 t2 R2 n6 => ⟨r, rfl, _, SqT.of e2, rfl, _, _, rfl, _, _, rfl, rfl, hN _ _ ⟨lf, tn, ys, qs, n, l, o, rr, rfl, s1.trans s2, u2, X2, t2, R2, n6⟩⟩⟩
  clear u1 s1
  rintro σ H2 ⟨lf, tn, ys, qs, n, l, o, rr, rfl, s2, u2, X2, e2, R2, n6⟩
  refine j9 (fun σ H3 => ∃ (lf tn : Addr) (ys : List V) (qs : List Rat) (n l : Nat) (o rr : Int), σ = [some (.ref u), some (.int kd), none, none, none, some (.ref lf), some (.ref tn)] ∧ w4 u H H3 ∧ v4 H3 u ∧ LsX u H3 lf ys qs ∧ H3 tn = some (.tup [.int (l : Int), .int o, .int rr]) ∧ RtL qs n l ∧ 1 ≤ n ∧ n ≤ 6) (fun N hN => ?_) ?_
  · subst_eqs
    have lx := X2.nums.length
    have lq := R2.len
    refine ⟨_, .inl (SqL.of X2.at'), G4 (fun h2 => ⟨v3, fun p1 h1 => ?_⟩) (fun h2 => hN _ _ ⟨lf, tn, ys, qs, n, l, o, rr, rfl, s2, u2, X2, e2, R2, by omega, n6⟩)⟩
    obtain ⟨A1, y1, S1, g1, U1, _⟩ := B3 (.tup [.int 1, .int 2]) h1 u2
    rw [y1]
    refine ⟨v3, fun p2 h2 => ?_⟩
    obtain ⟨A2, y2, S2, g2, U2, _⟩ := B3 (.tup [.int 1, .int 1]) h2 U1
    rw [y2]
    refine ⟨v3, fun p3 h3 => ?_⟩
    obtain ⟨A3, y3, S3, g3, U3, n3⟩ := B3 (.lst [.ref p1, .ref p2]) h3 U2
    rw [y3]
    have S13 := S1.trans (S2.trans S3)
    have n0 : n = 0 := by omega
    subst n0
    have l0 : l = 0 := by have := R2.rt.le; omega
    subst l0
    have X3 := X2.same S13
    have ofs : ∀ q ∈ ([ar5, 1] : List Rat), OvB (60 ^ 1) 10 q := fun q hq => by
      simp only [List.mem_cons, List.not_mem_nil, or_false] at hq
      rcases hq with rfl | rfl
      · exact ⟨30, by decide +kernel, by decide⟩
      · exact T7 1 (by decide) (by decide)
    refine ⟨lf, p3, ys, [.ref p1, .ref p2], qs, [ar5, 1], 60 ^ (0 + 1), 60 ^ 1, 12 * (0 + 1), 10, 100, rfl, SqL.of X3.at', SqL.of g3, X3.nums, .cons (show _ = some (.tup (B7 ar5)) from (S2.trans S3) _ _ g1) (.cons (show _ = some (.tup (B7 1)) from S3 _ _ g2) .nil), R2.ov, ofs, by decide, by decide, by decide, by decide, by decide, by decide, by omega, by decide, fun m r zs H4 t4 _ s4 f4 e4 N4 => ⟨V3, fun p5 h5 => ?_⟩⟩
    have RL := R2.mul aX7 (fl := rfl) (e := 10) (by decide) ofs t4
    have U4 := d8.urn s4 U3
    have S5 := d8.new h5 (.tup [.int 1, .int 0, .int 0])
    exact hN _ _ ⟨r, p5, zs, _, 0 + 1, 0 + 1, 0, 0, rfl, s2.trans (d8.x (S13.trans (s4.trans S5)) u), P6 U4 h5, ⟨Z0 U3 f4, S5 _ _ e4, N4.mono S5.tups⟩, d6, RL, by decide, by decide⟩
  clear u2 s2 X2 e2 R2 n6
  rintro σ H3 ⟨lf, tn, ys, qs, n, l, o, rr, rfl, s3, u3, X3, e3, R3, n1, n6⟩
  refine j9 (fun σ H4 => ∃ (lf : Addr) (ys : List V) (ps : List Rat), σ = [some (.ref u), some (.int kd), none, none, none, some (.ref lf), some (.ref tn)] ∧ w4 u H H4 ∧ v4 H4 u ∧ LsX u H4 lf ys ps ∧ H4 tn = some (.tup [.int (l : Int), .int o, .int rr]) ∧ aG5 ps n l) (fun N hN => ?_) ?_
  · subst_eqs
    have lx := X3.nums.length
    have lq := R3.len
    have el := be4 lq
    obtain ⟨p, ep, hp⟩ := X3.nums.get el
    refine ⟨_, SqL.of X3.at', _, aW7 (by rw [lx, lq, Nat.add_sub_cancel]; exact ep), p, rfl, _, SqT.of hp, _, at0 _, _, rfl, G4 (fun h0 => ⟨v3, fun p1 h1 => ?_⟩) (fun h0 => hN _ _ ⟨lf, ys, qs, rfl, s3, u3, X3, e3, R3.pos (fun z => h0 ((aD7 _).mpr z))⟩)⟩
    obtain ⟨A1, y1, S1, g1, U1, _⟩ := B3 (.tup [.int (-1), .int 1]) h1 u3
    rw [y1]
    have X1 := X3.same S1
    have bts : ∀ q ∈ qs, BtN 100 q := fun q hq => (R3.ov q hq).bt (Nat.pow_pos (by decide)) (Nat.lt_of_le_of_lt (Nat.pow_le_pow_right (by decide) (show n + 1 ≤ 7 by omega)) (by decide)) (by omega)
    refine ⟨_, -1, lf, ys, qs, 1, 100, rfl, ⟨p1, rfl, SqT.of g1⟩, SqL.of X1.at', X1.nums, ⟨by decide, by decide⟩, bts, by decide, by omega, fun m r zs H4 t4 s4 f4 e4 N4 => ?_⟩
    have S := S1.trans s4
    exact hN _ _ ⟨r, zs, _, rfl, s3.trans (d8.x S u), d8.urn S u3, ⟨Z0 U1 f4, e4, N4⟩, S _ _ e3, R3.neg ((aD7 _).mp h0) t4⟩
  clear u3 s3 X3 e3 R3
  rintro σ H4 ⟨lf, ys, ps, rfl, s4, u4, X4, e4, F⟩
  have pB : 0 < 60 ^ (n + 1) := Nat.pow_pos (by decide)
  have pW : 60 ^ (n + 1) < 2 ^ 90 := Nat.lt_of_le_of_lt (Nat.pow_le_pow_right (by decide) (show n + 1 ≤ 7 by omega)) (by decide)
  have ov90 : ∀ q ∈ ps, OvB (60 ^ (n + 1)) 90 q := fun q hq => (F.ov q hq).mono (by omega)
  refine j9 (fun σ H5 => ∃ (tl : Addr) (zs : List V), σ = [some (.ref u), some (.int kd), some (.ref tl), none, none, some (.ref lf), some (.ref tn)] ∧ w4 u H H5 ∧ v4 H5 u ∧ LsX u H5 lf ys ps ∧ H5 tn = some (.tup [.int (l : Int), .int o, .int rr]) ∧ H5 tl = some (.lst zs) ∧ C4 K H5 zs ((List.range n).map fun m => dt (m + 1) (Hz (aQ ps) n))) (fun N hN => ?_) ?_
  · subst_eqs
    refine ⟨_, .inl (SqL.of X4.at'), fun p1 h1 => ?_⟩
    obtain ⟨A1, y1, S1, g1, U1, _⟩ := B3 (.lst ys) h1 u4
    rw [y1]
    refine ⟨p1, ys, ps, rfl, SqL.of g1, (X4.nums.mono S1.tups).toC, by rw [F.len]; omega, fun z => absurd z (by rw [F.len]; omega), fun _ r ts H5 s5 fr ft nd e5 R5 => ?_⟩
    rw [F.len, Nat.add_sub_cancel] at R5
    obtain ⟨lS, oS⟩ := aC9 (n := n) pB pW ov90
    refine ⟨r, ts, _, n, 90, rfl, SqL.of e5, R5, lS, oS, by omega, aN9 (by omega), fun r2 zs H6 s6 f6 e6 N6 => ?_⟩
    rw [al1] at N6
    have S := S1.trans (s5.trans s6)
    exact hN _ _ ⟨r2, zs, rfl, s4.trans (d8.x S u), d8.urn S u4, X4.same S, S _ _ e4, e6, N6⟩
  clear u4 s4 X4 e4
  rintro σ H5 ⟨tl, zs, rfl, s5, u5, X5, e5, t5, N5⟩
  have lz := N5.length
  rw [List.length_map, List.length_range] at lz
  refine j9 (fun σ H6 => σ = [some (.ref u), some (.int kd), some (.ref tl), none, none, some (.ref lf), some (.ref tn)] ∧ H6 = H5) (fun N hN => ?_) ?_
  · subst_eqs
    have hd : IsD K H5 (.ref tl) (.lst (((List.range n).map fun m => dt (m + 1) (Hz (aQ ps) n)).map V5)) := .lst (SqL.of t5) N5.isDs
    have lx := X5.nums.length
    have lp := F.len
    exact ⟨trivial, _, hd.ty, _, aJ4 hd, G4 (fun h => by cases h) (fun _ => ⟨_, .inl (SqL.of t5), _, .inl (SqL.of X5.at'), rfl, G4 (fun h => absurd (show (zs.length : Int) = (ys.length : Int) - 1 by omega) h) (fun _ => hN _ _ ⟨rfl, rfl⟩)⟩)⟩
  rintro σ H6 ⟨rfl, rfl⟩
  subst_eqs
  have lx := X5.nums.length
  have lp := F.len
  have hb : decide (V.int (l : Int) = V.int ((ys.length : Int) - 1)) = decide (l = n) := by
    rw [decide_eq_decide]
    refine ⟨fun z => ?_, fun z => ?_⟩
    · have := V.int.inj z; omega
    · rw [z]; congr 1; omega
  refine ⟨_, SqT.of e5, _, rfl, _, .inl (SqL.of X5.at'), rfl, _, .inl (SqL.of X5.at'), fun p1 h1 => ?_⟩
  obtain ⟨A1, y1, S1, g1, U1, _⟩ := B3 (.lst ys) h1 u5
  rw [y1]
  refine ⟨p1, ys, ps, 90, rfl, SqL.of g1, (X5.nums.mono S1.tups).toC, F.tl, ak5 pB pW ov90, by decide, by omega, Nat.le_trans (Nat.mul_le_mul_left _ (show ps.length ≤ 7 by omega)) (by decide), by decide, fun H2 s2 => ⟨⟨_, SqL.of (s2 _ _ (S1 _ _ t5))⟩, fun D hD => ?_⟩⟩
  have S := S1.trans s2
  refine aY7 (SqL.of (S _ _ t5)) (N5.mono S.tups) hD (by rw [List.length_map, List.length_range]; omega) fun H3 s3 e3 => ?_
  have dq : aK1 ps = decide (l = n) := by
    unfold aK1
    rw [if_neg (fun z => by rw [z] at lp; simp at lp), lp, Nat.add_sub_cancel]; exact F.die
  rw [hb, dq]
  refine ⟨D, rfl, _, SqL.of e3, rfl, ?_⟩
  rw [F.all, if_pos rfl]
  have hd : IsD K H3 (.bl (decide (l = n))) (.v (.bl (decide (l = n)))) := .v rfl
  refine ⟨trivial, _, hd.ty, _, aJ5 hd, G4 (fun _ => ⟨rfl, ?_⟩) (fun h => absurd rfl h)⟩
  rw [decide_eq_true rfl]
  exact k H3 (s5.trans (d8.x (S.trans s3) u)) (d8.urn (S.trans s3) u5)
end
theorem be3 (xs : List V) {n : Nat} (h : n ≤ xs.length) : ae4 xs (some (n : Int)) none = xs.drop n := by
  unfold ae4
  have e1 : HT.sIx xs.length 0 (some (n : Int)) = n := by
    simp only [HT.sIx]
    rw [if_neg (by omega)]; omega
  have e2 : HT.sIx xs.length xs.length none = xs.length := rfl
  rw [e1, e2, List.take_of_length_le (by rw [List.length_drop]; omega)]
section
variable {P : Program} {w : World} {K : PySem.W.Frag} {mg : Str → Option Value} {base : Heap}
abbrev j7 : Stmt := top 47
theorem i4 : m8 ["_law_urn_here", "_law_kind", "_law_numbers", "_law_last", "_law_p", "_law_falling", "_law_one", "_law_due", "_law_total", "_law_told"] ["_law_urn_here"] (d7 j7) := by and_intros
set_option maxHeartbeats 0 in
theorem Z9 {f f1 f2 f3 f4 f5 f6 f7 C1 : Addr} (d : Df K mg "_law_of_parts_right" j7 ["_law_urn_here"] f) (G__law_draw : Def P w K mg base CX0 1 "_law_draw" f1 ["_law_urn_here", "_law_many"] N3) (G__law_above : Def P w K mg base CX0 4 "_law_above" f2 ["_law_urn_here", "_law_kind"] ag7) (G__law_folded : Def P w K mg base CX0 4 "_law_folded" f3 ["_law_quotients", "_law_last"] (ap4 K)) (G__law_times : Def P w K mg base CX0 2 "_law_times" f4 ["_law_one", "_law_other_here"] (Z1 K (· * ·))) (G_steep : Def P w K mg base (CXR P w) 2 "steep" f5 ["p"] (ay6 K C1)) (G_leads : Def P w K mg base CX0 4 "leads" f6 ["table"] (ay7 K)) (G_dies : Def P w K mg base CX0 4 "dies" f7 ["p"] (aH3 K)) (n_range : mg "range" = none) (n_list : mg "list" = none) (n_reversed : mg "reversed" = none) (n_all : mg "all" = none) : Def P w K mg base CX0 5 "_law_of_parts_right" f ["_law_urn_here"] ag5 := by
  have G_steep := G_steep.calmR
  refine d.ok (N := ["_law_urn_here", "_law_kind", "_law_numbers", "_law_last", "_law_p", "_law_falling", "_law_one", "_law_due", "_law_total", "_law_told"]) i4 (by rintro vs H Q E ⟨_, h, _⟩; rw [h]; rfl) (fun cdv A outer s H vs Q E hr h => ?_)
  obtain ⟨u, rfl, hU, k⟩ := h
  have hu := hr.units
  refine ⟨_, (d5 (i8 (i := 1) i4.nd rfl (Or.inr rfl) (i3 G__law_draw hr (b7 (pv 0) (b7 b9 b8)) j3))
      (d5 (Z7 (i₀ := 2) i4.nd rfl (Or.inl rfl) (Nc := ["_law_urn_here", "_law_kind", "_law_turn"]) (caps := [some 0, some 1, none]) rfl (aa8.of (osc := d7 j7) (N := ["_law_urn_here", "_law_kind", "_law_numbers", "_law_last", "_law_p", "_law_falling", "_law_one", "_law_due", "_law_total", "_law_told"]) (ks := ["_law_urn_here", "_law_kind"]) rfl rfl rfl rfl (w8 rfl (w8 rfl D8)) (by decide +kernel)) (P3 rfl n_range (b7 (i6 J0 b9 (i3 G__law_draw hr (b7 (pv 0) (b7 b9 b8)) j3)) b8)) (fun C s₂ H₂ fp pins => (i7 (i := 2) (show List.Nodup (["_law_urn_here", "_law_kind", "_law_turn"] : List Str) by decide +kernel) rfl (Or.inl rfl) (Or.inr rfl))) (fun C s₂ H₂ fp pins => (i3 G__law_above hr (b7 (pv 0) (b7 (pv 1) b8)) j3)))
      (d5 (i8 (i := 3) i4.nd rfl (Or.inl rfl) (i3 G__law_above hr (b7 (pv 0) (b7 (pv 1) b8)) j3))
      (d5 (i8 (i := 4) i4.nd rfl (Or.inl rfl) (i3 G__law_folded hr (b7 (O6 (Nc := ["_law_one"]) (caps := [none]) rfl (aa8.of (osc := d7 j7) (N := ["_law_urn_here", "_law_kind", "_law_numbers", "_law_last", "_law_p", "_law_falling", "_law_one", "_law_due", "_law_total", "_law_told"]) (ks := []) rfl rfl rfl rfl D8 (by decide +kernel)) (K1 (pv 2)) (fun C s₂ H₂ fp pins => (i7 (i := 0) (show List.Nodup (["_law_one"] : List Str) by decide +kernel) rfl (Or.inl rfl) (Or.inr rfl))) (fun C s₂ H₂ fp pins => (D0 (b7 (q8 (b7 b9 (b7 b9 b8))) (b7 (pv 0) b8))))) (b7 (D0 (b7 (pv 3) b8)) b8)) j3))
      (d5 (i8 (i := 5) i4.nd rfl (Or.inl rfl) (D0 (b7 (pv 3) b8)))
      (d5 (P2 PassesOwn.never rfl (aV5 rfl n_reversed (b7 (Q6 T3 (pv 2) (K7 b9) P9) b8)) (i7 (i := 6) i4.nd rfl (Or.inl rfl)) (d9 (i8 (i := 5) i4.nd rfl (Or.inl rfl) (i6 aj4 (D0 (b7 (i3 G__law_times hr (b7 (pv 6) (b7 (t9 v8 (pv 5) b9 (fun _ _ => rfl)) b8)) j3) b8)) (pv 5)))))
      (d5 (i8 (i := 7) i4.nd rfl (Or.inl rfl) (D0 b8))
      (d5 (i8 (i := 8) i4.nd rfl (Or.inl rfl) (q8 (b7 b9 (b7 b9 b8))))
      (d5 (P2 PassesOwn.never rfl (K1 (pv 5)) (i7 (i := 6) i4.nd rfl (Or.inl rfl)) (d5 (i8 (i := 8) i4.nd rfl (Or.inl rfl) (i3 G__law_times hr (b7 (pv 8) (b7 (pv 6) b8)) j3))
      (d9 (ao2 (aV7 PySem.F.plainAttrs_list PySem.F.slot_list_append PySem.F.type_list_append S7 (pv 7) (b7 (pv 8) b8))))))
      (d5 (i8 (i := 9) i4.nd rfl (Or.inl rfl) (i3 G_leads hr (b7 (i3 G_steep hr (b7 (B6 O7 rfl n_list (by decide +kernel) (b7 (pv 4) b8)) b8) j3) b8) j3))
      (d9 (m5 (aq4 (G2 (aI5 hu) (pv 9) (pv 7) (j8 _)) (aq4 (j2 (aG2 rfl) rfl n_all (by decide +kernel) (b7 (O6 (Nc := ["_law_one"]) (caps := [none]) rfl (aa8.of (osc := d7 j7) (N := ["_law_urn_here", "_law_kind", "_law_numbers", "_law_last", "_law_p", "_law_falling", "_law_one", "_law_due", "_law_total", "_law_told"]) (ks := []) rfl rfl rfl rfl D8 (by decide +kernel)) (K1 (pv 9)) (fun C s₂ H₂ fp pins => (i7 (i := 0) (show List.Nodup (["_law_one"] : List Str) by decide +kernel) rfl (Or.inl rfl) (Or.inr rfl))) (fun C s₂ H₂ fp pins => (G2 ae8 (t9 (by exact y7 : IxR _ (aP6 K)) (pv 0) b9 (fun _ _ => rfl)) b9 (j8 _)))) b8)) (aI1 (G2 bj4 (i3 G_dies hr (b7 (B6 O7 rfl n_list (by decide +kernel) (b7 (pv 4) b8)) b8) j3) aq3 (j8 _))))))))))))))))), ?_⟩
  rw [show start ["_law_urn_here", "_law_kind", "_law_numbers", "_law_last", "_law_p", "_law_falling", "_law_one", "_law_due", "_law_total", "_law_told"] [.ref u] = [some (.ref u), none, none, none, none, none, none, none, none, none] from rfl]
  refine j9 (fun σ H1 => ∃ kd : Int, σ = [some (.ref u), some (.int kd), none, none, none, none, none, none, none, none] ∧ w4 u H H1 ∧ v4 H1 u ∧ (kd = 0 ∨ kd = 1)) (fun N hN => ?_) ?_
  · simp! [N3]
    exact ⟨hU, by decide, by decide, fun r H1 r0 r2 s1 u1 => hN _ _ ⟨r, rfl, s1, u1, by omega⟩⟩
  rintro σ H1 ⟨kd, rfl, s1, u1, hkd⟩
  have up : ∀ {q : Rat}, NK kd q → OvB 60 10 q := fun h => h.o60 hkd
  refine j9 (fun σ H2 => ∃ (l : Addr) (xs : List V) (ks : List Rat), σ = [some (.ref u), some (.int kd), some (.ref l), none, none, none, none, none, none, none] ∧ w4 u H H2 ∧ v4 H2 u ∧ LsX u H2 l xs ks ∧ (∀ q ∈ ks, OvB 60 10 q ∧ 0 < q) ∧ 1 ≤ ks.length ∧ ks.length ≤ 7) (fun N hN => ?_) ?_
  · simp! [N3]
    refine ⟨u1, by decide, by decide, fun r H2 r0 r7 s2 u2 => ⟨by omega, by omega, fun D hD => ?_⟩⟩
    have Du : D ≠ u := Z0 u2 hD
    obtain ⟨Pv, hPv⟩ : ∃ Pv : Nat → L2.St → Hp → Prop, ∀ j σ H3, Pv j σ H3 ↔ ∃ (o : Option V) (xs : List V) (ks : List Rat), σ = [some (.ref u), some (.int kd), o] ∧ w4 u H2 H3 ∧ v4 H3 u ∧ H3 D = some (.lst xs) ∧ z9 H3 xs ks ∧ ks.length = j ∧ ∀ q ∈ ks, OvB 60 10 q ∧ 0 < q := ⟨_, fun _ _ _ => Iff.rfl⟩
    refine ai4 Pv ((hPv _ _ _).mpr ⟨_, [], [], rfl, d8.x (d8.new hD _) u, P6 u2 hD, d6, .nil, rfl, by simp⟩) ?_ ?_
    · rintro j σ H3 hj h
      obtain ⟨o, xs, ks, rfl, s3, u3, e3, n3, l3, q3⟩ := (hPv _ _ _).mp h
      simp! [ag7]
      refine ⟨u3, fun r q H4 nk q0 s4 u4 e4 => ?_⟩
      have eD := s4 _ _ e3 Du
      refine G6.mk hj eD (ac5 (by rw [n3.length, l3]; omega)) ((hPv _ _ _).mpr ⟨_, _, ks ++ [q], rfl, fun b o h n => ?_, u4.other Du, d6, ((n3.mono (s4.tups u3)).append (.cons e4 .nil)).mono (aa7.lst eD), by rw [List.length_append, l3]; rfl, fun x hx => ?_⟩)
      · rw [j5 (m9 h hD)]
        exact s4 _ _ (s3 _ _ h n) n
      · rcases List.mem_append.mp hx with z | z
        · exact q3 x z
        · rw [List.mem_singleton.mp z]; exact ⟨up nk, q0⟩
    · intro σ H3 h
      obtain ⟨o, xs, ks, rfl, s3, u3, e3, n3, l3, q3⟩ := (hPv _ _ _).mp h
      exact hN _ _ ⟨D, xs, ks, rfl, (s1.trans s2).trans s3, u3, ⟨Du, e3, n3⟩, q3, by omega, by omega⟩
  rintro σ H2 ⟨l, xs, ks, rfl, s2, u2, X2, hk, l1, l7⟩
  refine j9 (fun σ H3 => ∃ (lr : Addr) (c0 : Rat), σ = [some (.ref u), some (.int kd), some (.ref l), some (.ref lr), none, none, none, none, none, none] ∧ w4 u H H3 ∧ v4 H3 u ∧ LsX u H3 l xs ks ∧ H3 lr = some (.tup (B7 c0)) ∧ OvB 60 10 c0 ∧ 0 < c0) (fun N hN => ?_) ?_
  · simp! [ag7]
    exact ⟨u2, fun r q H4 nk q0 s4 u4 e4 => hN _ _ ⟨r, q, rfl, s2.trans s4, u4, X2.samex s4 u2, e4, up nk, q0⟩⟩
  clear s2 u2 X2
  rintro σ H2 ⟨lr, c0, rfl, s2, u2, X2, el, hq⟩
  refine j9 (fun σ H3 => ∃ (ap : Addr) (zs : List V) (ps : List Rat), σ = [some (.ref u), some (.int kd), some (.ref l), some (.ref lr), some (.ref ap), none, none, none, none, none] ∧ w4 u H H3 ∧ v4 H3 u ∧ LsX u H3 l xs ks ∧ H3 lr = some (.tup (B7 c0)) ∧ LsX u H3 ap zs ps ∧ ax8 ks c0 ps) (fun N hN => ?_) ?_
  · subst_eqs
    refine ⟨⟨_, SqL.of X2.at'⟩, fun D hD => ?_⟩
    have Du : D ≠ u := Z0 u2 hD
    obtain ⟨Pv, hPv⟩ : ∃ Pv : Nat → L2.St → Hp → Prop, ∀ j σ H3, Pv j σ H3 ↔ ∃ (o : Option V) (ts : List Addr), σ = [o] ∧ d8 H2 H3 ∧ H3 D = some (.lst (ts.map V.ref)) ∧ (∀ t ∈ ts, H2 t = none ∧ t ≠ D) ∧ Rws H3 ts ((pR ks).take j) := ⟨_, fun _ _ _ => Iff.rfl⟩
    have lx := X2.nums.length
    refine U7 xs Pv ((hPv _ _ _).mpr ⟨_, [], rfl, d8.new hD _, d6, by simp, .nil⟩) (fun j σ H3 _ h => ?_) ?_ ?_
    · obtain ⟨_, _, _, s3, _⟩ := (hPv _ _ _).mp h
      exact SqL.of (s3 _ _ X2.at')
    · rintro j x σ H3 hx h
      obtain ⟨o, ts, rfl, s3, e3, n3, R3⟩ := (hPv _ _ _).mp h
      obtain ⟨px, q, rfl, hq, ex⟩ := X2.nums.getV hx
      subst_eqs
      refine ⟨by decide, fun p hp => ?_⟩
      obtain ⟨H4, y4, X4, g4⟩ := J4 (.tup [.int 0, .int 1]) hp
      rw [← y4]
      refine ⟨by decide, fun p1 hp1 => ?_⟩
      obtain ⟨H5, y5, X5, g5⟩ := J4 (.lst [.ref p, .ref px]) hp1
      rw [← y5]
      have X := X4.trans X5
      have e5 := X _ _ e3
      have pD : D ≠ p1 := m9 (X4 _ _ e3) hp1
      have nn : D ∉ ts ++ [p1] := fun z => by
        rcases List.mem_append.mp z with z | z
        · exact (n3 D z).2 rfl
        · exact pD (List.mem_singleton.mp z)
      refine G6.mk (List.getElem?_eq_some_iff.mp hx).1 e5 (ac5 (by rw [List.length_map, R3.length, List.length_take]; unfold pR; rw [List.length_map]; omega)) ((hPv _ _ _).mpr ⟨_, ts ++ [p1], rfl, (s3.trans X).over hD _, by rw [d6, List.map_append]; rfl, fun t ht => ?_, ?_⟩)
      · rcases List.mem_append.mp ht with z | z
        · exact n3 t z
        · rw [List.mem_singleton.mp z]; exact ⟨(s3.trans X4).free hp1, Ne.symm pD⟩
      · rw [B4 (show (pR ks)[j]? = some [0, q] by unfold pR; rw [List.getElem?_map, hq]; rfl)]
        exact ((R3.same X).append (.cons g5 (.cons (show _ = some (.tup (B7 0)) from X5 _ _ g4) (.cons (X _ _ (s3 _ _ ex)) .nil)) .nil)).over e5 nn
    · intro σ H3 h
      obtain ⟨o, ts, rfl, s3, e3, n3, R3⟩ := (hPv _ _ _).mp h
      rw [ab4 (by unfold pR; rw [List.length_map, lx]; exact Nat.le_refl _)] at R3
      have u3 := d8.urn s3 u2
      simp! [ap4]
      refine ⟨by decide, fun p hp => ?_⟩
      obtain ⟨H5, y5, X5, g5⟩ := J4 (.lst [.ref lr]) hp
      rw [← y5]
      have RQ : Y1 10 (pR ks) [c0] := bi5 (fun x hx => (hk x hx).2) (fun x hx => (hk x hx).1.bdN (by decide) (by decide)) (C9 hq.2) (hq.1.bdN (by decide) (by decide)) (.inl ⟨rfl, by omega⟩)
      refine ⟨ts, SqL.of (X5 _ _ e3), [.ref lr], 10, pR ks, R3.same X5, SqL.of g5, [c0], .cons (X5 _ _ (s3 _ _ el)) .nil, RQ, fun r1 zs ps H6 s6 f6 e6 n6 t6 q6 => ?_⟩
      have u5 := d8.urn X5 u3
      have S26 := s3.trans (X5.trans s6)
      exact hN _ _ ⟨r1, zs, ps, rfl, s2.trans (d8.x S26 u), d8.urn s6 u5, X2.same S26, S26 _ _ el, ⟨Z0 u5 f6, e6, n6⟩, bi6 hk hq l1 l7 RQ t6 q6⟩
  clear s2 u2 X2 el
  rintro σ H3 ⟨ap, zs, ps, rfl, s3, u3, X3, el, Y3, F⟩
  have hfa := bf9 hk hq
  have lx := X3.nums.length
  refine j9 (fun σ H4 => ∃ fl, σ = [some (.ref u), some (.int kd), some (.ref l), some (.ref lr), some (.ref ap), some (.ref fl), none, none, none, none] ∧ w4 u H H4 ∧ v4 H4 u ∧ LsX u H4 l xs ks ∧ LsX u H4 ap zs ps ∧ LsX u H4 fl [.ref lr] [c0]) (fun N hN => ?_) ?_
  · subst_eqs
    refine ⟨aj0, fun p1 h1 => ?_⟩
    obtain ⟨A1, y1, S1, g1, U1, n1⟩ := B3 (.lst [.ref lr]) h1 u3
    rw [y1]
    exact hN _ _ ⟨p1, rfl, s3.trans (d8.x S1 u), U1, X3.same S1, Y3.same S1, ⟨n1, g1, .cons (S1 _ _ el) .nil⟩⟩
  clear s3 u3 X3 el Y3
  rintro σ H4 ⟨fl, rfl, s4, u4, X4, Y4, L4⟩
  obtain ⟨I, hI⟩ : ∃ I : Nat → L2.St → Hp → Prop, ∀ i σ H6, I i σ H6 ↔ ∃ (o6 : Option V) (fl : Addr) (fx : List V), σ = [some (.ref u), some (.int kd), some (.ref l), some (.ref lr), some (.ref ap), some (.ref fl), o6, none, none, none] ∧ d8 H4 H6 ∧ LsX u H6 fl fx ((List.range (i + 1)).map fun t => fa ks c0 (i - t)) := ⟨_, fun _ _ _ => Iff.rfl⟩
  refine j9 (fun σ H5 => I (ks.length - 1) σ H5) (fun N hN => ?_) ?_
  · subst_eqs
    refine ⟨_, rfl, _, rfl, l, xs, rfl, SqL.of X4.at', fun p1 h1 => ⟨p1, _, rfl, SqL.of d6, ?_⟩⟩
    obtain ⟨A1, y1, S1, g1, U1, n1⟩ := B3 (.lst (ae4 xs (some 1) none)) h1 u4
    rw [y1]
    have ec : ae4 xs (some 1) none = xs.drop 1 := be3 xs (n := 1) (by omega)
    rw [ec] at g1 ⊢
    have ld : (xs.drop 1).length = ks.length - 1 := by rw [List.length_drop]; omega
    refine aM6 (xs := xs.drop 1) (fun i σ H6 => I i σ H6 ∧ H6 p1 = some (.lst (xs.drop 1))) ⟨(hI _ _ _).mpr ⟨_, fl, _, rfl, S1, L4.same S1⟩, g1⟩ (fun i σ H6 _ h => SqL.of h.2) ?_ (fun σ H6 h => ?_)
    · rintro i x σ H6 hi hx ⟨h, hp1⟩
      obtain ⟨o6, fl, fx, rfl, s6, L6⟩ := (hI _ _ _).mp h
      rw [ld] at hi hx
      rw [List.getElem?_drop, show 1 + (ks.length - 1 - 1 - i) = ks.length - 1 - i by omega] at hx
      obtain ⟨px, q, rfl, hq', ex⟩ := X4.nums.getV hx
      have e0 : ((List.range (i + 1)).map fun t => fa ks c0 (i - t))[0]? = some (fa ks c0 i) := by
        rw [List.getElem?_map, List.getElem?_range (by omega)]; rfl
      obtain ⟨pf, epf, hpf⟩ := L6.nums.get e0
      obtain ⟨of, fp⟩ := hfa i (by omega)
      have bq : BtN 6 q := (hk q (List.mem_of_getElem? hq')).1.bt (by decide) (by decide) (by decide)
      have bf : BtN 100 (fa ks c0 i) := of.bt (Nat.pow_pos (by decide)) (Nat.lt_of_le_of_lt (Nat.pow_le_pow_right (by decide) (show i + 1 ≤ 8 by omega)) (by decide)) (by omega)
      subst_eqs
      refine ⟨_, SqL.of L6.at', _, G3 (j := 0) epf, _, _, q, fa ks c0 i, 6, 100, rfl, ⟨px, rfl, SqT.of (s6 _ _ ex)⟩, ⟨pf, rfl, SqT.of hpf⟩, bq, bf, by decide, fun r7 H7 s7 e7 => ⟨aj0, fun p8 h8 => ?_⟩⟩
      have u7 := d8.urn (s6.trans s7) u4
      obtain ⟨A8, y8, S8, g8, U8, n8⟩ := B3 (.lst [.ref r7]) h8 u7
      rw [y8]
      have L8 := (L6.same s7).same S8
      refine ⟨_, g8, _, L8.at', ?_, fun p9 h9 => ?_⟩
      · rw [L6.nums.length, List.length_map, List.length_range]
        exact Nat.le_trans (show _ ≤ 100 by simp only [List.length_cons, List.length_nil]; omega) (by decide)
      obtain ⟨A9, y9, S9, g9, U9, n9⟩ := B3 (.lst ([.ref r7] ++ fx)) h9 U8
      rw [y9]
      refine ⟨(hI _ _ _).mpr ⟨_, p9, _, rfl, s6.trans (s7.trans (S8.trans S9)), ⟨n9, g9, ?_⟩⟩, (s7.trans (S8.trans S9)) _ _ hp1⟩
      have ef : ((List.range (i + 1 + 1)).map fun t => fa ks c0 (i + 1 - t)) = (q * fa ks c0 i) :: (List.range (i + 1)).map fun t => fa ks c0 (i - t) := by
        rw [List.range_succ_eq_map, List.map_cons, List.map_map]
        congr 1
        · show (ks[ks.length - 1 - i]?).getD 0 * fa ks c0 i = _
          rw [hq']; rfl
        · refine List.map_congr_left fun t _ => ?_
          show fa ks c0 (i + 1 - (t + 1)) = _
          rw [Nat.add_sub_add_right]
      rw [ef]
      exact .cons ((S8.trans S9) _ _ e7) (L8.nums.mono S9.tups)
    · obtain ⟨h, _⟩ := h
      rw [ld] at h
      exact hN _ _ h
  intro σ H5 h
  obtain ⟨o6, fl, fx, rfl, s5, L5⟩ := (hI _ _ _).mp h
  clear h
  rw [show ks.length - 1 + 1 = ks.length by omega] at L5
  have s5' := s4.trans (d8.x s5 u)
  have u5 := d8.urn s5 u4
  have X5 := X4.same s5
  have Y5 := Y4.same s5
  clear s4 u4 X4 Y4 L4 s5 hI I
  refine j9 (fun σ H6 => ∃ ad, σ = [some (.ref u), some (.int kd), some (.ref l), some (.ref lr), some (.ref ap), some (.ref fl), o6, some (.ref ad), none, none] ∧ d8 H5 H6 ∧ H6 ad = some (.lst []) ∧ H5 ad = none) (fun N hN => ?_) ?_
  · subst_eqs
    exact ⟨by decide, fun p1 h1 => hN _ _ ⟨p1, rfl, d8.new h1 _, d6, h1⟩⟩
  rintro σ H6 ⟨ad, rfl, s6, e6, f6⟩
  refine j9 (fun σ H7 => ∃ at', σ = [some (.ref u), some (.int kd), some (.ref l), some (.ref lr), some (.ref ap), some (.ref fl), o6, some (.ref ad), some (.ref at'), none] ∧ d8 H5 H7 ∧ H7 ad = some (.lst []) ∧ H7 at' = some (.tup (B7 1))) (fun N hN => ?_) ?_
  · subst_eqs
    refine ⟨v3, fun p1 h1 => ?_⟩
    have S := d8.new h1 (.tup [.int 1, .int 1])
    exact hN _ _ ⟨p1, rfl, s6.trans S, S _ _ e6, d6⟩
  clear s6 e6
  rintro σ H7 ⟨at0', rfl, s7, e7, t7⟩
  obtain ⟨g, hg⟩ : ∃ g : Nat → Rat, g = fun t => fa ks c0 (ks.length - 1 - t) := ⟨_, rfl⟩
  have L5' : LsX u H5 fl fx ((List.range ks.length).map g) := by rw [hg]; exact L5
  have go : ∀ t, OvB (60 ^ 8) 80 (g t) := fun t => by
    rw [hg]
    have := (hfa (ks.length - 1 - t) (by omega)).1.up (Nat.pow_pos (by decide)) (C := 60 ^ (7 - (ks.length - 1 - t))) (c := 6 * (7 - (ks.length - 1 - t)) + 1) (Nat.pow_pos (by decide)) (by
      have h1 : 60 ^ (7 - (ks.length - 1 - t)) ≤ 64 ^ (7 - (ks.length - 1 - t)) := Nat.pow_le_pow_left (by decide) _
      have h2 : 64 ^ (7 - (ks.length - 1 - t)) = 2 ^ (6 * (7 - (ks.length - 1 - t))) := by rw [Nat.pow_mul]
      have := Nat.two_pow_pos (6 * (7 - (ks.length - 1 - t)))
      rw [Nat.pow_succ]; omega)
    rw [← Nat.pow_add, show ks.length - 1 - t + 1 + (7 - (ks.length - 1 - t)) = 8 by omega] at this
    exact this.mono (by omega)
  have gp : ∀ t, 0 < g t := fun t => by rw [hg]; exact (hfa _ (by omega)).2
  have dov := aY0 go
  obtain ⟨J, hJ⟩ : ∃ J : Nat → L2.St → Hp → Prop, ∀ i σ H8, J i σ H8 ↔ ∃ (o6 : Option V) (at' : Addr) (dx : List V), σ = [some (.ref u), some (.int kd), some (.ref l), some (.ref lr), some (.ref ap), some (.ref fl), o6, some (.ref ad), some (.ref at'), none] ∧ d8 H5 H8 ∧ H8 ad = some (.lst dx) ∧ z9 H8 dx ((List.range i).map (ae3 g)) ∧ H8 at' = some (.tup (B7 (if i = 0 then 1 else ae3 g (i - 1)))) := ⟨_, fun _ _ _ => Iff.rfl⟩
  refine j9 (fun σ H8 => J ks.length σ H8) (fun N hN => ?_) ?_
  · subst_eqs
    have lfx := L5'.nums.length
    rw [List.length_map, List.length_range] at lfx
    refine ⟨_, rfl, fl, rfl, ⟨_, SqL.of (s7 _ _ L5'.at')⟩, ai0 (xs := fx) J ((hJ _ _ _).mpr ⟨_, at0', [], rfl, s7, e7, .nil, t7⟩) (fun i σ H8 _ h => ?_) ?_ (fun σ H8 h => ?_)⟩
    · obtain ⟨_, _, _, _, s8, _⟩ := (hJ _ _ _).mp h
      exact SqL.of (s8 _ _ L5'.at')
    · rintro i x σ H8 hx h
      obtain ⟨o6, at', dx, rfl, s8, e8, n8, t8⟩ := (hJ _ _ _).mp h
      obtain ⟨px, q, rfl, hq', ex⟩ := L5'.nums.getV hx
      have hi : i < ks.length := by have := (List.getElem?_eq_some_iff.mp hx).1; omega
      rw [List.getElem?_map, List.getElem?_range hi] at hq'
      obtain rfl : g i = q := Option.some.inj hq'
      have bg : BtN 100 (g i) := (go i).bt (by decide) (by decide) (by decide)
      have bt' : BtN 400 (if i = 0 then 1 else ae3 g (i - 1)) := by
        split
        · exact ⟨by decide +kernel, by decide +kernel⟩
        · exact (dov (i - 1)).bt (Nat.pow_pos (by decide)) (Nat.lt_of_le_of_lt (Nat.pow_le_pow_right (by decide) (show 8 * (i - 1 + 1) ≤ 56 by omega)) (by decide)) (by omega)
      subst_eqs
      refine ⟨_, _, _, g i, 400, 100, rfl, ⟨at', rfl, SqT.of t8⟩, ⟨px, rfl, SqT.of (s8 _ _ ex)⟩, bt', bg, by decide, fun r9 H9 s9 e9 => ?_⟩
      have ep : (if i = 0 then 1 else ae3 g (i - 1)) * g i = ae3 g i := by
        cases i with
        | zero => rw [if_pos rfl]; show 1 * g 0 = g 0; grind
        | succ i => rw [if_neg (by omega), Nat.add_sub_cancel]; rfl
      have e9 : H9 r9 = some (.tup (B7 (ae3 g i))) := by rw [← ep]; exact e9
      have eD := s9 _ _ e8
      refine ⟨.inl ⟨_, SqL.of eD⟩, _, eD, ?_, (hJ _ _ _).mpr ⟨_, r9, _, rfl, (s8.trans s9).over f6 _, d6, ?_, ?_⟩⟩
      · rw [n8.length, List.length_map, List.length_range]
        exact Nat.lt_of_le_of_lt (show _ ≤ 7 by omega) (by decide)
      · rw [List.range_succ, List.map_append]
        exact ((n8.mono s9.tups).append (.cons e9 .nil)).mono (aa7.lst eD)
      · rw [if_neg (by omega), Nat.add_sub_cancel]
        exact aa7.lst eD _ _ e9
    · rw [lfx] at h
      exact hN _ _ h
  intro σ H8 h
  obtain ⟨o6, at', dx, rfl, s8, e8, n8, _⟩ := (hJ _ _ _).mp h
  clear h hJ J
  have Y8 := Y5.same s8
  have u8 := d8.urn s8 u5
  have oq : ∀ q ∈ ps, OvB (60 ^ 8) 90 q := aq5 F.ov
  refine j9 (fun σ H9 => ∃ (tl : Addr) (ys : List V), σ = [some (.ref u), some (.int kd), some (.ref l), some (.ref lr), some (.ref ap), some (.ref fl), o6, some (.ref ad), some (.ref at'), some (.ref tl)] ∧ d8 H8 H9 ∧ H9 tl = some (.lst ys) ∧ C4 K H9 ys ((List.range ks.length).map (ae3 g))) (fun N hN => ?_) ?_
  · subst_eqs
    refine ⟨_, .inl (SqL.of Y8.at'), fun p1 h1 => ?_⟩
    obtain ⟨A1, y1, S1, g1, U1, _⟩ := B3 (.lst zs) h1 u8
    rw [y1]
    refine ⟨p1, zs, ps, rfl, SqL.of g1, (Y8.nums.mono S1.tups).toC, by rw [F.len]; omega, fun z => absurd z (by rw [F.len]; omega), fun _ r ts H5 s5 fr ft nd e5 R5 => ?_⟩
    rw [F.len, Nat.add_sub_cancel] at R5
    obtain ⟨lS, oS⟩ := aC9 (n := ks.length) (B := 60 ^ 8) (W := 90) (by decide) (by decide) oq
    refine ⟨r, ts, _, ks.length, 90, rfl, SqL.of e5, R5, lS, oS, by omega, aN9 (by omega), fun r2 ys H6 s6 f6 e6 N6 => ?_⟩
    rw [al1, F.leads hk hq l1, ← hg] at N6
    exact hN _ _ ⟨r2, ys, rfl, S1.trans (s5.trans s6), e6, N6⟩
  rintro σ H9 ⟨tl, ys, rfl, s9, e9, n9⟩
  subst_eqs
  have Y9 := Y8.same s9
  have dpos := aM9 gp
  refine ⟨Q7 ((List.range ks.length).map (ae3 g)), Q7 ((List.range ks.length).map (ae3 g)), rfl, .lst (SqL.of e9) n9.isDs, T1 (SqL.of (s9 _ _ e8)) (n8.mono s9.tups), ah7 _ _, Nat.le_trans (ao6 _) (by decide), ?_⟩
  rw [ai3]
  refine ⟨_, rfl, G4 (fun _ => ⟨⟨_, SqL.of e9⟩, fun D hD => ?_⟩) (fun z => absurd (by simp) z)⟩
  refine aY7 (SqL.of e9) n9 hD (by rw [List.length_map, List.length_range]; omega) fun H10 s10 e10 => ?_
  have u10 := d8.urn (s9.trans s10) u8
  have Y10 := Y9.same s10
  refine ⟨D, rfl, _, SqL.of e10, G4 (fun _ => ⟨_, .inl (SqL.of Y10.at'), fun p1 h1 => ?_⟩) (fun z => absurd (aO1.mpr fun q hq => ?_) z)⟩
  · obtain ⟨A1, y1, S1, g1, U1, _⟩ := B3 (.lst zs) h1 u10
    rw [y1]
    refine ⟨p1, zs, ps, 90, rfl, SqL.of g1, (Y10.nums.mono S1.tups).toC, F.tl, ak5 (B := 60 ^ 8) (by decide) (by decide) oq, by decide, by rw [F.len]; omega, Nat.le_trans (Nat.mul_le_mul_left _ (show ps.length ≤ 8 by rw [F.len]; omega)) (by decide), by decide, fun H2 s2 => ⟨_, rfl, ?_⟩⟩
    rw [F.dies hk hq l1]
    have S := s8.trans (s9.trans (s10.trans (S1.trans s2)))
    exact k H2 (s5'.trans (d8.x S u)) (d8.urn S u5)
  · obtain ⟨m, _, rfl⟩ := List.mem_map.mp hq
    exact dpos m
end
section
variable {P : Program} {w : World} {K : PySem.W.Frag} {mg : Str → Option Value} {base : Heap}
abbrev ae7 : Stmt := top 49
theorem aH5 : m8 ["_law_script", "_law_at", "_law_urn_here"] ["_law_script"] (d7 ae7) := by and_intros
set_option maxHeartbeats 0 in
theorem bj5 {f g1 g2 g3 : Addr} {fd : FuncData} (F : Fun K "law" "law" ae7 f fd) (G__law_urn : Def P w K mg base CX0 1 "_law_urn" g1 ["_law_script", "_law_at"] (bf2 K)) (G__law_of_parts_right : Def P w K mg base CX0 5 "_law_of_parts_right" g2 ["_law_urn_here"] ag5) (G__law_of_factors_right : Def P w K mg base CX0 7 "_law_of_factors_right" g3 ["_law_urn_here"] ag5)
    (n_range : mg "range" = none) (n_max : mg "max" = none) (n_min : mg "min" = none) (n_len : mg "len" = none) : Y6 P w K mg base CX0 (7 + 1) f fd ["_law_script"] (aL3 K) := by
  refine F.ok (N := ["_law_script", "_law_at", "_law_urn_here"]) aH5 (fun vs H Q E ⟨x, y, h, _⟩ => by rw [h]; rfl) (fun cdv A outer s H vs Q E hr h => ?_)
  obtain ⟨as, ns, rfl, hS, h63, k⟩ := h
  refine ⟨_, (d5 (P2 PassesOwn.never rfl (P3 rfl n_range (b7 (j2 (aw8 rfl) rfl n_max (by decide +kernel) (b7 b9 (b7 (j2 (aS1 rfl) rfl n_min (by decide +kernel) (b7 b9 (b7 (j2 j0 rfl n_len (by decide +kernel) (b7 (pv 0) b8)) b8))) b8))) b8)) (i7 (i := 1) aH5.nd rfl (Or.inl rfl)) (d5 (i8 (i := 2) aH5.nd rfl (Or.inl rfl) (i3 G__law_urn hr (b7 (pv 0) (b7 (pv 1) b8)) j3))
      (d9 (F9 (PW.pt (aU7 (az7 (aH8 (i3 G__law_of_parts_right hr (b7 (pv 2) b8) j3))) (aH7 (az7 (aH8 (i3 G__law_of_factors_right hr (b7 (pv 2) b8) j3)))))) (d9 (m5 aq3)) v7))))
      (d9 (m5 aq3))), ?_⟩
  rw [show start ["_law_script", "_law_at", "_law_urn_here"] [.ref as] = [some (.ref as), none, none] from rfl]
  have hlen : (((ns.map V.int).length : Nat) : Int) = (ns.length : Int) := by rw [List.length_map]
  refine ⟨_, rfl, as, _, rfl, .inl hS, 3, _, rfl, 1, _, rfl, _, rfl, ?_, ?_, W9 (fun i σ H1 => ∃ o1 o2 : Option V, σ = [some (.ref as), o1, o2] ∧ SqL K H1 as (ns.map V.int)) ⟨_, _, rfl, hS⟩ ?_ ?_⟩
  · rw [hlen]; split <;> split <;> omega
  · rw [hlen]; split <;> split <;> omega
  · rintro i σ H1 hi ⟨o1, o2, rfl, hS1⟩
    rw [hlen] at hi
    have hi4 : i < 4 := by
      revert hi
      split <;> split <;> omega
    subst_eqs
    refine ⟨as, ns, _, rfl, hS1, by omega, by omega, fun u H2 s2 hu0 hu2 => ?_⟩
    refine ⟨u, rfl, hu2, fun H3 s3 hu3 => ?_⟩
    refine ⟨true, rfl, G4 (fun h => absurd h (by decide)) (fun _ => ?_)⟩
    refine ⟨u, rfl, hu3, fun H4 s4 hu4 => ?_⟩
    exact ⟨true, rfl, G4 (fun h => absurd h (by decide)) (fun _ => ((d8.x s2 u).trans (s3.trans s4)).seq hu0 hS1)⟩
  · rintro σ H1 ⟨o1, o2, rfl, hS1⟩
    exact k H1
end
end R
set_option maxRecDepth 100000
def PySem.W.Fast.tw14831437296356900316 : Unit := ()
def PySem.W.Fast.tw4711142802141921055 : Unit := ()
def PySem.W.Fast.tw1194483409401633569 : Unit := ()
def PySem.W.Fast.tw2689318201149908113 : Unit := ()
def PySem.W.Fast.tw978064604410654708 : Unit := ()
def PySem.W.Fast.tw8528125866051411077 : Unit := ()
def PySem.W.Fast.tw1646653048086767228 : Unit := ()
def PySem.W.Fast.tw11041041554454028294 : Unit := ()
def PySem.W.Fast.tw703234029702436694 : Unit := ()
def PySem.W.Fast.tw6560667580664227411 : Unit := ()
def PySem.W.Fast.tw9506242334645788311 : Unit := ()
def PySem.W.Fast.tw17404081235374095583 : Unit := ()
def PySem.W.Fast.tw1954121370556501588 : Unit := ()
def PySem.W.Fast.tw17353468758514483653 : Unit := ()
def PySem.W.Fast.tw6140958458292406639 : Unit := ()
def PySem.W.Fast.tw705566412959405328 : Unit := ()
def PySem.W.Fast.tw18053158002192415848 : Unit := ()
def PySem.W.Fast.tw10748324415951448338 : Unit := ()
def PySem.W.Fast.tw2210391984260400582 : Unit := ()
def PySem.W.Fast.tw18147827801895631837 : Unit := ()
def PySem.W.Fast.tw7414701544779766041 : Unit := ()
def PySem.W.Fast.tw11351801284176244747 : Unit := ()
def PySem.W.Fast.tw14781687922799018959 : Unit := ()
def PySem.W.Fast.tw17428966655650452547 : Unit := ()
def PySem.W.Fast.tw18233394256033175413 : Unit := ()
def PySem.W.Fast.tw12014255157373526544 : Unit := ()
def PySem.W.Fast.tw17370851279216638002 : Unit := ()
def PySem.W.Fast.tw1736106904801455877 : Unit := ()
def PySem.W.Fast.tw1168887309905245298 : Unit := ()
def PySem.W.Fast.tw13595768572534349265 : Unit := ()
def PySem.W.Fast.tw5694856234960298933 : Unit := ()
def PySem.W.Fast.tw2557124344996512070 : Unit := ()
def PySem.W.Fast.tw15153916611180663932 : Unit := ()
def PySem.W.Fast.tw5897031966080479271 : Unit := ()
def PySem.W.Fast.tw7459212322780797341 : Unit := ()
def PySem.W.Fast.tw897778865775195815 : Unit := ()
def PySem.W.Fast.tw10055271660959570368 : Unit := ()
def PySem.W.Fast.tw15821246963164890711 : Unit := ()
def PySem.W.Fast.tw9947018641190862381 : Unit := ()
def PySem.W.Fast.tw17106044948881875648 : Unit := ()
def PySem.W.Fast.tw327001608975935588 : Unit := ()
def PySem.W.Fast.tw12576734358990429380 : Unit := ()
def PySem.W.Fast.tw8707508994957522987 : Unit := ()
def PySem.W.Fast.tw3686035711425743628 : Unit := ()
def PySem.W.Fast.tw8112277585420365202 : Unit := ()
def PySem.W.Fast.tw11592018822138216849 : Unit := ()
def PySem.W.Fast.tw2513766355098889462 : Unit := ()
def PySem.W.Fast.tw17441994056719544509 : Unit := ()
def PySem.W.Fast.tw14790101354238288910 : Unit := ()
def PySem.W.Fast.tw5856182355453620788 : Unit := ()
def PySem.W.Fast.tw14540285376811020657 : Unit := ()
def PySem.W.Fast.tw17877268781854158802 : Unit := ()
def PySem.W.Fast.tw4361982530678327374 : Unit := ()
def PySem.W.Fast.tw2910002143836293490 : Unit := ()
def PySem.W.Fast.tw571406377476294523 : Unit := ()
def PySem.W.Fast.tw14563856205822790505 : Unit := ()
def PySem.W.Fast.tw18253280771754662858 : Unit := ()
def PySem.W.Fast.tw3453332238776225417 : Unit := ()
def PySem.W.Fast.tw5476108823510826892 : Unit := ()
def PySem.W.Fast.tw68299073688235747 : Unit := ()
def PySem.W.Fast.tw4134295549512265526 : Unit := ()
def PySem.W.Fast.tw18319993987699430877 : Unit := ()
def PySem.W.Fast.tw4383289581043055997 : Unit := ()
def PySem.W.Fast.tw2004598534361882983 : Unit := ()
def PySem.W.Fast.tw11823779470116076381 : Unit := ()
def PySem.W.Fast.tw16003436489436805176 : Unit := ()
def PySem.W.Fast.tw2021085066048704103 : Unit := ()
def PySem.W.Fast.tw4529072923615185463 : Unit := ()
def PySem.W.Fast.tw1107267320203159495 : Unit := ()
def PySem.W.Fast.tw6424932871627901649 : Unit := ()
def PySem.W.Fast.tw8315616016213472727 : Unit := ()
def PySem.W.Fast.tw7405140229921669728 : Unit := ()
def PySem.W.Fast.tw16936164165212617702 : Unit := ()
def PySem.W.Fast.tw9568548101372781144 : Unit := ()
def PySem.W.Fast.tw11011530866588347461 : Unit := ()
def PySem.W.Fast.tw16497168952531881320 : Unit := ()
def PySem.W.Fast.tw16040132513440171156 : Unit := ()
def PySem.W.Fast.tw9995102456808974595 : Unit := ()
def PySem.W.Fast.tw13807134502492377132 : Unit := ()
def PySem.W.Fast.tw13285108460208170891 : Unit := ()
def PySem.W.Fast.tw2570676679431402183 : Unit := ()
def PySem.W.Fast.tw8076809661694642001 : Unit := ()
def PySem.W.Fast.tw12899739739677402351 : Unit := ()
def PySem.W.Fast.tw15322298834618763990 : Unit := ()
def PySem.W.Fast.tw17011335018034155025 : Unit := ()
def PySem.W.Fast.tw2018381530226561245 : Unit := ()
def PySem.W.Fast.tw3450863201676503171 : Unit := ()
def PySem.W.Fast.tw13408384079343891395 : Unit := ()
def PySem.W.Fast.tw2956189825033150427 : Unit := ()
def PySem.W.Fast.tw2229914081763641387 : Unit := ()
def PySem.W.Fast.tw17382058633335815079 : Unit := ()
def PySem.W.Fast.tw12568235153981897105 : Unit := ()
def PySem.W.Fast.tw16298454057150680590 : Unit := ()
def PySem.W.Fast.tw3032911819548166516 : Unit := ()
def PySem.W.Fast.tw13909300651824788745 : Unit := ()
def PySem.W.Fast.tw5848923703195605780 : Unit := ()
def PySem.W.Fast.tw17863342825692403994 : Unit := ()
def PySem.W.Fast.tw1735402924108375816 : Unit := ()
def PySem.W.Fast.tw10026658060988790813 : Unit := ()
def PySem.W.Fast.tw11578726018035543895 : Unit := ()
def PySem.W.Fast.tw1673394528699283296 : Unit := ()
def PySem.W.Fast.tw14227623005408402816 : Unit := ()
def PySem.W.Fast.tw4571962797336624296 : Unit := ()
def PySem.W.Fast.tw9861390081093250592 : Unit := ()
def PySem.W.Fast.tw9856974277967296365 : Unit := ()
def PySem.W.Fast.tw16911352238915018007 : Unit := ()
def PySem.W.Fast.tw12700727512453966213 : Unit := ()
def PySem.W.Fast.tw6595319709861712065 : Unit := ()
def PySem.W.Fast.tw11915428835634142215 : Unit := ()
def PySem.W.Fast.tw6561672165763958020 : Unit := ()
def PySem.W.Fast.tw3732322618181300667 : Unit := ()
def PySem.W.Fast.tw13486646854191644701 : Unit := ()
def PySem.W.Fast.tw17253924223321748895 : Unit := ()
def PySem.W.Fast.tw4366145865622454416 : Unit := ()
def PySem.W.Fast.tw18128610948428205457 : Unit := ()
def PySem.W.Fast.tw858316006333430540 : Unit := ()
def PySem.W.Fast.tw13330292342436188386 : Unit := ()
def PySem.W.Fast.tw8101274531508303185 : Unit := ()
def PySem.W.Fast.tw1824876727619671153 : Unit := ()
def PySem.W.Fast.tw11190290096431994481 : Unit := ()
def PySem.W.Fast.tw16951070036644539089 : Unit := ()
def PySem.W.Fast.tw11303193262336470291 : Unit := ()
def PySem.W.Fast.tw6417356581478089850 : Unit := ()
def PySem.W.Fast.tw3505377834950143404 : Unit := ()
def PySem.W.Fast.tw17867099349180198478 : Unit := ()
def PySem.W.Fast.tw770738838212419274 : Unit := ()
def PySem.W.Fast.tw9904486923565248275 : Unit := ()
def PySem.W.Fast.tw10726777769611756560 : Unit := ()
def PySem.W.Fast.tw11807627594108646670 : Unit := ()
def PySem.W.Fast.tw574023627352592272 : Unit := ()
def PySem.W.Fast.tw1507316512091525787 : Unit := ()
def PySem.W.Fast.tw6626662347778609962 : Unit := ()
def PySem.W.Fast.tw7819950564421390914 : Unit := ()
def PySem.W.Fast.tw14103191227423154259 : Unit := ()
def PySem.W.Fast.tw899977882713560505 : Unit := ()
def PySem.W.Fast.tw5736306726137483338 : Unit := ()
def PySem.W.Fast.tw5249190270132834859 : Unit := ()
def PySem.W.Fast.tw14166909889272689776 : Unit := ()
def PySem.W.Fast.tw10426201601070758147 : Unit := ()
def PySem.W.Fast.tw6204176483106402508 : Unit := ()
def PySem.W.Fast.tw6195823694979035796 : Unit := ()
def PySem.W.Fast.tw15542318152724279300 : Unit := ()
def PySem.W.Fast.tw14243186448164161913 : Unit := ()
def PySem.W.Fast.tw8271095915479681169 : Unit := ()
def PySem.W.Fast.tw11909839150046707489 : Unit := ()
def PySem.W.Fast.tw7267575016340623595 : Unit := ()
def PySem.W.Fast.tw14636739157437073998 : Unit := ()
def PySem.W.Fast.tw10384726083179257635 : Unit := ()
def PySem.W.Fast.tw14368529060132896248 : Unit := ()
def PySem.W.Fast.tw1776193583015170707 : Unit := ()
def PySem.W.Fast.tw3273014930871424249 : Unit := ()
def PySem.W.Fast.tw6053858405487192375 : Unit := ()
def PySem.W.Fast.tw6255804920174539555 : Unit := ()
def PySem.W.Fast.tw319410097749751792 : Unit := ()
def PySem.W.Fast.tw5793683745569552568 : Unit := ()
def PySem.W.Fast.tw7890002678604074842 : Unit := ()
def PySem.W.Fast.tw12562461960719678974 : Unit := ()
def PySem.W.Fast.tw318816399640245993 : Unit := ()
def PySem.W.Fast.tw7744162705417422633 : Unit := ()
def PySem.W.Fast.tw15331615214890935166 : Unit := ()
def PySem.W.Fast.tw17974644022323194060 : Unit := ()
def PySem.W.Fast.tw16437419614751574986 : Unit := ()
def PySem.W.Fast.tw17398838203665321796 : Unit := ()
def PySem.W.Fast.tw4570769692757433810 : Unit := ()
def PySem.W.Fast.tw7654056145521465384 : Unit := ()
def PySem.W.Fast.tw6845037318483087902 : Unit := ()
def PySem.W.Fast.tw18061653523649696089 : Unit := ()
def PySem.W.Fast.tw14659893020196836145 : Unit := ()
def PySem.W.Fast.tw10980645669468686876 : Unit := ()
def PySem.W.Fast.tw12135078296892895 : Unit := ()
namespace R
open PySem L2 PyProof.Rows
section
variable {l : PySem.W.OpenLaw} {w : World} {K : PySem.W.Frag} {h : Heap} {mg : Str → Option Value}
set_option maxHeartbeats 0 in
theorem bm2 {fa f0 f1 f2 f3 f4 f5 f6 f7 f8 f9 f10 f11 f12 f13 f14 f15 f16 f17 f18 f19 f20 f21 f22 f23 f24 f25 f26 f27 f28 f29 f30 f31 f32 f33 : Addr} {C_NoFraction C_NoPolynomial C_RestError : Addr} {od0 an0 : Option Addr} {sl0 : Array (Option Value)} {oc0 kV0 dc0 pm0 cd0 ct0 : Value} {od1 an1 : Option Addr} {sl1 : Array (Option Value)} {oc1 kV1 dc1 pm1 cd1 ct1 : Value} {od2 an2 : Option Addr} {sl2 : Array (Option Value)} {oc2 kV2 dc2 pm2 cd2 ct2 : Value} {od3 an3 : Option Addr} {sl3 : Array (Option Value)} {oc3 kV3 dc3 pm3 cd3 ct3 : Value} {od4 an4 : Option Addr} {sl4 : Array (Option Value)} {oc4 kV4 dc4 pm4 cd4 ct4 : Value} {od5 an5 : Option Addr} {sl5 : Array (Option Value)} {oc5 kV5 dc5 pm5 cd5 ct5 : Value} {od6 an6 : Option Addr} {sl6 : Array (Option Value)} {oc6 kV6 dc6 pm6 cd6 ct6 : Value} {od7 an7 : Option Addr} {sl7 : Array (Option Value)} {oc7 kV7 dc7 pm7 cd7 ct7 : Value} {od8 an8 : Option Addr} {sl8 : Array (Option Value)} {oc8 kV8 dc8 pm8 cd8 ct8 : Value} {od9 an9 : Option Addr} {sl9 : Array (Option Value)} {oc9 kV9 dc9 pm9 cd9 ct9 : Value} {od10 an10 : Option Addr} {sl10 : Array (Option Value)} {oc10 kV10 dc10 pm10 cd10 ct10 : Value} {od11 an11 : Option Addr} {sl11 : Array (Option Value)} {oc11 kV11 dc11 pm11 cd11 ct11 : Value} {od12 an12 : Option Addr} {sl12 : Array (Option Value)} {oc12 kV12 dc12 pm12 cd12 ct12 : Value} {od13 an13 : Option Addr} {sl13 : Array (Option Value)} {oc13 kV13 dc13 pm13 cd13 ct13 : Value} {od14 an14 : Option Addr} {sl14 : Array (Option Value)} {oc14 kV14 dc14 pm14 cd14 ct14 : Value} {od15 an15 : Option Addr} {sl15 : Array (Option Value)} {oc15 kV15 dc15 pm15 cd15 ct15 : Value} {od16 an16 : Option Addr} {sl16 : Array (Option Value)} {oc16 kV16 dc16 pm16 cd16 ct16 : Value} {od17 an17 : Option Addr} {sl17 : Array (Option Value)} {oc17 kV17 dc17 pm17 cd17 ct17 : Value} {od18 an18 : Option Addr} {sl18 : Array (Option Value)} {oc18 kV18 dc18 pm18 cd18 ct18 : Value} {od19 an19 : Option Addr} {sl19 : Array (Option Value)} {oc19 kV19 dc19 pm19 cd19 ct19 : Value} {od20 an20 : Option Addr} {sl20 : Array (Option Value)} {oc20 kV20 dc20 pm20 cd20 ct20 : Value} {od21 an21 : Option Addr} {sl21 : Array (Option Value)} {oc21 kV21 dc21 pm21 cd21 ct21 : Value} {od22 an22 : Option Addr} {sl22 : Array (Option Value)} {oc22 kV22 dc22 pm22 cd22 ct22 : Value} {od23 an23 : Option Addr} {sl23 : Array (Option Value)} {oc23 kV23 dc23 pm23 cd23 ct23 : Value} {od24 an24 : Option Addr} {sl24 : Array (Option Value)} {oc24 kV24 dc24 pm24 cd24 ct24 : Value} {od25 an25 : Option Addr} {sl25 : Array (Option Value)} {oc25 kV25 dc25 pm25 cd25 ct25 : Value} {od26 an26 : Option Addr} {sl26 : Array (Option Value)} {oc26 kV26 dc26 pm26 cd26 ct26 : Value} {od27 an27 : Option Addr} {sl27 : Array (Option Value)} {oc27 kV27 dc27 pm27 cd27 ct27 : Value} {od28 an28 : Option Addr} {sl28 : Array (Option Value)} {oc28 kV28 dc28 pm28 cd28 ct28 : Value} {od29 an29 : Option Addr} {sl29 : Array (Option Value)} {oc29 kV29 dc29 pm29 cd29 ct29 : Value} {od30 an30 : Option Addr} {sl30 : Array (Option Value)} {oc30 kV30 dc30 pm30 cd30 ct30 : Value} {od31 an31 : Option Addr} {sl31 : Array (Option Value)} {oc31 kV31 dc31 pm31 cd31 ct31 : Value} {od32 an32 : Option Addr} {sl32 : Array (Option Value)} {oc32 kV32 dc32 pm32 cd32 ct32 : Value} {od33 an33 : Option Addr} {sl33 : Array (Option Value)} {oc33 kV33 dc33 pm33 cd33 ct33 : Value} {t_SHORT : Tok} {A_NOUGHT : Addr} {td_NOUGHT : Option Addr} {ts_NOUGHT : Array (Option Value)} {tn_NOUGHT : Nat} {tt0_NOUGHT tt1_NOUGHT : Tok} {A_ONE : Addr} {td_ONE : Option Addr} {ts_ONE : Array (Option Value)} {tn_ONE : Nat} {tt0_ONE tt1_ONE : Tok}
    (X : K.In h) (G : h.Ns mainGlobals mg) (hfa : mg "law" = some (.ref fa))
    (a0 : PySem.W.nsIn K mainGlobals "_law_low" = some (some (.ref f0)))
    (l0 : K.lookup f0 = some ⟨oc0, od0, .func (PySem.W.fnOf "_law_low" "_law_low" (m6 M0) (j6 M0) (d7 M0) .none kV0 dc0 pm0 an0 cd0 ct0), sl0⟩)
    (c0 : PySem.W.codeIn K cd0 "_law_low" = true) (k0 : PySem.W.keepIn K (.ref f0) = true)
    (a1 : PySem.W.nsIn K mainGlobals "_law_urn" = some (some (.ref f1)))
    (l1 : K.lookup f1 = some ⟨oc1, od1, .func (PySem.W.fnOf "_law_urn" "_law_urn" (m6 L9) (j6 L9) (d7 L9) .none kV1 dc1 pm1 an1 cd1 ct1), sl1⟩)
    (c1 : PySem.W.codeIn K cd1 "_law_urn" = true) (k1 : PySem.W.keepIn K (.ref f1) = true)
    (a2 : PySem.W.nsIn K mainGlobals "_law_draw" = some (some (.ref f2)))
    (l2 : K.lookup f2 = some ⟨oc2, od2, .func (PySem.W.fnOf "_law_draw" "_law_draw" (m6 K0) (j6 K0) (d7 K0) .none kV2 dc2 pm2 an2 cd2 ct2), sl2⟩)
    (c2 : PySem.W.codeIn K cd2 "_law_draw" = true) (k2 : PySem.W.keepIn K (.ref f2) = true)
    (a3 : PySem.W.nsIn K mainGlobals "_law_number" = some (some (.ref f3)))
    (l3 : K.lookup f3 = some ⟨oc3, od3, .func (PySem.W.fnOf "_law_number" "_law_number" (m6 E8) (j6 E8) (d7 E8) .none kV3 dc3 pm3 an3 cd3 ct3), sl3⟩)
    (c3 : PySem.W.codeIn K cd3 "_law_number" = true) (k3 : PySem.W.keepIn K (.ref f3) = true)
    (a4 : PySem.W.nsIn K mainGlobals "_law_other" = some (some (.ref f4)))
    (l4 : K.lookup f4 = some ⟨oc4, od4, .func (PySem.W.fnOf "_law_other" "_law_other" (m6 G9) (j6 G9) (d7 G9) .none kV4 dc4 pm4 an4 cd4 ct4), sl4⟩)
    (c4 : PySem.W.codeIn K cd4 "_law_other" = true) (k4 : PySem.W.keepIn K (.ref f4) = true)
    (a5 : PySem.W.nsIn K mainGlobals "_law_trim" = some (some (.ref f5)))
    (l5 : K.lookup f5 = some ⟨oc5, od5, .func (PySem.W.fnOf "_law_trim" "_law_trim" (m6 J7) (j6 J7) (d7 J7) .none kV5 dc5 pm5 an5 cd5 ct5), sl5⟩)
    (c5 : PySem.W.codeIn K cd5 "_law_trim" = true) (k5 : PySem.W.keepIn K (.ref f5) = true)
    (a6 : PySem.W.nsIn K mainGlobals "_law_above" = some (some (.ref f6)))
    (l6 : K.lookup f6 = some ⟨oc6, od6, .func (PySem.W.fnOf "_law_above" "_law_above" (m6 I0) (j6 I0) (d7 I0) .none kV6 dc6 pm6 an6 cd6 ct6), sl6⟩)
    (c6 : PySem.W.codeIn K cd6 "_law_above" = true) (k6 : PySem.W.keepIn K (.ref f6) = true)
    (a7 : PySem.W.nsIn K mainGlobals "_law_plus" = some (some (.ref f7)))
    (l7 : K.lookup f7 = some ⟨oc7, od7, .func (PySem.W.fnOf "_law_plus" "_law_plus" (m6 J9) (j6 J9) (d7 J9) .none kV7 dc7 pm7 an7 cd7 ct7), sl7⟩)
    (c7 : PySem.W.codeIn K cd7 "_law_plus" = true) (k7 : PySem.W.keepIn K (.ref f7) = true)
    (a8 : PySem.W.nsIn K mainGlobals "_law_times" = some (some (.ref f8)))
    (l8 : K.lookup f8 = some ⟨oc8, od8, .func (PySem.W.fnOf "_law_times" "_law_times" (m6 G8) (j6 G8) (d7 G8) .none kV8 dc8 pm8 an8 cd8 ct8), sl8⟩)
    (c8 : PySem.W.codeIn K cd8 "_law_times" = true) (k8 : PySem.W.keepIn K (.ref f8) = true)
    (a9 : PySem.W.nsIn K mainGlobals "_law_poly_plus" = some (some (.ref f9)))
    (l9 : K.lookup f9 = some ⟨oc9, od9, .func (PySem.W.fnOf "_law_poly_plus" "_law_poly_plus" (m6 C3) (j6 C3) (d7 C3) .none kV9 dc9 pm9 an9 cd9 ct9), sl9⟩)
    (c9 : PySem.W.codeIn K cd9 "_law_poly_plus" = true) (k9 : PySem.W.keepIn K (.ref f9) = true)
    (a10 : PySem.W.nsIn K mainGlobals "_law_poly_times" = some (some (.ref f10)))
    (l10 : K.lookup f10 = some ⟨oc10, od10, .func (PySem.W.fnOf "_law_poly_times" "_law_poly_times" (m6 B5) (j6 B5) (d7 B5) .none kV10 dc10 pm10 an10 cd10 ct10), sl10⟩)
    (c10 : PySem.W.codeIn K cd10 "_law_poly_times" = true) (k10 : PySem.W.keepIn K (.ref f10) = true)
    (a11 : PySem.W.nsIn K mainGlobals "with_lead" = some (some (.ref f11)))
    (l11 : K.lookup f11 = some ⟨oc11, od11, .func (PySem.W.fnOf "with_lead" "with_lead" (m6 G5) (j6 G5) (d7 G5) .none kV11 dc11 pm11 an11 cd11 ct11), sl11⟩)
    (c11 : PySem.W.codeIn K cd11 "with_lead" = true) (k11 : PySem.W.keepIn K (.ref f11) = true)
    (a12 : PySem.W.nsIn K mainGlobals "cleaned" = some (some (.ref f12)))
    (l12 : K.lookup f12 = some ⟨oc12, od12, .func (PySem.W.fnOf "cleaned" "cleaned" (m6 M7) (j6 M7) (d7 M7) .none kV12 dc12 pm12 an12 cd12 ct12), sl12⟩)
    (c12 : PySem.W.codeIn K cd12 "cleaned" = true) (k12 : PySem.W.keepIn K (.ref f12) = true)
    (a13 : PySem.W.nsIn K mainGlobals "eliminated" = some (some (.ref f13)))
    (l13 : K.lookup f13 = some ⟨oc13, od13, .func (PySem.W.fnOf "eliminated" "eliminated" (m6 E4) (j6 E4) (d7 E4) .none kV13 dc13 pm13 an13 cd13 ct13), sl13⟩)
    (c13 : PySem.W.codeIn K cd13 "eliminated" = true) (k13 : PySem.W.keepIn K (.ref f13) = true)
    (a14 : PySem.W.nsIn K mainGlobals "common_divisor" = some (some (.ref f14)))
    (l14 : K.lookup f14 = some ⟨oc14, od14, .func (PySem.W.fnOf "common_divisor" "common_divisor" (m6 C2) (j6 C2) (d7 C2) .none kV14 dc14 pm14 an14 cd14 ct14), sl14⟩)
    (c14 : PySem.W.codeIn K cd14 "common_divisor" = true) (k14 : PySem.W.keepIn K (.ref f14) = true)
    (a15 : PySem.W.nsIn K mainGlobals "fraction" = some (some (.ref f15)))
    (l15 : K.lookup f15 = some ⟨oc15, od15, .func (PySem.W.fnOf "fraction" "fraction" (m6 L7) (j6 L7) (d7 L7) .none kV15 dc15 pm15 an15 cd15 ct15), sl15⟩)
    (c15 : PySem.W.codeIn K cd15 "fraction" = true) (k15 : PySem.W.keepIn K (.ref f15) = true)
    (a16 : PySem.W.nsIn K mainGlobals "content_of" = some (some (.ref f16)))
    (l16 : K.lookup f16 = some ⟨oc16, od16, .func (PySem.W.fnOf "content_of" "content_of" (m6 G7) (j6 G7) (d7 G7) .none kV16 dc16 pm16 an16 cd16 ct16), sl16⟩)
    (c16 : PySem.W.codeIn K cd16 "content_of" = true) (k16 : PySem.W.keepIn K (.ref f16) = true)
    (a17 : PySem.W.nsIn K mainGlobals "cleared" = some (some (.ref f17)))
    (l17 : K.lookup f17 = some ⟨oc17, od17, .func (PySem.W.fnOf "cleared" "cleared" (m6 M6) (j6 M6) (d7 M6) .none kV17 dc17 pm17 an17 cd17 ct17), sl17⟩)
    (c17 : PySem.W.codeIn K cd17 "cleared" = true) (k17 : PySem.W.keepIn K (.ref f17) = true)
    (a18 : PySem.W.nsIn K mainGlobals "determinant" = some (some (.ref f18)))
    (l18 : K.lookup f18 = some ⟨oc18, od18, .func (PySem.W.fnOf "determinant" "determinant" (m6 E7) (j6 E7) (d7 E7) .none kV18 dc18 pm18 an18 cd18 ct18), sl18⟩)
    (c18 : PySem.W.codeIn K cd18 "determinant" = true) (k18 : PySem.W.keepIn K (.ref f18) = true)
    (a19 : PySem.W.nsIn K mainGlobals "number_at" = some (some (.ref f19)))
    (l19 : K.lookup f19 = some ⟨oc19, od19, .func (PySem.W.fnOf "number_at" "number_at" (m6 J6) (j6 J6) (d7 J6) .none kV19 dc19 pm19 an19 cd19 ct19), sl19⟩)
    (c19 : PySem.W.codeIn K cd19 "number_at" = true) (k19 : PySem.W.keepIn K (.ref f19) = true)
    (a20 : PySem.W.nsIn K mainGlobals "steep" = some (some (.ref f20)))
    (l20 : K.lookup f20 = some ⟨oc20, od20, .func (PySem.W.fnOf "steep" "steep" (m6 T5) (j6 T5) (d7 T5) .none kV20 dc20 pm20 an20 cd20 ct20), sl20⟩)
    (c20 : PySem.W.codeIn K cd20 "steep" = true) (k20 : PySem.W.keepIn K (.ref f20) = true)
    (a21 : PySem.W.nsIn K mainGlobals "leads" = some (some (.ref f21)))
    (l21 : K.lookup f21 = some ⟨oc21, od21, .func (PySem.W.fnOf "leads" "leads" (m6 T6) (j6 T6) (d7 T6) .none kV21 dc21 pm21 an21 cd21 ct21), sl21⟩)
    (c21 : PySem.W.codeIn K cd21 "leads" = true) (k21 : PySem.W.keepIn K (.ref f21) = true)
    (a22 : PySem.W.nsIn K mainGlobals "_law_sign" = some (some (.ref f22)))
    (l22 : K.lookup f22 = some ⟨oc22, od22, .func (PySem.W.fnOf "_law_sign" "_law_sign" (m6 J8) (j6 J8) (d7 J8) .none kV22 dc22 pm22 an22 cd22 ct22), sl22⟩)
    (c22 : PySem.W.codeIn K cd22 "_law_sign" = true) (k22 : PySem.W.keepIn K (.ref f22) = true)
    (a23 : PySem.W.nsIn K mainGlobals "_law_factor" = some (some (.ref f23)))
    (l23 : K.lookup f23 = some ⟨oc23, od23, .func (PySem.W.fnOf "_law_factor" "_law_factor" (m6 F7) (j6 F7) (d7 F7) .none kV23 dc23 pm23 an23 cd23 ct23), sl23⟩)
    (c23 : PySem.W.codeIn K cd23 "_law_factor" = true) (k23 : PySem.W.keepIn K (.ref f23) = true)
    (a24 : PySem.W.nsIn K mainGlobals "_law_folded" = some (some (.ref f24)))
    (l24 : K.lookup f24 = some ⟨oc24, od24, .func (PySem.W.fnOf "_law_folded" "_law_folded" (m6 E9) (j6 E9) (d7 E9) .none kV24 dc24 pm24 an24 cd24 ct24), sl24⟩)
    (c24 : PySem.W.codeIn K cd24 "_law_folded" = true) (k24 : PySem.W.keepIn K (.ref f24) = true)
    (a25 : PySem.W.nsIn K mainGlobals "_law_rooted" = some (some (.ref f25)))
    (l25 : K.lookup f25 = some ⟨oc25, od25, .func (PySem.W.fnOf "_law_rooted" "_law_rooted" (m6 D5) (j6 D5) (d7 D5) .none kV25 dc25 pm25 an25 cd25 ct25), sl25⟩)
    (c25 : PySem.W.codeIn K cd25 "_law_rooted" = true) (k25 : PySem.W.keepIn K (.ref f25) = true)
    (a26 : PySem.W.nsIn K mainGlobals "lifted" = some (some (.ref f26)))
    (l26 : K.lookup f26 = some ⟨oc26, od26, .func (PySem.W.fnOf "lifted" "lifted" (m6 N8) (j6 N8) (d7 N8) .none kV26 dc26 pm26 an26 cd26 ct26), sl26⟩)
    (c26 : PySem.W.codeIn K cd26 "lifted" = true) (k26 : PySem.W.keepIn K (.ref f26) = true)
    (a27 : PySem.W.nsIn K mainGlobals "row_behind" = some (some (.ref f27)))
    (l27 : K.lookup f27 = some ⟨oc27, od27, .func (PySem.W.fnOf "row_behind" "row_behind" (m6 E3) (j6 E3) (d7 E3) .none kV27 dc27 pm27 an27 cd27 ct27), sl27⟩)
    (c27 : PySem.W.codeIn K cd27 "row_behind" = true) (k27 : PySem.W.keepIn K (.ref f27) = true)
    (a28 : PySem.W.nsIn K mainGlobals "whole_dies" = some (some (.ref f28)))
    (l28 : K.lookup f28 = some ⟨oc28, od28, .func (PySem.W.fnOf "whole_dies" "whole_dies" (m6 E1) (j6 E1) (d7 E1) .none kV28 dc28 pm28 an28 cd28 ct28), sl28⟩)
    (c28 : PySem.W.codeIn K cd28 "whole_dies" = true) (k28 : PySem.W.keepIn K (.ref f28) = true)
    (a29 : PySem.W.nsIn K mainGlobals "dies" = some (some (.ref f29)))
    (l29 : K.lookup f29 = some ⟨oc29, od29, .func (PySem.W.fnOf "dies" "dies" (m6 af4) (j6 af4) (d7 af4) .none kV29 dc29 pm29 an29 cd29 ct29), sl29⟩)
    (c29 : PySem.W.codeIn K cd29 "dies" = true) (k29 : PySem.W.keepIn K (.ref f29) = true)
    (a30 : PySem.W.nsIn K mainGlobals "_law_poly_often" = some (some (.ref f30)))
    (l30 : K.lookup f30 = some ⟨oc30, od30, .func (PySem.W.fnOf "_law_poly_often" "_law_poly_often" (m6 w5) (j6 w5) (d7 w5) .none kV30 dc30 pm30 an30 cd30 ct30), sl30⟩)
    (c30 : PySem.W.codeIn K cd30 "_law_poly_often" = true) (k30 : PySem.W.keepIn K (.ref f30) = true)
    (a31 : PySem.W.nsIn K mainGlobals "_law_of_factors_right" = some (some (.ref f31)))
    (l31 : K.lookup f31 = some ⟨oc31, od31, .func (PySem.W.fnOf "_law_of_factors_right" "_law_of_factors_right" (m6 o0) (j6 o0) (d7 o0) .none kV31 dc31 pm31 an31 cd31 ct31), sl31⟩)
    (c31 : PySem.W.codeIn K cd31 "_law_of_factors_right" = true) (k31 : PySem.W.keepIn K (.ref f31) = true)
    (a32 : PySem.W.nsIn K mainGlobals "_law_of_parts_right" = some (some (.ref f32)))
    (l32 : K.lookup f32 = some ⟨oc32, od32, .func (PySem.W.fnOf "_law_of_parts_right" "_law_of_parts_right" (m6 j7) (j6 j7) (d7 j7) .none kV32 dc32 pm32 an32 cd32 ct32), sl32⟩)
    (c32 : PySem.W.codeIn K cd32 "_law_of_parts_right" = true) (k32 : PySem.W.keepIn K (.ref f32) = true)
    (a33 : PySem.W.nsIn K mainGlobals "law" = some (some (.ref f33)))
    (l33 : K.lookup f33 = some ⟨oc33, od33, .func (PySem.W.fnOf "law" "law" (m6 ae7) (j6 ae7) (d7 ae7) .none kV33 dc33 pm33 an33 cd33 ct33), sl33⟩)
    (c33 : PySem.W.codeIn K cd33 "law" = true) (k33 : PySem.W.keepIn K (.ref f33) = true)
    (z_abs : PySem.W.nsIn K mainGlobals "abs" = some none)
    (z_all : PySem.W.nsIn K mainGlobals "all" = some none)
    (z_bool : PySem.W.nsIn K mainGlobals "bool" = some none)
    (z_enumerate : PySem.W.nsIn K mainGlobals "enumerate" = some none)
    (z_int : PySem.W.nsIn K mainGlobals "int" = some none)
    (z_isinstance : PySem.W.nsIn K mainGlobals "isinstance" = some none)
    (z_len : PySem.W.nsIn K mainGlobals "len" = some none)
    (z_list : PySem.W.nsIn K mainGlobals "list" = some none)
    (z_max : PySem.W.nsIn K mainGlobals "max" = some none)
    (z_min : PySem.W.nsIn K mainGlobals "min" = some none)
    (z_range : PySem.W.nsIn K mainGlobals "range" = some none)
    (z_reversed : PySem.W.nsIn K mainGlobals "reversed" = some none)
    (z_tuple : PySem.W.nsIn K mainGlobals "tuple" = some none)
    (z_zip : PySem.W.nsIn K mainGlobals "zip" = some none)
    (y_SHORT : PySem.W.nsIn K mainGlobals "SHORT" = some (some (.int 6000 t_SHORT)))
    (y_NOUGHT : PySem.W.nsIn K mainGlobals "NOUGHT" = some (some (.ref A_NOUGHT)))
    (u_NOUGHT : K.lookup A_NOUGHT = some ⟨.type "tuple", td_NOUGHT, .seq #[.int 0 tt0_NOUGHT, .int 1 tt1_NOUGHT] tn_NOUGHT, ts_NOUGHT⟩)
    (y_ONE : PySem.W.nsIn K mainGlobals "ONE" = some (some (.ref A_ONE)))
    (u_ONE : K.lookup A_ONE = some ⟨.type "tuple", td_ONE, .seq #[.int 1 tt0_ONE, .int 1 tt1_ONE] tn_ONE, ts_ONE⟩)
    (m_NoFraction : PySem.W.nsIn K mainGlobals "NoFraction" = some (some (.ref C_NoFraction)))
    (x_NoFraction : PySem.W.excIn K C_NoFraction [.type "ValueError", .type "Exception", .type "BaseException", .type "object"] "ValueError.__new__" = true)
    (e_NoFraction : ag0 K C_NoFraction)
    (m_NoPolynomial : PySem.W.nsIn K mainGlobals "NoPolynomial" = some (some (.ref C_NoPolynomial)))
    (x_NoPolynomial : PySem.W.excIn K C_NoPolynomial [.type "ValueError", .type "Exception", .type "BaseException", .type "object"] "ValueError.__new__" = true)
    (e_NoPolynomial : ag0 K C_NoPolynomial)
    (m_RestError : PySem.W.nsIn K mainGlobals "RestError" = some (some (.ref C_RestError)))
    (x_RestError : PySem.W.excIn K C_RestError [.type "ValueError", .type "Exception", .type "BaseException", .type "object"] "ValueError.__new__" = true)
    (e_RestError : ag0 K C_RestError) :
    ∃ fd : FuncData, (∀ (s : Shared) (v : Value), BindsTo s fd ⟨[v], []⟩ [("_law_script", v)]) ∧ ∀ base : Heap, K.In base → base.Ns mainGlobals mg → Y6 l.prog w K mg base CX0 (7 + 1) fa fd ["_law_script"] (aL3 K) := by
  have e := hfa.symm.trans (PySem.W.mg_of X G a33)
  cases e
  have F__law_low := v9 (st := M0) l0 c0 k0
  have b__law_low := F__law_low.binds (ps := ["_law_top", "_law_bottom"]) fun _ _ _ _ _ _ us hl => match us, hl with | [_, _], _ => rfl
  have d__law_low : Df K mg "_law_low" M0 ["_law_top", "_law_bottom"] f0 := ⟨⟨_, F__law_low, b__law_low⟩, PySem.W.mg_of X G a0⟩
  have F__law_urn := v9 (st := L9) l1 c1 k1
  have b__law_urn := F__law_urn.binds (ps := ["_law_script", "_law_at"]) fun _ _ _ _ _ _ us hl => match us, hl with | [_, _], _ => rfl
  have d__law_urn : Df K mg "_law_urn" L9 ["_law_script", "_law_at"] f1 := ⟨⟨_, F__law_urn, b__law_urn⟩, PySem.W.mg_of X G a1⟩
  have F__law_draw := v9 (st := K0) l2 c2 k2
  have b__law_draw := F__law_draw.binds (ps := ["_law_urn_here", "_law_many"]) fun _ _ _ _ _ _ us hl => match us, hl with | [_, _], _ => rfl
  have d__law_draw : Df K mg "_law_draw" K0 ["_law_urn_here", "_law_many"] f2 := ⟨⟨_, F__law_draw, b__law_draw⟩, PySem.W.mg_of X G a2⟩
  have F__law_number := v9 (st := E8) l3 c3 k3
  have b__law_number := F__law_number.binds (ps := ["_law_urn_here", "_law_kind"]) fun _ _ _ _ _ _ us hl => match us, hl with | [_, _], _ => rfl
  have d__law_number : Df K mg "_law_number" E8 ["_law_urn_here", "_law_kind"] f3 := ⟨⟨_, F__law_number, b__law_number⟩, PySem.W.mg_of X G a3⟩
  have F__law_other := v9 (st := G9) l4 c4 k4
  have b__law_other := F__law_other.binds (ps := ["_law_urn_here", "_law_kind"]) fun _ _ _ _ _ _ us hl => match us, hl with | [_, _], _ => rfl
  have d__law_other : Df K mg "_law_other" G9 ["_law_urn_here", "_law_kind"] f4 := ⟨⟨_, F__law_other, b__law_other⟩, PySem.W.mg_of X G a4⟩
  have F__law_trim := v9 (st := J7) l5 c5 k5
  have b__law_trim := F__law_trim.binds (ps := ["_law_numbers"]) fun _ _ _ _ _ _ us hl => match us, hl with | [_], _ => rfl
  have d__law_trim : Df K mg "_law_trim" J7 ["_law_numbers"] f5 := ⟨⟨_, F__law_trim, b__law_trim⟩, PySem.W.mg_of X G a5⟩
  have F__law_above := v9 (st := I0) l6 c6 k6
  have b__law_above := F__law_above.binds (ps := ["_law_urn_here", "_law_kind"]) fun _ _ _ _ _ _ us hl => match us, hl with | [_, _], _ => rfl
  have d__law_above : Df K mg "_law_above" I0 ["_law_urn_here", "_law_kind"] f6 := ⟨⟨_, F__law_above, b__law_above⟩, PySem.W.mg_of X G a6⟩
  have F__law_plus := v9 (st := J9) l7 c7 k7
  have b__law_plus := F__law_plus.binds (ps := ["_law_one", "_law_other_here"]) fun _ _ _ _ _ _ us hl => match us, hl with | [_, _], _ => rfl
  have d__law_plus : Df K mg "_law_plus" J9 ["_law_one", "_law_other_here"] f7 := ⟨⟨_, F__law_plus, b__law_plus⟩, PySem.W.mg_of X G a7⟩
  have F__law_times := v9 (st := G8) l8 c8 k8
  have b__law_times := F__law_times.binds (ps := ["_law_one", "_law_other_here"]) fun _ _ _ _ _ _ us hl => match us, hl with | [_, _], _ => rfl
  have d__law_times : Df K mg "_law_times" G8 ["_law_one", "_law_other_here"] f8 := ⟨⟨_, F__law_times, b__law_times⟩, PySem.W.mg_of X G a8⟩
  have F__law_poly_plus := v9 (st := C3) l9 c9 k9
  have b__law_poly_plus := F__law_poly_plus.binds (ps := ["_law_p", "_law_q"]) fun _ _ _ _ _ _ us hl => match us, hl with | [_, _], _ => rfl
  have d__law_poly_plus : Df K mg "_law_poly_plus" C3 ["_law_p", "_law_q"] f9 := ⟨⟨_, F__law_poly_plus, b__law_poly_plus⟩, PySem.W.mg_of X G a9⟩
  have F__law_poly_times := v9 (st := B5) l10 c10 k10
  have b__law_poly_times := F__law_poly_times.binds (ps := ["_law_p", "_law_q"]) fun _ _ _ _ _ _ us hl => match us, hl with | [_, _], _ => rfl
  have d__law_poly_times : Df K mg "_law_poly_times" B5 ["_law_p", "_law_q"] f10 := ⟨⟨_, F__law_poly_times, b__law_poly_times⟩, PySem.W.mg_of X G a10⟩
  have F_with_lead := v9 (st := G5) l11 c11 k11
  have b_with_lead := F_with_lead.binds (ps := ["rows", "at"]) fun _ _ _ _ _ _ us hl => match us, hl with | [_, _], _ => rfl
  have d_with_lead : Df K mg "with_lead" G5 ["rows", "at"] f11 := ⟨⟨_, F_with_lead, b_with_lead⟩, PySem.W.mg_of X G a11⟩
  have F_cleaned := v9 (st := M7) l12 c12 k12
  have b_cleaned := F_cleaned.binds (ps := ["row", "chosen", "at", "before"]) fun _ _ _ _ _ _ us hl => match us, hl with | [_, _, _, _], _ => rfl
  have d_cleaned : Df K mg "cleaned" M7 ["row", "chosen", "at", "before"] f12 := ⟨⟨_, F_cleaned, b_cleaned⟩, PySem.W.mg_of X G a12⟩
  have F_eliminated := v9 (st := E4) l13 c13 k13
  have b_eliminated := F_eliminated.binds (ps := ["rows"]) fun _ _ _ _ _ _ us hl => match us, hl with | [_], _ => rfl
  have d_eliminated : Df K mg "eliminated" E4 ["rows"] f13 := ⟨⟨_, F_eliminated, b_eliminated⟩, PySem.W.mg_of X G a13⟩
  have F_common_divisor := v9 (st := C2) l14 c14 k14
  have b_common_divisor := F_common_divisor.binds (ps := ["one", "other"]) fun _ _ _ _ _ _ us hl => match us, hl with | [_, _], _ => rfl
  have d_common_divisor : Df K mg "common_divisor" C2 ["one", "other"] f14 := ⟨⟨_, F_common_divisor, b_common_divisor⟩, PySem.W.mg_of X G a14⟩
  have F_fraction := v9 (st := L7) l15 c15 k15
  have b_fraction := F_fraction.binds (ps := ["top", "bottom"]) fun _ _ _ _ _ _ us hl => match us, hl with | [_, _], _ => rfl
  have d_fraction : Df K mg "fraction" L7 ["top", "bottom"] f15 := ⟨⟨_, F_fraction, b_fraction⟩, PySem.W.mg_of X G a15⟩
  have F_content_of := v9 (st := G7) l16 c16 k16
  have b_content_of := F_content_of.binds (ps := ["wholes"]) fun _ _ _ _ _ _ us hl => match us, hl with | [_], _ => rfl
  have d_content_of : Df K mg "content_of" G7 ["wholes"] f16 := ⟨⟨_, F_content_of, b_content_of⟩, PySem.W.mg_of X G a16⟩
  have F_cleared := v9 (st := M6) l17 c17 k17
  have b_cleared := F_cleared.binds (ps := ["numbers"]) fun _ _ _ _ _ _ us hl => match us, hl with | [_], _ => rfl
  have d_cleared : Df K mg "cleared" M6 ["numbers"] f17 := ⟨⟨_, F_cleared, b_cleared⟩, PySem.W.mg_of X G a17⟩
  have F_determinant := v9 (st := E7) l18 c18 k18
  have b_determinant := F_determinant.binds (ps := ["table"]) fun _ _ _ _ _ _ us hl => match us, hl with | [_], _ => rfl
  have d_determinant : Df K mg "determinant" E7 ["table"] f18 := ⟨⟨_, F_determinant, b_determinant⟩, PySem.W.mg_of X G a18⟩
  have F_number_at := v9 (st := J6) l19 c19 k19
  have b_number_at := F_number_at.binds (ps := ["p", "power"]) fun _ _ _ _ _ _ us hl => match us, hl with | [_, _], _ => rfl
  have d_number_at : Df K mg "number_at" J6 ["p", "power"] f19 := ⟨⟨_, F_number_at, b_number_at⟩, PySem.W.mg_of X G a19⟩
  have F_steep := v9 (st := T5) l20 c20 k20
  have b_steep := F_steep.binds (ps := ["p"]) fun _ _ _ _ _ _ us hl => match us, hl with | [_], _ => rfl
  have d_steep : Df K mg "steep" T5 ["p"] f20 := ⟨⟨_, F_steep, b_steep⟩, PySem.W.mg_of X G a20⟩
  have F_leads := v9 (st := T6) l21 c21 k21
  have b_leads := F_leads.binds (ps := ["table"]) fun _ _ _ _ _ _ us hl => match us, hl with | [_], _ => rfl
  have d_leads : Df K mg "leads" T6 ["table"] f21 := ⟨⟨_, F_leads, b_leads⟩, PySem.W.mg_of X G a21⟩
  have F__law_sign := v9 (st := J8) l22 c22 k22
  have b__law_sign := F__law_sign.binds (ps := ["_law_number_here"]) fun _ _ _ _ _ _ us hl => match us, hl with | [_], _ => rfl
  have d__law_sign : Df K mg "_law_sign" J8 ["_law_number_here"] f22 := ⟨⟨_, F__law_sign, b__law_sign⟩, PySem.W.mg_of X G a22⟩
  have F__law_factor := v9 (st := F7) l23 c23 k23
  have b__law_factor := F__law_factor.binds (ps := ["_law_urn_here", "_law_kind"]) fun _ _ _ _ _ _ us hl => match us, hl with | [_, _], _ => rfl
  have d__law_factor : Df K mg "_law_factor" F7 ["_law_urn_here", "_law_kind"] f23 := ⟨⟨_, F__law_factor, b__law_factor⟩, PySem.W.mg_of X G a23⟩
  have F__law_folded := v9 (st := E9) l24 c24 k24
  have b__law_folded := F__law_folded.binds (ps := ["_law_quotients", "_law_last"]) fun _ _ _ _ _ _ us hl => match us, hl with | [_, _], _ => rfl
  have d__law_folded : Df K mg "_law_folded" E9 ["_law_quotients", "_law_last"] f24 := ⟨⟨_, F__law_folded, b__law_folded⟩, PySem.W.mg_of X G a24⟩
  have F__law_rooted := v9 (st := D5) l25 c25 k25
  have b__law_rooted := F__law_rooted.binds (ps := ["_law_urn_here", "_law_kind", "_law_most"]) fun _ _ _ _ _ _ us hl => match us, hl with | [_, _, _], _ => rfl
  have d__law_rooted : Df K mg "_law_rooted" D5 ["_law_urn_here", "_law_kind", "_law_most"] f25 := ⟨⟨_, F__law_rooted, b__law_rooted⟩, PySem.W.mg_of X G a25⟩
  have F_lifted := v9 (st := N8) l26 c26 k26
  have b_lifted := F_lifted.binds (ps := ["p"]) fun _ _ _ _ _ _ us hl => match us, hl with | [_], _ => rfl
  have d_lifted : Df K mg "lifted" N8 ["p"] f26 := ⟨⟨_, F_lifted, b_lifted⟩, PySem.W.mg_of X G a26⟩
  have F_row_behind := v9 (st := E3) l27 c27 k27
  have b_row_behind := F_row_behind.binds (ps := ["row", "further", "divisor"]) fun _ _ _ _ _ _ us hl => match us, hl with | [_, _, _], _ => rfl
  have d_row_behind : Df K mg "row_behind" E3 ["row", "further", "divisor"] f27 := ⟨⟨_, F_row_behind, b_row_behind⟩, PySem.W.mg_of X G a27⟩
  have F_whole_dies := v9 (st := E1) l28 c28 k28
  have b_whole_dies := F_whole_dies.binds (ps := ["wholes"]) fun _ _ _ _ _ _ us hl => match us, hl with | [_], _ => rfl
  have d_whole_dies : Df K mg "whole_dies" E1 ["wholes"] f28 := ⟨⟨_, F_whole_dies, b_whole_dies⟩, PySem.W.mg_of X G a28⟩
  have F_dies := v9 (st := af4) l29 c29 k29
  have b_dies := F_dies.binds (ps := ["p"]) fun _ _ _ _ _ _ us hl => match us, hl with | [_], _ => rfl
  have d_dies : Df K mg "dies" af4 ["p"] f29 := ⟨⟨_, F_dies, b_dies⟩, PySem.W.mg_of X G a29⟩
  have F__law_poly_often := v9 (st := w5) l30 c30 k30
  have b__law_poly_often := F__law_poly_often.binds (ps := ["_law_number_here", "_law_p"]) fun _ _ _ _ _ _ us hl => match us, hl with | [_, _], _ => rfl
  have d__law_poly_often : Df K mg "_law_poly_often" w5 ["_law_number_here", "_law_p"] f30 := ⟨⟨_, F__law_poly_often, b__law_poly_often⟩, PySem.W.mg_of X G a30⟩
  have F__law_of_factors_right := v9 (st := o0) l31 c31 k31
  have b__law_of_factors_right := F__law_of_factors_right.binds (ps := ["_law_urn_here"]) fun _ _ _ _ _ _ us hl => match us, hl with | [_], _ => rfl
  have d__law_of_factors_right : Df K mg "_law_of_factors_right" o0 ["_law_urn_here"] f31 := ⟨⟨_, F__law_of_factors_right, b__law_of_factors_right⟩, PySem.W.mg_of X G a31⟩
  have F__law_of_parts_right := v9 (st := j7) l32 c32 k32
  have b__law_of_parts_right := F__law_of_parts_right.binds (ps := ["_law_urn_here"]) fun _ _ _ _ _ _ us hl => match us, hl with | [_], _ => rfl
  have d__law_of_parts_right : Df K mg "_law_of_parts_right" j7 ["_law_urn_here"] f32 := ⟨⟨_, F__law_of_parts_right, b__law_of_parts_right⟩, PySem.W.mg_of X G a32⟩
  have F_law := v9 (st := ae7) l33 c33 k33
  have b_law := F_law.binds (ps := ["_law_script"]) fun _ _ _ _ _ _ us hl => match us, hl with | [_], _ => rfl
  have d_law : Df K mg "law" ae7 ["_law_script"] fa := ⟨⟨_, F_law, b_law⟩, PySem.W.mg_of X G a33⟩
  have n_abs := PySem.W.mg_none_of X G z_abs
  have n_all := PySem.W.mg_none_of X G z_all
  have n_bool := PySem.W.mg_none_of X G z_bool
  have n_enumerate := PySem.W.mg_none_of X G z_enumerate
  have n_int := PySem.W.mg_none_of X G z_int
  have n_isinstance := PySem.W.mg_none_of X G z_isinstance
  have n_len := PySem.W.mg_none_of X G z_len
  have n_list := PySem.W.mg_none_of X G z_list
  have n_max := PySem.W.mg_none_of X G z_max
  have n_min := PySem.W.mg_none_of X G z_min
  have n_range := PySem.W.mg_none_of X G z_range
  have n_reversed := PySem.W.mg_none_of X G z_reversed
  have n_tuple := PySem.W.mg_none_of X G z_tuple
  have n_zip := PySem.W.mg_none_of X G z_zip
  have c_SHORT := PySem.W.mg_of X G y_SHORT
  have c_NOUGHT := PySem.W.mg_of X G y_NOUGHT
  have t_NOUGHT : ∀ H : Hp, SqT K H A_NOUGHT [.int 0, .int 1] := fun H => .inr ⟨_, _, _, u_NOUGHT, rfl, rfl, (show 2 ≤ sizeLine by decide), (.cons ⟨_, rfl⟩ (.cons ⟨_, rfl⟩ .nil))⟩
  have c_ONE := PySem.W.mg_of X G y_ONE
  have t_ONE : ∀ H : Hp, SqT K H A_ONE [.int 1, .int 1] := fun H => .inr ⟨_, _, _, u_ONE, rfl, rfl, (show 2 ≤ sizeLine by decide), (.cons ⟨_, rfl⟩ (.cons ⟨_, rfl⟩ .nil))⟩
  have X_NoFraction : ExT K mg "NoFraction" C_NoFraction := ⟨PySem.W.mg_of X G m_NoFraction, ⟨x_NoFraction⟩, e_NoFraction⟩
  have X_NoPolynomial : ExT K mg "NoPolynomial" C_NoPolynomial := ⟨PySem.W.mg_of X G m_NoPolynomial, ⟨x_NoPolynomial⟩, e_NoPolynomial⟩
  have X_RestError : ExT K mg "RestError" C_RestError := ⟨PySem.W.mg_of X G m_RestError, ⟨x_RestError⟩, e_RestError⟩
  refine ⟨PySem.W.fnOf "law" "law" (m6 ae7) (j6 ae7) (d7 ae7) .none kV33 dc33 pm33 an33 cd33 ct33, fun s v => .of_eq rfl, fun base _ _ => ?_⟩
  have G__law_low := aE5 (P := l.prog) (w := w) (base := base) d__law_low n_abs
  have G__law_urn := aE4 (P := l.prog) (w := w) (base := base) d__law_urn n_len n_abs
  have G__law_draw := aA5 (P := l.prog) (w := w) (base := base) d__law_draw
  have G__law_trim := aA2 (P := l.prog) (w := w) (base := base) d__law_trim n_list
  have GD__law_number := am3 (P := l.prog) (w := w) (base := base) d__law_number G__law_draw G__law_low n_int
  have GD__law_other := ar1 (P := l.prog) (w := w) (base := base) d__law_other G__law_draw GD__law_number
  have G__law_above := au4 (P := l.prog) (w := w) (base := base) d__law_above GD__law_other n_abs
  have G__law_plus := aA4 (P := l.prog) (w := w) (base := base) d__law_plus G__law_low
  have G__law_times := au3 (P := l.prog) (w := w) (base := base) d__law_times G__law_low
  have G__law_poly_plus := ah6 (P := l.prog) (w := w) (base := base) d__law_poly_plus G__law_plus G__law_trim n_range n_max n_len
  have G__law_poly_times := af5 (P := l.prog) (w := w) (base := base) d__law_poly_times G__law_plus G__law_times G__law_trim n_len n_enumerate
  have G_with_lead := aA0 (P := l.prog) (w := w) (base := base) d_with_lead n_len n_range
  have G_cleaned := aI7 (P := l.prog) (w := w) (base := base) d_cleaned n_zip
  have G_eliminated := au1 (P := l.prog) (w := w) (base := base) d_eliminated G_with_lead G_cleaned n_len n_range n_enumerate
  have G_common_divisor := ah5 (P := l.prog) (w := w) (base := base) d_common_divisor ⟨_, c_SHORT⟩ n_abs
  have G_fraction := aE3 (P := l.prog) (w := w) (base := base) d_fraction G_common_divisor
  have G_content_of := au2 (P := l.prog) (w := w) (base := base) d_content_of G_common_divisor
  have G_cleared := aI6 (P := l.prog) (w := w) (base := base) d_cleared G_common_divisor
  have G_determinant := aq7 (P := l.prog) (w := w) (base := base) d_determinant G_cleared G_eliminated G_fraction c_NOUGHT t_NOUGHT n_len
  have G_number_at := aA1 (P := l.prog) (w := w) (base := base) d_number_at c_NOUGHT t_NOUGHT n_len
  have G_steep := aV9 (P := l.prog) (w := w) (base := base) d_steep G_number_at X_NoPolynomial n_len n_range
  have G_leads := aW0 (P := l.prog) (w := w) (base := base) d_leads G_determinant n_len n_range
  have G__law_sign := aA3 (P := l.prog) (w := w) (base := base) d__law_sign n_int
  have G__law_factor := ar0 (P := l.prog) (w := w) (base := base) d__law_factor G__law_draw GD__law_number G__law_sign G__law_above G__law_plus G__law_times n_int
  have G__law_folded := aq9 (P := l.prog) (w := w) (base := base) d__law_folded G__law_poly_plus G__law_poly_times n_reversed
  have G__law_rooted := aq8 (P := l.prog) (w := w) (base := base) d__law_rooted G__law_draw GD__law_other G__law_factor G__law_poly_times n_range n_len n_tuple n_zip
  have GD_lifted := aI9 (P := l.prog) (w := w) (base := base) d_lifted G_cleared G_content_of c_ONE t_ONE
  have G_row_behind := au0 (P := l.prog) (w := w) (base := base) d_row_behind n_len n_zip
  have G_whole_dies := at9 (P := l.prog) (w := w) (base := base) d_whole_dies G_row_behind n_min
  have G_dies := bb9 (P := l.prog) (w := w) (base := base) d_dies GD_lifted G_whole_dies n_bool
  have GD__law_poly_often := ae0 (P := l.prog) (w := w) (base := base) d__law_poly_often G__law_times G__law_trim
  have G__law_of_factors_right := V4 (P := l.prog) (w := w) (base := base) d__law_of_factors_right G__law_draw G__law_rooted G__law_poly_times GD__law_poly_often G_steep G_leads G_dies n_len n_list n_isinstance n_bool n_all
  have G__law_of_parts_right := Z9 (P := l.prog) (w := w) (base := base) d__law_of_parts_right G__law_draw G__law_above G__law_folded G__law_times G_steep G_leads G_dies n_range n_list n_reversed n_all
  exact bj5 (P := l.prog) (w := w) (base := base) F_law G__law_urn G__law_of_parts_right G__law_of_factors_right n_range n_max n_min n_len
end
theorem bp3 {l : PySem.W.OpenLaw} {q : Program} {loose : List Str} {XP : (Str → Option Value) → Heap → Prop} {YP : World → Heap → Prop} {d : DefRec} {K : Params → PySem.W.Frag} (hn : l.most = some 63) (hdf : d.params.defaults = [])
    (hY : ∀ (w : World) (h : Heap), YP w h → (K w.params).In h)
    (F : ∀ (w : World) (mg : Str → Option Value) (fa : Addr) (h : Heap), (K w.params).In h → h.Ns mainGlobals mg → mg d.name = some (.ref fa) →
      ∃ fd : FuncData, (∀ (s : Shared) (u : Value), BindsTo s fd ⟨[u], []⟩ [("_law_script", u)]) ∧ ∀ base : Heap, (K w.params).In base → base.Ns mainGlobals mg → Y6 l.prog w (K w.params) mg base CX0 (7 + 1) fa fd ["_law_script"] (aL3 (K w.params))) :
    PySem.W.WalkO q loose XP YP l.row.toRowW d [] (fun f vs => PySem.call f vs) :=
  L2.aL0 (n := 63) (k := (7 + 1)) (x := "_law_script") (CX := fun _ => CX0) (sp := fun w => aL3 (K w.params)) hn (by decide) hdf ⟨rfl, by decide, by decide⟩ hY F (fun _ _ a ns hl _ hS => ⟨a, ns, rfl, hS, hl, fun _ => rfl⟩) fun _ _ _ _ _ z => z
end R
open PySem PySem.W PyProof.Rows
set_option maxRecDepth 100000 in
set_option maxHeartbeats 0 in
theorem PySem.Challenge.cw_restward_k29_whole_leads_and_dying_holds : PySem.Challenge.rw_restward_k29_whole_leads_and_dying.Holds := by
  w_on; o_law; k_head; (case hw => w_witness2)
  k_fill
  refine R.bp3 (l := PySem.Challenge.rw_restward_k29_whole_leads_and_dying) rfl rfl (fun w h Y => PySem.W.kIn_of Y) ?F
  case F =>
    intro w mg fa h KX G hmg
    refine' R.bm2 KX G hmg ?a0 ?l0 ?c0 ?k0 ?a1 ?l1 ?c1 ?k1 ?a2 ?l2 ?c2 ?k2 ?a3 ?l3 ?c3 ?k3 ?a4 ?l4 ?c4 ?k4 ?a5 ?l5 ?c5 ?k5 ?a6 ?l6 ?c6 ?k6 ?a7 ?l7 ?c7 ?k7 ?a8 ?l8 ?c8 ?k8 ?a9 ?l9 ?c9 ?k9 ?a10 ?l10 ?c10 ?k10 ?a11 ?l11 ?c11 ?k11 ?a12 ?l12 ?c12 ?k12 ?a13 ?l13 ?c13 ?k13 ?a14 ?l14 ?c14 ?k14 ?a15 ?l15 ?c15 ?k15 ?a16 ?l16 ?c16 ?k16 ?a17 ?l17 ?c17 ?k17 ?a18 ?l18 ?c18 ?k18 ?a19 ?l19 ?c19 ?k19 ?a20 ?l20 ?c20 ?k20 ?a21 ?l21 ?c21 ?k21 ?a22 ?l22 ?c22 ?k22 ?a23 ?l23 ?c23 ?k23 ?a24 ?l24 ?c24 ?k24 ?a25 ?l25 ?c25 ?k25 ?a26 ?l26 ?c26 ?k26 ?a27 ?l27 ?c27 ?k27 ?a28 ?l28 ?c28 ?k28 ?a29 ?l29 ?c29 ?k29 ?a30 ?l30 ?c30 ?k30 ?a31 ?l31 ?c31 ?k31 ?a32 ?l32 ?c32 ?k32 ?a33 ?l33 ?c33 ?k33 ?z_abs ?z_all ?z_bool ?z_enumerate ?z_int ?z_isinstance ?z_len ?z_list ?z_max ?z_min ?z_range ?z_reversed ?z_tuple ?z_zip ?y_SHORT ?y_NOUGHT ?u_NOUGHT ?y_ONE ?u_ONE ?m_NoFraction ?x_NoFraction ?e_NoFraction ?m_NoPolynomial ?x_NoPolynomial ?e_NoPolynomial ?m_RestError ?x_RestError ?e_RestError
    (case a0 => k_is); (case l0 => k_is); (case c0 => k_is); (case k0 => k_is)
    (case a1 => k_is); (case l1 => k_is); (case c1 => k_is); (case k1 => k_is)
    (case a2 => k_is); (case l2 => k_is); (case c2 => k_is); (case k2 => k_is)
    (case a3 => k_is); (case l3 => k_is); (case c3 => k_is); (case k3 => k_is)
    (case a4 => k_is); (case l4 => k_is); (case c4 => k_is); (case k4 => k_is)
    (case a5 => k_is); (case l5 => k_is); (case c5 => k_is); (case k5 => k_is)
    (case a6 => k_is); (case l6 => k_is); (case c6 => k_is); (case k6 => k_is)
    (case a7 => k_is); (case l7 => k_is); (case c7 => k_is); (case k7 => k_is)
    (case a8 => k_is); (case l8 => k_is); (case c8 => k_is); (case k8 => k_is)
    (case a9 => k_is); (case l9 => k_is); (case c9 => k_is); (case k9 => k_is)
    (case a10 => k_is); (case l10 => k_is); (case c10 => k_is); (case k10 => k_is)
    (case a11 => k_is); (case l11 => k_is); (case c11 => k_is); (case k11 => k_is)
    (case a12 => k_is); (case l12 => k_is); (case c12 => k_is); (case k12 => k_is)
    (case a13 => k_is); (case l13 => k_is); (case c13 => k_is); (case k13 => k_is)
    (case a14 => k_is); (case l14 => k_is); (case c14 => k_is); (case k14 => k_is)
    (case a15 => k_is); (case l15 => k_is); (case c15 => k_is); (case k15 => k_is)
    (case a16 => k_is); (case l16 => k_is); (case c16 => k_is); (case k16 => k_is)
    (case a17 => k_is); (case l17 => k_is); (case c17 => k_is); (case k17 => k_is)
    (case a18 => k_is); (case l18 => k_is); (case c18 => k_is); (case k18 => k_is)
    (case a19 => k_is); (case l19 => k_is); (case c19 => k_is); (case k19 => k_is)
    (case a20 => k_is); (case l20 => k_is); (case c20 => k_is); (case k20 => k_is)
    (case a21 => k_is); (case l21 => k_is); (case c21 => k_is); (case k21 => k_is)
    (case a22 => k_is); (case l22 => k_is); (case c22 => k_is); (case k22 => k_is)
    (case a23 => k_is); (case l23 => k_is); (case c23 => k_is); (case k23 => k_is)
    (case a24 => k_is); (case l24 => k_is); (case c24 => k_is); (case k24 => k_is)
    (case a25 => k_is); (case l25 => k_is); (case c25 => k_is); (case k25 => k_is)
    (case a26 => k_is); (case l26 => k_is); (case c26 => k_is); (case k26 => k_is)
    (case a27 => k_is); (case l27 => k_is); (case c27 => k_is); (case k27 => k_is)
    (case a28 => k_is); (case l28 => k_is); (case c28 => k_is); (case k28 => k_is)
    (case a29 => k_is); (case l29 => k_is); (case c29 => k_is); (case k29 => k_is)
    (case a30 => k_is); (case l30 => k_is); (case c30 => k_is); (case k30 => k_is)
    (case a31 => k_is); (case l31 => k_is); (case c31 => k_is); (case k31 => k_is)
    (case a32 => k_is); (case l32 => k_is); (case c32 => k_is); (case k32 => k_is)
    (case a33 => k_is); (case l33 => k_is); (case c33 => k_is); (case k33 => k_is)
    (case z_abs => k_is)
    (case z_all => k_is)
    (case z_bool => k_is)
    (case z_enumerate => k_is)
    (case z_int => k_is)
    (case z_isinstance => k_is)
    (case z_len => k_is)
    (case z_list => k_is)
    (case z_max => k_is)
    (case z_min => k_is)
    (case z_range => k_is)
    (case z_reversed => k_is)
    (case z_tuple => k_is)
    (case z_zip => k_is)
    (case y_SHORT => k_is)
    (case y_NOUGHT => k_is); (case u_NOUGHT => k_is)
    (case y_ONE => k_is); (case u_ONE => k_is)
    (case m_NoFraction => k_is); (case x_NoFraction => k_exc); (case e_NoFraction => (refine ⟨?_, ?_, ?_, ?_, ?_, ?_⟩ <;> first | k_is | kernel_rfl))
    (case m_NoPolynomial => k_is); (case x_NoPolynomial => k_exc); (case e_NoPolynomial => (refine ⟨?_, ?_, ?_, ?_, ?_, ?_⟩ <;> first | k_is | kernel_rfl))
    (case m_RestError => k_is); (case x_RestError => k_exc); (case e_RestError => (refine ⟨?_, ?_, ?_, ?_, ?_, ?_⟩ <;> first | k_is | kernel_rfl))
