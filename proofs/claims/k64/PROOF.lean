import PyProof.Rows.All
import Wide.All
import OpenK.AllK
import Wide.FinOn
import PyProof.EqAt
import PyProof.EqKinds
import PyProof.TupleCall
import KE.KTryMore
import KE.KIsNot
import PyProof.MeetsStr
import PyProof.Rows.RuleM_int
import PyProof.CompFree
import PyProof.WalksEnum
import PyProof.EnumMake
import PyProof.NeKinds
import PyProof.ConsumeWalk
import PyProof.CompMap
import PyProof.Rows.EqBoolInt
import KE.IntBitsLaws
import PyProof.ZipIter
import PyProof.Rows.ZipGen
import PyProof.MinMaxWalk
import PyProof.WalkInts
import PyProof.Rows.CallKwBuiltin
import PyProof.CompUse
import KE.KRevIter
import PyProof.Rows.Range3
import PyProof.NsDelKeeps
import PyProof.SumAny
import PyProof.TupleIter
import PyProof.WalksMore
import PyProof.ListRange
import PyProof.CollectStr
import PyProof.TupleOfStr
import PyProof.StrBlockH
import PyProof.StrWalks
import PyProof.StrOps2
import KE.KIntText
import PyProof.Rows.StrJoin2
import KE.IntTextText
import PyProof.StrLawsIn
import PyProof.MeetsStr2
import PyProof.AutoListH
import PyProof.Rows.StrItems
import PyProof.StrLawsTight
import PyProof.StrLawsFirst
import PySem.Challenge.RW_restward_k64_polynomials_and_tables_writ
set_option Elab.async false
set_option linter.all false
-- CHANGE: your row's module here, as the last of these rows
set_option maxRecDepth 100000
namespace L2
open PySem PySem.Spec PyProof.Rows

/-- a key: an int or a str -/
abbrev Key := Sum Int Str
def keyIs : Key → Value → Bool
  | .inl k, v => Value.isInt k v
  | .inr x, v => Value.isStrOf x v
def keyH (w : World) : Key → Int
  | .inl k => hashInt k
  | .inr x => hashStr w x
theorem keyIs_shape : ∀ {k : Key} {v : Value}, keyIs k v = true → (∃ i t, k = Sum.inl i ∧ v = Value.int i t) ∨ (∃ x t, k = Sum.inr x ∧ v = Value.str x t)
  | .inl i, v, h => by
    obtain ⟨t, e⟩ := Value.isInt_shape (k := i) (v := v) h
    exact .inl ⟨i, t, rfl, e⟩
  | .inr x, v, h => by
    obtain ⟨t, e⟩ := Value.isStrOf_shape (x := x) (v := v) h
    exact .inr ⟨x, t, rfl, e⟩
theorem key_ll (a b : Int) : decide ((Sum.inl a : Key) = Sum.inl b) = (a == b) := by
  by_cases e : a = b
  · subst e; simp
  · have h : ¬ (Sum.inl a : Key) = Sum.inl b := fun q => e (Sum.inl.inj q)
    rw [decide_eq_false h]
    exact (beq_eq_false_iff_ne.mpr e).symm
theorem key_rr (a b : Str) : decide ((Sum.inr a : Key) = Sum.inr b) = decide (a = b) := by
  by_cases e : a = b
  · subst e; simp
  · have h : ¬ (Sum.inr a : Key) = Sum.inr b := fun q => e (Sum.inr.inj q)
    rw [decide_eq_false h, decide_eq_false e]
theorem key_lr (a : Int) (b : Str) : decide ((Sum.inl a : Key) = Sum.inr b) = false := decide_eq_false (fun q => nomatch q)
theorem key_rl (a : Str) (b : Int) : decide ((Sum.inr a : Key) = Sum.inl b) = false := decide_eq_false (fun q => nomatch q)

def mixKind (prog : Program) (w : World) : PySem.KeyKind prog w Key where
  is := keyIs
  hash := keyH w
  inj := fun v a b ha hb => by
    rcases keyIs_shape ha with ⟨i, t, rfl, rfl⟩ | ⟨x, t, rfl, rfl⟩
    · rcases keyIs_shape hb with ⟨j, u, rfl, e⟩ | ⟨y, u, rfl, e⟩
      · injection e with e1 _; rw [e1]
      · exact nomatch e
    · rcases keyIs_shape hb with ⟨j, u, rfl, e⟩ | ⟨y, u, rfl, e⟩
      · exact nomatch e
      · injection e with e1 _; rw [e1]
  byValue := fun k v h => by
    rcases keyIs_shape h with ⟨i, t, rfl, rfl⟩ | ⟨x, t, rfl, rfl⟩ <;> rfl
  pyHash := fun hv h => by
    rcases keyIs_shape hv with ⟨i, t, rfl, rfl⟩ | ⟨x, t, rfl, rfl⟩
    · exact wpAny_pyHash_int h
    · exact wpAny_pyHash_str h
  eqBool := fun hu hv h => by
    rcases keyIs_shape hu with ⟨i, t, rfl, rfl⟩ | ⟨x, t, rfl, rfl⟩
    · rcases keyIs_shape hv with ⟨j, u, rfl, rfl⟩ | ⟨y, u, rfl, rfl⟩
      · rw [key_ll] at h; exact wpAny_eqBool_int h
      · rw [key_lr] at h; exact SeqAt.EqAt.int_str i t y u _ _ _ _ h
    · rcases keyIs_shape hv with ⟨j, u, rfl, rfl⟩ | ⟨y, u, rfl, rfl⟩
      · rw [key_rl] at h; exact SeqAt.EqAt.str_int x t j u _ _ _ _ h
      · rw [key_rr] at h; exact wpAny_eqBool_str h
  «strs» := fun k x t v h => by
    rcases keyIs_shape h with ⟨i, u, rfl, e⟩ | ⟨y, u, rfl, e⟩
    · exact nomatch e
    · injection e with e1 _
      subst e1
      cases v <;> rfl

end L2

namespace L2
open PySem PySem.Spec PyProof.Rows

/-- a value, without the heap -/
inductive V where
  | non | bl (b : Bool) | int (i : Int) | str (x : Str) | byt (b : Array UInt8) | flt (b : UInt64) | ref (a : Addr) | ty (n : String)
  deriving DecidableEq

def RelV : V → Value → Prop
  | .non, u => u = Value.none
  | .bl b, u => u = Value.bool b
  | .int i, u => ∃ t, u = Value.int i t
  | .str x, u => ∃ t, u = Value.str x t
  | .byt b, u => ∃ t, u = Value.bytes b t
  | .flt b, u => ∃ t, u = Value.float b t
  | .ref a, u => u = Value.ref a
  | .ty n, u => u = Value.type n

abbrev Vals : List V → List Value → Prop := Paired RelV
theorem Vals.length {xs : List V} {us : List Value} (r : Vals xs us) : xs.length = us.length := Paired.length r
theorem Vals.get : ∀ {xs : List V} {us : List Value} {i : Nat} {x : V}, Vals xs us → xs[i]? = some x → ∃ u, us[i]? = some u ∧ RelV x u
  | _, _, _, _, .nil, e => by simp at e
  | _, _, 0, _, .cons r _, e => by simp at e; subst e; exact ⟨_, rfl, r⟩
  | _, _, i + 1, x, .cons _ t, e => by
    obtain ⟨u, h1, h2⟩ := Vals.get (i := i) (x := x) t (by simpa using e)
    exact ⟨u, by simpa using h1, h2⟩
theorem Vals.set {x : V} {u : Value} (r : RelV x u) : ∀ {xs : List V} {us : List Value} (i : Nat), Vals xs us → Vals (xs.set i x) (us.set i u)
  | _, _, _, .nil => .nil
  | _, _, 0, .cons _ t => .cons r t
  | _, _, i + 1, .cons q t => .cons q (Vals.set r i t)
theorem Vals.append : ∀ {xs ys : List V} {us ws : List Value}, Vals xs us → Vals ys ws → Vals (xs ++ ys) (us ++ ws)
  | _, _, _, _, .nil, s => s
  | _, _, _, _, .cons r t, s => .cons r (Vals.append t s)
theorem Vals.take : ∀ {xs : List V} {us : List Value} (n : Nat), Vals xs us → Vals (xs.take n) (us.take n)
  | _, _, 0, _ => .nil
  | _, _, _ + 1, .nil => .nil
  | _, _, n + 1, .cons r t => .cons r (Vals.take n t)
theorem Vals.drop : ∀ {xs : List V} {us : List Value} (n : Nat), Vals xs us → Vals (xs.drop n) (us.drop n)
  | _, _, 0, r => r
  | _, _, _ + 1, .nil => .nil
  | _, _, n + 1, .cons _ t => Vals.drop n t
theorem Vals.none_of : ∀ {xs : List V} {us : List Value} {i : Nat}, Vals xs us → xs[i]? = none → us[i]? = none := fun {xs us i} r e => by
  have h1 := r.length
  have h2 : xs.length ≤ i := List.getElem?_eq_none_iff.mp e
  exact List.getElem?_eq_none_iff.mpr (by omega)

def RelO : Option V → Option Value → Prop
  | some v, some u => RelV v u
  | none, none => True
  | _, _ => False
def KV {κ : Type} : List (κ × V) → List (κ × Value) → Prop := Paired fun (p : κ × V) (q : κ × Value) => p.1 = q.1 ∧ RelV p.2 q.2

/-- a key of a dict (00_mix): an int or a text -/
def kV : Key → V
  | .inl i => .int i
  | .inr x => .str x

/-- what stands at a tracked address -/
inductive HO where
  /-- a list -/
  | lst (xs : List V)
  /-- a tuple (never changes) -/
  | tup (xs : List V)
  /-- a dict whose keys are ints and texts; one whose keys are tuples of ints and texts (the empty one is both) -/
  | dK (kvs : List (Key × V)) | dT (kvs : List (List Key × V))
  /-- a set of ints: its members, its size -/
  | set (S : Int → Bool) (n : Nat)
  /-- an instance of the class at C, its dict at dx, its attributes -/
  | ins (C dx : Addr) (fs : List (Str × V))
  /-- the dict of the instance at x -/
  | own (x : Addr)
  /-- the dict of an exception -/
  | xd (fs : List (Str × V))
  /-- a bound method, f of x -/
  | met (f x : Addr)
  /-- a range object lo, lo + 1, .. below hi -/
  | rng (lo hi : Int)
  /-- a thing that is known to the object (the script; a dict while a loop walks it): read, never written while it is so -/
  | frz (o : Obj) (u : HO)
  /-- a code object's table -/
  | tbl (ps : Array Value)
  /-- any other thing, by what is true of its one object (a def of one's own: SetO a S n := HO.ext fun h => ..) -/
  | ext (φ : Heap → Prop)

abbrev Hp := Addr → Option HO
def upd (H : Hp) (a : Addr) (o : HO) : Hp := fun b => if b = a then some o else H b
theorem upd_same {H : Hp} {a : Addr} {o : HO} : upd H a o a = some o := by unfold upd; rw [if_pos rfl]
theorem upd_ne {H : Hp} {a b : Addr} {o : HO} (h : b ≠ a) : upd H a o b = H b := by unfold upd; rw [if_neg h]
/-- two objects of different content stand apart -/
theorem ne_of {H : Hp} {a b : Addr} {o u : HO} (h : H a = some o) (h' : H b = some u) (d : o ≠ u) : a ≠ b := by
  intro e; subst e; rw [h] at h'; exact d (Option.some.inj h')
theorem ne_of_none {H : Hp} {a b : Addr} {o : HO} (h : H a = some o) (h' : H b = none) : a ≠ b := by
  intro e; subst e; rw [h] at h'; cases h'

section
variable (P : Program) (w : World)
def ObjOk (H : Hp) (h : Heap) (a : Addr) : HO → Prop
  | .lst xs => xs.length ≤ sizeLine ∧ ∃ (its : List Value) (n : Nat), Vals xs its ∧ h.get? a = some { cls := .type "list", data := .seq its.toArray n }
  | .tup xs => xs.length ≤ sizeLine ∧ ∃ its : List Value, Vals xs its ∧ IsTup h a its.toArray
  | .dK kvs => kvs.length ≤ sizeLine ∧ (a == sysModules) = false ∧ ∃ vs, KV kvs vs ∧ h.DictOf (mixKind P w) a vs
  | .dT kvs => kvs.length ≤ sizeLine ∧ (a == sysModules) = false ∧ ∃ xs : List (List Key × Addr × Value),
      Paired (fun (p : List Key × V) (q : List Key × Addr × Value) => p.1 = q.1 ∧ H q.2.1 = some (.tup (p.1.map kV)) ∧ RelV p.2 q.2.2) kvs xs ∧
      ∃ o es ep, h.get? a = some o ∧ o.ExactDict ∧ o.data = .dict es ep ∧ es.toList = xs.map (entryOfKey (tupleKind (mixKind P w))) ∧ (xs.map (·.1)).Nodup
  | .set S n => h.SetOf (intKind P w) a S n
  | .ins C dx fs => H dx = some (.own a) ∧ fs.length ≤ 1000 ∧ dx ≠ a ∧ h.get? a = some (PySem.W.instObj C dx) ∧
      ∃ mA, h.Ns1 dx mA ∧ (∀ f, RelO (fs.lookup f) (mA f)) ∧ PySem.Within mA (fs.map (·.1))
  | .own _ => ∃ o, h.get? a = some o
  | .xd fs => ∃ mA, h.Ns1 a mA ∧ ∀ f, RelO (fs.lookup f) (mA f)
  | .rng lo hi => ∃ t u v, h.get? a = some { cls := .type "range", data := .fields #[.int lo t, .int hi u, .int 1 v] }
  | .frz o u => h.get? a = some o ∧ ObjOk H h a u
  | .tbl ps => h.get? a = some { cls := .none, data := .fields ps }
  | .met f x => h.get? a = some (PySem.W.methodObj (.ref f) (.ref x))
  | .ext φ => φ h ∧ (∃ o, h.get? a = some o) ∧ ∀ h1 h2 : Heap, φ h1 → (∀ o, h1.get? a = some o → h2.get? a = some o) → φ h2
/-- the abstract heap is held -/
def HOk (H : Hp) (h : Heap) : Prop := ∀ a o, H a = some o → ObjOk P w H h a o
end

section
variable {P : Program} {w : World} {H H' : Hp} {h h' : Heap} {a : Addr} {o : HO}
theorem ObjOk.lt (x : ObjOk P w H h a o) : a < h.objs.size := by
  cases o with
  | lst xs => obtain ⟨_, _, _, _, e⟩ := x; exact Heap.lt_size e
  | tup xs => obtain ⟨_, _, _, p⟩ := x; exact p.lt
  | dK kvs => obtain ⟨_, _, _, _, o, _, _, e, _⟩ := x; exact Heap.lt_size e
  | dT kvs => obtain ⟨_, _, _, _, o, _, _, e, _⟩ := x; exact Heap.lt_size e
  | set S n => obtain ⟨o, _, _, _, e, _⟩ := x; exact Heap.lt_size e
  | ins C dx fs => obtain ⟨_, _, _, e, _⟩ := x; exact Heap.lt_size e
  | own y => obtain ⟨_, e⟩ := x; exact Heap.lt_size e
  | xd fs => obtain ⟨_, ⟨_, _, _, e, _⟩, _⟩ := x; exact Heap.lt_size e
  | rng lo hi => obtain ⟨_, _, _, e⟩ := x; exact Heap.lt_size e
  | frz ob u => obtain ⟨e, _⟩ := x; exact Heap.lt_size e
  | tbl ps => exact Heap.lt_size (show h.get? a = some _ from x)
  | met f y => exact Heap.lt_size (show h.get? a = some _ from x)
  | ext φ => obtain ⟨_, ⟨_, e⟩, _⟩ := x; exact Heap.lt_size e
theorem Paired.mapP {α β : Type} {F G : α → β → Prop} : ∀ {l₁ : List α} {l₂ : List β}, Paired F l₁ l₂ → (∀ a b, F a b → G a b) → Paired G l₁ l₂
  | _, _, .nil, _ => .nil
  | _, _, .cons r t, f => .cons (f _ _ r) (Paired.mapP t f)
/-- what an object's description leans on: its own object, its own dict, the tuples -/
theorem ObjOk.stay (x : ObjOk P w H h a o) (k : ∀ b u, (b = a ∨ H b = some (.own a)) → h.get? b = some u → h'.get? b = some u)
    (ho : ∀ b, H b = some (.own a) → H' b = some (.own a)) (ht : ∀ b xs, H b = some (.tup xs) → H' b = some (.tup xs)) : ObjOk P w H' h' a o := by
  induction o with
  | lst xs => obtain ⟨z, its, n, r, e⟩ := x; exact ⟨z, its, n, r, k _ _ (.inl rfl) e⟩
  | tup xs => obtain ⟨z, its, r, ob, e, c⟩ := x; exact ⟨z, its, r, ob, k _ _ (.inl rfl) e, c⟩
  | dK kvs => obtain ⟨z, y, vs, r, ob, es, ep, e, c⟩ := x; exact ⟨z, y, vs, r, ob, es, ep, k _ _ (.inl rfl) e, c⟩
  | dT kvs =>
    obtain ⟨z, y, xs, r, ob, es, ep, e, c⟩ := x
    exact ⟨z, y, xs, Paired.mapP r fun p q z => ⟨z.1, ht _ _ z.2.1, z.2.2⟩, ob, es, ep, k _ _ (.inl rfl) e, c⟩
  | set S n => obtain ⟨ob, es, ep, t, e, c⟩ := x; exact ⟨ob, es, ep, t, k _ _ (.inl rfl) e, c⟩
  | ins C dx fs =>
    obtain ⟨d, z, ne, e, mA, ⟨od, es, ep, e2, c⟩, r⟩ := x
    exact ⟨ho _ d, z, ne, k _ _ (.inl rfl) e, mA, ⟨od, es, ep, k _ _ (.inr d) e2, c⟩, r⟩
  | own y => obtain ⟨ob, e⟩ := x; exact ⟨ob, k _ _ (.inl rfl) e⟩
  | xd fs => obtain ⟨mA, ⟨od, es, ep, e, c⟩, r⟩ := x; exact ⟨mA, ⟨od, es, ep, k _ _ (.inl rfl) e, c⟩, r⟩
  | rng lo hi => obtain ⟨t, u, v, e⟩ := x; exact ⟨t, u, v, k _ _ (.inl rfl) e⟩
  | frz ob u ih => obtain ⟨e, q⟩ := x; exact ⟨k _ _ (.inl rfl) e, ih q⟩
  | tbl ps =>
    have e : h.get? a = some { cls := .none, data := .fields ps } := x
    show h'.get? a = some { cls := .none, data := .fields ps }
    exact k a _ (.inl rfl) e
  | met f y =>
    have e : h.get? a = some (PySem.W.methodObj (.ref f) (.ref y)) := x
    show h'.get? a = some (PySem.W.methodObj (.ref f) (.ref y))
    exact k a _ (.inl rfl) e
  | ext φ => obtain ⟨p, ⟨o, e⟩, st⟩ := x; exact ⟨st _ _ p fun o q => k _ _ (.inl rfl) q, ⟨o, k _ _ (.inl rfl) e⟩, st⟩
theorem HOk.lt (x : HOk P w H h) (e : H a = some o) : a < h.objs.size := (x a o e).lt
theorem HOk.fresh (x : HOk P w H h) (e : h.objs.size ≤ a) : H a = none := by
  cases q : H a with
  | none => rfl
  | some u => exact absurd (Nat.lt_of_lt_of_le (x.lt q) e) (Nat.lt_irrefl _)
/-- every object of the heap is kept -/
theorem HOk.kept (x : HOk P w H h) (k : ∀ b u, h.get? b = some u → h'.get? b = some u) : HOk P w H h' := fun a o e =>
  (x a o e).stay (fun b u _ q => k b u q) (fun _ q => q) fun _ _ q => q
/-- a new object is laid and tracked -/
theorem HOk.laid (x : HOk P w H h) (k : ∀ b u, h.get? b = some u → h'.get? b = some u) (hp : h.objs.size ≤ a) (new : ObjOk P w (upd H a o) h' a o) : HOk P w (upd H a o) h' := fun b u e => by
  have hn := x.fresh hp
  by_cases hb : b = a
  · subst hb; rw [upd_same] at e; cases e; exact new
  · rw [upd_ne hb] at e
    exact (x b u e).stay (fun c v _ q => k c v q) (fun c q => by rw [upd_ne (ne_of_none q hn)]; exact q) fun c xs q => by rw [upd_ne (ne_of_none q hn)]; exact q
end

/-- what may be read as u: it is u, or a known u -/
def Rd (H : Hp) (a : Addr) (u : HO) : Prop := H a = some u ∨ ∃ o, H a = some (.frz o u)
theorem Rd.ok {P : Program} {w : World} {H : Hp} {h : Heap} {a : Addr} {u : HO} (r : Rd H a u) (x : HOk P w H h) : ObjOk P w H h a u := by
  rcases r with r | ⟨o, r⟩
  · exact x a u r
  · obtain ⟨_, q⟩ := x a _ r
    exact q
/-- what may be written -/
def Mut : Option HO → Prop
  | some (.lst _) => True
  | some (.dK _) => True
  | some (.dT _) => True
  | some (.set _ _) => True
  | some (.ins _ _ _) => True
  | some (.ext _) => True
  | _ => False
section
variable {P : Program} {w : World} {H : Hp} {h h' : Heap} {x e : Addr} {o' : HO}
/-- the object at e is changed: x itself, or the dict of the instance x -/
theorem HOk.write (ok : HOk P w H h) (mu : Mut (H x)) (he : e = x ∨ H e = some (.own x)) (k : ∀ b u, b ≠ e → h.get? b = some u → h'.get? b = some u) (heo : ∃ u, h'.get? e = some u)
    (new : ObjOk P w (upd H x o') h' x o') : HOk P w (upd H x o') h' := fun b u q => by
  have nown : ∀ c y, H c = some (.own y) → c ≠ x := fun c y r z => by subst z; rw [r] at mu; exact mu
  have ntup : ∀ c xs, H c = some (.tup xs) → c ≠ x := fun c xs r z => by subst z; rw [r] at mu; exact mu
  by_cases hb : b = x
  · subst hb; rw [upd_same] at q; cases q; exact new
  · rw [upd_ne hb] at q
    by_cases hbe : b = e
    · have q' : H b = some (.own x) := by
        rcases he with z | z
        · exact absurd (hbe.trans z) hb
        · rw [hbe]; exact z
      rw [q] at q'; cases q'
      obtain ⟨v, hv⟩ := heo
      exact ⟨v, by rw [hbe]; exact hv⟩
    · refine (ok b u q).stay (fun c v hc r => k c v ?_ r) (fun c r => by rw [upd_ne (nown c b r)]; exact r) fun c xs r => by rw [upd_ne (ntup c xs r)]; exact r
      rcases hc with rfl | hc
      · exact hbe
      · rintro rfl
        rcases he with z | z
        · exact nown c b hc z
        · rw [hc] at z; cases z; exact hb rfl
end

structure Un (fs ex : List Addr) (H H' : Hp) (h h' : Heap) : Prop where
  keep : ∀ b o, h.get? b = some o → H b = none → b ∉ fs → b ∉ ex → h'.get? b = some o
  slot : ∀ b o, h.get? b = some o → H b = none → b ∈ fs → b ∉ ex → ∃ sl, h'.get? b = some { o with slots := sl }
  free : ∀ b o, h.get? b = some o → H b = none → b ∉ ex → H' b = none
  there : ∀ b o, h.get? b = some o → b ∉ ex → ∃ o', h'.get? b = some o'
  tups : ∀ b xs, H b = some (.tup xs) → H' b = some (.tup xs)
  frzs : ∀ b o u, H b = some (.frz o u) → H' b = some (.frz o u)
  tbls : ∀ b ps, H b = some (.tbl ps) → ∃ more, H' b = some (.tbl (ps ++ more))
section
variable {fs fs' ex ex' : List Addr} {H H1 H2 : Hp} {h h1 h2 h' : Heap} {a x e : Addr} {o : HO}
theorem Un.any (u : Un fs ex H H1 h h1) {b : Addr} {ob : Obj} (q : h.get? b = some ob) (n : H b = none) (hx : b ∉ ex) : ∃ sl, h1.get? b = some { ob with slots := sl } := by
  by_cases hb : b ∈ fs
  · exact u.slot b ob q n hb hx
  · exact ⟨ob.slots, u.keep b ob q n hb hx⟩
theorem Un.kept (k : ∀ b u, h.get? b = some u → h'.get? b = some u) : Un fs ex H H h h' :=
  ⟨fun b ob q _ _ _ => k b ob q, fun b ob q _ _ _ => ⟨ob.slots, k b ob q⟩, fun _ _ _ n _ => n, fun b ob q _ => ⟨ob, k b ob q⟩, fun _ _ q => q, fun _ _ _ q => q, fun _ ps q => ⟨#[], by rw [q]; simp⟩⟩
theorem Un.refl : Un fs ex H H h h := Un.kept fun _ _ q => q
theorem Un.laid (k : ∀ b u, h.get? b = some u → h'.get? b = some u) (hp : h.objs.size ≤ a) (hn : H a = none) : Un fs ex H (upd H a o) h h' where
  keep := fun b u q _ _ _ => k b u q
  slot := fun b u q _ _ _ => ⟨u.slots, k b u q⟩
  free := fun b u q n _ => by rw [upd_ne (Nat.ne_of_lt (Nat.lt_of_lt_of_le (Heap.lt_size q) hp))]; exact n
  there := fun b u q _ => ⟨u, k b u q⟩
  tups := fun b xs q => by rw [upd_ne (ne_of_none q hn)]; exact q
  frzs := fun b u xs q => by rw [upd_ne (ne_of_none q hn)]; exact q
  tbls := fun b ps q => ⟨#[], by rw [upd_ne (ne_of_none q hn), q]; simp⟩
theorem Un.write (mu : Mut (H x)) (he : e = x ∨ H e = some (.own x)) (k : ∀ b u, b ≠ e → h.get? b = some u → h'.get? b = some u) (heo : ∃ u, h'.get? e = some u) : Un fs ex H (upd H x o) h h' := by
  have hx : ∀ b, H b = none → b ≠ x := fun b n z => by subst z; rw [n] at mu; exact mu
  have hb : ∀ b, H b = none → b ≠ e := fun b n z => by
    subst z
    rcases he with r | r
    · exact hx b n r
    · rw [n] at r; cases r
  have hm : ∀ b u, H b = some u → ¬ Mut (some u) → b ≠ x := fun b u q nm z => by subst z; rw [q] at mu; exact nm mu
  refine ⟨fun b u q n _ _ => k b u (hb b n) q, fun b u q n _ _ => ⟨u.slots, k b u (hb b n) q⟩, fun b u q n _ => by rw [upd_ne (hx b n)]; exact n, fun b u q _ => ?_,
    fun b xs q => by rw [upd_ne (hm b _ q fun z => z)]; exact q, fun b u xs q => by rw [upd_ne (hm b _ q fun z => z)]; exact q, fun b ps q => ⟨#[], by rw [upd_ne (hm b _ q fun z => z), q]; simp⟩⟩
  by_cases hbe : b = e
  · subst hbe; exact heo
  · exact ⟨u, k b u hbe q⟩
end

def trk (h : Heap) (H : Hp) : List Addr := (List.range h.objs.size).filter fun a => (H a).isSome
def hidT (h : Heap) (H : Hp) : Heap := PySem.W.hideAll h (trk h H)
theorem hidT_size (h : Heap) (H : Hp) : (hidT h H).objs.size = h.objs.size := PySem.W.hideAll_size _ _
theorem hidT_get {h : Heap} {H : Hp} {b : Addr} {o : Obj} (e : h.get? b = some o) (n : H b = none) : (hidT h H).get? b = some o :=
  PySem.W.hideAll_get _ e fun hm => by
    have q : (H b).isSome = true := (List.mem_filter.mp hm).2
    rw [n] at q; simp at q
theorem of_hidT {h : Heap} {H : Hp} {b : Addr} {o : Obj} (e : (hidT h H).get? b = some o) : h.get? b = some o ∧ H b = none := by
  have e' : h.get? b = some o := PySem.W.of_hideAll (trk h H) e
  refine ⟨e', ?_⟩
  cases q : H b with
  | none => rfl
  | some x =>
    have hm : b ∈ trk h H := List.mem_filter.mpr ⟨List.mem_range.mpr (Heap.lt_size e'), by simp [q]⟩
    have z : (hidT h H).get? b = none := PySem.W.hideAll_none (trk h H) hm
    rw [z] at e; cases e

def allNews (g h : Heap) (L : Addr) : List (Addr × Obj) := (List.range h.objs.size).filterMap fun a => if a = L ∨ (g.get? a).isSome = true then none else (h.get? a).map fun o => (a, o)
def rest (g h : Heap) (L d : Addr) : List (Addr × Obj) := (allNews g h L).filter fun p => decide (p.1 ≠ d)
end L2

namespace L2
open PySem PySem.Spec PyProof.Rows

/-- the module's facts, over the base: the heap at the law's entry without what is tracked there -/
structure Mod (K : PySem.W.Frag) (mg : Str → Option Value) (base : Heap) : Prop where
  kin : K.In base
  glob : base.Ns mainGlobals mg
  blt : ∃ mb, base.Ns builtinsNs mb ∧ ∀ x : Str, x ≠ "__name__" → mb x = bootBuiltins x
  nolimit : base.NoLimit

/-- the context: a def's body (or a comprehension's block) running. base: fixed through the whole law; s₀, H₀: the entry; outer: the frames whose slots others may change (a def's callers); stack: all frames that run;
   ex: iterators that were made ahead of the entry and are walked here (a comprehension's); fn: the names whose cells were made at the entry (a def: all; a comprehension's block: its own); calm: not within an except suite; pn: pins that every state bears; xe: what is wanted of an exception that leaves the code -/
structure Cx where
  prog : Program
  w : World
  K : PySem.W.Frag
  mg : Str → Option Value
  base : Heap
  A : Around
  N : List Str
  s₀ : Shared
  H₀ : Hp
  env : Env
  outer : List Env
  stack : List Env
  ex : List Addr
  fn : Str → Bool
  calm : Bool
  pn : List (Addr × Obj)
  xe : Value → Shared → Prop
/-- the callers' frames -/
def frs (l : List Env) : List Addr := l.filterMap (·.frame)
abbrev Cx.fs (X : Cx) : List Addr := frs X.outer

def Vis (sc : Scope) (x : Str) : Prop := sc.names.lookup x = some .local ∨ sc.names.lookup x = some .cell ∨ sc.names.lookup x = some .free
def Loc (sc : Scope) (x : Str) : Prop := sc.names.lookup x = some .local ∨ sc.names.lookup x = some .cell
def Look (env : Env) (h : Heap) (m : Str → Option Value) (x : Str) (u : Value) : Prop :=
  (env.kindOf x = some .local ∧ m x = some u) ∨ ((env.kindOf x = some .cell ∨ env.kindOf x = some .free) ∧ ∃ c, env.cells.lookup x = some c ∧ h.IsCell c (some u))

structure Cx.Ok (X : Cx) : Prop where
  mod : Mod X.K X.mg X.base
  kind : X.env.scope.kind = .function
  glob : X.env.globals = mainGlobals
  blt : X.env.builtins = builtinsNs
  above : X.s₀.heap.objs.size ≤ X.env.locals
  inj : ∀ x y c, X.env.cells.lookup x = some c → X.env.cells.lookup y = some c → x = y
  has : ∀ x, (X.env.kindOf x = some .cell ∨ X.env.kindOf x = some .free) → ∃ c, X.env.cells.lookup x = some c
  cab : ∀ x c, X.fn x = true → X.env.cells.lookup x = some c → X.s₀.heap.objs.size ≤ c
  hd : X.calm = true → X.A.handled = none
  frames : X.A.frames = some X.stack
  stk : X.stack = X.outer ∨ (X.stack = X.env :: X.outer ∧ X.env.frame = some X.env.locals)
  exf : ∀ b ∈ X.ex, b ≠ X.env.locals ∧ ∀ x c, X.env.cells.lookup x = some c → c ≠ b
  bs : ∀ b o, X.base.get? b = some o → X.s₀.heap.get? b = some o ∧ X.H₀ b = none
  bsz : X.base.objs.size ≤ X.s₀.heap.objs.size
  noex : ∀ b o, X.base.get? b = some o → b ∉ X.ex
  exfs : ∀ b ∈ X.ex, b ∉ X.fs
  funs : X.s₀.heap.FunFrames X.base X.outer
  frf : ∀ b ∈ X.fs, X.H₀ b = none

structure Inv (X : Cx) (pins : List (Addr × Obj)) (σ : List (Option V)) (H : Hp) (s : Shared) : Prop where
  ok : X.Ok
  os : s.os = X.s₀.os
  bare : AllBare s.gens
  base : Un X.fs X.ex X.H₀ H X.s₀.heap s.heap
  loc : ∃ m, s.heap.Ns X.env.locals m ∧ ∀ (i : Nat) (x : Str) (v : V), X.N[i]? = some x → σ[i]? = some (some v) → Vis X.env.scope x → ∃ u, RelV v u ∧ Look X.env s.heap m x u
  cell : ∀ x c, X.env.cells.lookup x = some c → ∃ v, s.heap.IsCell c v
  free : H X.env.locals = none
  freeC : ∀ x c, X.env.cells.lookup x = some c → H c = none
  pin : ∀ p ∈ X.pn ++ pins, s.heap.get? p.1 = some p.2 ∧ H p.1 = none ∧ p.1 ≠ X.env.locals ∧ p.1 ∉ X.fs ∧ ∀ v, p.2.data ≠ .cell v
  hok : HOk X.prog X.w H s.heap
  len : σ.length = X.N.length

section
variable {X : Cx} {pins : List (Addr × Obj)} {σ : List (Option V)} {H H' : Hp} {s : Shared} {h' : Heap}

theorem Cx.Ok.nofr (ok : X.Ok) {b : Addr} {o : Obj} (e : X.base.get? b = some o) : b ∉ X.fs := fun hb => by
  have := (ok.funs.mem hb).1
  rw [e] at this; cases this
theorem Inv.bs (I : Inv X pins σ H s) : ∀ b o, X.base.get? b = some o → s.heap.get? b = some o ∧ H b = none := fun b o e =>
  ⟨I.base.keep b o (I.ok.bs b o e).1 (I.ok.bs b o e).2 (I.ok.nofr e) (I.ok.noex b o e), I.base.free b o (I.ok.bs b o e).1 (I.ok.bs b o e).2 (I.ok.noex b o e)⟩
theorem Inv.bk (I : Inv X pins σ H s) : ∀ b o, X.base.get? b = some o → s.heap.get? b = some o := fun b o e => (I.bs b o e).1
theorem Inv.mod (I : Inv X pins σ H s) : Mod X.K X.mg X.base := I.ok.mod
theorem Inv.kIn (I : Inv X pins σ H s) : X.K.In s.heap := I.ok.mod.kin.keeps I.bk
/-- the frame over the base: for OpenK's rules (K.In X.base is I.mod.kin) -/
theorem Inv.fr (I : Inv X pins σ H s) : ∃ m, Fr X.base X.env.locals s.heap m :=
  let ⟨m, hn, _⟩ := I.loc
  ⟨m, hn, I.bk, Nat.le_trans I.ok.bsz I.ok.above⟩
theorem Inv.lt (I : Inv X pins σ H s) : X.env.locals < s.heap.objs.size := let ⟨_, hn, _⟩ := I.loc; hn.lt
theorem Inv.sz (I : Inv X pins σ H s) : X.s₀.heap.objs.size ≤ s.heap.objs.size := Nat.le_trans I.ok.above (Nat.le_of_lt I.lt)
theorem Inv.nofs (I : Inv X pins σ H s) {a : Addr} (h : s.heap.objs.size ≤ a) : a ∉ X.fs := fun hb => by
  obtain ⟨_, o, ho, _⟩ := I.ok.funs.mem hb
  exact absurd (Nat.lt_of_lt_of_le (Heap.lt_size ho) (Nat.le_trans I.sz h)) (Nat.lt_irrefl _)
theorem Inv.cne (I : Inv X pins σ H s) : ∀ x c, X.env.cells.lookup x = some c → c ≠ X.env.locals := fun x c e z => by
  obtain ⟨v, o, ho, hd⟩ := I.cell x c e
  obtain ⟨m, ⟨o', es, ep, ho', hd', _⟩, _⟩ := I.loc
  rw [z, ho'] at ho; cases ho; rw [hd'] at hd; cases hd
theorem Inv.funs (I : Inv X pins σ H s) : s.heap.FunFrames X.base X.outer := by
  have all : ∀ (l : List Env), (∀ b ∈ frs l, b ∈ X.fs) → X.s₀.heap.FunFrames X.base l → s.heap.FunFrames X.base l := by
    intro l
    induction l with
    | nil => intro _ _; trivial
    | cons env r ih =>
      intro hs hl
      obtain ⟨hk, ⟨L, o, hf, hn, ho, hd⟩, hr⟩ := hl
      have hL : L ∈ X.fs := hs L (by unfold frs; rw [List.filterMap_cons, hf]; exact List.mem_cons_self)
      obtain ⟨sl, e⟩ := I.base.slot L o ho (I.ok.frf L hL) hL fun z => I.ok.exfs L z hL
      exact ⟨hk, ⟨L, _, hf, hn, e, hd⟩, ih (fun b hb => hs b (by unfold frs; rw [List.filterMap_cons, hf]; exact List.mem_cons_of_mem _ hb)) hr⟩
  exact all X.outer (fun _ hb => hb) I.ok.funs

/-- the frames that run, for a call -/
theorem Inv.stack (I : Inv X pins σ H s) : s.heap.FunFrames X.base X.stack := by
  rcases I.ok.stk with e | ⟨e, hf⟩
  · rw [e]; exact I.funs
  · rw [e]
    obtain ⟨m, hn, _⟩ := I.loc
    refine .cons (by rw [I.ok.kind]; decide) hf hn ?_ I.funs
    exact Heap.get?_none_of_le (Nat.le_trans I.ok.bsz I.ok.above)
theorem Inv.stkSub (I : Inv X pins σ H s) : ∀ b ∈ frs X.stack, b ∈ X.env.locals :: X.fs := fun b hb => by
  rcases I.ok.stk with e | ⟨e, hf⟩
  · rw [e] at hb; exact List.mem_cons_of_mem _ hb
  · rw [e] at hb
    unfold frs at hb
    rw [List.filterMap_cons, hf] at hb
    exact hb
theorem Inv.stkFree (I : Inv X pins σ H s) : ∀ b ∈ frs X.stack, H b = none := fun b hb => by
  rcases List.mem_cons.mp (I.stkSub b hb) with e | hb
  · rw [e]; exact I.free
  · obtain ⟨_, o, ho, _⟩ := I.ok.funs.mem hb
    exact I.base.free b o ho (I.ok.frf b hb) fun z => I.ok.exfs b z hb

/-- THE STEP: the untracked objects but the frame and the records at ch are kept (the callers' frames up to slots), the frame's map is kept, the new abstract heap is held -/
theorem Inv.step {g' : Array GenState} {t' : Nat} {d' : Drawn} {ch : List Addr} (I : Inv X pins σ H s)
    (hch : ∀ b ∈ ch, (b ∈ X.ex ∨ X.s₀.heap.objs.size ≤ b) ∧ b ≠ X.env.locals ∧ (∀ x c, X.env.cells.lookup x = some c → c ≠ b) ∧ ∀ p ∈ X.pn ++ pins, p.1 ≠ b)
    (keep : ∀ b o, b ≠ X.env.locals → b ∉ X.fs → b ∉ ch → s.heap.get? b = some o → H b = none → h'.get? b = some o)
    (slot : ∀ b o, b ≠ X.env.locals → b ∈ X.fs → b ∉ ch → s.heap.get? b = some o → H b = none → ∃ sl, h'.get? b = some { o with slots := sl }) (free : ∀ b o, b ∉ ch → s.heap.get? b = some o → H b = none → H' b = none)
    (there : ∀ b o, b ∉ ch → s.heap.get? b = some o → ∃ o', h'.get? b = some o')
    (tups : ∀ b xs, H b = some (.tup xs) → H' b = some (.tup xs)) (frzs : ∀ b o u, H b = some (.frz o u) → H' b = some (.frz o u)) (tbls : ∀ b ps, H b = some (.tbl ps) → ∃ more, H' b = some (.tbl (ps ++ more)))
    (ns : ∀ m, s.heap.Ns X.env.locals m → h'.Ns X.env.locals m) (hok : HOk X.prog X.w H' h') (hg : AllBare g') :
    Inv X pins σ H' { s with heap := h', gens := g', drawn := d', toks := t' } := by
  have neL : ∀ b o, X.s₀.heap.get? b = some o → b ≠ X.env.locals := fun b o e => Nat.ne_of_lt (Nat.lt_of_lt_of_le (Heap.lt_size e) I.ok.above)
  have neC : ∀ b o, X.s₀.heap.get? b = some o → b ∉ X.ex → b ∉ ch := fun b o e hx hb => by
    rcases (hch b hb).1 with z | z
    · exact hx z
    · exact absurd (Nat.lt_of_lt_of_le (Heap.lt_size e) z) (Nat.lt_irrefl _)
  have cellK : ∀ x c, X.env.cells.lookup x = some c → ∀ v, s.heap.IsCell c v → h'.IsCell c v := fun x c e v ⟨o, ho, hd⟩ => by
    have nch : c ∉ ch := fun z => (hch c z).2.2.1 x c e rfl
    by_cases hc : c ∈ X.fs
    · obtain ⟨sl, q⟩ := slot c o (I.cne x c e) hc nch ho (I.freeC x c e)
      exact ⟨_, q, hd⟩
    · exact ⟨o, keep c o (I.cne x c e) hc nch ho (I.freeC x c e), hd⟩
  refine ⟨I.ok, I.os, hg, ⟨fun b o e n hb hx => ?_, fun b o e n hb hx => ?_, fun b o e n hx => ?_, fun b o e hx => ?_, fun b xs e => tups b xs (I.base.tups b xs e), fun b o xs e => frzs b o xs (I.base.frzs b o xs e), fun b ps e => ?_⟩, ?_, fun x c e => ?_, ?_, fun x c e => ?_, fun p hp => ?_, hok, I.len⟩
  · exact keep b o (neL b o e) hb (neC b o e hx) (I.base.keep b o e n hb hx) (I.base.free b o e n hx)
  · obtain ⟨sl, e1⟩ := I.base.slot b o e n hb hx
    obtain ⟨sl', e2⟩ := slot b _ (neL b o e) hb (neC b o e hx) e1 (I.base.free b o e n hx)
    exact ⟨sl', e2⟩
  · obtain ⟨o', e1⟩ := I.base.there b o e hx
    exact free b o' (neC b o e hx) e1 (I.base.free b o e n hx)
  · obtain ⟨o', e1⟩ := I.base.there b o e hx
    exact there b o' (neC b o e hx) e1
  · obtain ⟨m1, e1⟩ := I.base.tbls b ps e
    obtain ⟨m2, e2⟩ := tbls b _ e1
    exact ⟨m1 ++ m2, by rw [e2, Array.append_assoc]⟩
  · obtain ⟨m, hn, hl⟩ := I.loc
    refine ⟨m, ns m hn, fun i x v e1 e2 e3 => ?_⟩
    obtain ⟨u, r, l⟩ := hl i x v e1 e2 e3
    refine ⟨u, r, ?_⟩
    rcases l with l | ⟨k, c, e, z⟩
    · exact .inl l
    · exact .inr ⟨k, c, e, cellK x c e _ z⟩
  · obtain ⟨v, z⟩ := I.cell x c e
    exact ⟨v, cellK x c e v z⟩
  · obtain ⟨m, ⟨o, _, _, ho, _⟩, _⟩ := I.loc
    exact free _ o (fun z => (hch _ z).2.1 rfl) ho I.free
  · obtain ⟨v, o, ho, hd⟩ := I.cell x c e
    exact free c o (fun z => (hch c z).2.2.1 x c e rfl) ho (I.freeC x c e)
  · obtain ⟨e, n, ne, nf, d⟩ := I.pin p hp
    have nch : p.1 ∉ ch := fun z => (hch p.1 z).2.2.2 p hp rfl
    exact ⟨keep p.1 p.2 ne nf nch e n, free p.1 p.2 nch e n, ne, nf, d⟩
/-- .. where the frame's own object is kept too -/
theorem Inv.un {t' : Nat} (I : Inv X pins σ H s) (u : Un X.fs [] H H' s.heap h') (hok : HOk X.prog X.w H' h') : Inv X pins σ H' { s with heap := h', toks := t' } := by
  obtain ⟨m, ⟨o, es, ep, ho, r⟩, _⟩ := id I.loc
  obtain ⟨sl, hL⟩ := u.any ho I.free (by simp)
  exact I.step (g' := s.gens) (d' := s.drawn) (ch := []) (fun _ z => nomatch z) (fun b o _ hb _ e n => u.keep b o e n hb (by simp)) (fun b o _ hb _ e n => u.slot b o e n hb (by simp)) (fun b o _ e n => u.free b o e n (by simp)) (fun b o _ e => u.there b o e (by simp)) u.tups u.frzs u.tbls (fun m' hm => by
    obtain ⟨o', es', ep', ho', r'⟩ := hm
    rw [ho] at ho'; cases ho'
    exact ⟨_, es', ep', hL, r'⟩) hok I.bare
/-- behind a call (or a comprehension's block): the slots of this frame may have changed too, the records at ch may have turned -/
theorem Inv.call {g' : Array GenState} {t' : Nat} {d' : Drawn} {ch : List Addr} (I : Inv X pins σ H s) (u : Un (frs X.stack) ch H H' s.heap h') (hok : HOk X.prog X.w H' h') (hg : AllBare g')
    (hch : ∀ b ∈ ch, (b ∈ X.ex ∨ X.s₀.heap.objs.size ≤ b) ∧ b ≠ X.env.locals ∧ (∀ x c, X.env.cells.lookup x = some c → c ≠ b) ∧ ∀ p ∈ X.pn ++ pins, p.1 ≠ b) :
    Inv X pins σ H' { s with heap := h', gens := g', drawn := d', toks := t' } := by
  obtain ⟨m, ⟨o, es, ep, ho, r⟩, _⟩ := id I.loc
  obtain ⟨sl, hL⟩ := u.any ho I.free fun z => (hch _ z).2.1 rfl
  exact I.step (ch := ch) hch (fun b o hL hb hc e n => u.keep b o e n (fun z => (List.mem_cons.mp (I.stkSub b z)).elim hL hb) hc) (fun b o _ _ hc e n => u.any e n hc) (fun b o hc e n => u.free b o e n hc) (fun b o hc e => u.there b o e hc) u.tups u.frzs u.tbls (fun m' hm => by
    obtain ⟨o', es', ep', ho', r'⟩ := hm
    rw [ho] at ho'; cases ho'
    exact ⟨_, es', ep', hL, r'⟩) hok hg
/-- an untracked record of ours (an iterator) has turned -/
theorem Inv.turned {t' : Nat} {it : Addr} (I : Inv X pins σ H s) (k : ∀ b o, b ≠ it → s.heap.get? b = some o → h'.get? b = some o) (hn : H it = none) (hL : it ≠ X.env.locals)
    (h1 : it ∈ X.ex ∨ X.s₀.heap.objs.size ≤ it) (h2 : ∀ x c, X.env.cells.lookup x = some c → c ≠ it) (h3 : ∀ p ∈ X.pn ++ pins, p.1 ≠ it) : Inv X pins σ H { s with heap := h', toks := t' } := by
  have nit : ∀ b u, H b = some u → b ≠ it := fun b u e z => by rw [z, hn] at e; cases e
  refine I.step (g' := s.gens) (d' := s.drawn) (ch := [it]) (fun b hb => ?_) (fun b o _ _ hc e _ => k b o (fun z => hc (by simp [z])) e) (fun b o _ _ hc e _ => ⟨o.slots, k b o (fun z => hc (by simp [z])) e⟩) (fun _ _ _ _ n => n)
    (fun b o hc e => ⟨o, k b o (fun z => hc (by simp [z])) e⟩) (fun _ _ e => e) (fun _ _ _ e => e) (fun b ps e => ⟨#[], by rw [e]; simp⟩) (fun m hm => ?_) (fun b u e => ?_) I.bare
  · have e : b = it := by simpa using hb
    subst e
    exact ⟨h1, hL, h2, h3⟩
  · obtain ⟨o, es, ep, ho, r⟩ := hm
    exact ⟨o, es, ep, k _ o (Ne.symm hL) ho, r⟩
  · refine (I.hok b u e).stay (fun c v hc q => k c v ?_ q) (fun _ q => q) fun _ _ q => q
    rcases hc with z | z
    · rw [z]; exact nit b u e
    · exact nit c _ z
theorem Inv.tok (I : Inv X pins σ H s) (t : Nat) : Inv X pins σ H { s with toks := t } := I.un (h' := s.heap) (t' := t) Un.refl I.hok
/-- all objects kept -/
theorem Inv.kept {t' : Nat} (I : Inv X pins σ H s) (k : ∀ b u, s.heap.get? b = some u → h'.get? b = some u) : Inv X pins σ H { s with heap := h', toks := t' } := I.un (Un.kept k) (I.hok.kept k)
/-- a new object laid and tracked -/
theorem Inv.laid {a : Addr} {o : HO} {t' : Nat} (I : Inv X pins σ H s) (k : ∀ b u, s.heap.get? b = some u → h'.get? b = some u) (hp : s.heap.objs.size ≤ a) (new : ObjOk X.prog X.w (upd H a o) h' a o) :
    Inv X pins σ (upd H a o) { s with heap := h', toks := t' } := I.un (Un.laid k hp (I.hok.fresh hp)) (I.hok.laid k hp new)
/-- an object written -/
theorem Inv.write {x e : Addr} {o : HO} {t' : Nat} (I : Inv X pins σ H s) (mu : Mut (H x)) (he : e = x ∨ H e = some (.own x)) (k : ∀ b u, b ≠ e → s.heap.get? b = some u → h'.get? b = some u) (heo : ∃ u, h'.get? e = some u)
    (new : ObjOk X.prog X.w (upd H x o) h' x o) : Inv X pins σ (upd H x o) { s with heap := h', toks := t' } := I.un (Un.write mu he k heo) (I.hok.write mu he k heo new)
/-- forgetting slots, pins -/
theorem Inv.weak {σ' : List (Option V)} (I : Inv X pins σ H s) (hl : σ'.length = σ.length) (w : ∀ (i : Nat) v, σ'[i]? = some (some v) → σ[i]? = some (some v)) : Inv X pins σ' H s :=
  ⟨I.ok, I.os, I.bare, I.base, let ⟨m, hn, hl'⟩ := I.loc; ⟨m, hn, fun i x v e1 e2 e3 => hl' i x v e1 (w i v e2) e3⟩, I.cell, I.free, I.freeC, I.pin, I.hok, hl.trans I.len⟩
theorem Inv.pins_of {pins' : List (Addr × Obj)} (I : Inv X pins σ H s) (h : ∀ p ∈ pins', s.heap.get? p.1 = some p.2 ∧ H p.1 = none ∧ p.1 ≠ X.env.locals ∧ p.1 ∉ X.fs ∧ ∀ v, p.2.data ≠ .cell v) : Inv X pins' σ H s :=
  ⟨I.ok, I.os, I.bare, I.base, I.loc, I.cell, I.free, I.freeC, fun p hp => (List.mem_append.mp hp).elim (fun z => I.pin p (List.mem_append_left _ z)) (h p), I.hok, I.len⟩

theorem nodup_ix {N : List Str} (hN : N.Nodup) {i j : Nat} {x : Str} (a : N[i]? = some x) (b : N[j]? = some x) : i = j := by
  obtain ⟨h1, e1⟩ := List.getElem?_eq_some_iff.mp a
  obtain ⟨h2, e2⟩ := List.getElem?_eq_some_iff.mp b
  exact (List.getElem_inj hN).mp (e1.trans e2.symm)

/-- a name is stored; what changed -/
theorem store_ok2 {M : Model} {A : Around} {E : Value → Shared → Prop} {i : Nat} {x : Str} {v : V} {u : Value} {Q : Unit → Shared → Prop} (I : Inv X pins σ H s) (hN : X.N.Nodup) (hi : X.N[i]? = some x) (hx : Loc X.env.scope x) (r : RelV v u)
    (h : ∀ s', Inv X pins (σ.set i (some v)) H s' → (∃ a, Heap.SameBut a s.heap s'.heap ∧ (a = X.env.locals ∨ X.env.cells.lookup x = some a)) → Q () s') (hf : X.fn x = true ∨ X.env.scope.names.lookup x = some .local := by first | exact .inl rfl | exact .inr rfl | assumption) : wpAny M A (storeName X.env x u) Q E s := by
  obtain ⟨m, hn, hl⟩ := id I.loc
  have hcls : (X.env.scope.kind == .class || (X.env.scope.kind == .module && X.env.locals != X.env.globals)) = false := by rw [I.ok.kind]; rfl
  have hiσ : i < σ.length := by rw [I.len]; exact (List.getElem?_eq_some_iff.mp hi).1
  have cne := I.cne
  have tracked : ∀ {a : Addr} {h' : Heap}, (∃ o, s.heap.get? a = some o ∧ H a = none) → Heap.SameBut a s.heap h' → HOk X.prog X.w H h' := fun {a h'} ha hs b ob e => by
    obtain ⟨_, _, hfree⟩ := ha
    refine (I.hok b ob e).stay (fun c w' hc q => (hs.2 c ?_).trans q) (fun _ q => q) fun _ _ q => q
    rintro rfl
    rcases hc with rfl | hc
    · rw [hfree] at e; cases e
    · rw [hfree] at hc; cases hc
  rcases hx with hk | hk
  · refine wpAny_storeName_local hk hn (fun h' hn' hs => ?_) hcls
    obtain ⟨oL, _, _, hoL, _⟩ := id hn
    refine h _ ⟨I.ok, I.os, I.bare, ⟨fun b o e n hb hx => ?_, fun b o e n hb hx => ?_, I.base.free, fun b o e hx => ?_, I.base.tups, I.base.frzs, I.base.tbls⟩, ⟨_, hn', fun j y v' e1 e2 e3 => ?_⟩, fun y c e => ?_, I.free, I.freeC, fun p hp => ?_, tracked ⟨oL, hoL, I.free⟩ hs, by simpa using I.len⟩ ⟨_, hs, .inl rfl⟩
    · exact (hs.2 b (Nat.ne_of_lt (Nat.lt_of_lt_of_le (Heap.lt_size e) I.ok.above))).trans (I.base.keep b o e n hb hx)
    · obtain ⟨sl, e1⟩ := I.base.slot b o e n hb hx
      exact ⟨sl, (hs.2 b (Nat.ne_of_lt (Nat.lt_of_lt_of_le (Heap.lt_size e) I.ok.above))).trans e1⟩
    · obtain ⟨o', e1⟩ := I.base.there b o e hx
      exact ⟨o', (hs.2 b (Nat.ne_of_lt (Nat.lt_of_lt_of_le (Heap.lt_size e) I.ok.above))).trans e1⟩
    · by_cases hj : j = i
      · subst hj
        rw [hi] at e1; cases e1
        rw [List.getElem?_set_self hiσ] at e2
        cases e2
        exact ⟨u, r, .inl ⟨hk, by simp⟩⟩
      · rw [List.getElem?_set_ne (Ne.symm hj)] at e2
        obtain ⟨u', r', q⟩ := hl j y v' e1 e2 e3
        refine ⟨u', r', ?_⟩
        rcases q with ⟨k, e⟩ | ⟨k, c, e, z⟩
        · refine .inl ⟨k, ?_⟩
          have : y ≠ x := fun e => hj (nodup_ix hN e1 (e ▸ hi))
          simp [this, e]
        · exact .inr ⟨k, c, e, z.sameBut hs (cne y c e)⟩
    · obtain ⟨w', z⟩ := I.cell y c e
      exact ⟨w', z.sameBut hs (cne y c e)⟩
    · obtain ⟨e, n, ne, nf, d⟩ := I.pin p hp
      exact ⟨(hs.2 p.1 ne).trans e, n, ne, nf, d⟩
  · have hfn : X.fn x = true := by
      rcases hf with z | z
      · exact z
      · rw [z] at hk; cases hk
    obtain ⟨c, hc⟩ := I.ok.has x (.inl hk)
    obtain ⟨w', z⟩ := I.cell x c hc
    refine wpAny_storeName_cell I.ok.kind hk hc z (fun h' hc' hs => ?_)
    obtain ⟨oc, hoc, hocd⟩ := id z
    refine h { s with heap := h' } ⟨I.ok, I.os, I.bare, ⟨fun b o e n hb hx => ?_, fun b o e n hb hx => ?_, I.base.free, fun b o e hx => ?_, I.base.tups, I.base.frzs, I.base.tbls⟩, ⟨m, hn.sameBut hs (Ne.symm (cne x c hc)), fun j y v' e1 e2 e3 => ?_⟩, fun y c' e => ?_, I.free, I.freeC, fun p hp => ?_, tracked ⟨oc, hoc, I.freeC x c hc⟩ hs, by simpa using I.len⟩ ⟨c, hs, .inr hc⟩
    · exact (hs.2 b (Nat.ne_of_lt (Nat.lt_of_lt_of_le (Heap.lt_size e) (I.ok.cab x c hfn hc)))).trans (I.base.keep b o e n hb hx)
    · obtain ⟨sl, e1⟩ := I.base.slot b o e n hb hx
      exact ⟨sl, (hs.2 b (Nat.ne_of_lt (Nat.lt_of_lt_of_le (Heap.lt_size e) (I.ok.cab x c hfn hc)))).trans e1⟩
    · obtain ⟨o', e1⟩ := I.base.there b o e hx
      exact ⟨o', (hs.2 b (Nat.ne_of_lt (Nat.lt_of_lt_of_le (Heap.lt_size e) (I.ok.cab x c hfn hc)))).trans e1⟩
    · by_cases hj : j = i
      · subst hj
        rw [hi] at e1; cases e1
        rw [List.getElem?_set_self hiσ] at e2
        cases e2
        exact ⟨u, r, .inr ⟨.inl hk, c, hc, hc'⟩⟩
      · rw [List.getElem?_set_ne (Ne.symm hj)] at e2
        obtain ⟨u', r', q⟩ := hl j y v' e1 e2 e3
        refine ⟨u', r', ?_⟩
        rcases q with q | ⟨k, c', e, z'⟩
        · exact .inl q
        · refine .inr ⟨k, c', e, z'.sameBut hs ?_⟩
          rintro rfl
          exact hj (nodup_ix hN e1 (I.ok.inj _ _ _ e hc ▸ hi))
    · by_cases hcc : c' = c
      · subst hcc; exact ⟨_, hc'⟩
      · obtain ⟨w2, z2⟩ := I.cell y c' e
        exact ⟨w2, z2.sameBut hs hcc⟩
    · obtain ⟨e, n, ne, nf, d⟩ := I.pin p hp
      refine ⟨(hs.2 p.1 ?_).trans e, n, ne, nf, d⟩
      intro q
      rw [q, hoc] at e
      have q' : oc = p.2 := Option.some.inj e
      exact d w' (by rw [← q']; exact hocd)
theorem store_ok {M : Model} {A : Around} {E : Value → Shared → Prop} {i : Nat} {x : Str} {v : V} {u : Value} {Q : Unit → Shared → Prop} (I : Inv X pins σ H s) (hN : X.N.Nodup) (hi : X.N[i]? = some x) (hx : Loc X.env.scope x) (r : RelV v u)
    (h : ∀ s', Inv X pins (σ.set i (some v)) H s' → Q () s') (hf : X.fn x = true ∨ X.env.scope.names.lookup x = some .local := by first | exact .inl rfl | exact .inr rfl | assumption) : wpAny M A (storeName X.env x u) Q E s :=
  store_ok2 I hN hi hx r (fun s' I' _ => h s' I') hf
/-- behind a call or a block, the state as it is -/
theorem Inv.call' {s' : Shared} {ch : List Addr} (I : Inv X pins σ H s) (ho : s'.os = s.os) (u : Un (frs X.stack) ch H H' s.heap s'.heap) (hok : HOk X.prog X.w H' s'.heap) (hg : AllBare s'.gens)
    (hch : ∀ b ∈ ch, (b ∈ X.ex ∨ X.s₀.heap.objs.size ≤ b) ∧ b ≠ X.env.locals ∧ (∀ x c, X.env.cells.lookup x = some c → c ≠ b) ∧ ∀ p ∈ X.pn ++ pins, p.1 ≠ b) : Inv X pins σ H' s' := by
  obtain ⟨h', g', d', t', o'⟩ := s'
  have e : o' = s.os := ho
  subst e
  exact I.call (g' := g') (t' := t') (d' := d') u hok hg hch
end

/-- an exception: its class, its own dict's address (where it has one), the abstract heap behind it -/
abbrev XK := Value → Option Addr → Hp → Prop
abbrev St := List (Option V)
abbrev VK := V → Hp → Prop
/-- an expression's reading; a test's; an argument list's -/
abbrev TE := St → Hp → VK → Prop
abbrev TT := St → Hp → (Bool → Hp → Prop) → Prop
abbrev TA := St → Hp → (List V → Hp → Prop) → Prop
/-- what is wanted behind a statement -/
structure Ends where
  nx : St → Hp → Prop
  rt : VK
  bk : St → Hp → Prop := fun _ _ => False
  ct : St → Hp → Prop := fun _ _ => False
abbrev TS := Ends → St → Hp → Prop

def EP (X : Cx) (pins : List (Addr × Obj)) (σ : St) (Q : VK) (u : Value) (s' : Shared) : Prop := ∃ v H', Inv X pins σ H' s' ∧ RelV v u ∧ Q v H'
def TP (X : Cx) (pins : List (Addr × Obj)) (σ : St) (Q : Bool → Hp → Prop) (b : Bool) (s' : Shared) : Prop := ∃ H', Inv X pins σ H' s' ∧ Q b H'
def AP (X : Cx) (pins : List (Addr × Obj)) (σ : St) (Q : List V → Hp → Prop) (us : List Value) (s' : Shared) : Prop := ∃ vs H', Inv X pins σ H' s' ∧ Vals vs us ∧ Q vs H'
def SP (X : Cx) (pins : List (Addr × Obj)) (D : Ends) (f : Flow) (s' : Shared) : Prop :=
  match f with
  | .next => ∃ σ' H', Inv X pins σ' H' s' ∧ D.nx σ' H'
  | .brk => ∃ σ' H', Inv X pins σ' H' s' ∧ D.bk σ' H'
  | .cont => ∃ σ' H', Inv X pins σ' H' s' ∧ D.ct σ' H'
  | .ret u => ∃ v σ' H', Inv X pins σ' H' s' ∧ RelV v u ∧ D.rt v H'

def PE (X : Cx) (e : Expr) (t : TE) : Prop :=
  ∀ (pins : List (Addr × Obj)) (s : Shared) (σ : St) (H : Hp) (Q : VK), Inv X pins σ H s → t σ H Q → wpAny (model X.prog X.w) X.A (eval e X.env) (EP X pins σ Q) X.xe s
def PT (X : Cx) (e : Expr) (t : TT) : Prop :=
  ∀ (pins : List (Addr × Obj)) (s : Shared) (σ : St) (H : Hp) (Q : Bool → Hp → Prop), Inv X pins σ H s → t σ H Q → wpAny (model X.prog X.w) X.A (isTrue e X.env (eval e X.env)) (TP X pins σ Q) X.xe s
/-- a test whatever its 'whole' is (and, or) -/
def PW (X : Cx) (e : Expr) (t : TT) : Prop :=
  ∀ (whole : Sem Value) (pins : List (Addr × Obj)) (s : Shared) (σ : St) (H : Hp) (Q : Bool → Hp → Prop), Inv X pins σ H s → t σ H Q → wpAny (model X.prog X.w) X.A (isTrue e X.env whole) (TP X pins σ Q) X.xe s
theorem PW.pt {X : Cx} {e : Expr} {t : TT} (h : PW X e t) : PT X e t := h _
/-- an argument list (no star), from the left -/
def PA (X : Cx) (es : List Expr) (t : TA) : Prop :=
  ∀ (pos : Pos) (pins : List (Addr × Obj)) (s : Shared) (σ : St) (H : Hp) (Q : List V → Hp → Prop), Inv X pins σ H s → t σ H Q → wpAny (model X.prog X.w) X.A (spliced (backTo pos (starEach es X.env))) (AP X pins σ Q) X.xe s
def PS (X : Cx) (st : Stmt) (t : TS) : Prop :=
  ∀ (pins : List (Addr × Obj)) (s : Shared) (σ : St) (H : Hp) (D : Ends), Inv X pins σ H s → t D σ H → wpAny (model X.prog X.w) X.A (exec st X.env) (SP X pins D) X.xe s
def PSs (X : Cx) (st : List Stmt) (t : TS) : Prop :=
  ∀ (pins : List (Addr × Obj)) (s : Shared) (σ : St) (H : Hp) (D : Ends), Inv X pins σ H s → t D σ H → wpAny (model X.prog X.w) X.A (execs st X.env) (SP X pins D) X.xe s
/-- weaken the end -/
theorem thn {α : Type} {t : Sem α} {Q Q' : α → Shared → Prop} {M : Model} {A : Around} {E : Value → Shared → Prop} {s : Shared} (h : wpAny M A t Q E s) (hQ : ∀ a s, Q a s → Q' a s) : wpAny M A t Q' E s := wpAny_mono h hQ fun _ _ x => x
end L2

namespace L2
open PySem PySem.Spec PyProof.Rows
section
variable {X : Cx}

/-- two expressions in a row -/
def tVar (i : Nat) : TE := fun σ H Q => ∃ v, σ[i]? = some (some v) ∧ Q v H
def tC (v : V) : TE := fun _ H Q => Q v H
theorem pe_var {i : Nat} {x : Str} {pos : Pos} (hN : X.N[i]? = some x) (hv : Vis X.env.scope x) (hd : (x == ("__debug__" : Str)) = false := by decide) (hcd : (x == ("__classdict__" : Str)) = false := by decide) : PE X (.Name x pos) (tVar i) := by
  intro pins s σ H Q I h
  obtain ⟨v, e, h⟩ := h
  obtain ⟨m, hn, hl⟩ := I.loc
  obtain ⟨u, r, l⟩ := hl i x v hN e hv
  have fin : EP X pins σ Q u s := ⟨v, H, I, r, h⟩
  rcases l with ⟨hk, hm⟩ | ⟨hk, c, hc, hcell⟩
  · exact wpAny_Name (wpAny_loadName_local I.ok.kind hk hn hm fin) hd
  · rcases hk with hk | hk
    · exact wpAny_Name (wpAny_loadName_cell I.ok.kind hk hc hcell fin) hd
    · exact wpAny_Name (wpAny_loadName_free I.ok.kind hk hc hcell fin hcd) hd
theorem pe_int {i j pos} : PE X (.Constant (.int i) j pos) (tC (.int i)) := fun _ _ _ H _ I h => wpAny_Constant_int ⟨.int i, H, I.tok _, ⟨_, rfl⟩, h⟩
theorem pe_bl {b j pos} : PE X (.Constant (.bool b) j pos) (tC (.bl b)) := fun _ _ _ H _ I h => Constant_bool ⟨.bl b, H, I, rfl, h⟩
theorem pe_non {j pos} : PE X (.Constant .none j pos) (tC .non) := fun _ _ _ H _ I h => Constant_none ⟨.non, H, I, rfl, h⟩
theorem pe_str {x j pos} : PE X (.Constant (.str x) j pos) (tC (.str x)) := fun _ _ _ H _ I h => Calls.Constant_str ⟨.str x, H, I.tok _, ⟨_, rfl⟩, h⟩

/-- a global name of the def -/
def Gl (X : Cx) (x : Str) : Prop := X.env.kindOf x = some .globalImplicit
theorem ld_glob {E : Value → Shared → Prop} {pins : List (Addr × Obj)} {s : Shared} {σ : St} {H : Hp} {x : Str} {u : Value} {pos : Pos} {Q : Value → Shared → Prop} (I : Inv X pins σ H s) (hg : Gl X x) (hm : X.mg x = some u) (h : Q u s)
    (hd : (x == ("__debug__" : Str)) = false := by decide) : wpAny (model X.prog X.w) X.A (eval (.Name x pos) X.env) Q E s :=
  Calls.Name_function_global I.ok.kind hg (Calls.loadGlobal_global (by rw [I.ok.glob]; exact I.mod.glob.keeps I.bk) hm h) hd
theorem ld_blt {E : Value → Shared → Prop} {pins : List (Addr × Obj)} {s : Shared} {σ : St} {H : Hp} {x : Str} {u : Value} {pos : Pos} {Q : Value → Shared → Prop} (I : Inv X pins σ H s) (hg : Gl X x) (hm : X.mg x = none) (hv : bootBuiltins x = some u) (h : Q u s)
    (hn : x ≠ "__name__" := by decide) (hd : (x == ("__debug__" : Str)) = false := by decide) : wpAny (model X.prog X.w) X.A (eval (.Name x pos) X.env) Q E s := by
  obtain ⟨mb, h1, h2⟩ := I.mod.blt
  exact Calls.Name_function_global I.ok.kind hg (Calls.loadGlobal_builtin (by rw [I.ok.glob]; exact I.mod.glob.keeps I.bk) hm (by rw [I.ok.blt]; exact h1.keeps I.bk) ((h2 x hn).trans hv) h) hd
/-- a module's constant, a class, a function, as a value -/
theorem pe_glob {x : Str} {v : V} {u : Value} {pos : Pos} (hg : Gl X x) (hm : X.mg x = some u) (r : RelV v u) (hd : (x == ("__debug__" : Str)) = false := by decide) : PE X (.Name x pos) (tC v) :=
  fun _ _ _ H _ I h => ld_glob I hg hm ⟨v, H, I, r, h⟩ hd
theorem pe_bltn {x : Str} {v : V} {u : Value} {pos : Pos} (hg : Gl X x) (hm : X.mg x = none) (hv : bootBuiltins x = some u) (r : RelV v u) (hn : x ≠ "__name__" := by decide) (hd : (x == ("__debug__" : Str)) = false := by decide) : PE X (.Name x pos) (tC v) :=
  fun _ _ _ H _ I h => ld_blt I hg hm hv ⟨v, H, I, r, h⟩ hn hd

variable {a b : Expr} {ta tb : TE} {pos : Pos}
def PC (X : Cx) (op : CmpOp) (a b : Expr) (t : TE) : Prop :=
  ∀ (pins : List (Addr × Obj)) (s : Shared) (σ : St) (H : Hp) (Q : VK), Inv X pins σ H s → t σ H Q →
    wpAny (model X.prog X.w) X.A (eval a X.env) (fun v s₁ => wpAny (model X.prog X.w) X.A (eval b X.env) (fun u s₂ => wpAny (model X.prog X.w) X.A (compareOp op v u) (EP X pins σ Q) X.xe s₂) X.xe s₁) X.xe s
/-- a comparison as a value, as a test -/
def tB (t : TE) : TT := fun σ H Q => t σ H fun x H1 => ∃ c, x = .bl c ∧ Q c H1
theorem pt_val {e : Expr} {t : TE} (h : PE X e t) (he : ∀ whole, isTrue e X.env whole = (do let v ← whole; standAt e.pos; holding [v] (truthy v)) := by intro _; rfl) : PT X e (tB t) := by
  intro pins s σ H Q I hw
  refine isTrue_plain (thn (h pins s σ H _ I hw) fun v s1 ⟨x, H1, I1, r1, q1⟩ => ?_) (he _)
  obtain ⟨d, rfl, q⟩ := q1
  cases r1
  exact wpAny_truthy_bool ⟨H1, I1, q⟩

variable {tA tB' : TT} {rest : List Expr}
def tAnd (t u : TT) : TT := fun σ H Q => t σ H fun c H1 => if c = true then u σ H1 Q else Q false H1
def tOr (t u : TT) : TT := fun σ H Q => t σ H fun c H1 => if c = true then Q true H1 else u σ H1 Q
def tNot (t : TT) : TT := fun σ H Q => t σ H fun c H1 => Q (!c) H1
theorem pw_and1 (ha : PT X a tA) : PW X (.BoolOp .And [a] pos) tA := by
  intro wh pins s σ H Q I h
  refine isTrue_and (thn (ha pins s σ H Q I h) fun c s1 e => ?_)
  cases c with
  | true => exact isTrue_and_nil e
  | false => exact e
theorem pw_or1 (ha : PT X a tA) : PW X (.BoolOp .Or [a] pos) tA := by
  intro wh pins s σ H Q I h
  refine isTrue_or (thn (ha pins s σ H Q I h) fun c s1 e => ?_)
  cases c with
  | false => exact isTrue_or_nil e
  | true => exact e
theorem pw_and (ha : PT X a tA) (hb : PW X (.BoolOp .And (b :: rest) pos) tB') : PW X (.BoolOp .And (a :: b :: rest) pos) (tAnd tA tB') := by
  intro wh pins s σ H Q I h
  refine isTrue_and (thn (ha pins s σ H _ I h) fun c s1 ⟨H1, I1, q1⟩ => ?_)
  cases c with
  | true => exact hb wh pins s1 σ H1 Q I1 q1
  | false => exact ⟨H1, I1, q1⟩
theorem pw_or (ha : PT X a tA) (hb : PW X (.BoolOp .Or (b :: rest) pos) tB') : PW X (.BoolOp .Or (a :: b :: rest) pos) (tOr tA tB') := by
  intro wh pins s σ H Q I h
  refine isTrue_or (thn (ha pins s σ H _ I h) fun c s1 ⟨H1, I1, q1⟩ => ?_)
  cases c with
  | true => exact ⟨H1, I1, q1⟩
  | false => exact hb wh pins s1 σ H1 Q I1 q1
theorem pt_not (ha : PT X a tA) : PT X (.UnaryOp .Not a pos) (tNot tA) := by
  intro pins s σ H Q I h
  exact isTrue_not (ha pins s σ H (fun c H1 => Q (!c) H1) I h)
/-- .. as values (bools) -/
def tAndV (ta tb : TE) : TE := fun σ H Q => ta σ H fun x H1 => ∃ c, x = .bl c ∧ if c = true then tb σ H1 Q else Q (.bl false) H1
def tNotV (ta : TE) : TE := fun σ H Q => ta σ H fun x H1 => ∃ c, x = .bl c ∧ Q (.bl (!c)) H1
theorem pe_one {op} {t : TE} (h : PE X a t) : PE X (.BoolOp op [a] pos) t := fun pins s σ H Q I hw => BoolOp_one (h pins s σ H Q I hw)
theorem pe_and (ha : PE X a ta) (hb : PE X (.BoolOp .And (b :: rest) pos) tb) : PE X (.BoolOp .And (a :: b :: rest) pos) (tAndV ta tb) := by
  intro pins s σ H Q I h
  refine BoolOp_and (thn (ha pins s σ H _ I h) fun v s1 ⟨x, H1, I1, r1, q1⟩ => ?_)
  obtain ⟨c, rfl, q1⟩ := q1
  cases r1
  refine wpAny_truthy_bool ?_
  cases c with
  | true => exact hb pins s1 σ H1 Q I1 q1
  | false => exact ⟨.bl false, H1, I1, rfl, q1⟩
theorem pe_not (ha : PE X a ta) : PE X (.UnaryOp .Not a pos) (tNotV ta) := by
  intro pins s σ H Q I h
  refine UnaryOp_ (thn (ha pins s σ H _ I h) fun v s1 ⟨x, H1, I1, r1, q1⟩ => ?_)
  obtain ⟨c, rfl, q1⟩ := q1
  cases r1
  exact not_of (wpAny_truthy_bool ⟨.bl (!c), H1, I1, rfl, q1⟩)
/-- a if t else b -/
def tIf (t : TT) (ta tb : TE) : TE := fun σ H Q => t σ H fun c H1 => if c = true then ta σ H1 Q else tb σ H1 Q
theorem pe_ifExp {c : Expr} (hc : PT X c tA) (ha : PE X a ta) (hb : PE X b tb) : PE X (.IfExp c a b pos) (tIf tA ta tb) := by
  intro pins s σ H Q I h
  refine wpAny_IfExp (thn (hc pins s σ H _ I h) fun d s1 ⟨H1, I1, q1⟩ => ?_)
  cases d with
  | true => exact ha pins s1 σ H1 Q I1 q1
  | false => exact hb pins s1 σ H1 Q I1 q1
end
end L2

namespace L2
open PySem PySem.Spec PyProof.Rows

def SqL (K : PySem.W.Frag) (H : Hp) (a : Addr) (xs : List V) : Prop :=
  Rd H a (.lst xs) ∨
    ∃ (o : Obj) (its : Array Value) (n : Nat), K.lookup a = some o ∧ o.cls = .type "list" ∧ o.dict = none ∧ o.data = .seq its n ∧ its.size ≤ sizeLine ∧ Vals xs its.toList
def SqT (K : PySem.W.Frag) (H : Hp) (a : Addr) (xs : List V) : Prop :=
  Rd H a (.tup xs) ∨
    ∃ (o : Obj) (its : Array Value) (n : Nat), K.lookup a = some o ∧ o.cls = .type "tuple" ∧ o.data = .seq its n ∧ its.size ≤ sizeLine ∧ Vals xs its.toList
def absV : Value → Option V
  | .none => some .non
  | .bool b => some (.bl b)
  | .int i _ => some (.int i)
  | .str x _ => some (.str x)
  | .bytes b _ => some (.byt b)
  | .float b _ => some (.flt b)
  | .ref a => some (.ref a)
  | .type n => some (.ty n)
  | _ => none
theorem RelV.abs {x : V} {u : Value} (r : RelV x u) : absV u = some x := by
  cases x with
  | non => cases r; rfl
  | bl _ => cases r; rfl
  | int _ => obtain ⟨t, rfl⟩ := r; rfl
  | str _ => obtain ⟨t, rfl⟩ := r; rfl
  | byt _ => obtain ⟨t, rfl⟩ := r; rfl
  | flt _ => obtain ⟨t, rfl⟩ := r; rfl
  | ref _ => cases r; rfl
  | ty _ => cases r; rfl
theorem RelV.inj {x y : V} {u : Value} (r : RelV x u) (q : RelV y u) : x = y := Option.some.inj (r.abs.symm.trans q.abs)
theorem Vals.inj : ∀ {xs ys : List V} {us : List Value}, Vals xs us → Vals ys us → xs = ys
  | _, _, _, .nil, .nil => rfl
  | _, _, _, .cons r t, .cons r' t' => by rw [r.inj r', Vals.inj t t']
section
variable {X : Cx} {pins : List (Addr × Obj)} {σ : St} {H : Hp} {s : Shared} {a : Addr} {xs ys : List V}
theorem SqL.of {K : PySem.W.Frag} (h : H a = some (.lst xs)) : SqL K H a xs := .inl (.inl h)
theorem SqT.of {K : PySem.W.Frag} (h : H a = some (.tup xs)) : SqT K H a xs := .inl (.inl h)
theorem Inv.list (I : Inv X pins σ H s) (h : SqL X.K H a xs) : ∃ its : List Value, Vals xs its ∧ PlainL s.heap a its.toArray ∧ xs.length ≤ sizeLine := by
  rcases h with h | ⟨o, its, n, hk, hc, hd, hs, hz, r⟩
  · obtain ⟨z, its, n, r, e⟩ := h.ok I.hok
    exact ⟨its, r, ⟨_, n, e, rfl, rfl, rfl⟩, z⟩
  · refine ⟨its.toList, r, ⟨o, n, I.kIn a o hk, hc, hd, by simpa using hs⟩, ?_⟩
    have e := r.length
    simp only [Array.length_toList] at e
    omega
theorem Inv.tuple (I : Inv X pins σ H s) (h : SqT X.K H a xs) : ∃ its : List Value, Vals xs its ∧ IsTup s.heap a its.toArray ∧ xs.length ≤ sizeLine := by
  rcases h with h | ⟨o, its, n, hk, hc, hs, hz, r⟩
  · obtain ⟨z, its, r, p⟩ := h.ok I.hok
    exact ⟨its, r, p, z⟩
  · refine ⟨its.toList, r, ⟨o, I.kIn a o hk, hc, n, by simpa using hs⟩, ?_⟩
    have e := r.length
    simp only [Array.length_toList] at e
    omega
theorem Inv.list_inj (I : Inv X pins σ H s) (h : SqL X.K H a xs) (h' : SqL X.K H a ys) : xs = ys := by
  obtain ⟨its, r, ⟨o, n, e, _, _, d⟩, _⟩ := I.list h
  obtain ⟨its', r', ⟨o', n', e', _, _, d'⟩, _⟩ := I.list h'
  rw [e] at e'; cases e'
  rw [d] at d'
  injection d' with d1 _
  have : its = its' := by simpa using congrArg Array.toList d1
  subst this
  exact r.inj r'
theorem Inv.tuple_inj (I : Inv X pins σ H s) (h : SqT X.K H a xs) (h' : SqT X.K H a ys) : xs = ys := by
  obtain ⟨its, r, ⟨o, e, _, n, d⟩, _⟩ := I.tuple h
  obtain ⟨its', r', ⟨o', e', _, n', d'⟩, _⟩ := I.tuple h'
  rw [e] at e'; cases e'
  rw [d] at d'
  injection d' with d1 _
  have : its = its' := by simpa using congrArg Array.toList d1
  subst this
  exact r.inj r'
end

abbrev Cx.wish (X : Cx) (E : Value → Shared → Prop) : Cx := { X with xe := E }
/-- no exception leaves -/
abbrev Cx.nox (X : Cx) : Cx := X.wish fun _ _ => False
theorem Cx.Ok.wish {X : Cx} (ok : X.Ok) (E : Value → Shared → Prop) : (X.wish E).Ok :=
  ⟨ok.mod, ok.kind, ok.glob, ok.blt, ok.above, ok.inj, ok.has, ok.cab, ok.hd, ok.frames, ok.stk, ok.exf, ok.bs, ok.bsz, ok.noex, ok.exfs, ok.funs, ok.frf⟩
theorem Cx.Ok.unwish {X : Cx} {E : Value → Shared → Prop} (ok : (X.wish E).Ok) : X.Ok :=
  ⟨ok.mod, ok.kind, ok.glob, ok.blt, ok.above, ok.inj, ok.has, ok.cab, ok.hd, ok.frames, ok.stk, ok.exf, ok.bs, ok.bsz, ok.noex, ok.exfs, ok.funs, ok.frf⟩
section
variable {X : Cx} {pins : List (Addr × Obj)} {σ : St} {H : Hp} {s : Shared} {E : Value → Shared → Prop}
theorem Inv.wish (I : Inv X pins σ H s) (E : Value → Shared → Prop) : Inv (X.wish E) pins σ H s := ⟨I.ok.wish E, I.os, I.bare, I.base, I.loc, I.cell, I.free, I.freeC, I.pin, I.hok, I.len⟩
theorem Inv.unwish (I : Inv (X.wish E) pins σ H s) : Inv X pins σ H s := ⟨I.ok.unwish, I.os, I.bare, I.base, I.loc, I.cell, I.free, I.freeC, I.pin, I.hok, I.len⟩
theorem SP.unwish {D : Ends} {f : Flow} {s' : Shared} (h : SP (X.wish E) pins D f s') : SP X pins D f s' := by
  cases f with
  | next => obtain ⟨σ', H', I, q⟩ := h; exact ⟨σ', H', I.unwish, q⟩
  | brk => obtain ⟨σ', H', I, q⟩ := h; exact ⟨σ', H', I.unwish, q⟩
  | cont => obtain ⟨σ', H', I, q⟩ := h; exact ⟨σ', H', I.unwish, q⟩
  | ret u => obtain ⟨v, σ', H', I, r, q⟩ := h; exact ⟨v, σ', H', I.unwish, r, q⟩
theorem PSs.nox {st : List Stmt} {t : TS} (h : PSs X.nox st t) : PSs X st t := fun pins s σ H D I hw =>
  wpAny_mono (h pins s σ H D (I.wish _) hw) (fun _ _ q => q.unwish) fun _ _ z => False.elim z
end

section
variable {X : Cx} {st : Stmt} {rest : List Stmt} {t u : TS} {e : Expr} {te : TE} {pos : Pos}
def tNext : TS := fun D σ H => D.nx σ H
def tSeq (t u : TS) : TS := fun D σ H => t { D with nx := u D } σ H
theorem pss_nil : PSs X [] tNext := fun _ _ σ H _ I h => wpAny_execs_nil ⟨σ, H, I, h⟩
theorem pss_cons (h1 : PS X st t) (h2 : PSs X rest u) : PSs X (st :: rest) (tSeq t u) := by
  intro pins s σ H D I h
  refine wpAny_execs_cons (thn (h1 pins s σ H { D with nx := u D } I h) fun f s1 q => ?_)
  cases f with
  | next =>
    obtain ⟨σ', H', I', q⟩ := q
    exact h2 pins s1 σ' H' D I' q
  | ret v => exact q
  | brk => exact q
  | cont => exact q
theorem pss_one (h1 : PS X st t) : PSs X [st] t := by
  intro pins s σ H D I h
  refine wpAny_execs_cons (thn (h1 pins s σ H D I h) fun f s1 q => ?_)
  cases f with
  | next => exact wpAny_execs_nil q
  | ret v => exact q
  | brk => exact q
  | cont => exact q
/-- in a def's body nothing is shown -/
theorem Inv.quiet {pins : List (Addr × Obj)} {σ : St} {H : Hp} {s : Shared} (I : Inv X pins σ H s) : interactive X.env = false := by simp [interactive, I.ok.kind]
/-- an expression whose value is dropped -/
def tDrop (te : TE) : TS := fun D σ H => te σ H fun _ H1 => D.nx σ H1
theorem ps_expr (he : PE X e te) (hs : swapsWith e none pos.line X.env = pure false := by rfl) : PS X (.Expr e pos) (tDrop te) := by
  intro pins s σ H D I h
  exact wpAny_Expr_any (thn (he pins s σ H _ I h) fun v s1 ⟨x, H1, I1, r1, q1⟩ => ⟨σ, H1, I1, q1⟩) I.quiet hs
def tRet (te : TE) : TS := fun D σ H => te σ H D.rt
theorem ps_ret (he : PE X e te) : PS X (.Return (some e) pos) (tRet te) := by
  intro pins s σ H D I h
  exact wpAny_Return_some (thn (he pins s σ H _ I h) fun v s1 ⟨x, H1, I1, r1, q1⟩ => ⟨x, σ, H1, I1, r1, q1⟩)
def tIfS (c : TT) (t u : TS) : TS := fun D σ H => c σ H fun b H1 => if b = true then t D σ H1 else u D σ H1
theorem ps_if {c : Expr} {a b : List Stmt} {tc : TT} (hc : PT X c tc) (ha : PSs X a t) (hb : PSs X b u) : PS X (.If c a b pos) (tIfS tc t u) := by
  intro pins s σ H D I h
  refine wpAny_If (thn (hc pins s σ H _ I h) fun d s1 ⟨H1, I1, q1⟩ => ?_)
  cases d with
  | true => exact ha pins s1 σ H1 D I1 q1
  | false => exact hb pins s1 σ H1 D I1 q1
/-- code that the proof never comes to -/
def tNever : TS := fun _ _ _ => False
theorem ps_never : PS X st tNever := fun _ _ _ _ _ _ h => h.elim
end

abbrev TG := V → St → Hp → (St → Hp → Prop) → Prop
abbrev TGs := List V → St → Hp → (St → Hp → Prop) → Prop
def PG (X : Cx) (target : Expr) (t : TG) : Prop :=
  ∀ (pins : List (Addr × Obj)) (s : Shared) (σ : St) (H : Hp) (v : V) (u : Value) (Q : St → Hp → Prop), Inv X pins σ H s → RelV v u → t v σ H Q →
    wpAny (model X.prog X.w) X.A (assign target X.env u) (fun _ s' => ∃ σ' H', Inv X pins σ' H' s' ∧ Q σ' H') X.xe s
/-- several targets, one after another -/
def PGs (X : Cx) (ts : List Expr) (t : TGs) : Prop :=
  ∀ (pins : List (Addr × Obj)) (s : Shared) (σ : St) (H : Hp) (vs : List V) (us : List Value) (Q : St → Hp → Prop), Inv X pins σ H s → Vals vs us → t vs σ H Q →
    wpAny (model X.prog X.w) X.A (assignInOrder ((assignEach ts X.env).map (·.2)) us) (fun _ s' => ∃ σ' H', Inv X pins σ' H' s' ∧ Q σ' H') X.xe s
/-- o[i] = v, by values -/
abbrev TSet := V → V → V → Hp → (Hp → Prop) → Prop
def PSet (X : Cx) (t : TSet) : Prop :=
  ∀ (pins : List (Addr × Obj)) (s : Shared) (σ : St) (H : Hp) (o i v : V) (ov iv u : Value) (Q : Hp → Prop), Inv X pins σ H s → RelV o ov → RelV i iv → RelV v u → t o i v H Q →
    wpAny (model X.prog X.w) X.A (setItem ov iv u) (fun _ s' => ∃ H', Inv X pins σ H' s' ∧ Q H') X.xe s
section
variable {X : Cx} {pos : Pos}
def gName (i : Nat) : TG := fun v σ H Q => Q (σ.set i (some v)) H
theorem pg_name {i : Nat} {x : Str} (hN : X.N.Nodup) (hi : X.N[i]? = some x) (hx : Loc X.env.scope x) (hf : X.fn x = true ∨ X.env.scope.names.lookup x = some .local := by first | exact .inl rfl | exact .inr rfl | assumption) : PG X (.Name x pos) (gName i) := by
  intro pins s σ H v u Q I r h
  exact wpAny_assign_Name (store_ok I hN hi hx r (fun s' I' => ⟨_, H, I', h⟩) hf)
def gNil : TGs := fun vs σ H Q => vs = [] ∧ Q σ H
def gCons (t : TG) (u : TGs) : TGs := fun vs σ H Q => ∃ v r, vs = v :: r ∧ t v σ H fun σ' H' => u r σ' H' Q
theorem pgs_nil : PGs X [] gNil := by
  intro pins s σ H vs us Q I r h
  obtain ⟨e, h⟩ := h
  subst e
  cases r
  exact assignInOrder_nil ⟨σ, H, I, h⟩
theorem pgs_cons {e : Expr} {es : List Expr} {t : TG} {u : TGs} (h1 : PG X e t) (h2 : PGs X es u)
    (hs : (assignEach (e :: es) X.env).map (·.2) = assign e X.env :: (assignEach es X.env).map (·.2) := by rfl) : PGs X (e :: es) (gCons t u) := by
  intro pins s σ H vs us Q I r h
  obtain ⟨v, vr, e1, h⟩ := h
  subst e1
  cases r with
  | cons r rr =>
    rw [hs]
    refine assignInOrder_cons (thn (h1 pins s σ H _ _ _ I r h) fun _ s1 ⟨σ1, H1, I1, q1⟩ => ?_)
    exact h2 pins s1 σ1 H1 _ _ Q I1 rr q1
/-- (a, b, ..) = a tuple of that length -/
def gTup (K : PySem.W.Frag) (n : Nat) (t : TGs) : TG := fun v σ H Q => ∃ a xs, v = .ref a ∧ SqT K H a xs ∧ xs.length = n ∧ t xs σ H Q
theorem pg_tup {es : List Expr} {k : Nat} {t : TGs} {n : Nat} (hc : X.calm = true) (h : PGs X es t)
    (hn : (assignEach es X.env).length = n := by rfl) (hst : (assignEach es X.env).findIdx? (·.1) = none := by rfl) : PG X (.Tuple es k pos) (gTup X.K n t) := by
  intro pins s σ H v u Q I r hw
  obtain ⟨a, xs, e1, hq, hl, hw⟩ := hw
  subst e1
  cases r
  obtain ⟨its, rv, ht, hz⟩ := I.tuple hq
  refine assign_Tuple_tuple (I.ok.hd hc) ht (by simp [hn, ← hl, rv.length]) hst fun h' hx => ?_
  have I1 : Inv X pins σ H { s with heap := h' } := I.kept (t' := s.toks) fun b o e => hx b o (Nat.ne_of_lt (Heap.lt_size e)) e
  exact h pins _ σ H xs _ Q I1 (by simpa using rv) hw
/-- o[i] = .. -/
def gSub (to ti : TE) (t : TSet) : TG := fun v σ H Q => to σ H fun o H1 => ti σ H1 fun i H2 => t o i v H2 fun H3 => Q σ H3
theorem pg_sub {o i : Expr} {to ti : TE} {t : TSet} (ho : PE X o to) (hi : PE X i ti) (hs : PSet X t)
    (ha : ∀ v, assign (.Subscript o i pos) X.env v = (do
      let ov ← holding [v] (eval o X.env)
      let iv ← holding [v, ov] (eval i X.env)
      standAt pos
      holding [v, ov, iv] (setItem ov iv v)
      release [v, ov, iv] []) := by intro _; rfl) : PG X (.Subscript o i pos) (gSub to ti t) := by
  intro pins s σ H v u Q I r h
  rw [ha]
  refine wpAny_bind (wpAny_holding (thn (ho pins s σ H _ I h) fun ov s1 ⟨x, H1, I1, r1, q1⟩ => ?_))
  refine wpAny_bind (wpAny_holding (thn (hi pins s1 σ H1 _ I1 q1) fun iv s2 ⟨y, H2, I2, r2, q2⟩ => ?_))
  refine wpAny_bind (wpAny_standAt (wpAny_bind (wpAny_holding (thn (hs pins s2 σ H2 x y v ov iv u _ I2 r1 r2 r q2) fun _ s3 ⟨H3, I3, q3⟩ => ?_))))
  exact wpAny_release ⟨σ, H3, I3, q3⟩
/-- target = value -/
def tAsg (te : TE) (g : TG) : TS := fun D σ H => te σ H fun x H1 => g x σ H1 D.nx
theorem ps_asg {tg e : Expr} {te : TE} {g : TG} (he : PE X e te) (hg : PG X tg g) (hs : swapsWithSole [tg] e pos.line X.env = pure false := by rfl) (hw : swappedStores [tg] e X.env = pure none := by rfl)
    (h1 : (assignEach [tg] X.env).map (·.2) = [assign tg X.env] := by rfl) : PS X (.Assign [tg] e pos) (tAsg te g) := by
  intro pins s σ H D I h
  refine wpAny_Assign_stores (thn (he pins s σ H _ I h) fun v s1 ⟨x, H1, I1, r1, q1⟩ => ?_) hs hw
  rw [h1]
  exact thn (hg pins s1 σ H1 x v _ I1 r1 q1) fun _ s2 q => q
/-- name = value -/
theorem ps_set {i : Nat} {x : Str} {e : Expr} {te : TE} {pos' : Pos} (hN : X.N.Nodup) (hi : X.N[i]? = some x) (hx : Loc X.env.scope x) (he : PE X e te) (hs : swapsWith e (some (.Name x pos')) pos.line X.env = pure false := by rfl) (hf : X.fn x = true ∨ X.env.scope.names.lookup x = some .local := by first | exact .inl rfl | exact .inr rfl | assumption) :
    PS X (.Assign [.Name x pos'] e pos) (tAsg te (gName i)) := by
  intro pins s σ H D I h
  refine wpAny_Assign_Name (thn (he pins s σ H _ I h) fun v s1 ⟨y, H1, I1, r1, q1⟩ => ?_) hs
  exact store_ok I1 hN hi hx r1 (fun s2 I2 => ⟨_, H1, I2, q1⟩) hf
/-- a, b = x, y with plain local names: stored from the right; the pair itself is not tracked (the opening rows as in PyProof/Rows/TupAssign.lean:23) -/
def tPar (i j : Nat) (ta : TA) : TS := fun D σ H => ta σ H fun vs H1 => ∃ v w, vs = [v, w] ∧ D.nx ((σ.set i (some v)).set j (some w)) H1
theorem ps_par {i j : Nat} {x y : Str} {a b : Expr} {ta : TA} {px py pt : Pos} {kt k2 pt2} (hc : X.calm = true) (hN : X.N.Nodup) (hi : X.N[i]? = some x) (hj : X.N[j]? = some y) (hij : i ≠ j)
    (hx : X.env.scope.names.lookup x = some .local) (hy : X.env.scope.names.lookup y = some .local) (ha : PA X [a, b] ta)
    (hw : swappedStores [.Tuple [.Name x px, .Name y py] kt pt] (.Tuple [a, b] k2 pt2) X.env = pure (some [x, y]))
    (hs : swapsWithSole [.Tuple [.Name x px, .Name y py] kt pt] (.Tuple [a, b] k2 pt2) pos.line X.env = pure false := by rfl) :
    PS X (.Assign [.Tuple [.Name x px, .Name y py] kt pt] (.Tuple [a, b] k2 pt2) pos) (tPar i j ta) := by
  intro pins s σ H D I h
  rw [exec_Assign_arm]
  refine wpAny_bind (wpAny_standAt ?_)
  rw [hs]
  refine wpAny_bind (wpAny_pure ?_)
  rw [if_neg (by decide)]
  refine wpAny_bind (Tuple_ (thn (ha _ pins s σ H _ I h) fun us s1 ⟨vs, H1, I1, r1, q1⟩ => ?_))
  obtain ⟨v, w, e1, q1⟩ := q1
  subst e1
  obtain ⟨u1, u2, rfl, rv, rw'⟩ : ∃ u1 u2, us = [u1, u2] ∧ RelV v u1 ∧ RelV w u2 := by
    cases r1 with
    | cons p q =>
      cases q with
      | cons p' q' =>
        cases q'
        exact ⟨_, _, rfl, p, p'⟩
  refine wpAny_newObj_type ?_ (by show 2 ≤ sizeLine; decide)
  have I2 : Inv X pins σ H1 { s1 with heap := s1.heap.push { cls := .type "tuple", data := .seq [u1, u2].toArray } } := I1.kept (t' := s1.toks) fun b o e => Heap.get?_push_of_some _ e
  rw [hw]
  refine wpAny_bind (wpAny_pure ?_)
  show wpAny (model X.prog X.w) X.A (do rule "assign.swapped-stores"; let items ← unpackItems (.ref s1.heap.objs.size) 2 none; assignInOrder [fun v => bindName X.env y v, fun v => bindName X.env x v] items.reverse; pure Flow.next) _ _ _
  refine wpAny_bind (wpAny_rule (wpAny_bind (unpackItems_tuple (items := #[u1, u2]) (I.ok.hd hc) (IsTup.new s1.heap _) fun h' hx' => ?_)))
  have I3 := I2.kept (h' := h') (t' := s1.toks) fun b o e => hx' b o (Nat.ne_of_lt (Heap.lt_size e)) e
  show wpAny _ _ (assignInOrder [fun v => bindName X.env y v, fun v => bindName X.env x v] [u2, u1] >>= fun _ => pure Flow.next) _ _ _
  refine wpAny_bind (assignInOrder_cons (wpAny_bindName (store_ok I3 hN hj (.inl hy) rw' (fun s2 I4 => ?_) (.inr hy))))
  refine assignInOrder_cons (wpAny_bindName (store_ok I4 hN hi (.inl hx) rv (fun s3 I5 => assignInOrder_nil (wpAny_pure ?_)) (.inr hx)))
  rw [List.set_comm _ _ (Ne.symm hij)] at I5
  exact ⟨_, H1, I5, q1⟩
end

section
variable {X : Cx} {pos : Pos}
/-- the invariant W with its measure -/
def tWhile (c : TT) (tb : TS) : TS := fun D σ H => ∃ W : Nat → St → Hp → Prop, (∃ m, W m σ H) ∧ ∀ m σ H, W m σ H →
  c σ H fun b H1 => if b = true then ∃ N : St → Hp → Prop, (∀ σ' H', N σ' H' → ∃ m', m' < m ∧ W m' σ' H') ∧ tb { D with nx := N, ct := N, bk := D.nx } σ H1 else D.nx σ H1
theorem ps_while {c : Expr} {body : List Stmt} {tc : TT} {tb : TS} (hp : PassesOwn (model X.prog X.w) X.A X.env X.xe) (hc : PT X c tc) (hb : PSs X body tb) : PS X (.While c body [] pos) (tWhile tc tb) := by
  intro pins s σ H D I h
  obtain ⟨W, ⟨m0, w0⟩, turn⟩ := h
  refine wpAny_While (codeAny_whileLoop (fun n s' => ∃ σ' H', Inv X pins σ' H' s' ∧ W n σ' H') ?_ m0 ⟨σ, H, I, w0⟩)
  rintro n s1 ⟨σ1, H1, I1, w1⟩
  refine wpAny_passesOwn hp (thn (hc pins s1 σ1 H1 _ I1 (turn n σ1 H1 w1)) fun b s2 ⟨H2, I2, q2⟩ => ?_)
  cases b with
  | true =>
    obtain ⟨N, hN, q2⟩ := q2
    rw [if_pos rfl]
    refine wpAny_passesOwn hp (thn (hb pins s2 σ1 H2 _ I2 q2) fun f s3 q3 => ?_)
    cases f with
    | next =>
      obtain ⟨σ3, H3, I3, n3⟩ := q3
      obtain ⟨m', hm, w3⟩ := hN σ3 H3 n3
      exact ⟨m', hm, σ3, H3, I3, w3⟩
    | cont =>
      obtain ⟨σ3, H3, I3, n3⟩ := q3
      obtain ⟨m', hm, w3⟩ := hN σ3 H3 n3
      exact ⟨m', hm, σ3, H3, I3, w3⟩
    | brk => exact q3
    | ret v => exact q3
  | false =>
    rw [if_neg Bool.false_ne_true]
    exact wpAny_execs_nil ⟨σ1, H2, I2, q2⟩
end

/-- at turn i: it yields x (the heap may grow), or it stops -/
structure It where
  go : Nat → Hp → Prop
  yld : Nat → Hp → V → Hp → Prop
  stop : Nat → Hp → Prop
/-- the iterator's own objects may turn: they are not the frame's, not pinned, younger than the entry (or a comprehension's own) -/
def FpOk (X : Cx) (pins : List (Addr × Obj)) (H : Hp) (b : Addr) : Prop :=
  H b = none ∧ b ≠ X.env.locals ∧ b ∉ X.fs ∧ (b ∈ X.ex ∨ X.s₀.heap.objs.size ≤ b) ∧ (∀ x c, X.env.cells.lookup x = some c → c ≠ b) ∧ ∀ p ∈ X.pn ++ pins, p.1 ≠ b
theorem Inv.fpOk {X : Cx} {pins : List (Addr × Obj)} {σ : St} {H H' : Hp} {s : Shared} {b : Addr} (I : Inv X pins σ H s) (hb : s.heap.objs.size ≤ b) (hn : H' b = none) : FpOk X pins H' b := by
  refine ⟨hn, Nat.ne_of_gt (Nat.lt_of_lt_of_le I.lt hb), I.nofs hb, .inr (Nat.le_trans I.sz hb), fun x c e z => ?_, fun p hp z => ?_⟩
  · obtain ⟨v, q⟩ := I.cell x c e
    exact absurd (Nat.lt_of_lt_of_le q.lt (by rw [z]; exact hb)) (Nat.lt_irrefl _)
  · exact absurd (Nat.lt_of_lt_of_le (Heap.lt_size (I.pin p hp).1) (by rw [z]; exact hb)) (Nat.lt_irrefl _)
structure Turn (P : Program) (w : World) (K : PySem.W.Frag) (tg : Expr) (J : It) (fp : List Addr) (it : Addr) (tn : Nat → Heap → Prop) : Prop where
  mem : it ∈ fp
  obj : ∀ i h, tn i h → ∀ b ∈ fp, ∃ o, h.get? b = some o ∧ ∀ v, o.data ≠ .cell v
  keep : ∀ i h h', tn i h → (∀ b ∈ fp, ∀ o, h.get? b = some o → h'.get? b = some o) → tn i h'
  item : ∀ (X : Cx), X.prog = P → X.w = w → X.K = K → X.calm = true → ∀ (i : Nat) (pins : List (Addr × Obj)) (s : Shared) (σ : St) (H : Hp) (E : Value → Shared → Prop), Inv X pins σ H s → (∀ b ∈ fp, FpOk X pins H b) → tn i s.heap → J.go i H →
    wpAny (model P w) X.A (pyNext (.ref it)) (fun r s1 => ∃ u, r = some u ∧
      wpAny (model P w) X.A (letOwnedTupleGo tg (.ref it) u) (fun _ s2 => ∃ x H', Inv X pins σ H' s2 ∧ RelV x u ∧ J.yld i H x H' ∧ tn (i + 1) s2.heap ∧ ∀ b ∈ fp, H' b = none) E s1) E s
  done : ∀ (X : Cx), X.prog = P → X.w = w → X.K = K → X.calm = true → ∀ (i : Nat) (pins : List (Addr × Obj)) (s : Shared) (σ : St) (H : Hp) (E : Value → Shared → Prop), Inv X pins σ H s → (∀ b ∈ fp, FpOk X pins H b) → tn i s.heap → J.stop i H →
    wpAny (model P w) X.A (pyNext (.ref it)) (fun r s1 => r = none ∧ Inv X pins σ H s1) E s
  self : ∀ (A : Around) (i : Nat) (s : Shared) (Q : Value → Shared → Prop) (E : Value → Shared → Prop), tn i s.heap → Q (.ref it) s → wpAny (model P w) A (pyIter (.ref it)) Q E s
abbrev TI := St → Hp → (It → Hp → Prop) → Prop
/-- an iterator has come -/
def PIE (X : Cx) (pins : List (Addr × Obj)) (σ : St) (tg : Expr) (R : It → Hp → Prop) (itv : Value) (s2 : Shared) : Prop :=
  ∃ (it : Addr) (fp : List Addr) (tn : Nat → Heap → Prop) (J : It) (H' : Hp), itv = .ref it ∧ Inv X pins σ H' s2 ∧ Turn X.prog X.w X.K tg J fp it tn ∧ tn 0 s2.heap ∧ (∀ b ∈ fp, FpOk X pins H' b) ∧ R J H'
def PI (X : Cx) (tg iter : Expr) (wi : TI) : Prop :=
  ∀ (pins : List (Addr × Obj)) (s : Shared) (σ : St) (H : Hp) (R : It → Hp → Prop), Inv X pins σ H s → wi σ H R →
    wpAny (model X.prog X.w) X.A (eval iter X.env) (fun v s1 => wpAny (model X.prog X.w) X.A (pyIter v) (PIE X pins σ tg R) X.xe s1) X.xe s

/-- the step ahead of the store is nothing for an iterator that keeps no tuple -/
theorem go_of {M : Model} {A : Around} {E : Value → Shared → Prop} {s : Shared} {tg : Expr} {it : Addr} {u : Value} {o : Obj} {n : String} {vs : Array Value} {Q : Unit → Shared → Prop} (ho : s.heap.get? it = some o) (hc : o.cls = .type n) (hd : o.data = .fields vs)
    (hn : ["enumerate", "zip", "dict_itemiterator", "dict_reverseitemiterator", "odict_iterator", "itertools.zip_longest", "itertools.pairwise"].contains n = false) (hQ : Q () s) : wpAny M A (letOwnedTupleGo tg (.ref it) u) Q E s := by
  unfold letOwnedTupleGo
  cases tg <;> first
    | exact wpAny_pure hQ
    | (cases u <;> first
        | exact wpAny_pure hQ
        | (refine wpAny_bind (wpAny_load ho ?_)
           rw [hc, hd]
           show wpAny M A (if (["enumerate", "zip", "dict_itemiterator", "dict_reverseitemiterator", "odict_iterator", "itertools.zip_longest", "itertools.pairwise"].contains n && vs[0]? == some (rawInt _)) = true then _ else _) Q E s
           rw [if_neg (by intro h; rw [hn, Bool.false_and] at h; cases h)]
           exact wpAny_pure hQ))

/-- the list at a, as it stands at each turn (a loop may append to it) -/
def Itl (K : PySem.W.Frag) (a : Addr) : It :=
  ⟨fun i H => ∃ xs x, SqL K H a xs ∧ xs[i]? = some x, fun i H x H' => H' = H ∧ ∀ xs, SqL K H a xs → xs[i]? = some x, fun i H => ∃ xs, SqL K H a xs ∧ xs.length ≤ i⟩
/-- lo, lo + 1, .. (n of them) -/
def Itr (lo : Int) (n : Nat) : It := ⟨fun i _ => i < n, fun i H x H' => H' = H ∧ x = .int (lo + i), fun i _ => n ≤ i⟩
theorem turn_list {P : Program} {w : World} {K : PySem.W.Frag} {tg : Expr} (a it : Addr) : Turn P w K tg (Itl K a) [it] it (fun i h => h.IsListIter it a i) where
  mem := by simp
  obj := fun i h st b hb => by
    have e : b = it := by simpa using hb
    subst e
    obtain ⟨o, e, c, d⟩ := st
    exact ⟨o, e, fun v z => by rw [d] at z; cases z⟩
  keep := fun i h h' st k => st.at fun o e => k it (by simp) o e
  item := by
    intro X hP hw hK hc i pins s σ H E I hf st hg
    subst hP hw hK
    obtain ⟨xs, x, hq, hx⟩ := hg
    obtain ⟨its, rv, p, hz⟩ := I.list hq
    obtain ⟨u, hu, ru⟩ := rv.get hx
    obtain ⟨f0, f1, f2, f3, f4, f5⟩ := hf it (by simp)
    refine wpAny_pyNext_list_item st p.isList (x := u) (by simpa using hu) fun h' st' sb => ?_
    have I1 : Inv X pins σ H { s with heap := h' } := I.turned (t' := s.toks) (fun b o hb e => (sb.2 b hb).trans e) f0 f1 f3 f4 f5
    obtain ⟨o, e, c, d⟩ := id st'
    exact ⟨u, rfl, go_of (s := { s with heap := h' }) e c d (by decide) ⟨x, H, I1, ru, ⟨rfl, fun ys hy => by rw [I.list_inj hy hq]; exact hx⟩, st', fun b hb => (hf b hb).1⟩⟩
  done := by
    intro X hP hw hK hc i pins s σ H E I hf st hg
    subst hP hw hK
    obtain ⟨xs, hq, hx⟩ := hg
    obtain ⟨its, rv, p, hz⟩ := I.list hq
    obtain ⟨f0, f1, f2, f3, f4, f5⟩ := hf it (by simp)
    have hl := rv.length
    exact wpAny_pyNext_list_end (I.ok.hd hc) st p.isList (by simp; omega) fun h' eb => ⟨rfl, I.turned (t' := s.toks) (fun b o hb e => eb b o hb e) f0 f1 f3 f4 f5⟩
  self := fun _ _ _ _ _ st h => wpAny_pyIter_listiter st h
theorem turn_range {P : Program} {w : World} {K : PySem.W.Frag} {tg : Expr} (it : Addr) (lo : Int) (n : Nat) : Turn P w K tg (Itr lo n) [it] it (fun i h => IsRangeIter h it (lo + (i : Nat) * 1) ((n : Int) - (i : Nat)) 1) where
  mem := by simp
  obj := fun i h st b hb => by
    have e : b = it := by simpa using hb
    subst e
    exact ⟨_, st, fun v z => by
      have z' : Data.fields _ = Data.cell v := z
      cases z'⟩
  keep := fun i h h' st k => k it (by simp) _ st
  item := by
    intro X hP hw hK hc i pins s σ H E I hf st hg
    subst hP hw hK
    obtain ⟨f0, f1, f2, f3, f4, f5⟩ := hf it (by simp)
    have W := Walks.range (prog := X.prog) (w := X.w) (I.ok.hd hc) it lo 1 n
    refine W.item i s _ _ hg st fun v h' tk hv st' kk => ?_
    obtain ⟨t, rfl⟩ := hv
    have I1 : Inv X pins σ H { s with heap := h', toks := tk } := I.turned (fun b o hb e => kk b o (by simpa using hb) e) f0 f1 f3 f4 f5
    refine ⟨_, rfl, go_of (s := { s with heap := h', toks := tk }) (n := "range_iterator") st' rfl rfl (by decide) ⟨.int (lo + i), H, I1, ⟨t, ?_⟩, ⟨rfl, rfl⟩, st', fun b hb => (hf b hb).1⟩⟩
    rw [Int.mul_one]
  done := by
    intro X hP hw hK hc i pins s σ H E I hf st hg
    subst hP hw hK
    obtain ⟨f0, f1, f2, f3, f4, f5⟩ := hf it (by simp)
    exact wpAny_pyNext_range_end (I.ok.hd hc) st (by have : n ≤ i := hg; omega) fun h' eb => ⟨rfl, I.turned (t' := s.toks) (fun b o hb e => eb b o hb e) f0 f1 f3 f4 f5⟩
  self := fun _ _ _ _ _ st h => wpAny_pyIter_rangeiter st h
end L2

namespace L2
open PySem PySem.Spec PyProof.Rows
section
variable {X : Cx} {tg : Expr}
def iList (K : PySem.W.Frag) (tl : TE) : TI := fun σ H R => tl σ H fun x H1 => ∃ a, x = .ref a ∧ (∃ xs, SqL K H1 a xs) ∧ R (Itl K a) H1
theorem pi_list {l : Expr} {tl : TE} (hl : PE X l tl) : PI X tg l (iList X.K tl) := by
  intro pins s σ H R I h
  refine thn (hl pins s σ H _ I h) fun v s1 ⟨x, H1, I1, r1, q1⟩ => ?_
  obtain ⟨a, e, ⟨xs, hq⟩, q⟩ := q1
  subst e
  cases r1
  obtain ⟨its, rv, p, hz⟩ := I1.list hq
  refine wpAny_pyIter_list p.isList ?_
  refine ⟨s1.heap.objs.size, [s1.heap.objs.size], _, _, H1, rfl, I1.kept (t' := s1.toks) fun b o e => Heap.get?_push_of_some _ e, turn_list a _, ⟨_, Heap.get?_push_size _ rfl, rfl, rfl⟩, fun b hb => ?_, q⟩
  have e : b = s1.heap.objs.size := by simpa using hb
  subst e
  exact I1.fpOk (Nat.le_refl _) (I1.hok.fresh (Nat.le_refl _))
/-- a range object just made, walked -/
theorem range_it {pins : List (Addr × Obj)} {σ : St} {H : Hp} {s : Shared} {R : It → Hp → Prop} {E : Value → Shared → Prop} {lo hi : Int} {t u v : Tok} {tk : Nat} (I : Inv X pins σ H s) (h1 : -(2 ^ 62) ≤ lo) (h2 : lo < 2 ^ 62) (h3 : -(2 ^ 62) ≤ hi) (h4 : hi < 2 ^ 62)
    (q : R (Itr lo (hi - lo).toNat) H) : wpAny (model X.prog X.w) X.A (pyIter (.ref s.heap.objs.size)) (PIE X pins σ tg R) E { s with heap := s.heap.push { cls := .type "range", data := .fields #[.int lo t, .int hi u, .int 1 v] }, toks := tk } := by
  refine wpAny_pyIter_range (IsRange.new ..) (small_one h1 h2 h3 h4) ?_
  have I1 : Inv X pins σ H { s with heap := s.heap.push { cls := .type "range", data := .fields #[.int lo t, .int hi u, .int 1 v] }, toks := tk } := I.kept fun b o e => Heap.get?_push_of_some _ e
  refine ⟨(s.heap.push { cls := .type "range", data := .fields #[.int lo t, .int hi u, .int 1 v] }).objs.size, [(s.heap.push { cls := .type "range", data := .fields #[.int lo t, .int hi u, .int 1 v] }).objs.size], _, _, H, rfl,
    I1.kept (t' := tk) fun b o e => Heap.get?_push_of_some _ e, turn_range _ lo (hi - lo).toNat, ?_, fun b hb => ?_, q⟩
  · have e1 : lo + ((0 : Nat) : Int) * 1 = lo := by simp
    have e2 : (((hi - lo).toNat : Nat) : Int) - ((0 : Nat) : Int) = Builtin.Range.rangeSize lo hi 1 := by rw [rangeSize_one]; split <;> omega
    show IsRangeIter _ _ (lo + ((0 : Nat) : Int) * 1) ((((hi - lo).toNat : Nat) : Int) - ((0 : Nat) : Int)) 1
    rw [e1, e2]
    exact Heap.get?_push_size _ rfl
  · have e : b = (s.heap.push { cls := .type "range", data := .fields #[.int lo t, .int hi u, .int 1 v] }).objs.size := by simpa using hb
    subst e
    exact I1.fpOk (Nat.le_refl _) (I1.hok.fresh (Nat.le_refl _))
def iRng1 (ta : TA) : TI := fun σ H R => ta σ H fun vs H1 => ∃ j : Int, vs = [.int j] ∧ -(2 ^ 62) ≤ j ∧ j < 2 ^ 62 ∧ R (Itr 0 j.toNat) H1
theorem pi_range1 {a : Expr} {ta : TA} {p pos : Pos} (hg : Gl X "range") (hm : X.mg "range" = none) (ha : PA X [a] ta) (hs : starEach [a] X.env = [(false, eval a X.env)] := by rfl) : PI X tg (.Call (.Name "range" p) [a] [] pos) (iRng1 ta) := by
  intro pins s σ H R I h
  refine Call_ (ld_blt I hg hm boot_range (PyProof.Rows.callWith_type1 (thn (ha pos pins s σ H _ I h) fun us s1 ⟨vs, H1, I1, r1, q1⟩ => ?_) hs rfl))
  obtain ⟨j, e, q1, q2, q⟩ := q1
  subst e
  cases r1 with
  | cons r rr =>
    cases rr
    obtain ⟨t, rfl⟩ := r
    exact call_range_1 (range_it I1 (by omega) (by omega) q1 q2 (by simpa using q))
/-- W: the invariant by the turn and a measure; N: what the body is to reach -/
def tFor (wi : TI) (g : TG) (tb : TS) : TS := fun D σ H => wi σ H fun J H1 => ∃ W : Nat → Nat → St → Hp → Prop, (∃ m, W 0 m σ H1) ∧ ∀ i m σ H, W i m σ H →
  (J.stop i H ∧ D.nx σ H) ∨ (J.go i H ∧ ∃ N : St → Hp → Prop, (∀ σ' H', N σ' H' → ∃ m', m' < m ∧ W (i + 1) m' σ' H') ∧ ∀ x H', J.yld i H x H' → g x σ H' fun σ2 H2 => tb { D with nx := N, ct := N, bk := D.nx } σ2 H2)
/-- the records at fp as they stand -/
def pinsAt (fp : List Addr) (h : Heap) : List (Addr × Obj) := fp.filterMap fun b => (h.get? b).map fun o => (b, o)
theorem mem_pinsAt {fp : List Addr} {h : Heap} {b : Addr} {o : Obj} (hb : b ∈ fp) (e : h.get? b = some o) : (b, o) ∈ pinsAt fp h := List.mem_filterMap.mpr ⟨b, hb, by rw [e]; rfl⟩
theorem of_pinsAt {fp : List Addr} {h : Heap} {p : Addr × Obj} (hp : p ∈ pinsAt fp h) : p.1 ∈ fp ∧ h.get? p.1 = some p.2 := by
  obtain ⟨b, hb, e⟩ := List.mem_filterMap.mp hp
  cases q : h.get? b with
  | none => rw [q] at e; cases e
  | some o =>
    rw [q] at e
    have e' : (b, o) = p := Option.some.inj e
    subst e'
    exact ⟨hb, q⟩
theorem Inv.pinned {pins : List (Addr × Obj)} {σ : St} {H : Hp} {s : Shared} {fp : List Addr} (I : Inv X pins σ H s) (hf : ∀ b ∈ fp, FpOk X pins H b) (ho : ∀ b ∈ fp, ∃ o, s.heap.get? b = some o ∧ ∀ v, o.data ≠ .cell v) : Inv X (pins ++ pinsAt fp s.heap) σ H s :=
  I.pins_of fun p hp => (List.mem_append.mp hp).elim (fun z => I.pin p (List.mem_append_right _ z)) fun z => by
    obtain ⟨hb, e⟩ := of_pinsAt z
    obtain ⟨f0, f1, f2, _⟩ := hf p.1 hb
    obtain ⟨o, e', d⟩ := ho p.1 hb
    rw [e] at e'; cases e'
    exact ⟨e, f0, f1, f2, d⟩
theorem Inv.unpinned {pins pl : List (Addr × Obj)} {σ : St} {H : Hp} {s : Shared} (I : Inv X (pins ++ pl) σ H s) : Inv X pins σ H s := I.pins_of fun p hp => I.pin p (List.mem_append_right _ (List.mem_append_left _ hp))
theorem ps_for {iter : Expr} {body : List Stmt} {wi : TI} {g : TG} {tb : TS} {pos : Pos} (hp : PassesOwn (model X.prog X.w) X.A X.env X.xe) (hc : X.calm = true) (hi : PI X tg iter wi) (hg : PG X tg g) (hb : PSs X body tb)
    (hs : ∀ x, foldedSetIterable iter X.env x = pure x := by intro _; rfl) : PS X (.For tg iter body [] pos) (tFor wi g tb) := by
  intro pins s σ H D I h
  refine wpAny_For (thn (hi pins s σ H _ I h) fun v s1 h1 => thn h1 fun itv s2 h2 => ?_) hs
  obtain ⟨it, fp, tn, J, H2, e, I2, T, st2, f2, W, ⟨m0, w0⟩, turn⟩ := h2
  subst e
  -- what stays true of the iterator's objects through the loop
  have stat : ∀ {H' : Hp}, (∀ b ∈ fp, H' b = none) → ∀ b ∈ fp, FpOk X pins H' b := fun hn b hb => ⟨hn b hb, (f2 b hb).2⟩
  refine codeAny_forLoop_any (fun n s' => ∃ i σ' H', Inv X pins σ' H' s' ∧ tn i s'.heap ∧ (∀ b ∈ fp, H' b = none) ∧ W i n σ' H') ?_ m0 ⟨0, σ, H2, I2, st2, fun b hb => (f2 b hb).1, w0⟩
  rintro n s3 ⟨i, σ3, H3, I3, st3, fr3, w3⟩
  rcases turn i n σ3 H3 w3 with ⟨stop, qn⟩ | ⟨go, N, hN, step⟩
  · refine wpAny_passesOwn hp (thn (T.done X rfl rfl rfl hc i pins s3 σ3 H3 X.xe I3 (stat fr3) st3 stop) fun r s4 ⟨hr, I4⟩ => ?_)
    subst hr
    exact wpAny_execs_nil ⟨σ3, H3, I4, qn⟩
  · refine wpAny_passesOwn hp (thn (T.item X rfl rfl rfl hc i pins s3 σ3 H3 X.xe I3 (stat fr3) st3 go) fun r s4 ⟨u, hr, h4⟩ => ?_)
    subst hr
    refine wpAny_passesOwn hp (thn h4 fun _ s5 ⟨x, H5, I5, r5, y5, st5, fr5⟩ => ?_)
    have I5' := I5.pinned (stat fr5) (T.obj _ _ st5)
    refine wpAny_passesOwn hp (thn (hg _ s5 σ3 H5 x u _ I5' r5 (step x H5 y5)) fun _ s6 ⟨σ6, H6, I6, q6⟩ => ?_)
    refine wpAny_passesOwn hp (thn (hb _ s6 σ6 H6 _ I6 q6) fun f s7 q7 => ?_)
    have again : ∀ {σ7 : St} {H7 : Hp}, Inv X (pins ++ pinsAt fp s5.heap) σ7 H7 s7 → N σ7 H7 → ∃ m, m < n ∧ ∃ i σ' H', Inv X pins σ' H' s7 ∧ tn i s7.heap ∧ (∀ b ∈ fp, H' b = none) ∧ W i m σ' H' := fun {σ7 H7} I7 n7 => by
      obtain ⟨m', hm, w7⟩ := hN σ7 H7 n7
      refine ⟨m', hm, i + 1, σ7, H7, I7.unpinned, T.keep _ _ _ st5 fun b hb o e => (I7.pin (b, o) (List.mem_append_right _ (List.mem_append_right _ (mem_pinsAt hb e)))).1, fun b hb => ?_, w7⟩
      obtain ⟨o, e, d⟩ := T.obj _ _ st5 b hb
      exact (I7.pin (b, o) (List.mem_append_right _ (List.mem_append_right _ (mem_pinsAt hb e)))).2.1
    cases f with
    | next => obtain ⟨σ7, H7, I7, n7⟩ := q7; exact again I7 n7
    | cont => obtain ⟨σ7, H7, I7, n7⟩ := q7; exact again I7 n7
    | brk => obtain ⟨σ7, H7, I7, q7⟩ := q7; exact ⟨σ7, H7, I7.unpinned, q7⟩
    | ret v => obtain ⟨x7, σ7, H7, I7, r7, q7⟩ := q7; exact ⟨x7, σ7, H7, I7.unpinned, r7, q7⟩
end

/-- over a list that the body leaves as it is -/
theorem for_list {K : PySem.W.Frag} {a : Addr} {xs : List V} {g : TG} {tb : TS} {D : Ends} {σ : St} {H : Hp} (Pv : Nat → St → Hp → Prop) (h0 : Pv 0 σ H) (hl : ∀ i σ H, i ≤ xs.length → Pv i σ H → SqL K H a xs)
    (hs : ∀ i x σ H, xs[i]? = some x → Pv i σ H → g x σ H fun σ2 H2 => tb { D with nx := Pv (i + 1), ct := Pv (i + 1), bk := D.nx } σ2 H2) (hd : ∀ σ H, Pv xs.length σ H → D.nx σ H) :
    ∃ W : Nat → Nat → St → Hp → Prop, (∃ m, W 0 m σ H) ∧ ∀ i m σ H, W i m σ H →
      ((Itl K a).stop i H ∧ D.nx σ H) ∨ ((Itl K a).go i H ∧ ∃ N : St → Hp → Prop, (∀ σ' H', N σ' H' → ∃ m', m' < m ∧ W (i + 1) m' σ' H') ∧ ∀ x H', (Itl K a).yld i H x H' → g x σ H' fun σ2 H2 => tb { D with nx := N, ct := N, bk := D.nx } σ2 H2) := by
  refine ⟨fun i m σ H => m = xs.length - i ∧ i ≤ xs.length ∧ Pv i σ H, ⟨xs.length, by simp, Nat.zero_le _, h0⟩, ?_⟩
  rintro i m σ H ⟨rfl, hi, p⟩
  have q := hl i σ H hi p
  by_cases hlt : i < xs.length
  · refine .inr ⟨⟨xs, xs[i], q, by simp [hlt]⟩, Pv (i + 1), fun σ' H' p' => ⟨xs.length - (i + 1), by omega, rfl, hlt, p'⟩, fun x H' y => ?_⟩
    obtain ⟨e, y⟩ := y
    subst e
    exact hs i x σ _ (y xs q) p
  · have e : i = xs.length := by omega
    subst e
    exact .inl ⟨⟨xs, q, Nat.le_refl _⟩, hd σ H p⟩
theorem for_range {lo : Int} {n : Nat} {g : TG} {tb : TS} {D : Ends} {σ : St} {H : Hp} (Pv : Nat → St → Hp → Prop) (h0 : Pv 0 σ H)
    (hs : ∀ i σ H, i < n → Pv i σ H → g (.int (lo + i)) σ H fun σ2 H2 => tb { D with nx := Pv (i + 1), ct := Pv (i + 1), bk := D.nx } σ2 H2) (hd : ∀ σ H, Pv n σ H → D.nx σ H) :
    ∃ W : Nat → Nat → St → Hp → Prop, (∃ m, W 0 m σ H) ∧ ∀ i m σ H, W i m σ H →
      ((Itr lo n).stop i H ∧ D.nx σ H) ∨ ((Itr lo n).go i H ∧ ∃ N : St → Hp → Prop, (∀ σ' H', N σ' H' → ∃ m', m' < m ∧ W (i + 1) m' σ' H') ∧ ∀ x H', (Itr lo n).yld i H x H' → g x σ H' fun σ2 H2 => tb { D with nx := N, ct := N, bk := D.nx } σ2 H2) := by
  refine ⟨fun i m σ H => m = n - i ∧ i ≤ n ∧ Pv i σ H, ⟨n, by simp, Nat.zero_le _, h0⟩, ?_⟩
  rintro i m σ H ⟨rfl, hi, p⟩
  by_cases hlt : i < n
  · refine .inr ⟨hlt, Pv (i + 1), fun σ' H' p' => ⟨n - (i + 1), by omega, rfl, hlt, p'⟩, fun x H' y => ?_⟩
    obtain ⟨e, y⟩ := y
    subst e y
    exact hs i σ _ hlt p
  · have e : i = n := by omega
    subst e
    exact .inl ⟨Nat.le_refl _, hd σ H p⟩
/-- while, by a word and a measure of the state -/
theorem while_by {c : TT} {tb : TS} {D : Ends} {σ : St} {H : Hp} (Pv : St → Hp → Prop) (μ : St → Hp → Nat) (h0 : Pv σ H)
    (hs : ∀ σ H, Pv σ H → c σ H fun b H1 => if b = true then tb { D with nx := fun σ' H' => Pv σ' H' ∧ μ σ' H' < μ σ H, ct := fun σ' H' => Pv σ' H' ∧ μ σ' H' < μ σ H, bk := D.nx } σ H1 else D.nx σ H1)
    (mono : ∀ σ H Q Q', (∀ b H1, Q b H1 → Q' b H1) → c σ H Q → c σ H Q') : tWhile c tb D σ H := by
  refine ⟨fun m σ H => m = μ σ H ∧ Pv σ H, ⟨_, rfl, h0⟩, ?_⟩
  rintro m σ H ⟨rfl, p⟩
  refine mono σ H _ _ (fun b H1 q => ?_) (hs σ H p)
  cases b with
  | true => exact ⟨_, fun σ' H' ⟨p', l⟩ => ⟨_, l, rfl, p'⟩, q⟩
  | false => exact q
end L2

namespace L2
open PySem PySem.Spec PyProof.Rows

abbrev R2 := V → V → Hp → VK → Prop
/-- a two-place operation on values: f is binaryOp op, inplaceOp op or compareOp op -/
def OpR (X : Cx) (f : Value → Value → Sem Value) (r : R2) : Prop :=
  ∀ (pins : List (Addr × Obj)) (s : Shared) (σ : St) (H : Hp) (x y : V) (v u : Value) (Q : VK), Inv X pins σ H s → RelV x v → RelV y u → r x y H Q →
    wpAny (model X.prog X.w) X.A (f v u) (EP X pins σ Q) X.xe s
/-- a one-place operation -/
def UnR (X : Cx) (f : Value → Sem Value) (r : V → Hp → VK → Prop) : Prop :=
  ∀ (pins : List (Addr × Obj)) (s : Shared) (σ : St) (H : Hp) (x : V) (v : Value) (Q : VK), Inv X pins σ H s → RelV x v → r x H Q →
    wpAny (model X.prog X.w) X.A (f v) (EP X pins σ Q) X.xe s
/-- a call of a value that is known (a builtin, a type) with values -/
def CallR (X : Cx) (f : Value) (r : List V → Hp → VK → Prop) : Prop :=
  ∀ (pins : List (Addr × Obj)) (s : Shared) (σ : St) (H : Hp) (xs : List V) (us : List Value) (Q : VK), Inv X pins σ H s → Vals xs us → r xs H Q →
    wpAny (model X.prog X.w) X.A (call f us) (EP X pins σ Q) X.xe s
/-- a value's truth -/
def TruR (X : Cx) (r : V → Hp → (Bool → Hp → Prop) → Prop) : Prop :=
  ∀ (pins : List (Addr × Obj)) (s : Shared) (σ : St) (H : Hp) (x : V) (v : Value) (Q : Bool → Hp → Prop), Inv X pins σ H s → RelV x v → r x H Q →
    wpAny (model X.prog X.w) X.A (truthy v) (TP X pins σ Q) X.xe s

def tOp (r : R2) (ta tb : TE) : TE := fun σ H Q => ta σ H fun x H1 => tb σ H1 fun y H2 => r x y H2 Q
def tUn (r : V → Hp → VK → Prop) (ta : TE) : TE := fun σ H Q => ta σ H fun x H1 => r x H1 Q
/-- ints in, under C, and a value out -/
def rI (C : Int → Int → Prop) (g : Int → Int → V) : R2 := fun x y H Q => ∃ i j, x = .int i ∧ y = .int j ∧ C i j ∧ Q (g i j) H
def rI0 (g : Int → Int → V) : R2 := fun x y H Q => ∃ i j, x = .int i ∧ y = .int j ∧ Q (g i j) H
def rU (g : Int → V) : V → Hp → VK → Prop := fun x H Q => ∃ i, x = .int i ∧ Q (g i) H

section
variable {X : Cx} {a b c : Expr} {ta tb tc : TE} {pos : Pos}

theorem binT (ha : PE X a ta) (hb : PE X b tb) {pins : List (Addr × Obj)} {s : Shared} {σ : St} {H : Hp} {R : V → V → Hp → Prop} (I : Inv X pins σ H s)
    (h : ta σ H fun x H1 => tb σ H1 fun y H2 => R x y H2) {Q : Value → Shared → Prop} {f : Value → Value → Sem Value}
    (hf : ∀ v u s2 x y H2, Inv X pins σ H2 s2 → RelV x v → RelV y u → R x y H2 → wpAny (model X.prog X.w) X.A (f v u) Q X.xe s2) :
    wpAny (model X.prog X.w) X.A (eval a X.env) (fun v s₁ => wpAny (model X.prog X.w) X.A (eval b X.env) (fun u s₂ => wpAny (model X.prog X.w) X.A (f v u) Q X.xe s₂) X.xe s₁) X.xe s := by
  refine thn (ha pins s σ H _ I h) fun v s1 ⟨x, H1, I1, r1, q1⟩ => ?_
  refine thn (hb pins s1 σ H1 _ I1 q1) fun u s2 ⟨y, H2, I2, r2, q2⟩ => ?_
  exact hf v u s2 x y H2 I2 r1 r2 q2

theorem pe_op {op : Operator} {r : R2} (ho : OpR X (binaryOp op) r) (ha : PE X a ta) (hb : PE X b tb) : PE X (.BinOp a op b pos) (tOp r ta tb) := by
  intro pins s σ H Q I h
  exact wpAny_BinOp (binT ha hb I h fun v u s2 x y H2 I2 rx ry q => ho pins s2 σ H2 x y v u Q I2 rx ry q)
theorem pe_un {op : UnaryOp} {r : V → Hp → VK → Prop} (ho : UnR X (unaryOp op) r) (ha : PE X a ta) : PE X (.UnaryOp op a pos) (tUn r ta) := by
  intro pins s σ H Q I h
  exact UnaryOp_ (thn (ha pins s σ H _ I h) fun v s1 ⟨x, H1, I1, r1, q1⟩ => ho pins s1 σ H1 x v Q I1 r1 q1)
theorem opI {f : Value → Value → Sem Value} {C : Int → Int → Prop} {g : Int → Int → Int}
    (rule : ∀ (i j : Int) (t u : Tok) (s : Shared) (Q : Value → Shared → Prop) (E : Value → Shared → Prop), C i j → Q (.int (g i j) s.toks) { s with toks := s.toks + 1 } → wpAny (model X.prog X.w) X.A (f (.int i t) (.int j u)) Q E s) :
    OpR X f (rI C fun i j => .int (g i j)) := by
  intro pins s σ H x y v u Q I rx ry h
  obtain ⟨i, j, rfl, rfl, hc, q⟩ := h
  obtain ⟨t, rfl⟩ := rx
  obtain ⟨t', rfl⟩ := ry
  exact rule i j t t' s _ _ hc ⟨.int (g i j), H, I.tok _, ⟨_, rfl⟩, q⟩
theorem opI0 {f : Value → Value → Sem Value} {g : Int → Int → Int}
    (rule : ∀ (i j : Int) (t u : Tok) (s : Shared) (Q : Value → Shared → Prop) (E : Value → Shared → Prop), Q (.int (g i j) s.toks) { s with toks := s.toks + 1 } → wpAny (model X.prog X.w) X.A (f (.int i t) (.int j u)) Q E s) :
    OpR X f (rI0 fun i j => .int (g i j)) := by
  intro pins s σ H x y v u Q I rx ry h
  obtain ⟨i, j, rfl, rfl, q⟩ := h
  obtain ⟨t, rfl⟩ := rx
  obtain ⟨t', rfl⟩ := ry
  exact rule i j t t' s _ _ ⟨.int (g i j), H, I.tok _, ⟨_, rfl⟩, q⟩
theorem opB0 {f : Value → Value → Sem Value} {g : Int → Int → Bool}
    (rule : ∀ (i j : Int) (t u : Tok) (s : Shared) (Q : Value → Shared → Prop) (E : Value → Shared → Prop), Q (.bool (g i j)) s → wpAny (model X.prog X.w) X.A (f (.int i t) (.int j u)) Q E s) :
    OpR X f (rI0 fun i j => .bl (g i j)) := by
  intro pins s σ H x y v u Q I rx ry h
  obtain ⟨i, j, rfl, rfl, q⟩ := h
  obtain ⟨t, rfl⟩ := rx
  obtain ⟨t', rfl⟩ := ry
  exact rule i j t t' s _ _ ⟨.bl (g i j), H, I, rfl, q⟩

def CPow (i j : Int) : Prop := 0 ≤ j ∧ j ≤ 1000000 ∧ i.natAbs < 2 ^ 64
theorem op_add : OpR X (binaryOp .Add) (rI0 fun i j => .int (i + j)) := opI0 fun _ _ _ _ _ _ _ q => add_int q
theorem op_sub : OpR X (binaryOp .Sub) (rI0 fun i j => .int (i - j)) := opI0 fun _ _ _ _ _ _ _ q => sub_int q
theorem op_modN : OpR X (binaryOp .Mod) (rI (fun _ j => j ≠ 0) fun i j => .int (i.fmod j)) := opI fun _ _ _ _ _ _ _ hc q => mod_int' hc q
theorem op_pow : OpR X (binaryOp .Pow) (rI CPow fun i j => .int (i ^ j.toNat)) := opI fun _ _ _ _ _ _ _ hc q => pow_int_small hc.1 hc.2.1 hc.2.2 q
theorem unI {f : Value → Sem Value} {g : Int → Int}
    (rule : ∀ (i : Int) (t : Tok) (s : Shared) (Q : Value → Shared → Prop) (E : Value → Shared → Prop), Q (.int (g i) s.toks) { s with toks := s.toks + 1 } → wpAny (model X.prog X.w) X.A (f (.int i t)) Q E s) :
    UnR X f (rU fun i => .int (g i)) := by
  intro pins s σ H x v Q I rx h
  obtain ⟨i, rfl, q⟩ := h
  obtain ⟨t, rfl⟩ := rx
  exact rule i t s _ _ ⟨.int (g i), H, I.tok _, ⟨_, rfl⟩, q⟩
theorem un_neg : UnR X (unaryOp .USub) (rU fun i => .int (-i)) := unI fun _ _ _ _ _ q => neg_int q
end

/-- the scalars that == tells apart as data does -/
def scal : V → V → Bool
  | .non, .non => true | .non, .int _ => true | .int _, .non => true | .non, .bl _ => true | .bl _, .non => true | .non, .str _ => true | .str _, .non => true
  | .int _, .int _ => true | .bl _, .bl _ => true | .str _, .str _ => true | .byt _, .byt _ => true
  | .int _, .str _ => true | .str _, .int _ => true | .bl _, .str _ => true | .str _, .bl _ => true
  | _, _ => false
def rEq : R2 := fun x y H Q => scal x y = true ∧ Q (.bl (decide (x = y))) H
def rNe : R2 := fun x y H Q => scal x y = true ∧ Q (.bl (!decide (x = y))) H

theorem dec_int {i j : Int} : decide (V.int i = V.int j) = (i == j) := by
  rw [Bool.eq_iff_iff]
  simp
theorem dec_bl {i j : Bool} : decide (V.bl i = V.bl j) = (i == j) := by
  rw [Bool.eq_iff_iff]
  simp
theorem dec_str {i j : Str} : decide (V.str i = V.str j) = (i == j) := by
  rw [Bool.eq_iff_iff]
  simp
theorem dec_byt {i j : Array UInt8} : decide (V.byt i = V.byt j) = (i.toList == j.toList) := by
  rw [Bool.eq_iff_iff]
  cases i
  cases j
  simp

section
variable {X : Cx} {a b c : Expr} {ta tb tc : TE} {pos : Pos}
theorem fin_bl {pins : List (Addr × Obj)} {σ : St} {H : Hp} {s : Shared} {Q : VK} {k k' : Bool} (I : Inv X pins σ H s) (q : Q (.bl k) H) (e : k = k') : EP X pins σ Q (.bool k') s := by
  subst e
  exact ⟨.bl k, H, I, rfl, q⟩
theorem op_eq : OpR X (compareOp .Eq) rEq := by
  intro pins s σ H x y v u Q I rx ry h
  obtain ⟨hs, q⟩ := h
  cases x with
  | non =>
    cases rx
    cases y with
    | non => cases ry; exact PySem.EqNone.eq_none_none (fin_bl I q (by simp))
    | bl j => cases ry; exact PySem.EqNone.eq_none_bool (fin_bl I q (by simp))
    | int j => obtain ⟨t', rfl⟩ := ry; exact PySem.EqNone.eq_none_int (fin_bl I q (by simp))
    | str j => obtain ⟨t', rfl⟩ := ry; exact PySem.EqNone.eq_none_str (fin_bl I q (by simp))
    | _ => exact absurd (show false = true from hs) Bool.false_ne_true
  | bl i =>
    cases rx
    cases y with
    | non => cases ry; exact PySem.EqNone.eq_bool_none (fin_bl I q (by simp))
    | bl j => cases ry; exact eq_bool (fin_bl I q dec_bl)
    | str j => obtain ⟨t', rfl⟩ := ry; exact PySem.EqMixed.eq_bool_str (fin_bl I q (by simp))
    | _ => exact absurd (show false = true from hs) Bool.false_ne_true
  | int i =>
    obtain ⟨t, rfl⟩ := rx
    cases y with
    | non => cases ry; exact PySem.EqNone.eq_int_none (fin_bl I q (by simp))
    | int j => obtain ⟨t', rfl⟩ := ry; exact eq_int (fin_bl I q dec_int)
    | str j => obtain ⟨t', rfl⟩ := ry; exact PySem.EqMixed.eq_int_str (fin_bl I q (by simp))
    | _ => exact absurd (show false = true from hs) Bool.false_ne_true
  | str i =>
    obtain ⟨t, rfl⟩ := rx
    cases y with
    | non => cases ry; exact PySem.EqNone.eq_str_none (fin_bl I q (by simp))
    | bl j => cases ry; exact PySem.EqMixed.eq_str_bool (fin_bl I q (by simp))
    | int j => obtain ⟨t', rfl⟩ := ry; exact PySem.EqMixed.eq_str_int (fin_bl I q (by simp))
    | str j => obtain ⟨t', rfl⟩ := ry; exact eq_str (fin_bl I q dec_str)
    | _ => exact absurd (show false = true from hs) Bool.false_ne_true
  | byt i =>
    obtain ⟨t, rfl⟩ := rx
    cases y with
    | byt j => obtain ⟨t', rfl⟩ := ry; exact PySem.W.eq_bytes (fin_bl I q dec_byt)
    | _ => exact absurd (show false = true from hs) Bool.false_ne_true
  | _ => cases y <;> exact absurd (show false = true from hs) Bool.false_ne_true
theorem op_ne : OpR X (compareOp .NotEq) rNe := by
  intro pins s σ H x y v u Q I rx ry h
  obtain ⟨hs, q⟩ := h
  cases x with
  | non =>
    cases rx
    cases y with
    | non => cases ry; exact PySem.EqNone.ne_none_none (fin_bl I q (by simp))
    | bl j => cases ry; exact PySem.EqNone.ne_none_bool (fin_bl I q (by simp))
    | int j => obtain ⟨t', rfl⟩ := ry; exact PySem.EqNone.ne_none_int (fin_bl I q (by simp))
    | str j => obtain ⟨t', rfl⟩ := ry; exact PySem.EqNone.ne_none_str (fin_bl I q (by simp))
    | _ => exact absurd (show false = true from hs) Bool.false_ne_true
  | bl i =>
    cases rx
    cases y with
    | non => cases ry; exact PySem.EqNone.ne_bool_none (fin_bl I q (by simp))
    | bl j => cases ry; exact ne_bool (fin_bl I q (congrArg not dec_bl))
    | str j => obtain ⟨t', rfl⟩ := ry; exact PySem.EqMixed.ne_bool_str (fin_bl I q (by simp))
    | _ => exact absurd (show false = true from hs) Bool.false_ne_true
  | int i =>
    obtain ⟨t, rfl⟩ := rx
    cases y with
    | non => cases ry; exact PySem.EqNone.ne_int_none (fin_bl I q (by simp))
    | int j => obtain ⟨t', rfl⟩ := ry; exact ne_int (fin_bl I q (congrArg not dec_int))
    | str j => obtain ⟨t', rfl⟩ := ry; exact PySem.EqMixed.ne_int_str (fin_bl I q (by simp))
    | _ => exact absurd (show false = true from hs) Bool.false_ne_true
  | str i =>
    obtain ⟨t, rfl⟩ := rx
    cases y with
    | non => cases ry; exact PySem.EqNone.ne_str_none (fin_bl I q (by simp))
    | bl j => cases ry; exact PySem.EqMixed.ne_str_bool (fin_bl I q (by simp))
    | int j => obtain ⟨t', rfl⟩ := ry; exact PySem.EqMixed.ne_str_int (fin_bl I q (by simp))
    | str j => obtain ⟨t', rfl⟩ := ry; exact ne_str (fin_bl I q (congrArg not dec_str))
    | _ => exact absurd (show false = true from hs) Bool.false_ne_true
  | byt i =>
    obtain ⟨t, rfl⟩ := rx
    cases y with
    | byt j => obtain ⟨t', rfl⟩ := ry; exact PySem.W.ne_bytes (fin_bl I q (congrArg not dec_byt))
    | _ => exact absurd (show false = true from hs) Bool.false_ne_true
  | _ => cases y <;> exact absurd (show false = true from hs) Bool.false_ne_true

theorem op_lt : OpR X (compareOp .Lt) (rI0 fun i j => .bl (decide (i < j))) := opB0 fun _ _ _ _ _ _ _ q => lt_int q
theorem op_gt : OpR X (compareOp .Gt) (rI0 fun i j => .bl (decide (j < i))) := opB0 fun _ _ _ _ _ _ _ q => gt_int q
theorem op_ge : OpR X (compareOp .GtE) (rI0 fun i j => .bl (decide (j ≤ i))) := opB0 fun _ _ _ _ _ _ _ q => ge_int q
/-- the one string within the other -/
theorem op_in_str : OpR X (compareOp .In) (fun x y H Q => ∃ i j, x = .str i ∧ y = .str j ∧ Q (.bl (!(Builtin.Str.occurrences j i 0 j.length 1).isEmpty)) H) := by
  intro pins s σ H x y v u Q I rx ry h
  obtain ⟨i, j, rfl, rfl, q⟩ := h
  obtain ⟨t, rfl⟩ := rx
  obtain ⟨t', rfl⟩ := ry
  exact in_str (fin_bl I q rfl)

/-- is None, is not None: the right side a value none -/
theorem op_isN : OpR X (compareOp .Is) (fun x y H Q => y = .non ∧ Q (.bl (decide (x = .non))) H) := by
  intro pins s σ H x y v u Q I rx ry h
  obtain ⟨rfl, q⟩ := h
  cases ry
  refine is_none_gen (fin_bl I q ?_)
  cases x <;> first
    | (cases rx; rfl)
    | (obtain ⟨t, rfl⟩ := rx; rfl)
/-- is, is not of two objects that are tracked lists or instances -/
theorem nomark (b : Expr) {op : CmpOp} (h : op ≠ .In := by decide) (h2 : op ≠ .NotIn := by decide) : behindInMarks op b = false := by
  have e1 : (op == CmpOp.In) = false := by cases op <;> first | rfl | exact absurd rfl h
  have e2 : (op == CmpOp.NotIn) = false := by cases op <;> first | rfl | exact absurd rfl h2
  cases b <;> simp [behindInMarks, e1, e2]
/-- a comparison as a value; hm: nomark b, or (for in, not in) by with_unfolding_all rfl -/
theorem pe_cmpR {op : CmpOp} {r : R2} (ho : OpR X (compareOp op) r) (ha : PE X a ta) (hb : PE X b tb) (hm : behindInMarks op b = false) : PE X (.Compare a [op] [b] pos) (tOp r ta tb) := by
  intro pins s σ H Q I h
  exact wpAny_Compare1 (binT ha hb I h fun v u s2 x y H2 I2 rx ry q => ho pins s2 σ H2 x y v u Q I2 rx ry q) hm
/-- a reading of a value as a test -/
def tTest (t : TE) : TT := fun σ H Q => t σ H fun x H' => ∃ k, x = .bl k ∧ Q k H'
theorem pt_cmpR {op : CmpOp} {r : R2} (ho : OpR X (compareOp op) r) (ha : PE X a ta) (hb : PE X b tb) (hm : behindInMarks op b = false) : PT X (.Compare a [op] [b] pos) (tTest (tOp r ta tb)) := by
  intro pins s σ H Q I h
  refine wpAny_isTrue_Compare1 (thn (ha pins s σ H _ I h) fun v s1 ⟨x, H1, I1, r1, q1⟩ => thn (hb pins s1 σ H1 _ I1 q1) fun u s2 ⟨y, H2, I2, r2, q2⟩ =>
    thn (ho pins s2 σ H2 x y v u _ I2 r1 r2 q2) fun c s3 ⟨z, H3, I3, r3, k, e, q3⟩ => ?_) hm
  subst e
  cases r3
  exact wpAny_truthy_bool ⟨H3, I3, q3⟩
/-- a value's truth by the abstract heap -/
def TruV (K : PySem.W.Frag) (x : V) (H : Hp) (k : Bool) : Prop :=
  match x with
  | .non => k = false
  | .bl b => k = b
  | .int i => k = (i != 0)
  | .str y => y.length ≤ sizeLine ∧ k = ((y.length : Int) != 0)
  | .byt y => y.size ≤ sizeLine ∧ k = ((y.size : Int) != 0)
  | .ref p => (∃ xs, SqL K H p xs ∧ k = !xs.isEmpty) ∨ (∃ xs, SqT K H p xs ∧ k = !xs.isEmpty) ∨ ∃ kvs, H p = some (.dK kvs) ∧ k = !kvs.isEmpty
  | _ => False
theorem isEmpty_kv {κ : Type} {kvs : List (κ × V)} {vs : List (κ × Value)} (r : KV kvs vs) : (!vs.isEmpty) = !kvs.isEmpty := by
  cases r <;> rfl
theorem isEmpty_of {xs : List V} {its : List Value} (r : Vals xs its) : (!its.toArray.isEmpty) = !xs.isEmpty := by
  cases r <;> simp
theorem line63 : (sizeLine : Nat) < 2 ^ 63 := by rw [sizeLine_eq]; decide
theorem tru_ok : TruR X (fun x H Q => ∃ k, TruV X.K x H k ∧ Q k H) := by
  intro pins s σ H x v Q I rx h
  obtain ⟨k, e, q⟩ := h
  have hl := line63
  have hs : sizeLine = 16777216 := sizeLine_eq
  cases x with
  | non =>
    cases rx
    have e' : k = false := e
    subst e'
    exact truthy_none ⟨H, I, q⟩
  | bl b =>
    cases rx
    have e' : k = b := e
    subst e'
    exact wpAny_truthy_bool ⟨H, I, q⟩
  | int i =>
    obtain ⟨t, rfl⟩ := rx
    have e' : k = (i != 0) := e
    subst e'
    exact PySem.P.truthy_int ⟨H, I, q⟩
  | str y =>
    obtain ⟨t, rfl⟩ := rx
    obtain ⟨hy, e'⟩ : y.length ≤ sizeLine ∧ k = ((y.length : Int) != 0) := e
    subst e'
    exact PySem.P.truthy_str (by omega) ⟨H, I.tok _, q⟩
  | byt y =>
    obtain ⟨t, rfl⟩ := rx
    obtain ⟨hy, e'⟩ : y.size ≤ sizeLine ∧ k = ((y.size : Int) != 0) := e
    subst e'
    exact PySem.W.truthy_bytes (by omega) ⟨H, I.tok _, q⟩
  | ref p =>
    cases rx
    have e' : (∃ xs, SqL X.K H p xs ∧ k = !xs.isEmpty) ∨ (∃ xs, SqT X.K H p xs ∧ k = !xs.isEmpty) ∨ ∃ kvs, H p = some (.dK kvs) ∧ k = !kvs.isEmpty := e
    rcases e' with ⟨xs, hx, e'⟩ | ⟨xs, hx, e'⟩ | ⟨kvs, hx, e'⟩
    · subst e'
      obtain ⟨its, r, pl, hz⟩ := I.list hx
      have hlen := r.length
      exact wpAny_truthy_list pl.isList (by simp only [List.size_toArray]; omega) ⟨H, I.tok _, by rw [isEmpty_of r]; exact q⟩
    · subst e'
      obtain ⟨its, r, pl, hz⟩ := I.tuple hx
      have hlen := r.length
      exact truthy_tuple pl (by simp only [List.size_toArray]; omega) ⟨H, I.tok _, by rw [isEmpty_of r]; exact q⟩
    · subst e'
      obtain ⟨hz, hS, vs, r, m⟩ : kvs.length ≤ sizeLine ∧ (p == sysModules) = false ∧ ∃ vs, KV kvs vs ∧ s.heap.DictOf (mixKind X.prog X.w) p vs := I.hok p _ hx
      have hlen : kvs.length = vs.length := Paired.length r
      exact wpAny_truthy_dict hS m (by omega) ⟨H, I.tok _, by rw [isEmpty_kv r]; exact q⟩
  | _ => exact (show False from e).elim
/-- any expression whose test is its value's truth (a name, a call, a subscript, a field ..: he by fun _ => rfl) -/
theorem pt_truth (ha : PE X a ta) (he : ∀ whole, isTrue a X.env whole = (do let v ← whole; standAt a.pos; holding [v] (truthy v))) :
    PT X a (fun σ H Q => ta σ H fun x H' => ∃ k, TruV X.K x H' k ∧ Q k H') := by
  intro pins s σ H Q I h
  exact isTrue_plain (thn (ha pins s σ H _ I h) fun v s1 ⟨x, H1, I1, r1, q1⟩ => tru_ok pins s1 σ H1 x v Q I1 r1 q1) (he _)

theorem op_add_str : OpR X (binaryOp .Add) (fun x y H Q => ∃ i j, x = .str i ∧ y = .str j ∧ i.length + j.length ≤ sizeLine ∧ Q (.str (i ++ j)) H) := by
  intro pins s σ H x y v u Q I rx ry h
  obtain ⟨i, j, rfl, rfl, hz, q⟩ := h
  obtain ⟨t, rfl⟩ := rx
  obtain ⟨t', rfl⟩ := ry
  exact add_str (fun t' tk => ⟨.str (i ++ j), H, I.tok _, ⟨_, rfl⟩, q⟩) hz
theorem vals1 {x : V} {us : List Value} (r : Vals [x] us) : ∃ u, us = [u] ∧ RelV x u := by
  cases r with
  | cons r1 r2 => cases r2; exact ⟨_, rfl, r1⟩
theorem vals2 {x y : V} {us : List Value} (r : Vals [x, y] us) : ∃ u w', us = [u, w'] ∧ RelV x u ∧ RelV y w' := by
  cases r with
  | cons r1 r2 =>
    cases r2 with
    | cons r3 r4 => cases r4; exact ⟨_, _, rfl, r1, r3⟩
theorem call_abs : CallR X (.builtin "abs") (fun xs H Q => ∃ i, xs = [.int i] ∧ Q (.int (if i < 0 then -i else i)) H) := by
  intro pins s σ H xs us Q I r h
  obtain ⟨i, rfl, q⟩ := h
  obtain ⟨u, rfl, t, rfl⟩ := vals1 r
  exact call_abs_int fun u tk => ⟨.int (if i < 0 then -i else i), H, I.tok _, ⟨_, rfl⟩, q⟩
theorem call_max2 (hc : X.calm = true) : CallR X (.builtin "max") (fun xs H Q => ∃ i j, xs = [.int i, .int j] ∧ Q (.int (if j > i then j else i)) H) := by
  intro pins s σ H xs us Q I r h
  obtain ⟨i, j, rfl, q⟩ := h
  obtain ⟨u, w', rfl, ⟨t, rfl⟩, ⟨t', rfl⟩⟩ := vals2 r
  refine max_two_ints (I.ok.hd hc) fun h' tk k => ⟨_, H, I.kept k, ?_, q⟩
  by_cases hj : j > i
  · rw [if_pos hj, if_pos hj]; exact ⟨_, rfl⟩
  · rw [if_neg hj, if_neg hj]; exact ⟨_, rfl⟩
theorem call_min2 (hc : X.calm = true) : CallR X (.builtin "min") (fun xs H Q => ∃ i j, xs = [.int i, .int j] ∧ Q (.int (if j < i then j else i)) H) := by
  intro pins s σ H xs us Q I r h
  obtain ⟨i, j, rfl, q⟩ := h
  obtain ⟨u, w', rfl, ⟨t, rfl⟩, ⟨t', rfl⟩⟩ := vals2 r
  refine min_two_ints (I.ok.hd hc) fun h' tk k => ⟨_, H, I.kept k, ?_, q⟩
  by_cases hj : j < i
  · rw [if_pos hj, if_pos hj]; exact ⟨_, rfl⟩
  · rw [if_neg hj, if_neg hj]; exact ⟨_, rfl⟩
theorem call_int1 : CallR X (.type "int") (fun xs H Q => (∃ i, xs = [.int i] ∧ Q (.int i) H) ∨ ∃ k, xs = [.bl k] ∧ Q (.int (if k then 1 else 0)) H) := by
  intro pins s σ H xs us Q I r h
  rcases h with ⟨i, rfl, q⟩ | ⟨k, rfl, q⟩
  · obtain ⟨u, rfl, t, rfl⟩ := vals1 r
    exact call_int_int ⟨.int i, H, I, ⟨_, rfl⟩, q⟩
  · obtain ⟨u, rfl, r1⟩ := vals1 r
    cases r1
    exact call_int_bool ⟨.int (if k then 1 else 0), H, I.tok _, ⟨_, rfl⟩, q⟩
theorem call_str_int : CallR X (.type "str") (fun xs H Q => ∃ i, xs = [.int i] ∧ i.natAbs.log2 < 1920 ∧ Q (.str (toString i)) H) := by
  intro pins s σ H xs us Q I r h
  obtain ⟨i, rfl, hz, q⟩ := h
  obtain ⟨u, rfl, t, rfl⟩ := vals1 r
  exact PySem.P.str_of_int hz ⟨.str _, H, I.tok _, ⟨_, rfl⟩, q⟩
end
end L2

namespace L2
open PySem PySem.Spec PyProof.Rows

structure ObjM (h : Heap) (x dx C : Addr) (mA : Str → Option Value) : Prop where
  obj : h.get? x = some (PySem.W.instObj C dx)
  ns : h.Ns1 dx mA
  ne : dx ≠ x

theorem lookIn_ns {h : Heap} {dx : Addr} {mA : Str → Option Value} (n : h.Ns1 dx mA) : ∃ od, h.get? dx = some od ∧ ∀ name, PySem.W.lookIn name od = some (mA name) := by
  obtain ⟨o, es, ep, ho, hd, hk, _, hm⟩ := n
  refine ⟨o, ho, fun name => ?_⟩
  have e := hm name
  unfold nsFind findBy at e
  rw [← Array.find?_toList] at e
  unfold PySem.W.lookIn
  rw [hd]
  dsimp only
  split
  · rename_i y q
    rw [q] at e
    exact congrArg some e
  · rename_i q
    rw [q] at e
    have a : es.toList.any (·.refKey) = false := by
      rw [List.any_eq_false]
      intro y hy
      obtain ⟨z, t, hkey⟩ := hk y (Array.mem_toList_iff.mp hy)
      simp [DictEntry.refKey, hkey]
    have a' : ¬ es.toList.any (·.refKey) = true := by rw [a]; exact Bool.false_ne_true
    rw [if_neg a']
    exact congrArg some e

theorem ObjM.look {h : Heap} {x dx C : Addr} {mA : Str → Option Value} (I : ObjM h x dx C mA) : ∃ od, PySem.W.InstAt h x (PySem.W.instObj C dx) C (some od) ∧ ∀ name, PySem.W.lookIn name od = some (mA name) :=
  let ⟨od, ho, hl⟩ := lookIn_ns I.ns
  ⟨od, ⟨I.obj, rfl, rfl, ho⟩, hl⟩

section
variable {prog : Program} {w : World} {A : Around} {E : Value → Shared → Prop} {s : Shared} {K : PySem.W.Frag} {x dx C f : Addr} {mA : Str → Option Value} {name : Str} {v : Value}

end

section
variable {P : Program} {w : World} {H H' : Hp} {h h' : Heap} {a C dx : Addr} {fs fs' : List (Str × V)}
theorem ins_get (hok : HOk P w H h) (e : H a = some (.ins C dx fs)) : ∃ mA, ObjM h a dx C mA ∧ (∀ f, RelO (fs.lookup f) (mA f)) ∧ PySem.Within mA (fs.map (·.1)) ∧ fs.length ≤ 1000 ∧ H dx = some (.own a) := by
  obtain ⟨d, z, ne, ob, mA, n, r, q⟩ := (show ObjOk P w H h a (.ins C dx fs) from hok a _ e)
  exact ⟨mA, ⟨ob, n, ne⟩, r, q, z, d⟩
end

structure Cls (K : PySem.W.Frag) (C : Addr) : Prop where
  pg : PySem.W.plainGet K C Str.empty = true
  hd : PySem.W.hasDictIn K C = true
  po : PySem.W.plainOver K C = true
  sa : PySem.W.findIn K (.ref C) "__setattr__" = some (some (.builtin "object.__setattr__"))
theorem Cls.get {K : PySem.W.Frag} {C : Addr} (c : Cls K C) (f : Str) : PySem.W.plainGet K C f = true := c.pg
/-- a constant of the class -/
structure Con (K : PySem.W.Frag) (C : Addr) (f : Str) (v : V) (u : Value) : Prop where
  at_ : PySem.W.findIn K (.ref C) f = some (some u)
  rel : RelV v u
  get : PySem.W.specialIn K u "__get__" = some none
  cp : PySem.W.copiedNames.contains f = false
/-- a method: a plain def of the class or of one above it -/
structure Meth (K : PySem.W.Frag) (C : Addr) (m : Str) (f : Addr) : Prop where
  at_ : PySem.W.findIn K (.ref C) m = some (some (.ref f))
  fn : PySem.W.isFn K (.ref f) = true
  kp : PySem.W.keepIn K (.ref f) = true

section
variable {X : Cx} {pins : List (Addr × Obj)} {σ : St} {H : Hp} {s : Shared} {a C dx : Addr} {fs : List (Str × V)} {f : Str} {v : V} {A : Around} {E : Value → Shared → Prop}

end

section
variable {X : Cx} {o e value : Expr} {f : Str} {pos pos' tpos : Pos} {ta tv : TE}
end

section
variable {X : Cx} {pins : List (Addr × Obj)} {σ : St} {H : Hp} {s : Shared} {A : Around} {E : Value → Shared → Prop} {Q : Value → Shared → Prop} {c : Value} {b : Bool}
/-- the type of a value, as the fragment's deciders take it; for an instance its class -/
inductive TyOf (K : PySem.W.Frag) (H : Hp) : V → Value → Prop where
  | non : TyOf K H .non (.type "NoneType")
  | bl (x : Bool) : TyOf K H (.bl x) (.type "bool")
  | int (i : Int) : TyOf K H (.int i) (.type "int")
  | str (x : Str) : TyOf K H (.str x) (.type "str")
  | flt (x : UInt64) : TyOf K H (.flt x) (.type "float")
  | lst {a : Addr} {xs : List V} (e : H a = some (.lst xs)) : TyOf K H (.ref a) (.type "list")
  | frz {a : Addr} {o : Obj} {xs : List V} (e : H a = some (.frz o (.lst xs))) : TyOf K H (.ref a) (.type "list")
  | tup {a : Addr} {xs : List V} (e : H a = some (.tup xs)) : TyOf K H (.ref a) (.type "tuple")
  | dK {a : Addr} {kvs : List (Key × V)} (e : H a = some (.dK kvs)) : TyOf K H (.ref a) (.type "dict")
  | dT {a : Addr} {kvs : List (List Key × V)} (e : H a = some (.dT kvs)) : TyOf K H (.ref a) (.type "dict")
  | ins {a C dx : Addr} {fs : List (Str × V)} (e : H a = some (.ins C dx fs)) (cl : Cls K C) (ha : PySem.W.findIn K (.ref C) "__class__" = some (some (.builtin "object.__class__")))
      (hn : PySem.W.specialIn K (.builtin "object.__class__") "__get__" = some (some (.builtin "getset_descriptor.__get__"))) (htk : PySem.W.takesIn K (.builtin "object.__class__") = some true)
      (hm : PySem.W.mroIn K C (.type "object") = some true) : TyOf K H (.ref a) (.ref C)
/-- isinstance(x, c) for one class c, a built-in or an own one: kitOne's answer -/
theorem isinst_ok {x : V} {u t : Value} (I : Inv X pins σ H s) (rx : RelV x u) (ty : TyOf X.K H x t) (e : PySem.W.kitOne X.K t c = some b) (h : ∀ tk, Q (.bool b) { s with toks := tk }) :
    wpAny (model X.prog X.w) A (call (.builtin "isinstance") [u, c]) Q E s := by
  cases ty with
  | non => cases (show u = Value.none from rx); exact PySem.W.kia_one PySem.W.kitx_none I.kIn True.intro e (fun z => nomatch z) h
  | bl y => cases (show u = Value.bool y from rx); exact PySem.W.kia_one PySem.W.kitx_bool I.kIn True.intro e (fun z => nomatch z) h
  | int i => obtain ⟨t, q⟩ := (show ∃ t, u = Value.int i t from rx); cases q; exact PySem.W.kia_one PySem.W.kitx_int I.kIn True.intro e (fun z => nomatch z) h
  | str y => obtain ⟨t, q⟩ := (show ∃ t, u = Value.str y t from rx); cases q; exact PySem.W.kia_one PySem.W.kitx_str I.kIn True.intro e (fun z => nomatch z) h
  | flt y => obtain ⟨t, q⟩ := (show ∃ t, u = Value.float y t from rx); cases q; exact PySem.W.kia_one PySem.W.kitx_float I.kIn True.intro e (fun z => nomatch z) h
  | @lst a xs ea =>
    cases (show u = Value.ref a from rx)
    obtain ⟨_, _, n, _, h1⟩ := (show ObjOk X.prog X.w H s.heap a (.lst xs) from I.hok a _ ea)
    exact PySem.W.kia_one PySem.W.kitx_list I.kIn ⟨_, h1, rfl⟩ e (fun z => nomatch z) h
  | @frz a ob xs ea =>
    cases (show u = Value.ref a from rx)
    obtain ⟨_, _, _, n, _, h1⟩ := (show ObjOk X.prog X.w H s.heap a (.frz ob (.lst xs)) from I.hok a _ ea)
    exact PySem.W.kia_one PySem.W.kitx_list I.kIn ⟨_, h1, rfl⟩ e (fun z => nomatch z) h
  | @tup a xs ea =>
    cases (show u = Value.ref a from rx)
    obtain ⟨_, _, _, p⟩ := (show ObjOk X.prog X.w H s.heap a (.tup xs) from I.hok a _ ea)
    obtain ⟨o, h1, h2, _⟩ := p
    exact PySem.W.kia_one PySem.W.kitx_tuple I.kIn ⟨o, h1, h2⟩ e (fun z => nomatch z) h
  | @dK a kvs ea =>
    cases (show u = Value.ref a from rx)
    obtain ⟨_, _, vs, _, p⟩ := (show ObjOk X.prog X.w H s.heap a (.dK kvs) from I.hok a _ ea)
    obtain ⟨o, es, ep, h1, h2, _⟩ := p
    exact PySem.W.kia_one PySem.W.kitx_dict I.kIn ⟨o, h1, h2.1⟩ e (fun z => nomatch z) h
  | @dT a kvs ea =>
    cases (show u = Value.ref a from rx)
    obtain ⟨_, _, xs, _, o, es, ep, h1, h2, _⟩ := (show ObjOk X.prog X.w H s.heap a (.dT kvs) from I.hok a _ ea)
    exact PySem.W.kia_one PySem.W.kitx_dict I.kIn ⟨o, h1, h2.1⟩ e (fun z => nomatch z) h
  | @ins a C dx fs ea cl ha hn htk hm =>
    cases (show u = Value.ref a from rx)
    obtain ⟨mA, O, _⟩ := ins_get I.hok ea
    obtain ⟨od, J, _⟩ := O.look
    exact PySem.W.kia_one (PySem.W.kitx_own (cl.get _) cl.hd ha hn htk hm) I.kIn J e (fun z => nomatch z) h
end
end L2

namespace L2
open PySem PySem.Spec PyProof.Rows

structure Room (k : Nat) (A : Around) : Prop where
  hd : A.handled = none
  dp : A.depth + 3 * k + 5 < recursionLimit
  un : A.units + 16 * k + 200 < cLine
theorem Room.mono {j k : Nat} {A : Around} (r : Room k A) (h : j ≤ k) : Room j A := ⟨r.hd, by have := r.dp; omega, by have := r.un; omega⟩
theorem Room.deeper {k : Nat} {A : Around} (r : Room (k + 1) A) (env : Env) : Room k (A.deeper env) :=
  ⟨r.hd, by have := r.dp; show A.depth + 1 + 3 * k + 5 < _; omega, by have := r.un; show A.units + 3 + 16 * k + 200 < _; omega⟩
theorem Room.depth {k : Nat} {A : Around} (r : Room k A) : A.depth < recursionLimit := by have := r.dp; omega
theorem Room.units {k : Nat} {A : Around} (r : Room k A) : A.units + 64 < cLine := by have := r.un; omega
def tNil : TA := fun _ H Q => Q [] H
def tCons (ta : TE) (tr : TA) : TA := fun σ H Q => ta σ H fun x H1 => tr σ H1 fun xs H2 => Q (x :: xs) H2
section
variable {X : Cx} {e : Expr} {es : List Expr} {te : TE} {t : TA} {pos : Pos}
theorem pa_nil : PA X [] tNil := fun _ _ _ _ H Q I h => Calls.spliced_nil ⟨[], H, I, .nil, h⟩
theorem pa_cons (ha : PE X e te) (hr : PA X es t) (hs : starEach (e :: es) X.env = (false, eval e X.env) :: starEach es X.env := by rfl) : PA X (e :: es) (tCons te t) := by
  intro pos pins s σ H Q I h
  rw [hs]
  show wpAny _ _ (spliced ((false, eval e X.env) :: backTo pos (starEach es X.env))) _ _ s
  refine Calls.spliced_cons (thn (ha pins s σ H _ I h) fun u s1 ⟨x, H1, I1, r1, q1⟩ => ?_)
  exact thn (hr pos pins s1 σ H1 _ I1 q1) fun us s2 ⟨xs, H2, I2, r2, q2⟩ => ⟨x :: xs, H2, I2, .cons r1 r2, q2⟩

/-- a tuple, a list of written items -/
def tTup (t : TA) : TE := fun σ H Q => t σ H fun xs H1 => xs.length ≤ sizeLine ∧ ∀ p, H1 p = none → Q (.ref p) (upd H1 p (.tup xs))
def tLst (t : TA) : TE := fun σ H Q => t σ H fun xs H1 => xs.length ≤ sizeLine ∧ ∀ p, H1 p = none → Q (.ref p) (upd H1 p (.lst xs))
theorem pe_tup {x1} (h : PA X es t) : PE X (.Tuple es x1 pos) (tTup t) := by
  intro pins s σ H Q I hq
  refine wpAny_Tuple_spliced (thn (h pos pins s σ H _ I hq) fun us s1 ⟨xs, H1, I1, r, z, q⟩ => ⟨by rw [← r.length]; exact z, ?_⟩)
  have hf : H1 s1.heap.objs.size = none := I1.hok.fresh (Nat.le_refl _)
  refine ⟨.ref s1.heap.objs.size, upd H1 s1.heap.objs.size (.tup xs), I1.laid (t' := s1.toks) (fun b u e => Heap.get?_push_of_some _ e) (Nat.le_refl _) ?_, rfl, q _ hf⟩
  exact ⟨z, us, r, ⟨_, Heap.get?_push_size _ rfl, rfl, _, rfl⟩⟩
theorem pe_lst (h : PA X es t) : PE X (.List es pos) (tLst t) := by
  intro pins s σ H Q I hq
  refine wpAny_List_spliced (thn (h pos pins s σ H _ I hq) fun us s1 ⟨xs, H1, I1, r, z, q⟩ => ⟨by rw [← r.length]; exact z, ?_⟩)
  have hf : H1 s1.heap.objs.size = none := I1.hok.fresh (Nat.le_refl _)
  refine ⟨.ref s1.heap.objs.size, upd H1 s1.heap.objs.size (.lst xs), I1.laid (t' := s1.toks) (fun b u e => Heap.get?_push_of_some _ e) (Nat.le_refl _) ?_, rfl, q _ hf⟩
  exact ⟨z, us, 0, r, Heap.get?_push_size _ rfl⟩
end

/-- a def's promise: the bound arguments in the parameters' order, the heap, the wanted end, the wanted exception -/
abbrev Sp := List V → Hp → VK → XK → Prop
/-- how an exception lies behind a call (file 08 gives it): the callers' frames, abstract heap and state ahead of the call, the wish, the exception, the state -/
abbrev CXT := List Env → Hp → Shared → XK → Value → Shared → Prop

/-- the state at a call -/
structure Env0 (P : Program) (w : World) (K : PySem.W.Frag) (mg : Str → Option Value) (base : Heap) (A : Around) (outer : List Env) (s : Shared) (H : Hp) : Prop where
  frames : A.frames = some outer
  mod : Mod K mg base
  bs : ∀ b o, base.get? b = some o → s.heap.get? b = some o ∧ H b = none
  bsz : base.objs.size ≤ s.heap.objs.size
  funs : s.heap.FunFrames base outer
  frf : ∀ b ∈ frs outer, H b = none
  hok : HOk P w H s.heap
  bare : AllBare s.gens
/-- a call's end -/
def CE (outer : List Env) (P : Program) (w : World) (H : Hp) (s : Shared) (Q : VK) (u : Value) (s' : Shared) : Prop :=
  ∃ v H', s'.os = s.os ∧ AllBare s'.gens ∧ Un (frs outer) [] H H' s.heap s'.heap ∧ HOk P w H' s'.heap ∧ RelV v u ∧ Q v H'
def CR (CX : CXT) (outer : List Env) (P : Program) (w : World) (H : Hp) (s : Shared) (Q : VK) (E : XK) (r : Result) (s' : Shared) : Prop :=
  match r with
  | .ok (.ret u) => CE outer P w H s Q u s'
  | .ok _ => False
  | .error e => CX outer H s E e s'
structure FnOk (P : Program) (w : World) (K : PySem.W.Frag) (mg : Str → Option Value) (base : Heap) (CX : CXT) (k : Nat) (f : Addr) (fd : FuncData) (ps : List Str) (sp : Sp) : Prop where
  len : ∀ vs H Q E, sp vs H Q E → vs.length = ps.length
  run : ∀ (A : Around) (outer : List Env) (s : Shared) (H : Hp) (args : Args) (us : List Value) (vs : List V) (Q : VK) (E : XK), Room k A → Env0 P w K mg base A outer s H → BindsTo s fd args (ps.zip us) → Vals vs us → sp vs H Q E →
    codeAny (model P w) A (.call (.ref f) args) (CR CX outer P w H s Q E) s
theorem FnOk.mono {P : Program} {w : World} {K : PySem.W.Frag} {mg : Str → Option Value} {base : Heap} {CX : CXT} {j k : Nat} {f : Addr} {fd : FuncData} {ps : List Str} {sp : Sp} (F : FnOk P w K mg base CX j f fd ps sp) (h : j ≤ k) :
    FnOk P w K mg base CX k f fd ps sp := ⟨F.len, fun A outer s H args us vs Q E hr => F.run A outer s H args us vs Q E (hr.mono h)⟩
section
variable {X : Cx} {pins : List (Addr × Obj)} {σ : St} {H : Hp} {s s' : Shared}
/-- from a body: what a callee wants -/
theorem Inv.env0 (I : Inv X pins σ H s) : Env0 X.prog X.w X.K X.mg X.base X.A X.stack s H :=
  ⟨I.ok.frames, I.ok.mod, I.bs, Nat.le_trans I.ok.bsz I.sz, I.stack, I.stkFree, I.hok, I.bare⟩
/-- behind a call -/
theorem Inv.after {Q : VK} {u : Value} (I : Inv X pins σ H s) (h : CE X.stack X.prog X.w H s Q u s') : EP X pins σ Q u s' := by
  obtain ⟨v, H', os, bare, un, hok, r, q⟩ := h
  obtain ⟨hh, g, d, t, os'⟩ := s'
  obtain rfl : os' = s.os := os
  exact ⟨v, H', I.call (h' := hh) (g' := g) (d' := d) (t' := t) (ch := []) un hok bare (fun b z => absurd z (by simp)), r, q⟩
end

/-- f(..): the written arguments, then the defaults dvs; E: what is wanted of an exception -/
def tCall (sp : Sp) (dvs : List V) (E : XK) (t : TA) : TE := fun σ H Q => t σ H fun vs H1 => sp (vs ++ dvs) H1 Q E
/-- how the parameters are bound: us the positional arguments, kw the keywords' values by name, ds the defaults that fill up -/
def Binds (K : PySem.W.Frag) (fd : FuncData) (ps : List Str) (ds : List Value) : Prop :=
  ∀ (s : Shared) (us : List Value), K.In s.heap → (us ++ ds).length = ps.length → BindsTo s fd ⟨us, []⟩ (ps.zip (us ++ ds))
/-- every parameter is given -/
theorem Binds.all {K : PySem.W.Frag} {fd : FuncData} {ps : List Str} (h : ∀ us : List Value, us.length = ps.length → bindArgs fd ⟨us, []⟩ = pure (ps.zip us)) : Binds K fd ps [] := fun s us _ hl => by
  rw [List.append_nil] at hl ⊢
  exact .of_eq (h us hl)

/-- an exception of a callee reaches what this body wants of exceptions -/
def Passes (CX : CXT) (X : Cx) (E : XK) : Prop := ∀ (pins : List (Addr × Obj)) (σ : St) (H : Hp) (s : Shared) (e : Value) (s' : Shared), Inv X pins σ H s → CX X.stack H s E e s' → X.xe e s'

section
variable {X : Cx} {CX : CXT} {k : Nat} {f C : Addr} {fd : FuncData} {ps : List Str} {sp : Sp} {dvs : List V} {ds : List Value} {E : XK} {x m : Str} {p pos apos : Pos} {e o : Expr} {es : List Expr} {ta : TE} {t : TA}

/-- the callee runs -/
theorem run_fn {pins : List (Addr × Obj)} {σ : St} {H : Hp} {s : Shared} {Q : VK} {us : List Value} {vs : List V} (F : FnOk X.prog X.w X.K X.mg X.base CX k f fd ps sp) (hr : Room k X.A) (hb : Binds X.K fd ps ds) (hd : Vals dvs ds) (hx : Passes CX X E)
    (I : Inv X pins σ H s) (r : Vals vs us) (h : sp (vs ++ dvs) H Q E) : wpAny (model X.prog X.w) X.A (call (.ref f) us) (EP X pins σ Q) X.xe s := by
  have r2 : Vals (vs ++ dvs) (us ++ ds) := r.append hd
  have hl : (us ++ ds).length = ps.length := by rw [← r2.length]; exact F.len _ _ _ _ h
  refine wpAny_call (codeAny_mono (F.run X.A X.stack s H ⟨us, []⟩ (us ++ ds) (vs ++ dvs) Q E hr I.env0 (hb s us I.kIn hl) r2 h) fun r s' hq => ?_)
  cases r with
  | error e => exact hx pins σ H s e s' I hq
  | ok fl =>
    cases fl with
    | ret u => exact I.after hq
    | next => exact False.elim hq
    | brk => exact False.elim hq
    | cont => exact False.elim hq

theorem pe_call (F : FnOk X.prog X.w X.K X.mg X.base CX k f fd ps sp) (hr : Room k X.A) (hg : Gl X x) (hm : X.mg x = some (.ref f)) (hk : PySem.W.keepIn X.K (.ref f) = true) (hb : Binds X.K fd ps ds) (hd : Vals dvs ds) (hx : Passes CX X E)
    (ha : PA X (e :: es) t) (hdb : (x == ("__debug__" : Str)) = false := by decide) (he : starEach (e :: es) X.env = (false, eval e X.env) :: starEach es X.env := by rfl) (hpl : (backTo pos (starEach es X.env)).any (·.1) = false := by rfl) :
    PE X (.Call (.Name x p) (e :: es) [] pos) (tCall sp dvs E t) := by
  intro pins s σ H Q I h
  refine wpAny_Call_Name_kw (ld_glob I hg hm ?_ hdb)
  refine PySem.W.callWith_K (h₀ := X.base) I.ok.mod.kin hk (thn (ha pos pins s σ H _ I h) fun us s1 ⟨vs, H1, I1, r, q⟩ => ⟨I1.kIn, ?_⟩) he hpl
  exact run_fn F hr hb hd hx I1 r q
/-- what a class must have to be made -/
structure Mk (K : PySem.W.Frag) (C f : Addr) : Prop where
  makes : PySem.W.makesIn K C = true
  init : PySem.W.findIn K (.ref C) "__init__" = some (some (.ref f))
  fn : PySem.W.isFn K (.ref f) = true
  kp : PySem.W.keepIn K (.ref C) = true

end

section
variable {X : Cx} {CX : CXT} {k : Nat} {f C : Addr} {fd : FuncData} {ps ks : List Str} {sp : Sp} {E : XK} {x m : Str} {p pos apos kpos : Pos} {e o : Expr} {es : List Expr} {kws : List Keyword} {te ta : TE} {t tk : TA} {nm : Option Str}
/-- how a call with keywords binds: g puts the positional values us and the keywords' values ws (names ks) in the parameters' order, defaults among them -/
structure KBinds (K : PySem.W.Frag) (fd : FuncData) (ps ks : List Str) (g : List Value → List Value → List Value) (gV : List V → List V → List V) : Prop where
  to : ∀ (s : Shared) (us ws : List Value), K.In s.heap → (g us ws).length = ps.length → BindsTo s fd ⟨us, ks.zip ws⟩ (ps.zip (g us ws))
  rel : ∀ {vs : List V} {us : List Value} {zs : List V} {ws : List Value}, Vals vs us → Vals zs ws → Vals (gV vs zs) (g us ws)
variable {g : List Value → List Value → List Value} {gV : List V → List V → List V}
end

/-- names: the parameters first -/
structure FnScope (N P : List Str) (sc : Scope) : Prop where
  kind : sc.kind = .function
  co : sc.isCoroutine = false
  gen : sc.isGenerator = false
  nd : N.Nodup
  pre : N.take P.length = P
  par : ∀ x ∈ P, sc.names.lookup x = some .local ∨ sc.names.lookup x = some .cell
  nofree : ∀ y ∈ sc.names, y.2 ≠ .free

theorem bindL_out {kindOf : Str → Option NameKind} {x : Str} : ∀ {binds : List (Str × Value)} {m : Str → Option Value}, (∀ v, (x, v) ∉ binds) → bindL kindOf binds m x = m x
  | [], _, _ => rfl
  | (n, v) :: r, m, h => by
    unfold bindL
    rw [bindL_out fun w hw => h w (List.mem_cons_of_mem _ hw)]
    split
    · have : x ≠ n := by rintro rfl; exact h v List.mem_cons_self
      simp [this]
    · rfl
theorem bindC_out {kindOf : Str → Option NameKind} {x : Str} : ∀ {binds : List (Str × Value)} {m : Str → Option Value}, (∀ v, (x, v) ∉ binds) → bindC kindOf binds m x = m x
  | [], _, _ => rfl
  | (n, v) :: r, m, h => by
    unfold bindC
    rw [bindC_out fun w hw => h w (List.mem_cons_of_mem _ hw)]
    split
    · rfl
    · have : x ≠ n := by rintro rfl; exact h v List.mem_cons_self
      simp [this]
theorem bindL_get {kindOf : Str → Option NameKind} {x : Str} {v : Value} : ∀ {P : List Str} {vs : List Value} {i : Nat} {m : Str → Option Value}, P.Nodup → P[i]? = some x → vs[i]? = some v → kindOf x = some .local →
    bindL kindOf (P.zip vs) m x = some v
  | [], _, _, _, _, h, _, _ => by simp at h
  | _ :: _, [], _, _, _, _, h, _ => by simp at h
  | p :: P, w :: vs, 0, m, nd, h1, h2, hk => by
    simp at h1 h2; subst h1; subst h2
    show bindL kindOf ((p, w) :: P.zip vs) m p = _
    unfold bindL
    rw [bindL_out fun v hv => (List.nodup_cons.mp nd).1 (List.of_mem_zip hv).1, if_pos hk]
    simp
  | p :: P, w :: vs, i + 1, m, nd, h1, h2, hk => by
    show bindL kindOf ((p, w) :: P.zip vs) m x = _
    unfold bindL
    exact bindL_get (i := i) (List.nodup_cons.mp nd).2 (by simpa using h1) (by simpa using h2) hk
theorem bindC_get {kindOf : Str → Option NameKind} {x : Str} {v : Value} : ∀ {P : List Str} {vs : List Value} {i : Nat} {m : Str → Option Value}, P.Nodup → P[i]? = some x → vs[i]? = some v → kindOf x ≠ some .local →
    bindC kindOf (P.zip vs) m x = some v
  | [], _, _, _, _, h, _, _ => by simp at h
  | _ :: _, [], _, _, _, _, h, _ => by simp at h
  | p :: P, w :: vs, 0, m, nd, h1, h2, hk => by
    simp at h1 h2; subst h1; subst h2
    show bindC kindOf ((p, w) :: P.zip vs) m p = _
    unfold bindC
    rw [bindC_out fun v hv => (List.nodup_cons.mp nd).1 (List.of_mem_zip hv).1, if_neg hk]
    simp
  | p :: P, w :: vs, i + 1, m, nd, h1, h2, hk => by
    show bindC kindOf ((p, w) :: P.zip vs) m x = _
    unfold bindC
    exact bindC_get (i := i) (List.nodup_cons.mp nd).2 (by simpa using h1) (by simpa using h2) hk

/-- the names' values at the entry -/
def start (N : List Str) (vs : List V) : St := vs.map some ++ List.replicate (N.length - vs.length) none

/-- the context of a def's body, at its entry; an exception leaves the frame, then lies as CX says -/
def cxOf (CX : CXT) (P : Program) (w : World) (K : PySem.W.Frag) (mg : Str → Option Value) (base : Heap) (N : List Str) (qual : Str) (scope : Scope) (f : Addr) (cd : Value) (A : Around) (outer : List Env) (s : Shared) (H : Hp) (E : XK) : Cx where
  prog := P
  w := w
  K := K
  mg := mg
  base := base
  A := A.deeper (envOfC qual scope s.heap.objs.size f cd)
  N := N
  s₀ := s
  H₀ := H
  env := envOfC qual scope s.heap.objs.size f cd
  outer := outer
  stack := envOfC qual scope s.heap.objs.size f cd :: outer
  ex := []
  calm := true
  fn := fun _ => true
  pn := []
  xe := fun e s' => wpAny (model P w) (A.deeper (envOfC qual scope s.heap.objs.size f cd)) (leaving (envOfC qual scope s.heap.objs.size f cd) e) (fun _ s'' => CX outer H s E e s'') (fun e' s'' => CX outer H s E e' s'') s'

theorem cell_has {sc : Scope} {n : Nat} {x : Str} (h : sc.names.lookup x = some .cell) : ∃ c, (cellsFrom n sc.names []).lookup x = some c := by
  have q := PySem.W.cellsFrom_some sc.names n [] (.inl h)
  exact Option.isSome_iff_exists.mp q

theorem inv_start {CX : CXT} {P : Program} {w : World} {K : PySem.W.Frag} {mg : Str → Option Value} {base : Heap} {N ps : List Str} {qual : Str} {scope : Scope} {f : Addr} {cd : Value} {A : Around} {outer : List Env} {s s1 : Shared} {H : Hp} {E : XK} {us : List Value} {vs : List V}
    (S : FnScope N ps scope) (hd : A.handled = none) (e0 : Env0 P w K mg base A outer s H) (hl : vs.length = ps.length) (r : Vals vs us)
    (x : InCallC s s.heap.objs.size (bindL (envOfC qual scope s.heap.objs.size f cd).kindOf (ps.zip us) fun _ => none) (cellsFrom (s.heap.objs.size + 1) scope.names []) (bindC (envOfC qual scope s.heap.objs.size f cd).kindOf (ps.zip us) fun _ => none) s1) :
    Inv (cxOf CX P w K mg base N qual scope f cd A outer s H E) [] (start N vs) H s1 := by
  have hpl : ps.length ≤ N.length := by have := congrArg List.length S.pre; rw [List.length_take] at this; omega
  obtain ⟨h1, tk, rfl, hk⟩ := x.done
  have noA : ∀ b : Addr, b ∉ (cxOf CX P w K mg base N qual scope f cd A outer s H E).ex := fun b z => absurd (show b ∈ ([] : List Addr) from z) (by simp)
  refine ⟨⟨e0.mod, S.kind, rfl, rfl, Nat.le_refl _, fun y z c h1 h2 => ?_, fun y hy => ?_, fun y c _ h => ?_, fun _ => hd, Around.frames_deeper e0.frames, .inr ⟨rfl, rfl⟩, fun b z => absurd z (noA b), e0.bs, e0.bsz, fun b _ _ => noA b, fun b z => absurd z (noA b), e0.funs, e0.frf⟩,
    rfl, e0.bare, Un.kept hk, ⟨_, x.toInCall.ns, fun i y v h1 h2 h3 => ?_⟩, fun y c h => ⟨_, x.cell y c h⟩, e0.hok.fresh (Nat.le_refl _), fun y c h => ?_, fun p hp => absurd (show p ∈ ([] : List (Addr × Obj)) from hp) (by simp), e0.hok.kept hk, ?_⟩
  · exact name_of_addr x.apart (PySem.mem_of_lookup h1) (PySem.mem_of_lookup h2)
  · have hy : scope.names.lookup y = some .cell ∨ scope.names.lookup y = some .free := hy
    rcases hy with hy | hy
    · exact cell_has hy
    · exact absurd rfl (S.nofree _ (PySem.mem_of_lookup hy))
  · exact Nat.le_of_lt (x.above y c (PySem.mem_of_lookup h))
  · have hi : i < vs.length := by
      unfold start at h2
      by_cases hi : i < vs.length
      · exact hi
      · rw [List.getElem?_append_right (by simpa using hi)] at h2
        rw [List.getElem?_replicate] at h2
        split at h2 <;> cases h2
    have ha : vs[i]? = some v := by
      unfold start at h2
      rw [List.getElem?_append_left (by simpa using hi), List.getElem?_map] at h2
      cases e : vs[i]? with
      | none => rw [e] at h2; cases h2
      | some a => rw [e] at h2; cases h2; rfl
    obtain ⟨u, hu, rv⟩ := r.get ha
    have hp : ps[i]? = some y := by
      rw [← S.pre, List.getElem?_take_of_lt (by omega)]; exact h1
    have ndP : ps.Nodup := by rw [← S.pre]; exact S.nd.sublist (List.take_sublist _ _)
    refine ⟨u, rv, ?_⟩
    rcases S.par y (List.mem_of_getElem? hp) with k | k
    · exact .inl ⟨k, bindL_get ndP hp hu k⟩
    · obtain ⟨c, e⟩ := cell_has (n := s.heap.objs.size + 1) k
      refine .inr ⟨.inl k, c, e, ?_⟩
      have q := x.cell y c e
      rw [bindC_get ndP hp hu (by show scope.names.lookup y ≠ _; rw [k]; decide)] at q
      exact q
  · exact e0.hok.fresh (Nat.le_of_lt (x.above y c (PySem.mem_of_lookup h)))
  · unfold start
    show _ = N.length
    rw [List.length_append, List.length_map, List.length_replicate]
    omega

/-- THE RULE: a def (or a method) of the text, by its body. The body's reading t is chosen for each entry; it is run at the parameters' values -/
theorem fn_of {CX : CXT} {P : Program} {w : World} {K : PySem.W.Frag} {mg : Str → Option Value} {base : Heap} {k : Nat} {f : Addr} {name qual : Str} {params : Arguments} {body : List Stmt} {scope : Scope} {dV kV doc pm cdv ct oc : Value} {an od : Option Addr}
    {osl : Array (Option Value)} {N ps : List Str} {sp : Sp} (lk : K.lookup f = some ⟨oc, od, .func (PySem.W.fnOf name qual params body scope dV kV doc pm an cdv ct), osl⟩) (hcd : PySem.W.codeIn K cdv qual = true) (S : FnScope N ps scope)
    (len : ∀ vs H Q E, sp vs H Q E → vs.length = ps.length)
    (hbody : ∀ (A : Around) (outer : List Env) (s : Shared) (H : Hp) (vs : List V) (Q : VK) (E : XK), Room k (A.deeper (envOfC qual scope s.heap.objs.size f cdv)) → sp vs H Q E →
      ∃ t, PSs (cxOf CX P w K mg base N qual scope f cdv A outer s H E) body t ∧ t { nx := fun _ H' => Q .non H', rt := Q } (start N vs) H) :
    FnOk P w K mg base CX (k + 1) f (PySem.W.fnOf name qual params body scope dV kV doc pm an cdv ct) ps sp := by
  refine ⟨len, fun A outer s H args us vs Q E hr e0 hb r hsp => ?_⟩
  have hl := len _ _ _ _ hsp
  have KX : K.In s.heap := e0.mod.kin.keeps fun b o e => (e0.bs b o e).1
  have lim : s.heap.NoLimit := e0.mod.nolimit.keeps fun b o e => (e0.bs b o e).1
  have hkind : ∀ y ∈ ps.zip us, scope.names.lookup y.1 = some .local ∨ (scope.names.lookup y.1 = some .cell ∧ ((cellsFrom (s.heap.objs.size + 1) scope.names []).lookup y.1).isSome = true) := fun ⟨n, v⟩ hy => by
    rcases S.par n (List.of_mem_zip hy).1 with q | q
    · exact .inl q
    · exact .inr ⟨q, PySem.W.cellsFrom_some _ _ _ (.inl q)⟩
  refine codeAny_call_function hr.depth (KX _ _ lk) rfl S.co S.gen rfl (PySem.W.codeRec_of KX hcd) (hb _ _ _ _ ?_)
  refine wpAny_newFunctionEnv_cells S.kind hkind fun env he s1 x => ?_
  subst he
  refine ⟨lim.keeps x.toInCall.keep, codeAny_func ?_⟩
  obtain ⟨t, ht, hq⟩ := hbody A outer s H vs Q E (hr.deeper _) hsp
  have I : Inv (cxOf CX P w K mg base N qual scope f cdv A outer s H E) [] (start N vs) H s1 := inv_start S hr.hd e0 hl r x
  refine wpAny_mono (ht [] s1 (start N vs) H _ I hq) (fun fl s' hs => ?_) fun e s' hs => hs
  have fin : ∀ {σ' : St} {H' : Hp} {v : V} {u : Value}, Inv (cxOf CX P w K mg base N qual scope f cdv A outer s H E) [] σ' H' s' → RelV v u → Q v H' → CE outer P w H s Q u s' :=
    fun {σ' H' v u} J rv q => ⟨v, H', J.os, J.bare, J.base, J.hok, rv, q⟩
  cases fl with
  | ret u =>
    obtain ⟨v, σ', H', J, rv, q⟩ := hs
    exact fin J rv q
  | next =>
    obtain ⟨σ', H', J, q⟩ := hs
    exact fin (v := V.non) (u := Value.none) J rfl q
  | brk =>
    obtain ⟨_, _, _, q⟩ := hs
    exact False.elim q
  | cont =>
    obtain ⟨_, _, _, q⟩ := hs
    exact False.elim q
end L2

namespace L2
open PySem PySem.Spec PyProof.Rows
section
variable {X : Cx} {x : Str} {p pos : Pos} {e : Expr} {es : List Expr} {t : TA} {id T : String} {r : List V → Hp → VK → Prop}

def tCB (r : List V → Hp → VK → Prop) (t : TA) : TE := fun σ H Q => t σ H fun vs H1 => r vs H1 Q
/-- f(e, ..), f a built-in function -/
theorem pe_callB (hc : CallR X (.builtin id) r) (hg : Gl X x) (hm : X.mg x = none) (hv : bootBuiltins x = some (.builtin id)) (ha : PA X (e :: es) t) (hn : x ≠ "__name__" := by decide) (hdb : (x == ("__debug__" : Str)) = false := by decide)
    (he : starEach (e :: es) X.env = (false, eval e X.env) :: starEach es X.env := by rfl) (hpl : (backTo pos (starEach es X.env)).any (·.1) = false := by rfl) : PE X (.Call (.Name x p) (e :: es) [] pos) (tCB r t) := by
  intro pins s σ H Q I h
  refine wpAny_Call_Name_kw (ld_blt I hg hm hv ?_ hn hdb)
  exact PyProof.Rows.callWith_builtin1 (thn (ha pos pins s σ H _ I h) fun us s1 ⟨vs, H1, I1, r1, q1⟩ => hc pins s1 σ H1 vs us Q I1 r1 q1) he hpl
/-- T(e, ..), T a built-in type -/
theorem pe_callTy (hc : CallR X (.type T) r) (hg : Gl X x) (hm : X.mg x = none) (hv : bootBuiltins x = some (.type T)) (ha : PA X (e :: es) t) (hn : x ≠ "__name__" := by decide) (hdb : (x == ("__debug__" : Str)) = false := by decide)
    (he : starEach (e :: es) X.env = (false, eval e X.env) :: starEach es X.env := by rfl) (hpl : (backTo pos (starEach es X.env)).any (·.1) = false := by rfl) : PE X (.Call (.Name x p) (e :: es) [] pos) (tCB r t) := by
  intro pins s σ H Q I h
  refine wpAny_Call_Name_kw (ld_blt I hg hm hv ?_ hn hdb)
  exact PyProof.Rows.callWith_type1 (thn (ha pos pins s σ H _ I h) fun us s1 ⟨vs, H1, I1, r1, q1⟩ => hc pins s1 σ H1 vs us Q I1 r1 q1) he hpl
end
end L2

namespace HT
open PySem PyProof.Rows

section
open PySem.SeqAt
open PySem.AutoSeq1 (wpAny_loadPart')
open PySem.MeetsSeq PySem.MeetsSeq2 PySem.MeetsSeq3

end

section
variable {prog : Program} {w : World} {A : Around} {E : Value → Shared → Prop} {s : Shared}

/-- a slice's bound as a place among n (d where it is left out) -/
def sIx (n d : Nat) : Option Int → Nat
  | none => d
  | some v => if v < 0 then (v + (n : Int)).toNat else min v.toNat n
end
end HT

namespace L2
open PySem PySem.Spec PyProof.Rows

abbrev TO := St → Hp → (Option Int → Hp → Prop) → Prop
/-- a slice's part (left out, or an int) -/
def PO (X : Cx) (e : Option Expr) (t : TO) : Prop :=
  ∀ (pins : List (Addr × Obj)) (s : Shared) (σ : St) (H : Hp) (Q : Option Int → Hp → Prop), Inv X pins σ H s → t σ H Q →
    wpAny (model X.prog X.w) X.A (evalPart e X.env) (fun u s' => ∃ o H', Inv X pins σ H' s' ∧ IsPart u o ∧ Q o H') X.xe s
def tNoPart : TO := fun _ H Q => Q none H
def tPart (t : TE) : TO := fun σ H Q => t σ H fun x H1 => ∃ i, x = .int i ∧ Q (some i) H1

section
variable {X : Cx} {e : Expr} {te : TE} {lo hi : Option Expr} {tl th : TO} {pos p2 : Pos}

theorem po_none : PO X none tNoPart := by
  intro pins s σ H Q I h
  rw [evalPart_none]
  exact wpAny_pure ⟨none, H, I, .none, h⟩
theorem po_some (h : PE X e te) : PO X (some e) (tPart te) := by
  intro pins s σ H Q I hw
  rw [evalPart_some]
  refine thn (h pins s σ H _ I hw) fun u s1 ⟨x, H1, I1, r1, q1⟩ => ?_
  obtain ⟨i, rfl, q⟩ := q1
  obtain ⟨t, rfl⟩ := r1
  exact ⟨some i, H1, I1, .int i t, q⟩

/-- what a slice of a value is, by values: the slice object stands at sl -/
def SlR (X : Cx) (r : V → Option Int → Option Int → Hp → VK → Prop) : Prop :=
  ∀ (pins : List (Addr × Obj)) (s : Shared) (σ : St) (H : Hp) (x : V) (v vl vu : Value) (lo hi : Option Int) (sl : Addr) (Q : VK), Inv X pins σ H s → RelV x v → s.heap.IsSliceOf sl vl vu .none → IsPart vl lo → IsPart vu hi → r x lo hi H Q →
    ∃ T id, typeLookup (.type T) "__getitem__" = pure (some (.builtin id)) ∧ s.TypeIs v T ∧ wpAny (model X.prog X.w) X.A (getItem v (.ref sl)) (EP X pins σ Q) X.xe s
def tSl (r : V → Option Int → Option Int → Hp → VK → Prop) (te : TE) (tl th : TO) : TE := fun σ H Q => te σ H fun x H1 => tl σ H1 fun l H2 => th σ H2 fun u H3 => r x l u H3 Q
/-- a[lo:hi], any a -/
theorem pe_slice {r : V → Option Int → Option Int → Hp → VK → Prop} (hr : SlR X r) (he : PE X e te) (hl : PO X lo tl) (hu : PO X hi th) : PE X (.Subscript e (.Slice lo hi none p2) pos) (tSl r te tl th) := by
  intro pins s σ H Q I h
  refine Subscript_ (thn (he pins s σ H _ I h) fun v s1 ⟨x, H1, I1, r1, q1⟩ => ?_)
  refine wpAny_Slice (thn (hl pins s1 σ H1 _ I1 q1) fun vl s2 ⟨l, H2, I2, pl, q2⟩ => thn (hu pins s2 σ H2 _ I2 q2) fun vu s3 ⟨u, H3, I3, pu, q3⟩ => ?_)
  rw [evalPart_none]
  refine wpAny_pure ?_
  have I4 : Inv X pins σ H3 { s3 with heap := s3.heap.push { cls := .type "slice", data := .fields #[vl, vu, .none] } } := I3.kept (t' := s3.toks) fun b ob q => Heap.get?_push_of_some _ q
  obtain ⟨T, id, hT, ht, hg⟩ := hr pins { s3 with heap := s3.heap.push { cls := .type "slice", data := .fields #[vl, vu, .none] } } σ H3 x v vl vu l u s3.heap.objs.size Q I4 r1 (Heap.IsSliceOf.new ..) pl pu q3
  show wpAny (model X.prog X.w) X.A (subscriptTail e (.Slice lo hi none p2) v (.ref s3.heap.objs.size)) (EP X pins σ Q) X.xe { s3 with heap := s3.heap.push { cls := .type "slice", data := .fields #[vl, vu, .none] } }
  exact tail_any (ops := [.ref s3.heap.objs.size, v]) ht hT hg (by with_unfolding_all rfl)

/-- the items of xs[lo:hi] -/
def cutV (xs : List V) (lo hi : Option Int) : List V := (xs.drop (HT.sIx xs.length 0 lo)).take (HT.sIx xs.length xs.length hi - HT.sIx xs.length 0 lo)
theorem cutV_length (xs : List V) (lo hi : Option Int) : (cutV xs lo hi).length ≤ xs.length := by
  unfold cutV
  rw [List.length_take, List.length_drop]
  omega
end
end L2

namespace L2
open PySem PySem.Spec PyProof.Rows

/-- the place that an index of any sign means -/
def ixN (n : Nat) (i : Int) : Option Nat := if 0 ≤ i then (if i < n then some i.toNat else none) else if -(n : Int) ≤ i then some (i + n).toNat else none
def atI {α : Type} (xs : List α) (i : Int) : Option α := (ixN xs.length i).bind fun j => xs[j]?
theorem ixN_seq {n : Nat} {i : Int} {j : Nat} (h : ixN n i = some j) : seqIndex? i n = some j ∧ j < n ∧ -(n : Int) ≤ i ∧ i < n := by
  unfold ixN at h
  by_cases h0 : 0 ≤ i
  · rw [if_pos h0] at h
    by_cases h1 : i < n
    · rw [if_pos h1] at h
      have e : i.toNat = j := Option.some.inj h
      exact ⟨by rw [seqIndex_of h0 h1, e], by omega, by omega, h1⟩
    · rw [if_neg h1] at h; cases h
  · rw [if_neg h0] at h
    by_cases h1 : -(n : Int) ≤ i
    · rw [if_pos h1] at h
      have e : (i + n).toNat = j := Option.some.inj h
      exact ⟨by rw [seqIndex_neg (by omega) h1, e], by omega, h1, by omega⟩
    · rw [if_neg h1] at h; cases h
theorem atI_get {α : Type} {xs : List α} {i : Int} {v : α} (h : atI xs i = some v) : ∃ j, seqIndex? i xs.length = some j ∧ xs[j]? = some v ∧ j < xs.length ∧ -(xs.length : Int) ≤ i ∧ i < xs.length := by
  unfold atI at h
  cases e : ixN xs.length i with
  | none => rw [e] at h; cases h
  | some j =>
    rw [e] at h
    obtain ⟨h1, h2, h3, h4⟩ := ixN_seq e
    exact ⟨j, h1, h, h2, h3, h4⟩
theorem atI_nat {α : Type} {xs : List α} {j : Nat} {v : α} (h : xs[j]? = some v) : atI xs (j : Int) = some v := by
  have hj : j < xs.length := (List.getElem?_eq_some_iff.mp h).1
  have e : ixN xs.length (j : Int) = some j := by
    unfold ixN
    rw [if_pos (by omega), if_pos (by omega)]; simp
  unfold atI; rw [e]; exact h
/-- what stands as an index of a plain subscript -/
def PlainIx (b : Expr) : Prop := ∀ o i, subscripted b false o i = operate [o, i] (getItem o i)
/-- a subscript by values -/
def IxR (X : Cx) (r : R2) : Prop :=
  ∀ (value slice : Expr) (pins : List (Addr × Obj)) (s : Shared) (σ : St) (H : Hp) (x y : V) (v u : Value) (Q : VK), Inv X pins σ H s → RelV x v → RelV y u → r x y H Q →
    subscripted slice false v u = operate [v, u] (getItem v u) → wpAny (model X.prog X.w) X.A (subscriptTail value slice v u) (EP X pins σ Q) X.xe s
/-- a call of a builtin's method by values: the receiver, the arguments -/
def MtR (X : Cx) (id : String) (r : V → List V → Hp → VK → Prop) : Prop :=
  ∀ (pins : List (Addr × Obj)) (s : Shared) (σ : St) (H : Hp) (x : V) (xs : List V) (v : Value) (us : List Value) (Q : VK), Inv X pins σ H s → RelV x v → Vals xs us → r x xs H Q →
    wpAny (model X.prog X.w) X.A (call (.builtin id) (v :: us)) (EP X pins σ Q) X.xe s
section
variable {X : Cx} {a b : Expr} {ta tb : TE} {pos : Pos}
/-- a[b] -/
theorem pe_ix {r : R2} (hr : IxR X r) (ha : PE X a ta) (hb : PE X b tb) (hs : PlainIx b) : PE X (.Subscript a b pos) (tOp r ta tb) := by
  intro pins s σ H Q I h
  exact Subscript_ (binT ha hb I h fun v u s2 x y H2 I2 rx ry q => hr a b pins s2 σ H2 x y v u Q I2 rx ry q (hs _ _))

def rIxL (K : PySem.W.Frag) : R2 := fun x y H Q => ∃ p xs i v, x = .ref p ∧ y = .int i ∧ SqL K H p xs ∧ atI xs i = some v ∧ Q v H
def rIxT (K : PySem.W.Frag) : R2 := fun x y H Q => ∃ p xs i v, x = .ref p ∧ y = .int i ∧ SqT K H p xs ∧ atI xs i = some v ∧ Q v H
def rIxS : R2 := fun x y H Q => ∃ z i c, x = .str z ∧ y = .int i ∧ z.length ≤ sizeLine ∧ atI z.cps.toList i = some c ∧ Q (.str ⟨#[c]⟩) H
theorem ix_list : IxR X (rIxL X.K) := by
  intro value slice pins s σ H x y v u Q I rx ry h hs
  obtain ⟨p, xs, i, z, rfl, rfl, hq, he, q⟩ := h
  cases rx
  obtain ⟨t, rfl⟩ := ry
  obtain ⟨its, r, pl, hz⟩ := I.list hq
  obtain ⟨j, h1, h2, h3, h4, h5⟩ := atI_get he
  obtain ⟨w, ew, rw'⟩ := r.get h2
  have hl := r.length
  have hn := line63
  have fin : EP X pins σ Q w s := ⟨z, H, I, rw', q⟩
  by_cases h0 : 0 ≤ i
  · have hj : i.toNat = j := by
      rw [seqIndex_of h0 h5] at h1
      exact Option.some.inj h1
    exact item_listR pl.isList h0 (by omega) (by rw [hj]; simpa using ew) fin hs
  · have hj : (i + (its.toArray.size : Int)).toNat = j := by
      rw [seqIndex_neg (by omega) h4] at h1
      rw [List.size_toArray, ← hl]
      exact Option.some.inj h1
    exact subscriptTail_builtinR (x := w) pl.isList.typeIs slot_list_getitem.lookup
      (wpAny_getItem_list_neg (Q := fun r s' => r = w ∧ EP X pins σ Q r s') pl.isList (by omega) (by rw [List.size_toArray] <;> omega) (by omega) (by rw [hj]; simpa using ew) ⟨rfl, fin⟩) hs
theorem ix_tup : IxR X (rIxT X.K) := by
  intro value slice pins s σ H x y v u Q I rx ry h hs
  obtain ⟨p, xs, i, z, rfl, rfl, hq, he, q⟩ := h
  cases rx
  obtain ⟨t, rfl⟩ := ry
  obtain ⟨its, r, pl, hz⟩ := I.tuple hq
  obtain ⟨j, h1, h2, h3, h4, h5⟩ := atI_get he
  obtain ⟨w, ew, rw'⟩ := r.get h2
  have hl := r.length
  have hn := line63
  have fin : EP X pins σ Q w s := ⟨z, H, I, rw', q⟩
  exact subscriptTail_builtinR (x := w) pl.typeIs slot_tuple_getitem.lookup
    (getItem_tuple (j := j) (Q := fun r s' => r = w ∧ EP X pins σ Q r s') pl (by omega) (by omega) (by rw [List.size_toArray, ← hl]; exact h1) (by simpa using ew) ⟨rfl, fin⟩) hs
theorem ix_str : IxR X rIxS := by
  intro value slice pins s σ H x y v u Q I rx ry h hs
  obtain ⟨z, i, c, rfl, rfl, hz, he, q⟩ := h
  obtain ⟨t, rfl⟩ := rx
  obtain ⟨t', rfl⟩ := ry
  obtain ⟨j, h1, h2, h3, h4, h5⟩ := atI_get he
  have hl : z.cps.toList.length = z.length := by simp [Str.length]
  rw [hl] at h1 h4 h5
  have hn := line63
  exact tail_any (typeIs_str s z t) slot_str_getitem.lookup (getItem_str (c := c) (by
    have e1 : decide (i < -(2 ^ 63 : Int)) = false := decide_eq_false (by omega)
    have e2 : decide (i ≥ 2 ^ 63) = false := decide_eq_false (by omega)
    rw [e1, e2, Bool.or_false]) (by rw [h1]; simpa using h2) ⟨.str ⟨#[c]⟩, H, I.tok _, ⟨_, rfl⟩, q⟩) hs
/-- the list's object behind a store -/
theorem mapSeq_set (its : List Value) (n j : Nat) (u : Value) : Obj.mapSeq (·.setIfInBounds j u) { cls := .type "list", data := .seq its.toArray n } = { cls := .type "list", data := .seq (its.set j u).toArray n } := by
  simp [Obj.mapSeq]
theorem Inv.lst {pins : List (Addr × Obj)} {σ : St} {H : Hp} {s : Shared} {p : Addr} {xs : List V} (I : Inv X pins σ H s) (h : H p = some (.lst xs)) :
    ∃ (its : List Value) (n : Nat), Vals xs its ∧ s.heap.get? p = some { cls := .type "list", data := .seq its.toArray n } ∧ xs.length ≤ sizeLine := by
  obtain ⟨z, its, n, r, e⟩ := I.hok p _ h
  exact ⟨its, n, r, e, z⟩
/-- the list at p is written by an update of its object -/
theorem Inv.lstUpd {pins : List (Addr × Obj)} {σ : St} {H : Hp} {s : Shared} {p : Addr} {xs ys : List V} {its its' : List Value} {n n' : Nat} {f : Obj → Obj} (I : Inv X pins σ H s) (h : H p = some (.lst xs))
    (ho : s.heap.get? p = some { cls := .type "list", data := .seq its.toArray n }) (hf : f { cls := .type "list", data := .seq its.toArray n } = { cls := .type "list", data := .seq its'.toArray n' }) (r : Vals ys its') (hz : ys.length ≤ sizeLine) (t : Nat) :
    Inv X pins σ (upd H p (.lst ys)) { s with heap := s.heap.update p f, toks := t } := by
  have e : (s.heap.update p f).get? p = some { cls := .type "list", data := .seq its'.toArray n' } := by
    rw [Heap.get?_update_self f ho (by rw [hf] <;> rfl), hf]
  refine I.write (x := p) (e := p) (by rw [h]; trivial) (.inl rfl) (fun b u hb q => (Heap.get?_update_other _ _ (Ne.symm hb)).trans q) ⟨_, e⟩ ?_
  exact ⟨hz, its', n', r, e⟩
def rSetL : V → V → V → Hp → (Hp → Prop) → Prop := fun o i v H Q => ∃ p xs k j, o = .ref p ∧ i = .int k ∧ H p = some (.lst xs) ∧ ixN xs.length k = some j ∧ Q (upd H p (.lst (xs.set j v)))
theorem set_list : PSet X rSetL := by
  intro pins s σ H o i v ov iv u Q I ro ri rv h
  obtain ⟨p, xs, k, j, rfl, rfl, hp, hj, q⟩ := h
  cases ro
  obtain ⟨t, rfl⟩ := ri
  obtain ⟨its, n, r, ho, hz⟩ := I.lst hp
  obtain ⟨h1, h2, h3, h4⟩ := ixN_seq hj
  have hl := r.length
  have hn := line63
  have I' : Inv X pins σ (upd H p (.lst (xs.set j v))) { s with heap := s.heap.update p (Obj.mapSeq (·.setIfInBounds j u)) } :=
    I.lstUpd hp ho (mapSeq_set its n j u) (r.set rv j) (by rw [List.length_set]; exact hz) s.toks
  by_cases h0 : 0 ≤ k
  · have hk : k.toNat = j := by
      rw [seqIndex_of h0 h4] at h1
      exact Option.some.inj h1
    exact PySem.W.ki_setAt ho h0 (by omega) (by rw [List.size_toArray, ← hl]; exact h4) (by rw [hk]; exact ⟨_, I', q⟩)
  · have hk : (k + (its.toArray.size : Int)).toNat = j := by
      rw [seqIndex_neg (by omega) h3] at h1
      rw [List.size_toArray, ← hl]
      exact Option.some.inj h1
    exact PySem.W.ki_setBack ho (by omega) (by rw [List.size_toArray, ← hl]; exact h3) (by omega) (by rw [hk]; exact ⟨_, I', q⟩)

theorem slice_bounds (lo hi : Option Int) (n : Nat) : (sliceBounds lo hi none n).1 = ((HT.sIx n 0 lo : Nat) : Int) ∧ (sliceBounds lo hi none n).2.1 = ((HT.sIx n n hi : Nat) : Int) ∧ (sliceBounds lo hi none n).2.2 = 1 := by
  refine ⟨?_, ?_, rfl⟩
  · cases lo with
    | none => simp [sliceBounds, HT.sIx]
    | some i =>
      simp only [sliceBounds, HT.sIx, Option.getD_none, show (1 : Int) > 0 by decide, if_true]
      by_cases h : i < 0
      · simp only [h, if_true] <;> omega
      · simp only [h, if_false] <;> omega
  · cases hi with
    | none => simp [sliceBounds, HT.sIx]
    | some i =>
      simp only [sliceBounds, HT.sIx, Option.getD_none, show (1 : Int) > 0 by decide, if_true]
      by_cases h : i < 0
      · simp only [h, if_true] <;> omega
      · simp only [h, if_false] <;> omega
theorem slicePick_cut (its : List Value) (lo hi : Option Int) : slicePick its.toArray lo hi none = ((its.drop (HT.sIx its.length 0 lo)).take (HT.sIx its.length its.length hi - HT.sIx its.length 0 lo)).toArray := by
  obtain ⟨h1, h2, h3⟩ := slice_bounds lo hi its.toArray.size
  unfold slicePick
  rw [h1, h2, h3]
  simp only [sliceRange_one, pick_run, List.size_toArray] <;> rfl
/-- xs[lo:hi] of a list: a new list -/
def rSlL (K : PySem.W.Frag) : V → Option Int → Option Int → Hp → VK → Prop := fun x lo hi H Q => ∃ a xs, x = .ref a ∧ SqL K H a xs ∧ ∀ p, H p = none → Q (.ref p) (upd H p (.lst (cutV xs lo hi)))
theorem sl_list : SlR X (rSlL X.K) := by
  intro pins s σ H x v vl vu lo hi sl Q I rx hs pl pu h
  obtain ⟨a, xs, rfl, hx, q⟩ := h
  cases rx
  obtain ⟨its, r, ht, hz⟩ := I.list hx
  have hlen := r.length
  refine ⟨"list", _, slot_list_getitem.lookup, ht.isList.typeIs, ?_⟩
  refine wpAny_getItem_list_slice ht.isList hs pl pu .none (by simp) ?_ (by rw [List.size_toArray] <;> omega)
  rw [slicePick_cut, ← hlen]
  refine ⟨.ref s.heap.objs.size, _, I.laid (t' := s.toks) (o := .lst (cutV xs lo hi)) (fun b ob q => Heap.get?_push_of_some _ q) (Nat.le_refl _) ?_, rfl, q _ (I.hok.fresh (Nat.le_refl _))⟩
  exact ⟨Nat.le_trans (cutV_length xs lo hi) hz, _, 0, (r.drop (HT.sIx xs.length 0 lo)).take (HT.sIx xs.length xs.length hi - HT.sIx xs.length 0 lo), Heap.get?_push_size _ rfl⟩

def flatV : V → Bool
  | .non => true
  | .bl _ => true
  | .int _ => true
  | .str _ => true
  | _ => false
/-- == of flat values -/
def eqV : V → V → Bool
  | .non, .non => true
  | .bl a, .bl b => a == b
  | .bl a, .int b => (if a then 1 else 0) == b
  | .int a, .bl b => a == (if b then 1 else 0)
  | .int a, .int b => a == b
  | .str a, .str b => a == b
  | _, _ => false
theorem eqAt_V {A : Around} {s : Shared} {y x : V} {u v : Value} (ry : RelV y u) (rx : RelV x v) (fy : flatV y = true) (fx : flatV x = true) : SeqAt.EqAt A s u v (eqV y x) := by
  cases y with
  | non =>
    cases ry
    cases x with
    | non => cases rx; exact SeqAt.EqAt.same _
    | bl b => cases rx; exact SeqAt.EqAt.none_bool b
    | int b => obtain ⟨t, rfl⟩ := rx; exact SeqAt.EqAt.none_int b t
    | str b => obtain ⟨t, rfl⟩ := rx; exact SeqAt.EqAt.none_str b t
    | _ => exact absurd (show false = true from fx) Bool.false_ne_true
  | bl a =>
    cases ry
    cases x with
    | non => cases rx; exact SeqAt.EqAt.bool_none a
    | bl b => cases rx; exact SeqAt.EqAt.bool_bool a b
    | int b => obtain ⟨t, rfl⟩ := rx; exact SeqAt.EqAt.bool_int a b t
    | str b => obtain ⟨t, rfl⟩ := rx; exact SeqAt.EqAt.bool_str a b t
    | _ => exact absurd (show false = true from fx) Bool.false_ne_true
  | int a =>
    obtain ⟨t', rfl⟩ := ry
    cases x with
    | non => cases rx; exact SeqAt.EqAt.int_none a t'
    | bl b => cases rx; exact SeqAt.EqAt.int_bool a t' b
    | int b => obtain ⟨t, rfl⟩ := rx; exact SeqAt.EqAt.int_int a t' b t
    | str b => obtain ⟨t, rfl⟩ := rx; exact SeqAt.EqAt.int_str a t' b t
    | _ => exact absurd (show false = true from fx) Bool.false_ne_true
  | str a =>
    obtain ⟨t', rfl⟩ := ry
    cases x with
    | non => cases rx; exact SeqAt.EqAt.str_none a t'
    | bl b => cases rx; exact SeqAt.EqAt.str_bool a t' b
    | int b => obtain ⟨t, rfl⟩ := rx; exact SeqAt.EqAt.str_int a t' b t
    | str b => obtain ⟨t, rfl⟩ := rx; exact SeqAt.EqAt.str_str a t' b t
    | _ => exact absurd (show false = true from fx) Bool.false_ne_true
  | _ => exact absurd (show false = true from fy) Bool.false_ne_true
/-- the items' answers, read off the values (a value's own answer does not lean on its token) -/
def eqU (x : V) (u : Value) : Bool := match u with
  | .none => eqV .non x
  | .bool b => eqV (.bl b) x
  | .int i _ => eqV (.int i) x
  | .str z _ => eqV (.str z) x
  | _ => false
theorem eqU_of {x y : V} {u : Value} (r : RelV y u) (f : flatV y = true) : eqU x u = eqV y x := by
  cases y with
  | non => cases r; rfl
  | bl b => cases r; rfl
  | int i => obtain ⟨t, rfl⟩ := r; rfl
  | str z => obtain ⟨t, rfl⟩ := r; rfl
  | _ => exact absurd (show false = true from f) Bool.false_ne_true
theorem mem_eqAt {A : Around} {s : Shared} {x : V} {v : Value} (rx : RelV x v) (fx : flatV x = true) : ∀ {xs : List V} {us : List Value}, Vals xs us → xs.all flatV = true → ∀ u ∈ us, SeqAt.EqAt A s u v (eqU x u)
  | _, _, .nil, _ => fun u hu => by cases hu
  | y :: xs, u :: us, .cons r t, f => fun u' hu => by
    rw [List.all_cons, Bool.and_eq_true] at f
    rcases List.mem_cons.mp hu with rfl | hu
    · rw [eqU_of r f.1]; exact eqAt_V r rx f.1 fx
    · exact mem_eqAt rx fx t f.2 u' hu
/-- x in a list or tuple of flat items -/
theorem call_len_seq : CallR X (.builtin "len") (fun xs H Q => ∃ p ys, xs = [.ref p] ∧ (SqL X.K H p ys ∨ SqT X.K H p ys) ∧ Q (.int ys.length) H) := by
  intro pins s σ H xs us Q I r h
  obtain ⟨p, ys, rfl, hq, q⟩ := h
  obtain ⟨u, rfl, rx⟩ := vals1 r
  cases rx
  have hn := line63
  rcases hq with hq | hq
  · obtain ⟨its, r', pl, hz⟩ := I.list hq
    have hlen := r'.length
    exact Calls.call_len_list pl.isList (by simp only [List.size_toArray] <;> omega) ⟨.int ys.length, H, I.tok _, ⟨s.toks + 1, by rw [List.size_toArray, hlen]⟩, q⟩
  · obtain ⟨its, r', pl, hz⟩ := I.tuple hq
    have hlen := r'.length
    exact len_tuple pl (by simp only [List.size_toArray] <;> omega) ⟨.int ys.length, H, I.tok _, ⟨s.toks + 1, by rw [List.size_toArray, hlen]⟩, q⟩
theorem call_len_str : CallR X (.builtin "len") (fun xs H Q => ∃ z, xs = [.str z] ∧ z.length ≤ sizeLine ∧ Q (.int z.length) H) := by
  intro pins s σ H xs us Q I r h
  obtain ⟨z, rfl, hz, q⟩ := h
  obtain ⟨u, rfl, t, rfl⟩ := vals1 r
  have hn := line63
  exact len_str (by omega) ⟨.int z.length, H, I.tok _, ⟨_, rfl⟩, q⟩
theorem call_list_of : CallR X (.type "list") (fun xs H Q => ∃ p ys, xs = [.ref p] ∧ (SqL X.K H p ys ∨ SqT X.K H p ys) ∧ ∀ l, H l = none → Q (.ref l) (upd H l (.lst ys))) := by
  intro pins s σ H xs us Q I r h
  obtain ⟨p, ys, rfl, hq, q⟩ := h
  obtain ⟨u, rfl, rx⟩ := vals1 r
  cases rx
  have fin : ∀ (its : List Value), Vals ys its → ys.length ≤ sizeLine → ∀ (h' : Heap) (c' : Nat), (∀ b o', s.heap.get? b = some o' → h'.get? b = some o') →
      h'.get? s.heap.objs.size = some { cls := .type "list", dict := none, data := .seq its.toArray c', slots := #[] } → EP X pins σ Q (.ref s.heap.objs.size) { s with heap := h' } := fun its r' hz h' c' kp e =>
    ⟨.ref s.heap.objs.size, _, I.laid (t' := s.toks) kp (Nat.le_refl _) (show ObjOk X.prog X.w _ h' _ (.lst ys) from ⟨hz, its, c', r', e⟩), rfl, q _ (I.hok.fresh (Nat.le_refl _))⟩
  rcases hq with hq | hq
  · obtain ⟨its, r', pl, hz⟩ := I.list hq
    have hlen := r'.length
    obtain ⟨o, ho, hc, n, hd⟩ := pl.isList
    exact call_list_seq p (.inl rfl) ho hc hd (fun h' c' kp e => fin its r' hz h' c' kp e) (by simp only [List.size_toArray] <;> omega)
  · obtain ⟨its, r', pl, hz⟩ := I.tuple hq
    have hlen := r'.length
    obtain ⟨o, ho, hc, n, hd⟩ := pl
    exact call_list_seq p (.inr rfl) ho hc hd (fun h' c' kp e => fin its r' hz h' c' kp e) (by simp only [List.size_toArray] <;> omega)
/-- the value is of that builtin type -/
def tyV (K : PySem.W.Frag) (T : String) (x : V) (H : Hp) : Prop := match x with
  | .str _ => T = "str"
  | .int _ => T = "int"
  | .ref p => (T = "list" ∧ ∃ xs, SqL K H p xs) ∨ (T = "tuple" ∧ ∃ o, K.lookup p = some o ∧ o.cls = .type "tuple" ∧ o.dict = none) ∨
      (T = "dict" ∧ ((∃ kvs, H p = some (.dK kvs)) ∨ ∃ kvs, H p = some (.dT kvs))) ∨ (T = "set" ∧ ∃ S n, H p = some (.set S n))
  | _ => False
theorem tyV_is {pins : List (Addr × Obj)} {σ : St} {H : Hp} {s : Shared} {T : String} {x : V} {v : Value} (I : Inv X pins σ H s) (r : RelV x v) (ty : tyV X.K T x H) :
    s.TypeIs v T ∧ ∀ a, v = .ref a → ∃ ob, s.heap.get? a = some ob ∧ ob.dict = none := by
  cases x with
  | str z =>
    obtain ⟨t, rfl⟩ := r
    cases (show T = "str" from ty)
    exact ⟨typeIs_str s z t, fun _ e => nomatch e⟩
  | int i =>
    obtain ⟨t, rfl⟩ := r
    cases (show T = "int" from ty)
    exact ⟨typeIs_int s i t, fun _ e => nomatch e⟩
  | ref p =>
    cases r
    rcases ty with ⟨rfl, xs, hq⟩ | ⟨rfl, o, hk, hc, hd⟩ | ⟨rfl, hk⟩ | ⟨rfl, S, n, hk⟩
    · obtain ⟨its, _, pl, _⟩ := I.list hq
      refine ⟨pl.isList.typeIs, fun a e => ?_⟩
      cases e
      obtain ⟨o, n, e, c, hd, _⟩ := pl
      exact ⟨o, e, hd⟩
    · refine ⟨⟨o, I.kIn p o hk, hc⟩, fun a e => ?_⟩
      cases e
      exact ⟨o, I.kIn _ o hk, hd⟩
    · have z : ∃ o, s.heap.get? p = some o ∧ o.ExactDict := by
        rcases hk with ⟨kvs, hk⟩ | ⟨kvs, hk⟩
        · obtain ⟨_, _, _, _, o, _, _, e, ex, _⟩ := I.hok p _ hk
          exact ⟨o, e, ex⟩
        · obtain ⟨_, _, _, _, o, _, _, e, ex, _⟩ := I.hok p _ hk
          exact ⟨o, e, ex⟩
      obtain ⟨o, e, ex⟩ := z
      refine ⟨⟨o, e, ex.1⟩, fun a e2 => ?_⟩
      cases e2
      exact ⟨o, e, ex.2.1⟩
    · obtain ⟨o, _, _, _, e, ex, _⟩ := I.hok p _ hk
      refine ⟨⟨o, e, ex.1⟩, fun a e2 => ?_⟩
      cases e2
      exact ⟨o, e, ex.2.1⟩
  | _ => exact False.elim ty
def tBM0 (K : PySem.W.Frag) (T : String) (r : V → List V → Hp → VK → Prop) (to : TE) : TE := fun σ H Q => to σ H fun x H1 => tyV K T x H1 ∧ r x [] H1 Q
def tBM (K : PySem.W.Frag) (T : String) (r : V → List V → Hp → VK → Prop) (to : TE) (t : TA) : TE := fun σ H Q => to σ H fun x H1 => tyV K T x H1 ∧ t σ H1 fun xs H2 => r x xs H2 Q
variable {o e : Expr} {es : List Expr} {to : TE} {t : TA} {name : Str} {apos cpos : Pos} {T id : String} {r : V → List V → Hp → VK → Prop}
theorem pe_bm0 (pa : PlainAttrs T) (slot : Slot T name id) (hty : typeOf (.builtin id) = pure (.type "method_descriptor")) (hm : MtR X id r) (ho : PE X o to)
    (hbase : attributeBase o name X.env (eval o X.env) = eval o X.env := by rfl) (hline : (apos.endLine == cpos.line) = true := by rfl) : PE X (.Call (.Attribute o name apos) [] [] cpos) (tBM0 X.K T r to) := by
  intro pins s σ H Q I h
  refine wpAny_Call_method0_late hbase hline (thn (ho pins s σ H _ I h) fun v s1 ⟨x, H1, I1, r1, ty, q1⟩ => ?_)
  obtain ⟨h1, h2⟩ := tyV_is I1 r1 ty
  exact ⟨T, id, pa, slot, hty, h1, h2, Calls.callWith_builtin rfl (PySem.evalArgs_none (hm pins s1 σ H1 x [] v [] Q I1 r1 .nil q1))⟩
theorem pe_bm (pa : PlainAttrs T) (slot : Slot T name id) (hty : typeOf (.builtin id) = pure (.type "method_descriptor")) (hm : MtR X id r) (ho : PE X o to) (ha : PA X (e :: es) t)
    (hbase : attributeBase o name X.env (eval o X.env) = eval o X.env := by rfl)
    (hfew : ((backTo cpos (starEach (e :: es) X.env)).all (fun x => !x.1) && (backToKw cpos (keywordEach [] X.env)).all (fun x => x.1.isSome)
      && decide ((e :: es).length + ([] : List Keyword).length + (if ([] : List Keyword).isEmpty then 0 else 1) < 30)) = true := by rfl)
    (hline : (apos.endLine == cpos.line) = true := by rfl) (hs : starEach (e :: es) X.env = (false, eval e X.env) :: starEach es X.env := by rfl) (hplain : (backTo cpos (starEach es X.env)).any (·.1) = false := by rfl) :
    PE X (.Call (.Attribute o name apos) (e :: es) [] cpos) (tBM X.K T r to t) := by
  intro pins s σ H Q I h
  refine wpAny_Call_method_late hbase hfew hline rfl (thn (ho pins s σ H _ I h) fun v s1 ⟨x, H1, I1, r1, ty, q1⟩ => ?_)
  obtain ⟨h1, h2⟩ := tyV_is I1 r1 ty
  refine ⟨T, id, pa, slot, hty, h1, h2, ?_⟩
  have hA := ha cpos pins s1 σ H1 _ I1 q1
  rw [hs] at hA ⊢
  refine Calls.callWith_builtin (by show (false || (backTo cpos (starEach es X.env)).any (·.1)) = false; rw [hplain] <;> rfl) (Calls.evalArgs_plain ?_)
  exact thn hA fun us s2 ⟨vs, H2, I2, r2, q2⟩ => hm pins s2 σ H2 x vs v us Q I2 r1 r2 q2
/- xs.append(e), list.index on a module's tuple .. are MtR facts of 06m -/
end
end L2

namespace L2
open PySem PySem.Spec PyProof.Rows

def MtM (X : Cx) (id : String) (r : V → List V → Hp → VK → Prop) : Prop :=
  ∀ (pins : List (Addr × Obj)) (s : Shared) (σ : St) (H : Hp) (x : V) (xs : List V) (v : Value) (us : List Value) (Q : VK), Inv X pins σ H s → RelV x v → Vals xs us → r x xs H Q →
    wpAny (model X.prog X.w) X.A (call (.builtin id) (v :: us)) (EP X pins σ Q) X.xe s

theorem Vals.one : ∀ {x : V} {us : List Value}, Vals [x] us → ∃ u, us = [u] ∧ RelV x u
  | _, _, .cons r .nil => ⟨_, rfl, r⟩
theorem Vals.two : ∀ {x y : V} {us : List Value}, Vals [x, y] us → ∃ u v, us = [u, v] ∧ RelV x u ∧ RelV y v
  | _, _, _, .cons r (.cons q .nil) => ⟨_, _, rfl, r, q⟩
theorem Vals.zero : ∀ {us : List Value}, Vals [] us → us = []
  | _, .nil => rfl
theorem Vals.dropLast {xs : List V} {us : List Value} (h : Vals xs us) : Vals xs.dropLast us.dropLast := by
  induction h with
  | nil => exact .nil
  | cons r t ih =>
    cases t with
    | nil => exact .nil
    | cons q t' => exact .cons r ih
theorem erase_last {α : Type} (l : List α) : l.eraseIdx (l.length - 1) = l.dropLast := by
  induction l with
  | nil => rfl
  | cons a r ih =>
    cases r with
    | nil => rfl
    | cons b r =>
      have e : (a :: b :: r).length - 1 = ((b :: r).length - 1) + 1 := by
        have h1 : (a :: b :: r).length = r.length + 2 := rfl
        have h2 : (b :: r).length = r.length + 1 := rfl
        omega
      rw [e, List.eraseIdx_cons_succ, ih]
      all_goals rfl
section
variable {X : Cx} {pins : List (Addr × Obj)} {σ : St} {H : Hp} {s : Shared} {l b : Addr} {xs ys zs : List V}

theorem Inv.lset {its its' : List Value} {n : Nat} {f : Array Value → Array Value} {t' : Nat} (I : Inv X pins σ H s) (hH : H l = some (.lst xs))
    (e : s.heap.get? l = some { cls := .type "list", data := .seq its.toArray n }) (hf : f its.toArray = its'.toArray) (hv : Vals ys its') (hz : ys.length ≤ sizeLine) :
    Inv X pins σ (upd H l (.lst ys)) { s with heap := s.heap.update l (Obj.mapSeq f), toks := t' } := by
  have q := PySem.IsL.update e f
  rw [hf] at q
  refine I.write (x := l) (e := l) (by rw [hH]; exact trivial) (.inl rfl) (fun b' u hb hu => (Heap.get?_update_other s.heap (Obj.mapSeq f) (Ne.symm hb)).trans hu) ⟨_, q⟩ ?_
  exact ⟨hz, its', _, hv, q⟩
theorem Inv.lnew {its : List Value} {t' : Nat} (I : Inv X pins σ H s) (hv : Vals ys its) (hz : ys.length ≤ sizeLine) :
    Inv X pins σ (upd H s.heap.objs.size (.lst ys)) { s with heap := s.heap.push { cls := .type "list", data := .seq its.toArray }, toks := t' } :=
  I.laid (fun _ _ q => Heap.get?_push_of_some _ q) (Nat.le_refl _) ⟨hz, its, 0, hv, Heap.get?_push_size _ rfl⟩
theorem Inv.fresh (I : Inv X pins σ H s) : H s.heap.objs.size = none := I.hok.fresh (Nat.le_refl _)
theorem Inv.lstM (I : Inv X pins σ H s) (hH : H l = some (.lst xs)) : xs.length ≤ sizeLine ∧ ∃ (its : List Value) (n : Nat), Vals xs its ∧ xs.length = its.length ∧ s.heap.get? l = some { cls := .type "list", data := .seq its.toArray n } := by
  obtain ⟨z, its, n, r, e⟩ := I.hok l _ hH
  exact ⟨z, its, n, r, r.length, e⟩

end

section
variable {X : Cx}

def rAppend : V → List V → Hp → VK → Prop := fun x vs H Q => ∃ l xs y, x = .ref l ∧ vs = [y] ∧ H l = some (.lst xs) ∧ xs.length < sizeLine ∧ Q .non (upd H l (.lst (xs ++ [y])))
theorem mt_append : MtM X "list.append" rAppend := by
  intro pins s σ H x vs v us Q I rx rv h
  obtain ⟨l, xs, y, rfl, rfl, hH, hz, q⟩ := h
  cases rx
  obtain ⟨u, rfl, ru⟩ := rv.one
  obtain ⟨z, its, n, r, hl, e⟩ := I.lstM hH
  refine call_meets F.slot_list_append ⟨_, e, rfl⟩ F.entry_list_append (F.args_list_append_2 _ _) (PySem.list_append l its.toArray n u (by rw [List.size_toArray]; omega)) ⟨e, ?_⟩
  refine ⟨.non, _, I.lset (its' := its ++ [u]) hH e (by simp) (r.append (.cons ru .nil)) ?_, rfl, q⟩
  rw [List.length_append, List.length_singleton]
  omega

def rExtend : V → List V → Hp → VK → Prop := fun x vs H Q => ∃ l b xs zs, x = .ref l ∧ vs = [.ref b] ∧ H l = some (.lst xs) ∧ H b = some (.lst zs) ∧ xs.length + zs.length ≤ sizeLine ∧ Q .non (upd H l (.lst (xs ++ zs)))
def rPop : V → List V → Hp → VK → Prop := fun x vs H Q => ∃ l xs y, x = .ref l ∧ vs = [] ∧ H l = some (.lst xs) ∧ xs[xs.length - 1]? = some y ∧ Q y (upd H l (.lst xs.dropLast))
theorem mt_pop : MtM X "list.pop" rPop := by
  intro pins s σ H x vs v us Q I rx rv h
  obtain ⟨l, xs, y, rfl, rfl, hH, hy, q⟩ := h
  cases rx
  have hus := rv.zero
  subst hus
  obtain ⟨z, its, n, r, hl, e⟩ := I.lstM hH
  obtain ⟨u, hu, ru⟩ := r.get hy
  have hy' : its.toArray[its.toArray.size - 1]? = some u := by
    show its.toArray[its.length - 1]? = some u
    rw [← Array.getElem?_toList, ← hl]
    exact hu
  refine call_meets F.slot_list_pop ⟨_, e, rfl⟩ F.entry_list_pop (F.args_list_pop_1 _) (MeetsSeq.list_pop_last l its.toArray n u hy' (by rw [List.size_toArray]; omega)) ⟨e, ?_⟩
  refine ⟨y, _, I.lset (its' := its.dropLast) hH e ?_ r.dropLast ?_, ru, q⟩
  · show its.toArray.eraseIdxIfInBounds (its.toArray.size - 1) = its.dropLast.toArray
    rw [List.size_toArray, List.eraseIdxIfInBounds_toArray, erase_last]
  · rw [List.length_dropLast]
    omega

def rCat : R2 := fun x y H Q => ∃ l b xs zs, x = .ref l ∧ y = .ref b ∧ H l = some (.lst xs) ∧ H b = some (.lst zs) ∧ xs.length + zs.length ≤ sizeLine ∧ ∀ p, H p = none → Q (.ref p) (upd H p (.lst (xs ++ zs)))
theorem op_cat : OpR X (binaryOp .Add) rCat := by
  intro pins s σ H x y v u Q I rx ry h
  obtain ⟨l, b, xs, zs, rfl, rfl, hH, hB, hz, q⟩ := h
  cases rx
  cases ry
  obtain ⟨z, its, n, r, hl, e⟩ := I.lstM hH
  obtain ⟨z2, its2, n2, r2, hl2, e2⟩ := I.lstM hB
  refine PySem.P.add_list e e2 ?_ (by rw [List.size_toArray, List.size_toArray]; omega)
  have ea : its.toArray ++ its2.toArray = (its ++ its2).toArray := by simp
  rw [ea]
  exact ⟨.ref _, _, I.lnew (t' := s.toks) (r.append r2) (by rw [List.length_append]; omega), rfl, q _ I.fresh⟩
end

section
variable {prog : Program} {w : World} {A : Around} {E : Value → Shared → Prop} {s : Shared}
end

section
variable {X : Cx}
end
end L2

namespace Att
open PySem PySem.W PySem.Calls PyProof.Rows

theorem ints_of_wellAll {P : Params} {h : Heap} : ∀ (ns : List Int) (vs : List Value), WellAll P h vs (ns.map WData.int) → IntsAre vs ns := by
  intro ns
  induction ns with
  | nil =>
    intro vs w
    rw [List.map_nil] at w
    cases w
    exact .nil
  | cons n ns ih =>
    intro vs w
    rw [List.map_cons] at w
    cases w with
    | cons a b =>
      cases a
      exact .cons _ _ (ih _ b)

theorem script_of {l : OpenLaw} {n : Nat} (hn : l.most = some n) {P : Params} {h : Heap} {args : List WData} {vals : List Value}
    (hpre : l.row.toRowW.claim.pre args = true) (hwl : WellAll P h vals args) :
    ∃ a vs ns, vals = [Value.ref a] ∧ args = [WData.list (ns.map WData.int)] ∧ h.get? a = some { cls := .type "list", data := .seq vs.toArray } ∧ IntsAre vs ns ∧ ns.length ≤ n := by
  have hsh : WShape.hasAll [] args [.list .int] = true := (pre_splitW hpre).1
  have hc : l.pre.holds [] { args := args } = true := (pre_splitW hpre).2
  obtain ⟨d, r, rfl, h1, h2⟩ := hasAllW_cons hsh
  obtain rfl := hasAllW_nil h2
  obtain ⟨xs, rfl, h3⟩ := hasW_list h1
  obtain ⟨ns, rfl⟩ := items_int h3
  have hlen : ns.length ≤ n := by
    unfold OpenLaw.pre at hc
    have h4 : (WTm.not (.lt (.lit (.int (n : Int))) (.len (.arg 0)))).holds [] { args := [.list (ns.map .int)] } = true := by
      have h4 := (holds_andW hc).1
      rw [hn] at h4
      exact h4
    have h5 := condW_of h4 (w_not (w_lt w_lit (w_len_list (w_arg rfl))))
    rw [List.length_map] at h5
    refine Nat.le_of_not_lt fun q => ?_
    have q' : (n : Int) < ((ns.length : Nat) : Int) := by omega
    first
      | (rw [decide_eq_true q'] at h5; exact absurd h5 (by decide))
      | (simp at h5; omega)
  cases hwl with
  | cons w1 w2 =>
    cases w2
    cases w1 with
    | list ho hall => exact ⟨_, _, ns, rfl, rfl, ho, ints_of_wellAll ns _ hall, hlen⟩

theorem post_true (l : OpenLaw) (args : List WData) : l.row.toRowW.claim.post args (.bool true) args = true :=
  postW_of (r := l.row.toRowW) (X := (true == true))
    (show WShape.has [] (.bool true) .bool = true by first | rfl | decide | simp [WShape.has, WShape.arms, WShape.armsAll])
    (show (WTm.eq .res (.lit (.bool true))).value [] { args := args, res := some (.bool true), after := args } = some (.bool (true == true)) from w_eq_bool (w_res rfl) w_lit) rfl

/-- the same from a codeAny of the CALL (for a layer whose function contracts speak of calls) -/
theorem attach_call {l : OpenLaw} {n : Nat} {q : Program} {loose : List Str} {XP : (Str → Option Value) → Heap → Prop} {YP : World → Heap → Prop} {d : DefRec}
    (hn : l.most = some n) (hdf : d.params.defaults = [])
    (call : ∀ (w : World) (s₀ s₁ : Shared) (mg mb : Str → Option Value) (fa : Addr) (o : Obj) (pm cd doc : Value) (a : Addr) (vs : List Value) (ns : List Int),
      Ground q loose [] XP w s₀ mg mb s₁.heap → YP w s₁.heap →
      s₁.heap.get? fa = some o → o.data = .func (docDef d.name d.params d.body d.scope pm cd doc) → s₁.heap.CodeRec cd d.name → mg d.name = some (.ref fa) →
      s₁.heap.get? a = some { cls := .type "list", data := .seq vs.toArray } → IntsAre vs ns → ns.length ≤ n → s₁.gens = #[] →
      codeAny (model l.prog w) callerA (.call (.ref fa) ⟨[.ref a], []⟩) (fun r s' => r = .ok (.ret (.bool true)) ∧ OldK s₁.heap s'.heap ∧ s'.os = s₁.os ∧ AllBare s'.gens) s₁) :
    WalkO q loose XP YP l.row.toRowW d [] (fun f vs => PySem.call f vs) := by
  intro w s₀ s₁ mg mb G Y fa o pm cd doc dV kV ho hd hcd hD hmg hg args vals as hpre hlay hrd hwl hlo
  obtain rfl : dV = .none := Dflts.none hD hdf
  obtain rfl : kV = .none := Dflts.noKw hD
  obtain ⟨a, vs, ns, rfl, rfl, hobj, hints, hlen⟩ := script_of hn hpre hwl
  refine enter_call (codeAny_mono (call w s₀ s₁ mg mb fa o pm cd doc a vs ns G Y ho (fd_plain hd) hcd hmg hobj hints hlen hg) fun r s' hq => ?_)
  obtain ⟨rfl, h2, h3, h4⟩ := hq
  exact ⟨.inl ⟨.bool true, .bool true, [], rfl, fun _ => rfl, .bool true, post_true l _, fun _ => ⟨List.Pairwise.nil, fun _ hm => (nomatch hm)⟩⟩, h2, h3, h4⟩

section
variable {prog : Program} {w : World} {A : Around} {E : Value → Shared → Prop} {s : Shared} {K : Frag}

end
end Att

namespace L2
open PySem PySem.Spec PyProof.Rows

theorem vals_ints : ∀ {vs : List Value} {ns : List Int}, IntsAre vs ns → Vals (ns.map V.int) vs
  | _, _, .nil => .nil
  | _, _, .cons n t h => .cons ⟨t, rfl⟩ (vals_ints h)

/-- nothing is tracked but the script, known to the object (or it is an object of the module) -/
def Only (H : Hp) : Prop := ∀ b, H b = none ∨ ∃ o xs, H b = some (.frz o (.lst xs))

/-- THE HEAD: the law's promise, at the heap behind the top. F, the promise of the law's def, may use that base is part of the heap (so K.In base, base.Ns mainGlobals mg stand in Mod) -/
theorem law_call {P : Program} {w : World} {K : PySem.W.Frag} {mg mb : Str → Option Value} {CX : CXT} {k : Nat} {fa a : Addr} {fd : FuncData} {x : Str} {sp : Sp} {s₁ : Shared} {vs : List Value} {ns : List Int}
    (KX : K.In s₁.heap) (hns : s₁.heap.Ns mainGlobals mg) (hb : s₁.heap.Ns builtinsNs mb) (hbb : ∀ x : Str, x ≠ "__name__" → mb x = bootBuiltins x) (hlim : s₁.heap.NoLimit) (hg : s₁.gens = #[])
    (ha : s₁.heap.get? a = some { cls := .type "list", data := .seq vs.toArray }) (hi : IntsAre vs ns) (hl : ns.length ≤ sizeLine) (hr : Room k callerA)
    (F : ∀ base : Heap, K.In base → base.Ns mainGlobals mg → FnOk P w K mg base CX k fa fd [x] sp) (hbind : ∀ (s : Shared) (u : Value), BindsTo s fd ⟨[u], []⟩ [(x, u)])
    (hsp : ∀ H : Hp, Only H → SqL K H a (ns.map V.int) → sp [.ref a] H (fun v _ => v = .bl true) fun _ _ _ => False)
    (hCX : ∀ H e s', CX [] H s₁ (fun _ _ _ => False) e s' → False) :
    codeAny (model P w) callerA (.call (.ref fa) ⟨[.ref a], []⟩) (fun r s' => r = .ok (.ret (.bool true)) ∧ OldK s₁.heap s'.heap ∧ s'.os = s₁.os ∧ AllBare s'.gens) s₁ := by
  have rv := vals_ints hi
  have lenV := hi.length
  -- from an abstract heap in which nothing but the script may be tracked
  have core : ∀ H : Hp, Only H → SqL K H a (ns.map V.int) → HOk P w H s₁.heap → (∀ b, H b ≠ none → b = a) → (H a ≠ none → K.lookup a = none) →
      codeAny (model P w) callerA (.call (.ref fa) ⟨[.ref a], []⟩) (fun r s' => r = .ok (.ret (.bool true)) ∧ OldK s₁.heap s'.heap ∧ s'.os = s₁.os ∧ AllBare s'.gens) s₁ := by
    intro H hO hS hok hA hK
    have base_of : ∀ {b : Addr} {o : Obj}, s₁.heap.get? b = some o → H b = none → (hidT s₁.heap H).get? b = some o := fun e n => hidT_get e n
    have noA : ∀ {b : Addr} {o : Obj} {es : Array DictEntry} {ep : Nat}, s₁.heap.get? b = some o → o.data = .dict es ep → H b = none := fun {b o es ep} e d => by
      cases q : H b with
      | none => rfl
      | some u =>
        have e' : b = a := hA b (by rw [q]; simp)
        subst e'
        rw [ha] at e; cases e
        have d' : Data.seq vs.toArray _ = Data.dict es ep := d
        cases d'
    have nsK : ∀ {b : Addr} {m : Str → Option Value}, s₁.heap.Ns b m → (hidT s₁.heap H).Ns b m := fun {b m} ⟨o, es, ep, e, d, r⟩ => ⟨o, es, ep, base_of e (noA e d), d, r⟩
    have hKb : K.In (hidT s₁.heap H) := fun b o e => base_of (KX b o e) (by
      cases q : H b with
      | none => rfl
      | some u =>
        have e' : b = a := hA b (by rw [q]; simp)
        subst e'
        rw [hK (by rw [q]; simp)] at e; cases e)
    have hM : Mod K mg (hidT s₁.heap H) := ⟨hKb, nsK hns, ⟨mb, nsK hb, hbb⟩, let ⟨mc, h1, h2⟩ := hlim; ⟨mc, nsK h1, h2⟩⟩
    have e0 : Env0 P w K mg (hidT s₁.heap H) callerA [] s₁ H := ⟨rfl, hM, fun b o e => of_hidT e, Nat.le_of_eq (hidT_size _ _), trivial, fun b hb => absurd (show b ∈ ([] : List Addr) from hb) (by simp), hok, .of_eq hg⟩
    refine codeAny_mono ((F _ hKb (nsK hns)).run callerA [] s₁ H ⟨[.ref a], []⟩ [.ref a] [.ref a] _ _ hr e0 (hbind s₁ (.ref a)) (.cons rfl .nil) (hsp H hO hS)) fun r s' h => ?_
    cases r with
    | error e => exact (hCX H e s' h).elim
    | ok fl =>
      cases fl with
      | next => exact False.elim h
      | brk => exact False.elim h
      | cont => exact False.elim h
      | ret u =>
        obtain ⟨v, H', os, bare, un, hok', r', q⟩ := h
        have q' : v = .bl true := q
        subst q'
        obtain rfl : u = Value.bool true := r'
        refine ⟨rfl, OldK.of_keep fun b o e => ?_, os, bare⟩
        cases q : H b with
        | none => exact un.keep b o e q (by intro z; exact absurd (show b ∈ ([] : List Addr) from z) (by simp)) (by simp)
        | some u =>
          rcases hO b with z | ⟨ob, xs, z⟩
          · rw [q] at z; cases z
          · have z2 := un.frzs b ob _ z
            obtain ⟨e1, _⟩ := hok b _ z
            obtain ⟨e2, _⟩ := hok' b _ z2
            rw [e] at e1; cases e1
            exact e2
  cases hk : K.lookup a with
  | some o =>
    -- the script is one of the module's own objects
    have e := KX a o hk
    rw [ha] at e
    cases e
    refine core (fun _ => none) (fun _ => .inl rfl) (.inr ⟨_, vs.toArray, _, hk, rfl, rfl, rfl, by rw [List.size_toArray, lenV]; exact hl, by simpa using rv⟩) (fun b u z => by have z' : (none : Option HO) = some u := z; cases z') (fun b z => absurd rfl z) fun z => absurd rfl z
  | none =>
    refine core (fun b => if b = a then some (.frz { cls := .type "list", data := .seq vs.toArray } (.lst (ns.map V.int))) else none) (fun b => ?_) (.inl (.inr ⟨{ cls := .type "list", data := .seq vs.toArray }, if_pos rfl⟩)) (fun b u z => ?_) (fun b z => ?_) fun _ => hk
    · by_cases hb : b = a
      · exact .inr ⟨_, _, if_pos hb⟩
      · exact .inl (if_neg hb)
    · by_cases hb : b = a
      · have z' := (if_pos hb).symm.trans z
        cases z'
        subst hb
        exact ⟨ha, by rw [List.length_map]; exact hl, vs, _, rv, ha⟩
      · have z' := (if_neg hb).symm.trans z
        cases z'
    · by_cases hb : b = a
      · exact hb
      · exact absurd (if_neg hb) z
end L2

namespace L2
open PySem PySem.Spec PyProof.Rows

abbrev KOf {K : PySem.W.Frag} {h : Heap} (_ : K.In h) : PySem.W.Frag := K

/-- the goal that k_head leaves (case hc), from the law's promise. F gives the function object fd (K's own) once, then the promise over every base -/
theorem walk_of {l : PySem.W.OpenLaw} {n k : Nat} {q : Program} {loose : List Str} {XP : (Str → Option Value) → Heap → Prop} {YP : World → Heap → Prop} {d : DefRec} {K : Params → PySem.W.Frag} {CX : World → CXT} {sp : World → Sp} {x : Str}
    (hn : l.most = some n) (hn2 : n ≤ sizeLine) (hdf : d.params.defaults = []) (hr : Room k callerA)
    (hY : ∀ (w : World) (h : Heap), YP w h → (K w.params).In h)
    (F : ∀ (w : World) (mg : Str → Option Value) (fa : Addr) (h : Heap), (K w.params).In h → h.Ns mainGlobals mg → mg d.name = some (.ref fa) →
      ∃ fd : FuncData, (∀ (s : Shared) (u : Value), BindsTo s fd ⟨[u], []⟩ [(x, u)]) ∧
        ∀ base : Heap, (K w.params).In base → base.Ns mainGlobals mg → FnOk l.prog w (K w.params) mg base (CX w) k fa fd [x] (sp w))
    (hsp : ∀ (w : World) (H : Hp) (a : Addr) (ns : List Int), ns.length ≤ n → Only H → SqL (K w.params) H a (ns.map V.int) → sp w [.ref a] H (fun v _ => v = .bl true) fun _ _ _ => False)
    (hCX : ∀ (w : World) (H : Hp) (s : Shared) (e : Value) (s' : Shared), CX w [] H s (fun _ _ _ => False) e s' → False) :
    PySem.W.WalkO q loose XP YP l.row.toRowW d [] (fun f vs => PySem.call f vs) := by
  refine Att.attach_call hn hdf fun w s₀ s₁ mg mb fa o pm cd doc a vs ns G Y ho hd hcd hmg hobj hints hlen hg => ?_
  have KX := hY w _ Y
  obtain ⟨fd, hb, hF⟩ := F w mg fa _ KX G.T.g hmg
  exact law_call KX G.T.g G.T.b G.T.builtins G.T.nolimit hg hobj hints (Nat.le_trans hlen hn2) hr hF hb (fun H hO hS => hsp w H a ns hlen hO hS) fun H e s' => hCX w H s₁ e s'
end L2

/- THE LAST THEOREM (shape; LID, My.* are yours):
   My.Adr: a structure of the addresses that your layer names (classes, functions); My.Txt K t: a structure (Prop) of the equations over K;
   My.txt_mk : {K} {implicit addresses ..} (e1 : nsIn K mainGlobals "law" = some (some (.ref f))) (e2 : K.lookup f = some ⟨oc, od, .func (fnOf "law" "law" params body scope dV kV doc pm an cdv ct), sl⟩) (e3 : codeIn K cdv "law" = true) .. : ∃ t, My.Txt K t

set_option maxRecDepth 100000 in
set_option maxHeartbeats 0 in
theorem PySem.Challenge.cw_LID_holds : PySem.Challenge.rw_LID.Holds := by
  w_on; o_law; k_head; (case hw => w_witness2)
  k_fill
  refine L2.walk_of (l := PySem.Challenge.rw_LID) (n := 63) (k := 40) (x := "script") (CX := fun w => ..) (sp := fun _ => My.sp_law) rfl (by decide) rfl ⟨rfl, by decide, by decide⟩ (fun w h Y => PySem.W.kIn_of Y) ?F ?S ?C
  case F =>
    intro w mg fa h KX G hmg
    have T : ∃ t, My.Txt (L2.KOf KX) t := by
      dsimp only [L2.KOf]                          -- K must stand as «<heap const> w.params» for k_is
      refine' My.txt_mk ?e1 ?e2 ?e3 ..
      (case e1 => PySem.W.k_is)                    -- in the order: a name -> its address -> its object -> its parts
      (case e2 => PySem.W.k_is)
      ..
    obtain ⟨t, T⟩ := T
    have e0 := hmg.symm.trans (PySem.W.mg_of KX G T.law)
    cases e0                                       -- fa is the law's own address
    exact ⟨_, fun s u => .of_eq rfl, fun base kb nb => My.law_fn T kb nb⟩     -- if «.of_eq rfl» comes too early: refine' ⟨_, ?b, fun base kb nb => My.law_fn T kb nb⟩; exact fun s u => .of_eq rfl
  case S => exact fun w H a ns hl hO hS => ..
  case C => exact ..
(the tactic k_is has no namespace: write k_is) -/

namespace L2
open PySem PySem.Spec PyProof.Rows

/-- the j-th statement of a class's body -/
def defArgs (s : Stmt) : Arguments := match s with
  | .FunctionDef _ a _ _ _ _ _ _ _ _ => a
  | _ => { posonlyargs := [], args := [], vararg := none, kwonlyargs := [], kw_defaults := [], kwarg := none, defaults := [] }
def defBody (s : Stmt) : List Stmt := match s with
  | .FunctionDef _ _ b _ _ _ _ _ _ _ => b
  | _ => []
def defScope (s : Stmt) : Scope := match s with
  | .FunctionDef _ _ _ _ _ _ sc _ _ _ => sc
  | _ => { kind := .function, names := [], isGenerator := false, isCoroutine := false }

abbrev CX0 : CXT := fun _ _ _ _ _ _ => False
abbrev E0 : XK := fun _ _ _ => False
theorem pass0 {X : Cx} : Passes CX0 X E0 := fun _ _ _ _ _ _ _ h => h.elim

structure Fun (K : PySem.W.Frag) (x qual : Str) (st : Stmt) (f : Addr) (fd : FuncData) : Prop where
  ex : ∃ (oc : Value) (od : Option Addr) (kV doc pm : Value) (an : Option Addr) (cdv ct : Value) (osl : Array (Option Value)),
    fd = PySem.W.fnOf x qual (defArgs st) (defBody st) (defScope st) .none kV doc pm an cdv ct ∧ K.lookup f = some ⟨oc, od, .func fd, osl⟩ ∧ PySem.W.codeIn K cdv qual = true
  kp : PySem.W.keepIn K (.ref f) = true
section
variable {P : Program} {w : World} {K : PySem.W.Frag} {mg : Str → Option Value} {base : Heap}
/-- THE RULE for a def: its body as a term of rules, and the reading of that term -/
theorem Fun.ok {x qual : Str} {st : Stmt} {f : Addr} {fd : FuncData} {N ps : List Str} {k : Nat} {sp : Sp} (F : Fun K x qual st f fd) (S : FnScope N ps (defScope st)) (len : ∀ vs H Q E, sp vs H Q E → vs.length = ps.length)
    (hbody : ∀ (cdv : Value) (A : Around) (outer : List Env) (s : Shared) (H : Hp) (vs : List V) (Q : VK) (E : XK), Room k (A.deeper (envOfC qual (defScope st) s.heap.objs.size f cdv)) → sp vs H Q E →
      ∃ t, PSs (cxOf CX0 P w K mg base N qual (defScope st) f cdv A outer s H E).nox (defBody st) t ∧ t { nx := fun _ H' => Q .non H', rt := Q } (start N vs) H) : FnOk P w K mg base CX0 (k + 1) f fd ps sp := by
  obtain ⟨oc, od, kV, doc, pm, an, cdv, ct, osl, rfl, lk, hcd⟩ := F.ex
  refine fn_of lk hcd S len fun A outer s H vs Q E hr hsp => ?_
  obtain ⟨t, h, q⟩ := hbody cdv A outer s H vs Q E hr hsp
  exact ⟨t, h.nox, q⟩
/-- how its arguments bind (no defaults): h is «fun _ _ _ _ _ _ us hl => match us, hl with | [_, _], _ => rfl», one _ a parameter -/
theorem Fun.binds {x qual : Str} {st : Stmt} {f : Addr} {fd : FuncData} {ps : List Str} (F : Fun K x qual st f fd)
    (h : ∀ (kV doc pm : Value) (an : Option Addr) (cdv ct : Value) (us : List Value), us.length = ps.length → bindArgs (PySem.W.fnOf x qual (defArgs st) (defBody st) (defScope st) .none kV doc pm an cdv ct) ⟨us, []⟩ = pure (ps.zip us)) : Binds K fd ps [] := by
  obtain ⟨oc, od, kV, doc, pm, an, cdv, ct, osl, rfl, lk, hcd⟩ := F.ex
  exact .all (h kV doc pm an cdv ct)
theorem fun_mk {x qual : Str} {st : Stmt} {f : Addr} {oc : Value} {od an : Option Addr} {osl : Array (Option Value)} {kV doc pm cdv ct : Value} (l : K.lookup f = some ⟨oc, od, .func (PySem.W.fnOf x qual (defArgs st) (defBody st) (defScope st) .none kV doc pm an cdv ct), osl⟩)
    (c : PySem.W.codeIn K cdv qual = true) (k : PySem.W.keepIn K (.ref f) = true) : Fun K x qual st f (PySem.W.fnOf x qual (defArgs st) (defBody st) (defScope st) .none kV doc pm an cdv ct) := ⟨⟨oc, od, kV, doc, pm, an, cdv, ct, osl, rfl, l, c⟩, k⟩
end
section
variable {X : Cx}
theorem pv (i : Nat) {x : Str} {pos : Pos} (hN : X.N[i]? = some x := by rfl) (hv : Vis X.env.scope x := by first | exact Or.inl rfl | exact Or.inr (Or.inl rfl) | exact Or.inr (Or.inr rfl)) (hd : (x == ("__debug__" : Str)) = false := by decide)
    (hcd : (x == ("__classdict__" : Str)) = false := by decide) : PE X (.Name x pos) (tVar i) := pe_var hN hv hd hcd
end

theorem iteT {A B : Prop} (h : A) : if true = true then A else B := by
  rw [if_pos rfl]
  exact h
theorem ite2 {c A B : Prop} [Decidable c] (h1 : c → A) (h2 : ¬ c → B) : if c then A else B := by
  by_cases h : c
  · rw [if_pos h]
    exact h1 h
  · rw [if_neg h]
    exact h2 h
/-- all that was tracked is as it was -/
def Same (H H' : Hp) : Prop := ∀ b o, H b = some o → H' b = some o
theorem Same.refl (H : Hp) : Same H H := fun _ _ h => h
theorem Same.trans {H H1 H2 : Hp} (a : Same H H1) (b : Same H1 H2) : Same H H2 := fun c o h => b c o (a c o h)
theorem Same.free {H H' : Hp} (e : Same H H') {l : Addr} (h : H' l = Option.none) : H l = Option.none := by
  cases q : H l with
  | none => rfl
  | some o =>
    rw [e l o q] at h
    cases h
theorem Same.seq {K : PySem.W.Frag} {H H' : Hp} {a : Addr} {xs : List V} (e : Same H H') (h : SqL K H a xs) : SqL K H' a xs := by
  rcases h with (h | ⟨o, h⟩) | h
  · exact .inl (.inl (e _ _ h))
  · exact .inl (.inr ⟨o, e _ _ h⟩)
  · exact .inr h

end L2

set_option maxRecDepth 100000
namespace L2
open PySem PySem.Spec PyProof.Rows

section
variable {P : Program} {w : World} {H : Hp} {h : Heap} {a : Addr} {o : HO}
theorem ObjOk.there (x : ObjOk P w H h a o) : ∃ ob, h.get? a = some ob := by
  cases o with
  | lst xs => obtain ⟨_, _, _, _, e⟩ := x; exact ⟨_, e⟩
  | tup xs => obtain ⟨_, _, _, ob, e, _⟩ := x; exact ⟨_, e⟩
  | dK kvs => obtain ⟨_, _, _, _, o, _, _, e, _⟩ := x; exact ⟨_, e⟩
  | dT kvs => obtain ⟨_, _, _, _, o, _, _, e, _⟩ := x; exact ⟨_, e⟩
  | set S n => obtain ⟨o, _, _, _, e, _⟩ := x; exact ⟨_, e⟩
  | ins C dx fs => obtain ⟨_, _, _, e, _⟩ := x; exact ⟨_, e⟩
  | own y => obtain ⟨_, e⟩ := x; exact ⟨_, e⟩
  | xd fs => obtain ⟨_, ⟨_, _, _, e, _⟩, _⟩ := x; exact ⟨_, e⟩
  | rng lo hi => obtain ⟨_, _, _, e⟩ := x; exact ⟨_, e⟩
  | frz ob u => obtain ⟨e, _⟩ := x; exact ⟨_, e⟩
  | tbl ps => exact ⟨_, (show h.get? a = some _ from x)⟩
  | met f y => exact ⟨_, (show h.get? a = some _ from x)⟩
  | ext φ => obtain ⟨_, e, _⟩ := x; exact e
end

/-- how an exception lies behind a call: in flight over a heap B that holds all but the frames -/
def CXR (P : Program) (w : World) : CXT := fun outer H s E e s' => ∃ (a : Addr) (cls a0 : Value) (H' : Hp) (B : Heap), e = .ref a ∧ s'.os = s.os ∧ AllBare s'.gens ∧
  Heap.FlyingW B outer a cls a0 s'.heap ∧ (∀ b o, s.heap.get? b = some o → H b = none → b ∉ frs outer → B.get? b = some o) ∧ (∀ b o, s.heap.get? b = some o → b ∉ frs outer → ∃ o', B.get? b = some o') ∧
  HOk P w H' B ∧ Un (frs outer) [] H H' s.heap s'.heap ∧ H' a = none ∧ E cls none H'

def Raises (X : Cx) (R : Value → Hp → Prop) : Prop := ∀ (pins : List (Addr × Obj)) (σ : St) (H : Hp) (s : Shared) (h' : Heap) (e : Addr) (cls : Value) (vs : List Value), Inv X pins σ H s → Heap.MadeExcOf s.heap h' e cls vs → R cls H →
  X.xe (.ref e) { s with heap := h' }
section
variable {CX : CXT} {P : Program} {w : World} {K : PySem.W.Frag} {mg : Str → Option Value} {base : Heap} {N : List Str} {qual : Str} {scope : Scope} {f : Addr} {cd : Value} {A : Around} {outer : List Env} {s₀ : Shared} {H₀ : Hp} {E : XK}
abbrev cxR (P : Program) (w : World) (K : PySem.W.Frag) (mg : Str → Option Value) (base : Heap) (N : List Str) (qual : Str) (scope : Scope) (f : Addr) (cd : Value) (A : Around) (outer : List Env) (s₀ : Shared) (H₀ : Hp) (E : XK) : Cx := cxOf (CXR P w) P w K mg base N qual scope f cd A outer s₀ H₀ E

theorem hid_ok {X : Cx} {pins : List (Addr × Obj)} {σ : St} {H : Hp} {s : Shared} (I : Inv X pins σ H s) : HOk X.prog X.w H (PySem.W.hideAll s.heap (frs X.stack)) := fun b u e => by
  refine (I.hok b u e).stay (fun c v hc q => PySem.W.hideAll_get _ q fun hm => ?_) (fun _ q => q) fun _ _ q => q
  have z := I.stkFree c hm
  rcases hc with rfl | hc
  · rw [z] at e; cases e
  · rw [z] at hc; cases hc
theorem raises_cx : Raises (cxR P w K mg base N qual scope f cd A outer s₀ H₀ E) (fun cls H' => E cls none H') := by
  intro pins σ H s h' e cls vs I hx hE
  have frS := I.stack
  have hin : ∀ env ∈ (cxR P w K mg base N qual scope f cd A outer s₀ H₀ E).stack, ∀ b, env.frame = some b → b ∈ frs (cxR P w K mg base N qual scope f cd A outer s₀ H₀ E).stack := fun env he b hb => List.mem_filterMap.mpr ⟨env, he, hb⟩
  have lo : ∀ b o, s₀.heap.get? b = some o → b ∉ frs outer → b ∉ frs (cxR P w K mg base N qual scope f cd A outer s₀ H₀ E).stack := fun b o q hb hm => by
    rcases List.mem_cons.mp (I.stkSub b hm) with z | z
    · exact absurd z (Nat.ne_of_lt (Nat.lt_of_lt_of_le (Heap.lt_size q) I.ok.above))
    · exact hb z
  refine wpAny_leaves_madeW (base := PySem.W.hideAll s.heap (frs (cxR P w K mg base N qual scope f cd A outer s₀ H₀ E).stack)) I.ok.frames rfl (fun b o q => PySem.W.of_hideAll _ q) (PySem.W.funFrames_hide frS hin) hx fun h2 t x1 x2 x3 x4 => ?_
  have hk : ∀ b o, s.heap.get? b = some o → b ∉ frs (cxR P w K mg base N qual scope f cd A outer s₀ H₀ E).stack → h2.get? b = some o := fun b o q hb => x1.1 b o (PySem.W.hideAll_get _ q hb)
  have hfr : ∀ b o, s.heap.get? b = some o → b ∈ frs (cxR P w K mg base N qual scope f cd A outer s₀ H₀ E).stack → ∃ sl, h2.get? b = some { o with slots := sl } := fun b o q hb => by
    obtain ⟨_, ob, hob, hnf⟩ := frS.mem hb
    rw [q] at hob; cases hob
    exact x4 b o (hx.keeps b o q) hnf
  have hany : ∀ b o, s.heap.get? b = some o → ∃ o', h2.get? b = some o' := fun b o q => by
    by_cases hb : b ∈ frs (cxR P w K mg base N qual scope f cd A outer s₀ H₀ E).stack
    · obtain ⟨sl, z⟩ := hfr b o q hb; exact ⟨_, z⟩
    · exact ⟨_, hk b o q hb⟩
  have nx : ∀ b : Addr, b ∉ (cxR P w K mg base N qual scope f cd A outer s₀ H₀ E).ex := fun b z => absurd (show b ∈ ([] : List Addr) from z) (by simp)
  refine ⟨e, cls, .ref t, H, _, rfl, I.os, I.bare, x1, fun b o q n hb => PySem.W.hideAll_get _ (I.base.keep b o q n hb (nx b)) (lo b o q hb), fun b o q hb => ?_, hid_ok I, ⟨fun b o q n hb _ => ?_, fun b o q n hb _ => ?_, fun b o q n _ => I.base.free b o q n (nx b), fun b o q _ => ?_, I.base.tups, I.base.frzs, I.base.tbls⟩, ?_, hE⟩
  · obtain ⟨o', z⟩ := I.base.there b o q (nx b)
    exact ⟨o', PySem.W.hideAll_get _ z (lo b o q hb)⟩
  · exact hk b o (I.base.keep b o q n hb (nx b)) (lo b o q hb)
  · obtain ⟨sl, z⟩ := I.base.slot b o q n hb (nx b)
    have hm : b ∈ frs (cxR P w K mg base N qual scope f cd A outer s₀ H₀ E).stack := by
      show b ∈ frs (_ :: outer)
      unfold frs at hb ⊢
      rw [List.filterMap_cons]
      exact List.mem_cons_of_mem _ hb
    obtain ⟨sl', z'⟩ := hfr b _ z hm
    exact ⟨sl', z'⟩
  · obtain ⟨o', z⟩ := I.base.there b o q (nx b)
    exact hany b o' z
  · cases q : H e with
    | none => rfl
    | some u =>
      obtain ⟨ob, z⟩ := (I.hok e u q).there
      rw [hx.new] at z; cases z

/-- an exception that passes through this frame -/
theorem passes_cx {E2 : XK} (h : ∀ cls H', E2 cls none H' → E cls none H') : Passes (CXR P w) (cxR P w K mg base N qual scope f cd A outer s₀ H₀ E) E2 := by
  intro pins σ H s e s' I hcx
  obtain ⟨a, cls, a0, H', B, rfl, os, bare, fl, hB, hth, hok, un, hn, hE⟩ := hcx
  have lo : ∀ b o, s₀.heap.get? b = some o → b ∉ frs outer → b ∉ frs (cxR P w K mg base N qual scope f cd A outer s₀ H₀ E).stack := fun b o q hb hm => by
    rcases List.mem_cons.mp (I.stkSub b hm) with z | z
    · exact absurd z (Nat.ne_of_lt (Nat.lt_of_lt_of_le (Heap.lt_size q) I.ok.above))
    · exact hb z
  have nx : ∀ b : Addr, b ∉ (cxR P w K mg base N qual scope f cd A outer s₀ H₀ E).ex := fun b z => absurd (show b ∈ ([] : List Addr) from z) (by simp)
  refine wpAny_leaves_onW I.ok.frames rfl fl fun h2 x1 x2 => ?_
  have fro : ∀ b ∈ frs outer, b ∈ frs (cxR P w K mg base N qual scope f cd A outer s₀ H₀ E).stack := fun b hb => by
    show b ∈ frs (_ :: outer)
    unfold frs at hb ⊢
    rw [List.filterMap_cons]
    exact List.mem_cons_of_mem _ hb
  have hfr : ∀ b o, s'.heap.get? b = some o → b ∈ frs (cxR P w K mg base N qual scope f cd A outer s₀ H₀ E).stack → ∃ sl, h2.get? b = some { o with slots := sl } := fun b o q hb => by
    obtain ⟨_, ob, hob, hnf⟩ := fl.2.2.1.mem hb
    rw [q] at hob; cases hob
    exact x2 b o q hnf
  refine ⟨a, cls, a0, H', B, rfl, os.trans I.os, bare, x1, fun b o q n hb => hB b o (I.base.keep b o q n hb (nx b)) (I.base.free b o q n (nx b)) (lo b o q hb), fun b o q hb => ?_, hok, ⟨fun b o q n hb _ => ?_, fun b o q n hb _ => ?_, fun b o q n _ => ?_, fun b o q _ => ?_, fun b xs q => un.tups b xs (I.base.tups b xs q), fun b ob xs q => un.frzs b ob xs (I.base.frzs b ob xs q), fun b ps q => ?_⟩, hn, h _ _ hE⟩
  · obtain ⟨o', z⟩ := I.base.there b o q (nx b)
    exact hth b o' z (lo b o q hb)
  · exact x1.1 b o (hB b o (I.base.keep b o q n hb (nx b)) (I.base.free b o q n (nx b)) (lo b o q hb))
  · obtain ⟨sl, z⟩ := I.base.slot b o q n hb (nx b)
    obtain ⟨sl', z'⟩ := un.slot b _ z (I.base.free b o q n (nx b)) (fro b hb) (by simp)
    obtain ⟨sl2, z2⟩ := hfr b _ z' (fro b hb)
    exact ⟨sl2, z2⟩
  · obtain ⟨o', z⟩ := I.base.there b o q (nx b)
    exact un.free b o' z (I.base.free b o q n (nx b)) (by simp)
  · obtain ⟨o', z⟩ := I.base.there b o q (nx b)
    by_cases hb : b ∈ frs (cxR P w K mg base N qual scope f cd A outer s₀ H₀ E).stack
    · obtain ⟨o2, z2⟩ := un.there b o' z (by simp)
      obtain ⟨sl, z3⟩ := hfr b o2 z2 hb
      exact ⟨_, z3⟩
    · obtain ⟨o2, z2⟩ := hth b o' z hb
      exact ⟨o2, x1.1 b o2 z2⟩
  · obtain ⟨m1, z1⟩ := I.base.tbls b ps q
    obtain ⟨m2, z2⟩ := un.tbls b _ z1
    exact ⟨m1 ++ m2, by rw [z2, Array.append_assoc]⟩
end

/-- raise C(e): C an own class of exceptions -/
structure OwnX (K : PySem.W.Frag) (C : Addr) (bm : List Value) (newId : String) : Prop where
  ok : PySem.W.excIn K C bm newId = true
theorem OwnX.obj {K : PySem.W.Frag} {C : Addr} {bm : List Value} {newId : String} (O : OwnX K C bm newId) {h : Heap} (X : K.In h) :
    ∃ tl N nm q bs hdct sn sub ab col dd k0 k1 k2 k3 k5 mN, h.get? C = some (excClassObj nm q C N bs tl hdct sn sub ab col dd k0 k1 k2 k3 k5 newId) ∧ h.Ns N mN ∧ mN "__init__" = none ∧ OwnTail h bm tl := by
  have q := O.ok
  unfold PySem.W.excIn at q
  split at q
  · rename_i dd cd sl ho
    split at q
    · rename_i C' bm' k0 k1 k2 k3 n k5 hm hs
      simp only [Bool.and_eq_true, beq_iff_eq, Bool.not_eq_true'] at q
      obtain ⟨⟨⟨⟨⟨rfl, rfl⟩, hdel⟩, ht⟩, hok⟩, hni⟩ := q
      obtain ⟨nm, bs, mro, ns, qn, hd, sn, sub, ab, col, del⟩ := cd
      dsimp only at hm hdel hok hni
      subst hm hdel
      have hsl : sl = #[k0, k1, k2, k3, some (.builtin n), k5] := by
        obtain ⟨l⟩ := sl
        simp only at hs
        rw [hs]
      subst hsl
      exact ⟨bm', ns, nm, qn, bs, hd, sn, sub, ab, col, dd, k0, k1, k2, k3, k5, _, X _ _ ho, .of_isNs (PySem.W.isNs_of_in X hok), PySem.W.nsMap_none_of_in X hok hni, PySem.W.tail_of_in X ht⟩
    · cases q
  · cases q
section
variable {X : Cx} {x : Str} {C : Addr} {bm : List Value} {newId B initId : String} {e : Expr} {es : List Expr} {te : TA} {np cpos pos : Pos} {R : Value → Hp → Prop}
def tRaise (C : Addr) (te : TA) (R : Value → Hp → Prop) : TS := fun _ σ H => te σ H fun vs H1 => vs.length ≤ sizeLine ∧ R (.ref C) H1
theorem ps_raise (O : OwnX X.K C bm newId) (FB : ExcBaseFacts B newId initId bm) (hc : X.calm = true) (hg : Gl X x) (hm : X.mg x = some (.ref C)) (hr : Raises X R) (he : PA X (e :: es) te)
    (hst : starEach (e :: es) X.env = (false, eval e X.env) :: starEach es X.env := by rfl) (hplain : (backTo cpos (starEach es X.env)).any (·.1) = false := by rfl) (hd : (x == ("__debug__" : Str)) = false := by decide) :
    PS X (.Raise (some (.Call (.Name x np) (e :: es) [] cpos)) none pos) (tRaise C te R) := by
  intro pins s σ H D I h
  obtain ⟨tl, N, nm, q, bs, hdct, sn, sub, ab, col, dd, k0, k1, k2, k3, k5, mN, hC, hN, hni, T⟩ := O.obj I.ok.mod.kin
  refine wpAny_Raise_call_subT (C := C) (nm := nm) (q := q) (N := N) (bs := bs) (bm := tl) (hdct := hdct) (sn := sn) (sub := sub) (ab := ab) (col := col) (dd := dd) (k0 := k0) (k1 := k1) (k2 := k2) (k3 := k3) (k5 := k5)
    FB (mN := mN) (T.hasType FB.hasBase) (I.ok.hd hc) (by rw [hst]; show (false || (backTo cpos (starEach es X.env)).any (·.1)) = false; rw [hplain]; rfl) hni (ld_glob I hg hm ⟨rfl, ?_⟩ hd)
  have hA := he cpos pins s σ H _ I h
  rw [hst] at hA ⊢
  refine Calls.evalArgs_plain (thn hA fun us s2 ⟨vs, H1, I1, r1, hl, q1⟩ => ⟨rfl, ?_, I1.bk _ _ hC, hN.keeps I1.bk, T.keeps I1.bk, fun h' a hx => hr pins σ H1 s2 h' a _ us I1 hx q1⟩)
  show us.length ≤ sizeLine
  rw [← r1.length]; exact hl
end
end L2

set_option maxRecDepth 100000
namespace L2
open PySem PySem.Spec PyProof.Rows

section
variable {X : Cx} {pins : List (Addr × Obj)} {σ : St} {H H' : Hp} {s s' : Shared}
/-- another running context over the same frame -/
theorem Inv.reA {A2 : Around} {c2 : Bool} {E2 : Value → Shared → Prop} (I : Inv X pins σ H s) (hf : A2.frames = X.A.frames) (hc : c2 = true → A2.handled = none) : Inv { X with A := A2, calm := c2, xe := E2 } pins σ H s :=
  ⟨⟨I.ok.mod, I.ok.kind, I.ok.glob, I.ok.blt, I.ok.above, I.ok.inj, I.ok.has, I.ok.cab, hc, hf.trans I.ok.frames, I.ok.stk, I.ok.exf, I.ok.bs, I.ok.bsz, I.ok.noex, I.ok.exfs, I.ok.funs, I.ok.frf⟩,
    I.os, I.bare, I.base, I.loc, I.cell, I.free, I.freeC, I.pin, I.hok, I.len⟩
theorem Inv.unA {A2 : Around} {c2 : Bool} {E2 : Value → Shared → Prop} (I : Inv { X with A := A2, calm := c2, xe := E2 } pins σ H s) (ok : X.Ok) : Inv X pins σ H s :=
  ⟨ok, I.os, I.bare, I.base, I.loc, I.cell, I.free, I.freeC, I.pin, I.hok, I.len⟩
/-- pins borne by every state -/
theorem Inv.bear {E2 : Value → Shared → Prop} (I : Inv X pins σ H s) : Inv { X with xe := E2, pn := X.pn ++ pins } [] σ H s :=
  ⟨⟨I.ok.mod, I.ok.kind, I.ok.glob, I.ok.blt, I.ok.above, I.ok.inj, I.ok.has, I.ok.cab, I.ok.hd, I.ok.frames, I.ok.stk, I.ok.exf, I.ok.bs, I.ok.bsz, I.ok.noex, I.ok.exfs, I.ok.funs, I.ok.frf⟩,
    I.os, I.bare, I.base, I.loc, I.cell, I.free, I.freeC, fun p hp => I.pin p (by simpa using hp), I.hok, I.len⟩
theorem Inv.unbear {E2 : Value → Shared → Prop} {pins' : List (Addr × Obj)} (I : Inv { X with xe := E2, pn := X.pn ++ pins } pins' σ H s) : Inv X pins σ H s :=
  ⟨⟨I.ok.mod, I.ok.kind, I.ok.glob, I.ok.blt, I.ok.above, I.ok.inj, I.ok.has, I.ok.cab, I.ok.hd, I.ok.frames, I.ok.stk, I.ok.exf, I.ok.bs, I.ok.bsz, I.ok.noex, I.ok.exfs, I.ok.funs, I.ok.frf⟩,
    I.os, I.bare, I.base, I.loc, I.cell, I.free, I.freeC, fun p hp => I.pin p (List.mem_append_left _ hp), I.hok, I.len⟩
def nones (X : Cx) : St := List.replicate X.N.length none
theorem Inv.forget (I : Inv X pins σ H s) : Inv X pins (nones X) H s :=
  I.weak (by unfold nones; rw [List.length_replicate]; exact I.len.symm) fun i v e => by
    unfold nones at e
    rw [List.getElem?_replicate] at e
    split at e <;> cases e
/-- the frame's own map has changed in any way -/
theorem Inv.relocal {h' : Heap} {m' : Str → Option Value} {t' : Nat} (I : Inv X pins σ H s) (hn' : h'.Ns X.env.locals m') (hs : Heap.SameBut X.env.locals s.heap h') : Inv X pins (nones X) H { s with heap := h', toks := t' } := by
  have cne := I.cne
  refine ⟨I.ok, I.os, I.bare, ⟨fun b o e n hb hx => ?_, fun b o e n hb hx => ?_, I.base.free, fun b o e hx => ?_, I.base.tups, I.base.frzs, I.base.tbls⟩, ⟨_, hn', fun j y v' e1 e2 e3 => ?_⟩, fun y c e => ?_, I.free, I.freeC, fun p hp => ?_, fun b ob e => ?_, ?_⟩
  · exact (hs.2 b (Nat.ne_of_lt (Nat.lt_of_lt_of_le (Heap.lt_size e) I.ok.above))).trans (I.base.keep b o e n hb hx)
  · obtain ⟨sl, e1⟩ := I.base.slot b o e n hb hx
    exact ⟨sl, (hs.2 b (Nat.ne_of_lt (Nat.lt_of_lt_of_le (Heap.lt_size e) I.ok.above))).trans e1⟩
  · obtain ⟨o', e1⟩ := I.base.there b o e hx
    exact ⟨o', (hs.2 b (Nat.ne_of_lt (Nat.lt_of_lt_of_le (Heap.lt_size e) I.ok.above))).trans e1⟩
  · unfold nones at e2
    rw [List.getElem?_replicate] at e2
    split at e2 <;> cases e2
  · obtain ⟨w', z⟩ := I.cell y c e
    exact ⟨w', z.sameBut hs (cne y c e)⟩
  · obtain ⟨e, n, ne, nf, d⟩ := I.pin p hp
    exact ⟨(hs.2 p.1 ne).trans e, n, ne, nf, d⟩
  · refine (I.hok b ob e).stay (fun c w' hc q => (hs.2 c ?_).trans q) (fun _ q => q) fun _ _ q => q
    rintro rfl
    rcases hc with rfl | hc
    · rw [I.free] at e; cases e
    · rw [I.free] at hc; cases hc
  · show (List.replicate X.N.length none).length = _
    exact List.length_replicate
/-- an exception of class cls stands here -/
def Exc (cls : Value) (a : Addr) : HO := .ext fun h => ∃ o vs, h.get? a = some o ∧ o.cls = cls ∧ o.data = .fields vs
end

theorem Exc.ok {P : Program} {w : World} {H : Hp} {h : Heap} {cls : Value} {a : Addr} {o : Obj} {vs : Array Value} (h1 : h.get? a = some o) (h2 : o.cls = cls) (h3 : o.data = .fields vs) : ObjOk P w H h a (Exc cls a) :=
  ⟨⟨o, vs, h1, h2, h3⟩, ⟨o, h1⟩, fun _ _ ⟨o, vs, q1, q2, q3⟩ k => ⟨o, vs, k o q1, q2, q3⟩⟩
/-- an object that stood untracked is tracked from here on -/
theorem Inv.track {X : Cx} {pins : List (Addr × Obj)} {σ : St} {H : Hp} {s : Shared} {o : HO} {a : Addr} (I : Inv X pins σ H s) (hn : H a = none) (new : ObjOk X.prog X.w (upd H a o) s.heap a o)
    (h1 : ∀ b ob, X.s₀.heap.get? b = some ob → X.H₀ b = none → b ∉ X.ex → b ≠ a) (h2 : X.env.locals ≠ a) (h3 : ∀ x c, X.env.cells.lookup x = some c → c ≠ a) (h4 : ∀ p ∈ X.pn ++ pins, p.1 ≠ a) : Inv X pins σ (upd H a o) s :=
  ⟨I.ok, I.os, I.bare, ⟨I.base.keep, I.base.slot, fun b ob q n hx => by rw [upd_ne (h1 b ob q n hx)]; exact I.base.free b ob q n hx, I.base.there, fun b xs q => by rw [upd_ne (ne_of_none (I.base.tups b xs q) hn)]; exact I.base.tups b xs q,
      fun b ob u q => by rw [upd_ne (ne_of_none (I.base.frzs b ob u q) hn)]; exact I.base.frzs b ob u q, fun b ps q => by obtain ⟨m, z⟩ := I.base.tbls b ps q; exact ⟨m, by rw [upd_ne (ne_of_none z hn)]; exact z⟩⟩,
    I.loc, I.cell, by rw [upd_ne h2]; exact I.free, fun x c q => by rw [upd_ne (h3 x c q)]; exact I.freeC x c q, fun p hp => let ⟨e1, e2, e3⟩ := I.pin p hp; ⟨e1, by rw [upd_ne (h4 p hp)]; exact e2, e3⟩,
    fun b u e => by
      by_cases hb : b = a
      · subst hb; rw [upd_same] at e; cases e; exact new
      · rw [upd_ne hb] at e
        exact (I.hok b u e).stay (fun _ _ _ q => q) (fun c q => by rw [upd_ne (ne_of_none q hn)]; exact q) fun c xs q => by rw [upd_ne (ne_of_none q hn)]; exact q,
    I.len⟩

/-- what lies there, caught by a frame: the state behind noteFrame and setFlight -/
theorem Inv.caught {X : Cx} {pins : List (Addr × Obj)} {σ : St} {H : Hp} {s s' : Shared} {a : Addr} {cls a0 : Value} {H' : Hp} {B h6 : Heap} (I : Inv X pins σ H s) (os : s'.os = s.os) (bare : AllBare s'.gens) (fl : Heap.FlyingW B X.stack a cls a0 s'.heap)
    (hB : ∀ b o, s.heap.get? b = some o → H b = none → b ∉ frs X.stack → B.get? b = some o) (hth : ∀ b o, s.heap.get? b = some o → b ∉ frs X.stack → ∃ o', B.get? b = some o') (hok : HOk X.prog X.w H' B)
    (un : Un (frs X.stack) [] H H' s.heap s'.heap) (st : B.StaysIn h6) (up : s'.heap.UpToSlots h6) : Inv X pins σ H' { s' with heap := h6 } := by
  have hfr : ∀ b o, s'.heap.get? b = some o → b ∈ frs X.stack → ∃ sl, h6.get? b = some { o with slots := sl } := fun b o q hb => by
    obtain ⟨_, ob, hob, hnf⟩ := fl.2.2.1.mem hb
    rw [q] at hob; cases hob
    exact up b o q hnf
  refine I.call' (s' := { s' with heap := h6 }) (ch := []) os ⟨fun b o q n hb _ => st b o (hB b o q n hb), fun b o q n hb _ => ?_, un.free, fun b o q _ => ?_, un.tups, un.frzs, un.tbls⟩ (hok.kept fun b u q => st b u q) bare (fun b z => absurd z (by simp))
  · obtain ⟨sl, z⟩ := un.slot b o q n hb (by simp)
    obtain ⟨sl2, z2⟩ := hfr b _ z hb
    exact ⟨sl2, z2⟩
  · by_cases hb : b ∈ frs X.stack
    · obtain ⟨o2, z2⟩ := un.there b o q (by simp)
      obtain ⟨sl, z3⟩ := hfr b o2 z2 hb
      exact ⟨_, z3⟩
    · obtain ⟨o2, z2⟩ := hth b o q hb
      exact ⟨o2, st b o2 z2⟩

/-- try: body; except C as n: suite, the suite returns -/
abbrev Cx.body (X : Cx) (xe : Value → Shared → Prop) (pn : List (Addr × Obj)) : Cx := { X with xe := xe, pn := pn }
abbrev Cx.suite (X : Cx) (a : Addr) : Cx := { X with A := X.A.mark (some (.ref a)), calm := false, xe := fun _ _ => False }
def tTry (K : PySem.W.Frag) (n C i : Nat) (tb : XK → TS) (th : Addr → TS) : TS := fun D σ H =>
  tb (fun cls _ H' => PySem.W.exmOne K cls (.ref C) = some true ∧ ∀ a, H' a = none → th a { nx := fun _ _ => False, rt := D.rt } ((List.replicate n none).set i (some (.ref a))) (upd H' a (Exc cls a))) D σ H
section
variable {X : Cx}
theorem ps_try {body : List Stmt} {x n : Str} {C : Addr} {i : Nat} {b₀ : Stmt} {suite : List Stmt} {tb : XK → TS} {th : Addr → TS} {np hpos pos : Pos} {l : List Env} (hst : X.stack = X.env :: l) (hfr : X.env.frame = some X.env.locals)
    (hex0 : X.ex = []) (hN : X.N.Nodup) (hi : X.N[i]? = some n) (hl : X.env.kindOf n = some .local) (hg : Gl X x) (hm : X.mg x = some (.ref C)) 
    (hb : ∀ (E : XK) (xe : Value → Shared → Prop) (pn : List (Addr × Obj)), Passes (CXR X.prog X.w) (X.body xe pn) E → PSs (X.body xe pn) body (tb E))
    (hs : ∀ a, PSs (X.suite a) (b₀ :: suite) (th a)) (hd : (x == ("__debug__" : Str)) = false := by decide) :
    PS X (.Try body [.ExceptHandler (some (.Name x np)) (some n) (b₀ :: suite) hpos] [] [] pos) (tTry X.K X.N.length C i tb th) := by
  intro pins s σ H D I h
  refine wpAny_Try_except ?_
  refine wpAny_mono (hb _ (fun e s₁ => wpAny (model X.prog X.w) X.A (noteFrame e X.env) (fun _ s₂ => wpAny (model X.prog X.w) X.A (setFlight e none) (fun _ s₃ => wpAny (model X.prog X.w) X.A (handleBy e X.env [.ExceptHandler (some (.Name x np)) (some n) (b₀ :: suite) hpos]) (SP X pins D) X.xe s₃) X.xe s₂) X.xe s₁) (X.pn ++ pins) ?_ [] s σ H D I.bear h) ?_ fun _ _ z => z
  case refine_2 =>
    intro f s1 hf
    cases f with
    | next =>
      obtain ⟨σ', H', J, q⟩ := hf
      exact wpAny_execs_nil ⟨σ', H', J.unbear, q⟩
    | brk =>
      obtain ⟨σ', H', J, q⟩ := hf
      exact ⟨σ', H', J.unbear, q⟩
    | cont =>
      obtain ⟨σ', H', J, q⟩ := hf
      exact ⟨σ', H', J.unbear, q⟩
    | ret u =>
      obtain ⟨v, σ', H', J, r, q⟩ := hf
      exact ⟨v, σ', H', J.unbear, r, q⟩
  case refine_1 =>
    intro pins' σ' H1 s1 e s2 J0 hcx
    have J : Inv X pins σ' H1 s1 := J0.unbear
    obtain ⟨a, cls, a0, H2, B, rfl, os, bare, fl, hB, hth, hok, un, hn, hE⟩ := hcx
    obtain ⟨hex, hsu⟩ := hE
    have fl' : Heap.FlyingW B (X.env :: l) a cls a0 s2.heap := by rw [← hst]; exact fl
    refine wpAny_looks_onW (by rw [J.ok.frames, hst]) hfr fl' fun h4 held4 up4 => ?_
    refine wpAny_landsW held4 fun h5 fl5 up5 => ?_
    have J5 : Inv X pins σ' H2 { s2 with heap := h5 } := J.caught os bare fl hB hth hok un fl5.1 (up4.trans up5)
    obtain ⟨ob, hob, hobc⟩ := fl5.there
    have LT : PySem.W.Looks (model X.prog X.w) h5 (typeOf (.ref a)) cls := hobc ▸ (PySem.W.Looks.ld hob).andThen .now
    have J5h : Inv (X.suite a) pins σ' H2 { s2 with heap := h5 } := J5.reA rfl (fun z => nomatch z)
    refine wpAny_handleBy_cons (codeAny_handlers_test (ld_glob (X := X.suite a) J5h hg hm ?_ hd)) (by intro q; cases q)
    refine (PySem.W.exm_one (M := model X.prog X.w) J5.kIn LT hex).at ?_
    refine codeAny_handlers_suite_as ?_
    refine lands_againW fl5 fun h6 fl6 up6 => ?_
    have J6 : Inv X pins σ' H2 { s2 with heap := h6 } := J.caught os bare fl hB hth hok un fl6.1 ((up4.trans up5).trans up6)
    have J6h : Inv (X.suite a) pins (nones X) H2 { s2 with heap := h6 } := (show Inv (X.suite a) pins σ' H2 { s2 with heap := h6 } from J6.reA rfl (fun z => nomatch z)).forget
    -- the exception is tracked
    obtain ⟨oe, ws, hoe, hoec, hoed, _⟩ := fl6.first
    have nfr : ∀ b ∈ frs X.stack, b ≠ a := fun b hb z => by
      obtain ⟨_, o', ho', hnf⟩ := fl6.2.2.1.mem (show b ∈ frs (X.env :: l) from hst ▸ hb)
      subst z
      have ho6 : h6.get? b = some o' := ho'
      rw [hoe] at ho6; cases ho6
      exact hnf ws hoed
    have nB : ∀ b o, B.get? b = some o → b ≠ a := fun b o q z => by rw [z, fl.2.1] at q; cases q
    have nL : X.env.locals ≠ a := nfr _ (by rw [hst]; unfold frs; rw [List.filterMap_cons, hfr]; exact List.mem_cons_self)
    have J7 : Inv (X.suite a) pins (nones X) (upd H2 a (Exc cls a)) { s2 with heap := h6 } := by
      refine J6h.track hn (Exc.ok hoe hoec hoed) (fun b ob q n hx => ?_) nL (fun y c q => ?_) (fun p hp => ?_)
      · have hx' : b ∉ X.ex := hx
        by_cases hbf : b ∈ frs X.stack
        · exact nfr b hbf
        · have z1 : b ∉ X.fs := fun z => hbf (by
            rcases J.ok.stk with e | ⟨e, _⟩
            · rw [e]; exact z
            · rw [e]; unfold frs; rw [List.filterMap_cons, hfr]; exact List.mem_cons_of_mem _ z)
          exact nB b ob (hB b ob (J.base.keep b ob q n z1 hx') (J.base.free b ob q n hx') hbf)
      · obtain ⟨v, o', ho', hd'⟩ := J6h.cell y c q
        intro z
        subst z
        have z1 : h6.get? c = some o' := ho'
        rw [hoe] at z1; cases z1
        rw [hoed] at hd'; cases hd'
      · have hp' : p ∈ X.pn ++ pins := hp
        obtain ⟨e1, e2, e3, e4, _⟩ := J.pin p hp'
        refine nB p.1 p.2 (hB p.1 p.2 e1 e2 fun z => ?_)
        rcases List.mem_cons.mp (J.stkSub p.1 z) with y | y
        · exact e3 y
        · exact e4 y
    refine store_ok (X := X.suite a) J7 hN hi (.inl hl) (v := .ref a) (u := .ref a) rfl (fun s8 J8 => ?_) (.inr hl)
    refine wpAny_mono (hs a pins s8 _ _ { nx := fun _ _ => False, rt := D.rt } J8 (hsu a hn)) (fun f s9 hf => ?_) fun _ _ z => False.elim z
    cases f with
    | next => obtain ⟨_, _, _, q⟩ := hf; exact False.elim q
    | brk => obtain ⟨_, _, _, q⟩ := hf; exact False.elim q
    | cont => obtain ⟨_, _, _, q⟩ := hf; exact False.elim q
    | ret u =>
      obtain ⟨v, σ9, H9, J9, r9, q9⟩ := hf
      obtain ⟨m9, hn9, _⟩ := id J9.loc
      have J9' : Inv X pins σ9 H9 s9 := J9.unA J.ok
      refine wpAny_nameGoes hl hn9 (by rw [J.ok.kind]; rfl) fun h' m' hn' hs' => ?_
      exact ⟨v, nones X, H9, J9'.relocal hn' hs', r9, q9⟩
end
end L2

set_option maxRecDepth 100000
namespace L2
open PySem PySem.Spec PyProof.Rows

structure RoomX (k : Nat) (A : Around) : Prop where
  dp : A.depth + 3 * k + 5 < recursionLimit
  un : A.units + 16 * k + 200 < cLine
theorem Room.toX {k : Nat} {A : Around} (r : Room k A) : RoomX k A := ⟨r.dp, r.un⟩
theorem RoomX.mono {j k : Nat} {A : Around} (r : RoomX k A) (h : j ≤ k) : RoomX j A := ⟨by have := r.dp; omega, by have := r.un; omega⟩
theorem RoomX.deeper {k : Nat} {A : Around} (r : RoomX (k + 1) A) (env : Env) : RoomX k (A.deeper env) :=
  ⟨by have := r.dp; show A.depth + 1 + 3 * k + 5 < _; omega, by have := r.un; show A.units + 3 + 16 * k + 200 < _; omega⟩
theorem RoomX.mark {k : Nat} {A : Around} (r : RoomX k A) (v : Option Value) : RoomX k (A.mark v) := ⟨r.dp, r.un⟩
theorem RoomX.depth {k : Nat} {A : Around} (r : RoomX k A) : A.depth < recursionLimit := by have := r.dp; omega
structure FnOkX (P : Program) (w : World) (K : PySem.W.Frag) (mg : Str → Option Value) (base : Heap) (k : Nat) (f : Addr) (fd : FuncData) (ps : List Str) (sp : Sp) : Prop where
  len : ∀ vs H Q E, sp vs H Q E → vs.length = ps.length
  run : ∀ (A : Around) (outer : List Env) (s : Shared) (H : Hp) (args : Args) (us : List Value) (vs : List V) (Q : VK) (E : XK), RoomX k A → Env0 P w K mg base A outer s H → BindsTo s fd args (ps.zip us) → Vals vs us → sp vs H Q E →
    codeAny (model P w) A (.call (.ref f) args) (CR CX0 outer P w H s Q E) s
abbrev cxX (P : Program) (w : World) (K : PySem.W.Frag) (mg : Str → Option Value) (base : Heap) (N : List Str) (qual : Str) (scope : Scope) (f : Addr) (cd : Value) (A : Around) (outer : List Env) (s₀ : Shared) (H₀ : Hp) (E : XK) : Cx :=
  { cxOf CX0 P w K mg base N qual scope f cd A outer s₀ H₀ E with calm := false, xe := fun _ _ => False }
theorem Fun.okX {P : Program} {w : World} {K : PySem.W.Frag} {mg : Str → Option Value} {base : Heap} {x qual : Str} {st : Stmt} {f : Addr} {fd : FuncData} {N ps : List Str} {k : Nat} {sp : Sp} (F : Fun K x qual st f fd) (S : FnScope N ps (defScope st)) (len : ∀ vs H Q E, sp vs H Q E → vs.length = ps.length)
    (hbody : ∀ (cdv : Value) (A : Around) (outer : List Env) (s : Shared) (H : Hp) (vs : List V) (Q : VK) (E : XK), RoomX k (A.deeper (envOfC qual (defScope st) s.heap.objs.size f cdv)) → sp vs H Q E →
      ∃ t, PSs (cxX P w K mg base N qual (defScope st) f cdv A outer s H E) (defBody st) t ∧ t { nx := fun _ H' => Q .non H', rt := Q } (start N vs) H) : FnOkX P w K mg base (k + 1) f fd ps sp := by
  obtain ⟨oc, od, kV, doc, pm, an, cdv, ct, osl, rfl, lk, hcd⟩ := F.ex
  refine ⟨len, fun A outer s H args us vs Q E hr e0 hb r hsp => ?_⟩
  have hl := len _ _ _ _ hsp
  have KX : K.In s.heap := e0.mod.kin.keeps fun b o e => (e0.bs b o e).1
  have lim : s.heap.NoLimit := e0.mod.nolimit.keeps fun b o e => (e0.bs b o e).1
  have hkind : ∀ y ∈ ps.zip us, (defScope st).names.lookup y.1 = some .local ∨ ((defScope st).names.lookup y.1 = some .cell ∧ ((cellsFrom (s.heap.objs.size + 1) (defScope st).names []).lookup y.1).isSome = true) := fun ⟨n, v⟩ hy => by
    rcases S.par n (List.of_mem_zip hy).1 with q | q
    · exact .inl q
    · exact .inr ⟨q, PySem.W.cellsFrom_some _ _ _ (.inl q)⟩
  refine codeAny_call_function hr.depth (KX _ _ lk) rfl S.co S.gen rfl (PySem.W.codeRec_of KX hcd) (hb _ _ _ _ ?_)
  refine wpAny_newFunctionEnv_cells S.kind hkind fun env he s1 x => ?_
  subst he
  refine ⟨lim.keeps x.toInCall.keep, codeAny_func ?_⟩
  obtain ⟨t, ht, hq⟩ := hbody cdv A outer s H vs Q E (hr.deeper _) hsp
  have e0' : Env0 P w K mg base { A with handled := none } outer s H := ⟨e0.frames, e0.mod, e0.bs, e0.bsz, e0.funs, e0.frf, e0.hok, e0.bare⟩
  have I0 : Inv (cxOf CX0 P w K mg base N qual (defScope st) f cdv { A with handled := none } outer s H E) [] (start N vs) H s1 := inv_start S rfl e0' hl r x
  have I : Inv (cxX P w K mg base N qual (defScope st) f cdv A outer s H E) [] (start N vs) H s1 := I0.reA (A2 := A.deeper (envOfC qual (defScope st) s.heap.objs.size f cdv)) (by rfl) (fun z => nomatch z)
  refine wpAny_mono (ht [] s1 (start N vs) H _ I hq) (fun fl s' hs => ?_) fun e s' hs => False.elim hs
  have fin : ∀ {σ' : St} {H' : Hp} {v : V} {u : Value}, Inv (cxX P w K mg base N qual (defScope st) f cdv A outer s H E) [] σ' H' s' → RelV v u → Q v H' → CE outer P w H s Q u s' :=
    fun {σ' H' v u} J rv q => ⟨v, H', J.os, J.bare, J.base, J.hok, rv, q⟩
  cases fl with
  | ret u =>
    obtain ⟨v, σ', H', J, rv, q⟩ := hs
    exact fin J rv q
  | next =>
    obtain ⟨σ', H', J, q⟩ := hs
    exact fin (v := V.non) (u := Value.none) J rfl q
  | brk =>
    obtain ⟨_, _, _, q⟩ := hs
    exact False.elim q
  | cont =>
    obtain ⟨_, _, _, q⟩ := hs
    exact False.elim q
section
variable {X : Cx} {CX : CXT} {k : Nat} {f : Addr} {fd : FuncData} {ps : List Str} {sp : Sp} {E : XK} {x : Str} {p pos : Pos} {e : Expr} {es : List Expr} {t : TA}
theorem run_fnX {pins : List (Addr × Obj)} {σ : St} {H : Hp} {s : Shared} {Q : VK} {us : List Value} {vs : List V} (F : FnOkX X.prog X.w X.K X.mg X.base k f fd ps sp) (hr : RoomX k X.A) (hb : Binds X.K fd ps [])
    (I : Inv X pins σ H s) (r : Vals vs us) (h : sp vs H Q E) : wpAny (model X.prog X.w) X.A (call (.ref f) us) (EP X pins σ Q) X.xe s := by
  have hl : (us ++ []).length = ps.length := by rw [List.append_nil, ← r.length]; exact F.len _ _ _ _ h
  have hb' := hb s us I.kIn hl
  rw [List.append_nil] at hb'
  refine wpAny_call (codeAny_mono (F.run X.A X.stack s H ⟨us, []⟩ us vs Q E hr I.env0 hb' r h) fun r s' hq => ?_)
  cases r with
  | error e => exact False.elim hq
  | ok fl =>
    cases fl with
    | ret u => exact I.after hq
    | next => exact False.elim hq
    | brk => exact False.elim hq
    | cont => exact False.elim hq
def tCallX (sp : Sp) (t : TA) : TE := fun σ H Q => t σ H fun vs H1 => sp vs H1 Q E0
theorem pe_callX (F : FnOkX X.prog X.w X.K X.mg X.base k f fd ps sp) (hr : RoomX k X.A) (hg : Gl X x) (hm : X.mg x = some (.ref f)) (hk : PySem.W.keepIn X.K (.ref f) = true) (hb : Binds X.K fd ps [])
    (ha : PA X (e :: es) t) (hdb : (x == ("__debug__" : Str)) = false := by decide) (he : starEach (e :: es) X.env = (false, eval e X.env) :: starEach es X.env := by rfl) (hpl : (backTo pos (starEach es X.env)).any (·.1) = false := by rfl) :
    PE X (.Call (.Name x p) (e :: es) [] pos) (tCallX sp t) := by
  intro pins s σ H Q I h
  refine wpAny_Call_Name_kw (ld_glob I hg hm ?_ hdb)
  refine PySem.W.callWith_K (h₀ := X.base) I.ok.mod.kin hk (thn (ha pos pins s σ H _ I h) fun us s1 ⟨vs, H1, I1, r, q⟩ => ⟨I1.kIn, ?_⟩) he hpl
  exact run_fnX F hr hb I1 r q

/-- a def, handed over as a value: what is known of it -/
structure FnV (P : Program) (w : World) (K : PySem.W.Frag) (mg : Str → Option Value) (base : Heap) (k : Nat) (f : Addr) (sp : Sp) : Prop where
  ex : ∃ fd ps, FnOk P w K mg base (CXR P w) k f fd ps sp ∧ Binds K fd ps []
  kp : PySem.W.keepIn K (.ref f) = true
/-- f(..) where f is a local name that holds a def -/
def tCallV (P : Program) (w : World) (K : PySem.W.Frag) (mg : Str → Option Value) (base : Heap) (k i : Nat) (E : XK) (t : TA) : TE := fun σ H Q => ∃ f sp, σ[i]? = some (some (.ref f)) ∧ FnV P w K mg base k f sp ∧ t σ H fun vs H1 => sp vs H1 Q E
theorem pe_callV {i : Nat} (hr : Room k X.A) (hN : X.N[i]? = some x) (hv : Vis X.env.scope x) (hx : Passes (CXR X.prog X.w) X E)
    (ha : PA X (e :: es) t) (hdb : (x == ("__debug__" : Str)) = false := by decide) (hcd : (x == ("__classdict__" : Str)) = false := by decide) (he : starEach (e :: es) X.env = (false, eval e X.env) :: starEach es X.env := by rfl) (hpl : (backTo pos (starEach es X.env)).any (·.1) = false := by rfl) :
    PE X (.Call (.Name x p) (e :: es) [] pos) (tCallV X.prog X.w X.K X.mg X.base k i E t) := by
  intro pins s σ H Q I h
  obtain ⟨f, sp, e1, V, h⟩ := h
  obtain ⟨fd, ps, F, hb⟩ := V.ex
  refine wpAny_Call_Name_kw (thn (pe_var (i := i) (pos := p) hN hv hdb hcd pins s σ H (fun v H1 => v = .ref f ∧ H1 = H) I ⟨_, e1, rfl, rfl⟩) fun u s0 ⟨v, H1, I0, r0, hv, hH⟩ => ?_)
  subst hv hH
  cases (show u = Value.ref f from r0)
  refine PySem.W.callWith_K (h₀ := X.base) I.ok.mod.kin V.kp (thn (ha pos pins s0 σ H1 _ I0 h) fun us s1 ⟨vs, H2, I1, r, q⟩ => ⟨I1.kIn, ?_⟩) he hpl
  exact run_fn F hr hb .nil hx I1 r (by rw [List.append_nil]; exact q)
end
end L2

-- the class of an exception, isinstance, great numbers
set_option maxRecDepth 100000
namespace L2
open PySem PySem.W PySem.Spec PyProof.Rows Builtin Builtin.ObjectAttr Builtin.Getset_descriptor
section
variable {prog : Program} {w : World} {A : Around} {E : Value → Shared → Prop} {s : Shared} {K : Frag} {a C : Addr} {o : Obj}
theorem exc_class_get {R : Result → Shared → Prop} {tp : Value} (X : K.In s.heap) (hx : s.heap.get? a = some o) (hc : o.cls = .ref C) (hm : mroIn K C (.type "object") = some true)
    (h : R (.ok (.ret (.ref C))) s) : codeAny (model prog w) A (.call (.builtin "getset_descriptor.__get__") ⟨[.builtin "object.__class__", .ref a, tp], []⟩) R s := by
  obtain ⟨hh, g, dr, t, os⟩ := s
  have L0 : Looks (model prog w) hh (typeOf (.ref a)) (.ref C) := hc ▸ (Looks.ld hx).andThen .now
  have L1 := looks_mroIn (M := model prog w) X hm
  refine codeAny_call_builtin KF.slot_gs.plain KF.entry_gs (KF.slot_gs.check _ _ _ _ _ _ _ _ KF.type_class (KF.args_gs _ _ _) ?_)
  unfold Builtin.«getset_descriptor.__get__» descrGet
  rw [dga_obj]
  refine wpAny_bind (wpAny_pure ?_)
  unfold descrGetter descrCheckInstance descrNameAndClass isInstance
  simp only [KF.owner_class]
  repeat lk
  refine ⟨Code.quiet_builtin _ (by decide +kernel), codeAny_builtin KF.entry_class ?_⟩
  unfold Builtin.«object.__class__» shownTypeOf
  repeat lk
  exact h
theorem exc_entry {tk : Tok} {Q : Fin → Shared → Prop} (X : K.In s.heap) (hx : s.heap.get? a = some o) (hc : o.cls = .ref C) (g3 : findIn K (.ref C) "__class__" = some (some (.builtin "object.__class__"))) (hm : mroIn K C (.type "object") = some true)
    (hq : Q (.done (.ret (.ref C))) s) : wpAny (model prog w) A (Builtin.«object.__getattribute__» ⟨[.ref a, .str "__class__" tk], []⟩) Q E s := by
  obtain ⟨hh, g, dr, t, os⟩ := s
  have L0 : Looks (model prog w) hh (typeOf (.ref a)) (.ref C) := hc ▸ (Looks.ld hx).andThen .now
  have L1 := looks_findIn (M := model prog w) X g3
  have f5 : typeOf (.builtin "object.__class__") = pure (.type "getset_descriptor") := KF.type_class
  have f6 := F.slot_gs_get.lookup
  have f7 := F.slot_gs_set.lookup
  repeat (any_goals (first | assumption | (with_reducible refine wpAny_loadPart_at hx ?_; rw [hc]) | with_reducible refine L1.at ?_ | wp_step))
  refine exc_class_get X hx hc hm ?_
  repeat (any_goals (first | assumption | wp_step))
theorem exc_check {M : Model} {nameV : Value} {Q : Unit → Shared → Prop} (X : K.In s.heap) (hx : s.heap.get? a = some o) (hc : o.cls = .ref C) (hmB : mroIn K C (.type "BaseException") = some true) (hq : Q () s) :
    wpAny M A (checkBuiltinCall "BaseException.__getattribute__" ⟨[.ref a, nameV], []⟩) Q E s := by
  obtain ⟨hh, g, d, t, os⟩ := s
  have L3 := looks_mroIn (M := M) X hmB
  have hk : builtinKind "BaseException.__getattribute__" = some .slot := by decide +kernel
  have hsplit : splitId "BaseException.__getattribute__" = some ("BaseException", "__getattribute__") := by decide +kernel
  have ha := F.args_bexc_ga (.ref a) nameV
  simp only [checkBuiltinCall, hk, hsplit]
  refine wpAny_bind ?_
  · unfold isInstance
    repeat (first | (with_reducible refine wpAny_loadPart_at hx ?_; rw [hc]) | with_reducible refine L3.at ?_ | wp_step)
    exact hq
theorem exc_class {Q : Option Value → Shared → Prop} (X : K.In s.heap) (hx : s.heap.get? a = some o) (hc : o.cls = .ref C) (g1 : findIn K (.ref C) "__getattribute__" = some (some (.builtin "BaseException.__getattribute__"))) (g2 : findIn K (.ref C) "__getattr__" = some none)
    (g3 : findIn K (.ref C) "__class__" = some (some (.builtin "object.__class__"))) (hm : mroIn K C (.type "object") = some true) (hmB : mroIn K C (.type "BaseException") = some true) 
    (h : Q (some (.ref C)) { s with toks := s.toks + 1 }) : wpAny (model prog w) A (getAttr? (.ref a) "__class__") Q E s := by
  obtain ⟨hh, g, d, t, os⟩ := s
  have L0 : Looks (model prog w) hh (typeOf (.ref a)) (.ref C) := hc ▸ (Looks.ld hx).andThen .now
  have L1 := looks_findIn (M := model prog w) X g1
  have L2 := looks_findIn (M := model prog w) X g2
  have L3 := looks_mroIn (M := model prog w) X hmB
  unfold getAttr? getAttrBy? getAttrBy
  refine wpAny_bind (wpAny_mkText (wpAny_bind (wpAny_attempt (wpAny_holding (wpAny_bind (L0.at (wpAny_bind (L1.at ?_))))))))
  have hx2 : (Value.builtin "BaseException.__getattribute__" == Value.builtin "object.__getattribute__") = false := by decide +kernel
  have hx1 : (onTheHeap (Value.ref C) && Value.builtin "BaseException.__getattribute__" == Value.builtin "object.__getattribute__") = false := by rw [hx2]; rfl
  show wpAny _ _ (if (onTheHeap (Value.ref C) && Value.builtin "BaseException.__getattribute__" == Value.builtin "object.__getattribute__") = true then _ else _) _ _ _
  rw [if_neg (by rw [hx1]; decide)]
  have f3 := PySem.F.attr_ValueError.ga.bind (.ref a)
  have hx0 : (false && onTheHeap (Value.builtin "BaseException.__getattribute__")) = false := rfl
  unfold getAttrByItsOwn hookBefore
  repeat (any_goals (first | assumption | (with_reducible refine wpAny_loadPart_at hx ?_; rw [hc]) | with_reducible refine L1.at ?_ | with_reducible refine L2.at ?_ | wp_step))
  refine codeAny_call_builtin PySem.F.attr_ValueError.ga.plain F.entry_bexc_ga (exc_check X hx hc hmB (exc_entry X hx hc g3 hm ?_))
  dsimp only
  unfold handedOut
  exact wpAny_pure (wpAny_pure h)

/-- an own class of exceptions, as isinstance wants it -/
structure ExcCls (K : Frag) (C : Addr) : Prop where
  cl : (clsIn K C).isSome = true
  g1 : findIn K (.ref C) "__getattribute__" = some (some (.builtin "BaseException.__getattribute__"))
  g2 : findIn K (.ref C) "__getattr__" = some none
  g3 : findIn K (.ref C) "__class__" = some (some (.builtin "object.__class__"))
  hm : mroIn K C (.type "object") = some true
  hB : mroIn K C (.type "BaseException") = some true
theorem kitx_exc (c : ExcCls K C) : KitX K (.ref a) (.ref C) (fun h => ∃ o, h.get? a = some o ∧ o.cls = .ref C) where
  ty := fun _ _ _ ⟨o, hx, hc⟩ => hc ▸ (Looks.ld hx).andThen .now
  it := fun _ _ X _ => by
    obtain ⟨cdD, hcD⟩ := Option.isSome_iff_exists.mp c.cl
    unfold clsIn at hcD
    split at hcD
    · rename_i c' d' cd' sl' ho
      intro A' Q' E' s' k q
      unfold isType loadHead
      exact wpAny_bind (wpAny_loadPart (k _ _ (X _ _ ho)) (wpAny_pure q))
    · cases hcD
  ne := fun h tp dd its n sl X htp => by
    obtain ⟨cdD, hcD⟩ := Option.isSome_iff_exists.mp c.cl
    refine Bool.eq_false_iff.mpr fun q => ?_
    have e : C = tp := Value.ref.inj (beq_iff_eq.mp q)
    subst e
    unfold clsIn at hcD
    split at hcD
    · rename_i c' d' cd' sl' ho
      have z := (X _ _ ho).symm.trans htp
      cases z
    · cases hcD
  ca := fun X ⟨o, hx, hc⟩ k => exc_class X hx hc c.g1 c.g2 c.g3 c.hm c.hB k
end

section
variable {X : Cx}
def clsV : V → Value
  | .ty n => .type n
  | .ref a => .ref a
  | _ => .none
def isC : V → Prop
  | .ty _ => True
  | .ref _ => True
  | _ => False
inductive TyX (K : Frag) (H : Hp) : V → Value → Prop where
  | of {x : V} {t : Value} (h : TyOf K H x t) : TyX K H x t
  | exc {a C : Addr} (e : H a = some (Exc (.ref C) a)) (c : ExcCls K C) : TyX K H (.ref a) (.ref C)
  | sqt {a : Addr} {xs : List V} (h : SqT K H a xs) : TyX K H (.ref a) (.type "tuple")
  | sql {a : Addr} {xs : List V} (h : SqL K H a xs) : TyX K H (.ref a) (.type "list")
def rIsI (K : Frag) : List V → Hp → VK → Prop := fun xs H Q => ∃ x c t b, xs = [x, c] ∧ isC c ∧ TyX K H x t ∧ kitOne K t (clsV c) = some b ∧ Q (.bl b) H
theorem call_isinst : CallR X (.builtin "isinstance") (rIsI X.K) := by
  intro pins s σ H us vs Q I r h
  obtain ⟨x, c, t, b, rfl, ic, ty, e, q⟩ := h
  obtain ⟨u, cu, rfl, rx, rc⟩ := Vals.two r
  have ec : cu = clsV c := by
    cases c with
    | ty n => exact rc
    | ref a => exact rc
    | _ => exact False.elim ic
  subst ec
  have fin : ∀ tk, EP X pins σ Q (.bool b) { s with toks := tk } := fun tk => ⟨.bl b, H, I.tok tk, rfl, q⟩
  cases ty with
  | of ty => exact isinst_ok I rx ty e fin
  | @exc a C ea cl =>
    cases (show u = Value.ref a from rx)
    obtain ⟨⟨o, _, h1, h2, _⟩, _⟩ := (show ObjOk X.prog X.w H s.heap a (Exc (.ref C) a) from I.hok a _ ea)
    exact kia_one (kitx_exc cl) I.kIn ⟨o, h1, h2⟩ e (fun z => nomatch z) fin
  | @sqt a xs h =>
    cases (show u = Value.ref a from rx)
    obtain ⟨_, _, ⟨o, h1, h2, _⟩, _⟩ := I.tuple h
    exact kia_one kitx_tuple I.kIn ⟨o, h1, h2⟩ e (fun z => nomatch z) fin
  | @sql a xs h =>
    cases (show u = Value.ref a from rx)
    obtain ⟨_, _, ⟨o, n, h1, h2, _⟩, _⟩ := I.list h
    exact kia_one kitx_list I.kIn ⟨o, h1, h2⟩ e (fun z => nomatch z) fin

theorem op_mulB : OpR X (binaryOp .Mult) (rI IntMulOk fun i j => .int (i * j)) := opI fun _ _ _ _ _ _ _ hc q => mul_int q hc
def CDivB (_ j : Int) : Prop := j ≠ 0 ∧ j.natAbs.log2 < 9000
theorem op_fdivB : OpR X (binaryOp .FloorDiv) (rI CDivB fun i j => .int (i.fdiv j)) := opI fun _ _ _ _ _ _ _ hc q => floordiv_int hc.1 q (.inl (PyProof.noPylong_of_log2 hc.2))
end
end L2

set_option maxRecDepth 100000
namespace L2
open PySem PySem.Spec PyProof.Rows

inductive D where
  | v (x : V)
  | tup (ds : List D)
  | lst (ds : List D)
mutual
def eqD : D → D → Bool
  | .v x, .v y => eqV x y
  | .tup a, .tup b => eqDs a b
  | .lst a, .lst b => eqDs a b
  | _, _ => false
def eqDs : List D → List D → Bool
  | [], [] => true
  | x :: xs, y :: ys => eqD x y && eqDs xs ys
  | _, _ => false
end
mutual
def okD : D → D → Bool
  | .v _, .v _ => true
  | .tup a, .tup b => okDs a b
  | .lst a, .lst b => okDs a b
  | _, _ => false
def okDs : List D → List D → Bool
  | x :: xs, y :: ys => okD x y && okDs xs ys
  | _, _ => true
end
mutual
def dpD : D → Nat
  | .v _ => 0
  | .tup a => dpDs a + 1
  | .lst a => dpDs a + 1
def dpDs : List D → Nat
  | [] => 0
  | x :: xs => max (dpD x) (dpDs xs)
end
mutual
inductive IsD (K : PySem.W.Frag) (H : Hp) : V → D → Prop where
  | v {x : V} (f : flatV x = true) : IsD K H x (.v x)
  | tup {p : Addr} {xs : List V} {ds : List D} (h : SqT K H p xs) (t : IsDs K H xs ds) : IsD K H (.ref p) (.tup ds)
  | lst {p : Addr} {xs : List V} {ds : List D} (h : SqL K H p xs) (t : IsDs K H xs ds) : IsD K H (.ref p) (.lst ds)
inductive IsDs (K : PySem.W.Frag) (H : Hp) : List V → List D → Prop where
  | nil : IsDs K H [] []
  | cons {x : V} {xs : List V} {d : D} {ds : List D} (h : IsD K H x d) (t : IsDs K H xs ds) : IsDs K H (x :: xs) (d :: ds)
end
theorem IsDs.length {K : PySem.W.Frag} {H : Hp} : ∀ {xs : List V} {ds : List D}, IsDs K H xs ds → xs.length = ds.length
  | _, _, .nil => rfl
  | _, _, .cons _ t => congrArg (· + 1) t.length
theorem eqV_refl : ∀ {x : V}, flatV x = true → eqV x x = true
  | .non, _ => rfl
  | .bl a, _ => by simp [eqV]
  | .int a, _ => by simp [eqV]
  | .str a, _ => by simp [eqV]
  | .byt _, h => absurd (show false = true from h) Bool.false_ne_true
  | .flt _, h => absurd (show false = true from h) Bool.false_ne_true
  | .ref _, h => absurd (show false = true from h) Bool.false_ne_true
  | .ty _, h => absurd (show false = true from h) Bool.false_ne_true
section
variable {X : Cx} {pins : List (Addr × Obj)} {σ : St} {H : Hp} {s : Shared}
mutual
theorem eqD_same (I : Inv X pins σ H s) : ∀ {x : V} {d d' : D}, IsD X.K H x d → IsD X.K H x d' → okD d d' = true → eqD d d' = true
  | _, _, _, .v f, .v _, _ => by rw [eqD]; exact eqV_refl f
  | _, _, _, .tup h t, .tup h' t', ok => by
    have e := I.tuple_inj h h'
    subst e
    rw [eqD]
    rw [okD] at ok
    exact eqDs_same I t t' ok
  | _, _, _, .lst h t, .lst h' t', ok => by
    have e := I.list_inj h h'
    subst e
    rw [eqD]
    rw [okD] at ok
    exact eqDs_same I t t' ok
  | _, _, _, .v f, .tup _ _, _ => absurd (show false = true from f) Bool.false_ne_true
  | _, _, _, .v f, .lst _ _, _ => absurd (show false = true from f) Bool.false_ne_true
  | _, _, _, .tup _ _, .v f, _ => absurd (show false = true from f) Bool.false_ne_true
  | _, _, _, .lst _ _, .v f, _ => absurd (show false = true from f) Bool.false_ne_true
  | _, _, _, .tup _ _, .lst _ _, ok => by simp [okD] at ok
  | _, _, _, .lst _ _, .tup _ _, ok => by simp [okD] at ok
theorem eqDs_same (I : Inv X pins σ H s) : ∀ {xs : List V} {ds ds' : List D}, IsDs X.K H xs ds → IsDs X.K H xs ds' → okDs ds ds' = true → eqDs ds ds' = true
  | _, _, _, .nil, .nil, _ => by rw [eqDs]
  | _, _, _, .cons h t, .cons h' t', ok => by
    rw [okDs, Bool.and_eq_true] at ok
    rw [eqDs, eqD_same I h h' ok.1, eqDs_same I t t' ok.2]
    rfl
end
/-- the answers place by place -/
def eqAtI (ds ds' : List D) (j : Nat) : Bool := match ds[j]?, ds'[j]? with
  | some d, some d' => eqD d d'
  | _, _ => true
theorem all_range_succ (n : Nat) (e : Nat → Bool) : (List.range (n + 1)).all e = (e 0 && (List.range n).all fun j => e (j + 1)) := by
  rw [List.range_succ_eq_map, List.all_cons, List.all_map]; rfl
theorem all_eqAtI : ∀ (ds ds' : List D), ((List.range (min ds.length ds'.length)).all (eqAtI ds ds') && ds.length == ds'.length) = eqDs ds ds'
  | [], [] => by rw [eqDs]; rfl
  | [], _ :: _ => by simp [eqDs]
  | _ :: _, [] => by simp [eqDs]
  | x :: xs, y :: ys => by
    have ih := all_eqAtI xs ys
    rw [eqDs, ← ih]
    have e1 : min (x :: xs).length (y :: ys).length = min xs.length ys.length + 1 := by simp only [List.length_cons]; omega
    rw [e1, all_range_succ]
    have e2 : ((x :: xs).length == (y :: ys).length) = (xs.length == ys.length) := by
      by_cases h : xs.length = ys.length <;> simp [h]
    rw [e2, Bool.and_assoc]
    rfl
theorem all_eqAtI_len (ds ds' : List D) (h : ds.length = ds'.length) : (List.range ds.length).all (eqAtI ds ds') = eqDs ds ds' := by
  rw [← all_eqAtI, ← h, Nat.min_self]; simp
theorem eqDs_len : ∀ (ds ds' : List D), ds.length ≠ ds'.length → eqDs ds ds' = false
  | [], [], h => absurd rfl h
  | [], _ :: _, _ => by simp [eqDs]
  | _ :: _, [], _ => by simp [eqDs]
  | x :: xs, y :: ys, h => by
    rw [eqDs, eqDs_len xs ys (fun e => h (by simp [e]))]; simp
theorem rcAt_tup0 (I : Inv X pins σ H s) {p p' : Addr} {xs ys : List V} {ds ds' : List D} {A : Around} (h : SqT X.K H p xs) (t : IsDs X.K H xs ds) (h' : SqT X.K H p' ys) (t' : IsDs X.K H ys ds') (hu : A.units < cLine)
    (q : ∀ {us vs : List Value}, Vals xs us → Vals ys vs → ∀ (j : Nat) (h1 : j < us.length) (h2 : j < vs.length), SeqAt.EqAt A.in1 s us[j] vs[j] (eqAtI ds ds' j)) : SeqAt.RcAt A s (.ref p) (.ref p') (eqDs ds ds') := by
    obtain ⟨its, r1, i1, _⟩ := I.tuple h
    obtain ⟨its', r2, i2, _⟩ := I.tuple h'
    have z := SeqAt.RcAt.tuples (A := A) (items := its.toArray) (items2 := its'.toArray) (e := eqAtI ds ds') i1 i2 hu (fun j h1 h2 => q r1 r2 j (by simpa using h1) (by simpa using h2))
    have e1 : its.toArray.size = ds.length := by rw [List.size_toArray, ← r1.length, t.length]
    have e2 : its'.toArray.size = ds'.length := by rw [List.size_toArray, ← r2.length, t'.length]
    rw [e1, e2, all_eqAtI] at z
    exact z
theorem rcAt_lst0 (I : Inv X pins σ H s) {p p' : Addr} {xs ys : List V} {ds ds' : List D} {A : Around} (h : SqL X.K H p xs) (t : IsDs X.K H xs ds) (h' : SqL X.K H p' ys) (t' : IsDs X.K H ys ds') (hu : A.units < cLine)
    (q : ∀ {us vs : List Value}, Vals xs us → Vals ys vs → ∀ (j : Nat) (h1 : j < us.length) (h2 : j < vs.length), SeqAt.EqAt A.in1 s us[j] vs[j] (eqAtI ds ds' j)) : SeqAt.RcAt A s (.ref p) (.ref p') (eqDs ds ds') := by
    obtain ⟨its, r1, i1, _⟩ := I.list h
    obtain ⟨its', r2, i2, _⟩ := I.list h'
    have e1 : its.toArray.size = ds.length := by rw [List.size_toArray, ← r1.length, t.length]
    have e2 : its'.toArray.size = ds'.length := by rw [List.size_toArray, ← r2.length, t'.length]
    by_cases hl : ds.length = ds'.length
    · have z := SeqAt.RcAt.lists (A := A) (items := its.toArray) (items2 := its'.toArray) (e := eqAtI ds ds') i1.isList i2.isList (by rw [e1, e2, hl]) hu (fun j h1 h2 => q r1 r2 j (by simpa using h1) (by simpa using h2))
      rw [e1, all_eqAtI_len ds ds' hl] at z
      exact z
    · rw [eqDs_len ds ds' hl]
      exact SeqAt.RcAt.lists_lengths i1.isList i2.isList (by rw [e1, e2]; simpa using hl) hu
mutual
theorem eqAt_D (I : Inv X pins σ H s) : ∀ {x y : V} {d d' : D} {u v : Value} {A : Around}, IsD X.K H x d → IsD X.K H y d' → okD d d' = true → RelV x u → RelV y v → A.units + dpD d < cLine → SeqAt.EqAt A s u v (eqD d d')
  | _, _, _, _, _, _, _, .v f, .v f', _, r, r', _ => by rw [eqD]; exact eqAt_V r r' f f'
  | _, _, _, _, u, v, A, .tup (p := p) h t, .tup (p := p') h' t', ok, r, r', hu => by
    cases (show u = Value.ref p from r)
    cases (show v = Value.ref p' from r')
    by_cases hp : p = p'
    · subst hp
      rw [eqD_same I (.tup h t) (.tup h' t') ok]
      exact SeqAt.EqAt.same _
    · rw [okD] at ok
      rw [dpD] at hu
      rw [eqD]
      exact SeqAt.EqAt.of_refs hp (rcAt_tup0 I h t h' t' (by omega) fun r1 r2 j h1 h2 => eqAts_D (A := A.in1) I t t' ok r1 r2 (by show A.units + 1 + _ < _; omega) j h1 h2)
  | _, _, _, _, u, v, A, .lst (p := p) h t, .lst (p := p') h' t', ok, r, r', hu => by
    cases (show u = Value.ref p from r)
    cases (show v = Value.ref p' from r')
    by_cases hp : p = p'
    · subst hp
      rw [eqD_same I (.lst h t) (.lst h' t') ok]
      exact SeqAt.EqAt.same _
    · rw [okD] at ok
      rw [dpD] at hu
      rw [eqD]
      exact SeqAt.EqAt.of_refs hp (rcAt_lst0 I h t h' t' (by omega) fun r1 r2 j h1 h2 => eqAts_D (A := A.in1) I t t' ok r1 r2 (by show A.units + 1 + _ < _; omega) j h1 h2)
  | _, _, _, _, _, _, _, .v _, .tup _ _, ok, _, _, _ => by simp [okD] at ok
  | _, _, _, _, _, _, _, .v _, .lst _ _, ok, _, _, _ => by simp [okD] at ok
  | _, _, _, _, _, _, _, .tup _ _, .v _, ok, _, _, _ => by simp [okD] at ok
  | _, _, _, _, _, _, _, .lst _ _, .v _, ok, _, _, _ => by simp [okD] at ok
  | _, _, _, _, _, _, _, .tup _ _, .lst _ _, ok, _, _, _ => by simp [okD] at ok
  | _, _, _, _, _, _, _, .lst _ _, .tup _ _, ok, _, _, _ => by simp [okD] at ok
theorem eqAts_D (I : Inv X pins σ H s) : ∀ {xs ys : List V} {ds ds' : List D} {us vs : List Value} {A : Around}, IsDs X.K H xs ds → IsDs X.K H ys ds' → okDs ds ds' = true → Vals xs us → Vals ys vs → A.units + dpDs ds < cLine →
    ∀ (j : Nat) (h1 : j < us.length) (h2 : j < vs.length), SeqAt.EqAt A s us[j] vs[j] (eqAtI ds ds' j)
  | _, _, _, _, _, _, _, .nil, _, _, .nil, _, _ => fun j h1 _ => absurd h1 (Nat.not_lt_zero _)
  | _, _, _, _, _, _, _, .cons _ _, .nil, _, _, .nil, _ => fun j _ h2 => absurd h2 (Nat.not_lt_zero _)
  | _, _, _, _, _, _, A, .cons h t, .cons h' t', ok, .cons r rs, .cons r' rs', hu => fun j h1 h2 => by
    rw [okDs, Bool.and_eq_true] at ok
    rw [dpDs] at hu
    cases j with
    | zero => exact eqAt_D I h h' ok.1 r r' (by omega)
    | succ j => exact eqAts_D I t t' ok.2 rs rs' (by omega) j (by simpa using h1) (by simpa using h2)
end
/-- == of two data; both tuples, both lists, or both flat -/
def D.isV : D → Bool
  | .v _ => true
  | _ => false
def rEqD (K : PySem.W.Frag) : R2 := fun x y H Q => ∃ d d', d.isV = false ∧ IsD K H x d ∧ IsD K H y d' ∧ okD d d' = true ∧ dpD d ≤ 60 ∧ Q (.bl (eqD d d')) H
theorem op_eqD (hu : X.A.units + 64 < cLine) : OpR X (compareOp .Eq) (rEqD X.K) := by
  intro pins s σ H x y v u Q I rx ry h
  obtain ⟨d, d', nf, h1, h2, ok, dp, q⟩ := h
  have fin : EP X pins σ Q (.bool (eqD d d')) s := ⟨.bl _, H, I, rfl, q⟩
  cases h1 with
  | v f =>
    cases h2 with
    | v f' => exact absurd (show true = false from nf) (by decide)
    | tup _ _ => simp [okD] at ok
    | lst _ _ => simp [okD] at ok
  | @tup p xs ds h t =>
    cases h2 with
    | v f' => simp [okD] at ok
    | @tup p' ys ds' h' t' =>
      cases (show v = Value.ref p from rx)
      cases (show u = Value.ref p' from ry)
      rw [okD] at ok
      rw [dpD] at dp
      rw [eqD] at fin
      exact rcAt_tup0 I h t h' t' (by omega) (fun r1 r2 j h1 h2 => eqAts_D (A := X.A.in1) I t t' ok r1 r2 (by show X.A.units + 1 + _ < _; omega) j h1 h2) X.prog X.w X.xe _ fin
    | lst _ _ => simp [okD] at ok
  | @lst p xs ds h t =>
    cases h2 with
    | v f' => simp [okD] at ok
    | tup _ _ => simp [okD] at ok
    | @lst p' ys ds' h' t' =>
      cases (show v = Value.ref p from rx)
      cases (show u = Value.ref p' from ry)
      rw [okD] at ok
      rw [dpD] at dp
      rw [eqD] at fin
      exact rcAt_lst0 I h t h' t' (by omega) (fun r1 r2 j h1 h2 => eqAts_D (A := X.A.in1) I t t' ok r1 r2 (by show X.A.units + 1 + _ < _; omega) j h1 h2) X.prog X.w X.xe _ fin
end
end L2

set_option maxRecDepth 100000
namespace L2
open PySem PySem.Spec PyProof.Rows
section
variable {X : Cx}
def rBitLen : V → List V → Hp → VK → Prop := fun x vs H Q => ∃ i, x = .int i ∧ vs = [] ∧ Q (.int (Builtin.Int.intBits i)) H
theorem mt_bitlen : MtM X "int.bit_length" rBitLen := by
  intro pins s σ H x vs v us Q I rx rv h
  obtain ⟨i, rfl, rfl, q⟩ := h
  obtain ⟨t, rfl⟩ := rx
  cases Vals.zero rv
  exact call_int_bit_length ⟨.int _, H, I.tok _, ⟨_, rfl⟩, q⟩
theorem count_eqU {x : V} : ∀ {xs : List V} {us : List Value}, Vals xs us → xs.all flatV = true → us.countP (eqU x) = xs.countP fun y => eqV y x
  | _, _, .nil, _ => rfl
  | y :: xs, u :: us, .cons r t, f => by
    rw [List.all_cons, Bool.and_eq_true] at f
    rw [List.countP_cons, List.countP_cons, eqU_of r f.1, count_eqU t f.2]
def rCount : V → List V → Hp → VK → Prop := fun x vs H Q => ∃ l xs y, x = .ref l ∧ vs = [y] ∧ H l = some (.lst xs) ∧ flatV y = true ∧ xs.all flatV = true ∧ Q (.int (xs.countP fun z => eqV z y)) H
theorem mt_count : MtM X "list.count" rCount := by
  intro pins s σ H x vs v us Q I rx rv h
  obtain ⟨l, xs, y, rfl, rfl, hH, fy, fx, q⟩ := h
  cases rx
  obtain ⟨u, rfl, ru⟩ := rv.one
  obtain ⟨z, its, n, r, hl, e⟩ := I.lstM hH
  refine call_meets F.slot_list_count ⟨_, e, rfl⟩ F.entry_list_count (F.args_list_count_2 _ _) (SeqAt.list_countAt l its.toArray n none #[] u (eqU y)) ⟨e, fun w hw => mem_eqAt ru fy r fx w (by simpa using hw), ?_⟩
  refine ⟨.int _, H, I.tok _, ⟨_, rfl⟩, ?_⟩
  rw [show its.toArray.toList = its from rfl, count_eqU r fx]
  exact q
theorem eqU_get {y : V} {xs : List V} {us : List Value} (r : Vals xs us) (f : xs.all flatV = true) (j : Nat) (hj : j < us.length) (hx : j < xs.length) : eqU y us[j] = eqV xs[j] y := by
  obtain ⟨u, e1, e2⟩ := r.get (List.getElem?_eq_getElem hx)
  have e3 : us[j] = u := by rw [List.getElem?_eq_getElem hj] at e1; exact Option.some.inj e1
  rw [e3]
  exact eqU_of e2 (List.all_eq_true.mp f _ (List.getElem_mem hx))
def rIndex : V → List V → Hp → VK → Prop := fun x vs H Q => ∃ l xs y j, x = .ref l ∧ vs = [y] ∧ H l = some (.lst xs) ∧ flatV y = true ∧ xs.all flatV = true ∧ (xs.findIdx? fun z => eqV z y) = some j ∧ Q (.int (j : Nat)) H
theorem mt_index : MtM X "list.index" rIndex := by
  intro pins s σ H x vs v us Q I rx rv h
  obtain ⟨l, xs, y, j, rfl, rfl, hH, fy, fx, hi, q⟩ := h
  cases rx
  obtain ⟨u, rfl, ru⟩ := rv.one
  obtain ⟨z, its, n, r, hl, e⟩ := I.lstM hH
  obtain ⟨hj, h1, h2⟩ := List.findIdx?_eq_some_iff_getElem.mp hi
  have hz : xs.length < 2 ^ 63 := Nat.lt_of_le_of_lt z line63
  refine call_meets F.slot_list_index ⟨_, e, rfl⟩ F.entry_list_index (F.args_list_index_2 _ _) (SeqAt.list_indexAt l its.toArray n none #[] u (eqU y) j (by simpa [← hl] using hj) (by have : (xs.length : Int) < 2 ^ 63 := by exact_mod_cast hz
                                                                                                                                                                                       omega) ?_ ?_) ⟨e, fun w hw => mem_eqAt ru fy r fx w (by simpa using hw), ?_⟩
  · rw [show its.toArray[j]'(by simpa [← hl] using hj) = its[j]'(by rw [← hl]; exact hj) from rfl, eqU_get r fx j _ hj]; exact h1
  · intro m hm hlt
    have hm' : m < its.length := by simpa using hm
    rw [show its.toArray[m]'hm = its[m]'hm' from rfl, eqU_get r fx m _ (by rw [hl]; exact hm')]
    have := h2 m hlt
    simpa using this
  · exact ⟨.int _, H, I.tok _, ⟨_, rfl⟩, q⟩
theorem vals_strs : ∀ (t : Nat) (ps : List Str), Vals (ps.map V.str) (strsFrom t ps)
  | _, [] => .nil
  | t, p :: ps => .cons ⟨_, rfl⟩ (vals_strs (t + 1) ps)
def partsOf (x y : Str) : List Str := Builtin.Str.partsBetween x (Builtin.Str.occurrences x y 0 x.length (x.length + 1)) y.length
def rSplit : V → List V → Hp → VK → Prop := fun v vs H Q => ∃ x y, v = .str x ∧ vs = [.str y] ∧ (decide (x.length < y.length) || decide (Builtin.Str.strKind x < Builtin.Str.strKind y)) = false ∧ (y.length == 0) = false ∧
  (Builtin.Str.occurrences x y 0 x.length (x.length + 1)).isEmpty = false ∧ x.length ≤ sizeLine ∧ (partsOf x y).length ≤ sizeLine ∧ ∀ l, H l = none → Q (.ref l) (upd H l (.lst ((partsOf x y).map V.str)))
theorem mt_split : MtM X "str.split" rSplit := by
  intro pins s σ H x vs v us Q I rx rv h
  obtain ⟨x', y, rfl, rfl, h1, h2, h3, h4, h5, q⟩ := h
  obtain ⟨t, rfl⟩ := rx
  obtain ⟨u, rfl, t', rfl⟩ := rv.one
  refine call_meets F.slot_str_split rfl F.entry_str_split (F.args_str_split_2 _ _) (meets_str_split_sep x' y t t' h1 h2 h3 h4 h5) ?_
  exact ⟨.ref _, _, I.lnew (ys := (partsOf x' y).map V.str) (vals_strs _ _) (by rw [List.length_map]; exact h5), rfl, q _ I.fresh⟩
end
end L2

set_option maxRecDepth 100000
namespace L2
open PySem PySem.Spec PyProof.Rows

structure Df (K : PySem.W.Frag) (mg : Str → Option Value) (x : Str) (st : Stmt) (ps : List Str) (f : Addr) : Prop where
  ex : ∃ fd, Fun K x x st f fd ∧ Binds K fd ps []
  m : mg x = some (.ref f)
structure Def (P : Program) (w : World) (K : PySem.W.Frag) (mg : Str → Option Value) (base : Heap) (CX : CXT) (k : Nat) (x : Str) (f : Addr) (ps : List Str) (sp : Sp) : Prop where
  ex : ∃ fd, FnOk P w K mg base CX k f fd ps sp ∧ Binds K fd ps []
  m : mg x = some (.ref f)
  kp : PySem.W.keepIn K (.ref f) = true
structure DefX (P : Program) (w : World) (K : PySem.W.Frag) (mg : Str → Option Value) (base : Heap) (k : Nat) (x : Str) (f : Addr) (ps : List Str) (sp : Sp) : Prop where
  ex : ∃ fd, FnOkX P w K mg base k f fd ps sp ∧ Binds K fd ps []
  m : mg x = some (.ref f)
  kp : PySem.W.keepIn K (.ref f) = true
section
variable {P : Program} {w : World} {K : PySem.W.Frag} {mg : Str → Option Value} {base : Heap} {k : Nat} {x : Str} {f : Addr} {ps N : List Str} {sp : Sp} {st : Stmt} {CX : CXT}
theorem Df.ok (d : Df K mg x st ps f) (S : FnScope N ps (defScope st)) (len : ∀ vs H Q E, sp vs H Q E → vs.length = ps.length)
    (hbody : ∀ (cdv : Value) (A : Around) (outer : List Env) (s : Shared) (H : Hp) (vs : List V) (Q : VK) (E : XK), Room k (A.deeper (envOfC x (defScope st) s.heap.objs.size f cdv)) → sp vs H Q E →
      ∃ t, PSs (cxOf CX0 P w K mg base N x (defScope st) f cdv A outer s H E).nox (defBody st) t ∧ t { nx := fun _ H' => Q .non H', rt := Q } (start N vs) H) : Def P w K mg base CX0 (k + 1) x f ps sp := by
  obtain ⟨fd, F, b⟩ := d.ex
  exact ⟨⟨fd, F.ok S len hbody, b⟩, d.m, F.kp⟩
theorem Df.okR (d : Df K mg x st ps f) (S : FnScope N ps (defScope st)) (len : ∀ vs H Q E, sp vs H Q E → vs.length = ps.length)
    (hbody : ∀ (cdv : Value) (A : Around) (outer : List Env) (s : Shared) (H : Hp) (vs : List V) (Q : VK) (E : XK), Room k (A.deeper (envOfC x (defScope st) s.heap.objs.size f cdv)) → sp vs H Q E →
      ∃ t, PSs (cxR P w K mg base N x (defScope st) f cdv A outer s H E) (defBody st) t ∧ t { nx := fun _ H' => Q .non H', rt := Q } (start N vs) H) : Def P w K mg base (CXR P w) (k + 1) x f ps sp := by
  obtain ⟨fd, F, b⟩ := d.ex
  have kp := F.kp
  obtain ⟨oc, od, kV, doc, pm, an, cdv, ct, osl, rfl, lk, hcd⟩ := F.ex
  exact ⟨⟨_, fn_of lk hcd S len fun A outer s H vs Q E hr hsp => hbody cdv A outer s H vs Q E hr hsp, b⟩, d.m, kp⟩
theorem Df.okX (d : Df K mg x st ps f) (S : FnScope N ps (defScope st)) (len : ∀ vs H Q E, sp vs H Q E → vs.length = ps.length)
    (hbody : ∀ (cdv : Value) (A : Around) (outer : List Env) (s : Shared) (H : Hp) (vs : List V) (Q : VK) (E : XK), RoomX k (A.deeper (envOfC x (defScope st) s.heap.objs.size f cdv)) → sp vs H Q E →
      ∃ t, PSs (cxX P w K mg base N x (defScope st) f cdv A outer s H E) (defBody st) t ∧ t { nx := fun _ H' => Q .non H', rt := Q } (start N vs) H) : DefX P w K mg base (k + 1) x f ps sp := by
  obtain ⟨fd, F, b⟩ := d.ex
  exact ⟨⟨fd, F.okX S len hbody, b⟩, d.m, F.kp⟩
theorem Def.val (d : Def P w K mg base (CXR P w) k x f ps sp) : FnV P w K mg base k f sp :=
  let ⟨fd, F, b⟩ := d.ex
  ⟨⟨fd, ps, F, b⟩, d.kp⟩
end
section
variable {X : Cx} {CX : CXT} {k j : Nat} {f : Addr} {ps : List Str} {sp : Sp} {E : XK} {x : Str} {p pos : Pos} {e : Expr} {es : List Expr} {t : TA}
def tDef (sp : Sp) (E : XK) (t : TA) : TE := fun σ H Q => t σ H fun vs H1 => sp vs H1 Q E
theorem pe_def (d : Def X.prog X.w X.K X.mg X.base CX j x f ps sp) (hr : Room k X.A) (ha : PA X (e :: es) t) (hx : Passes CX X E) (hj : j ≤ k := by decide) (hg : Gl X x := by rfl)
    (hdb : (x == ("__debug__" : Str)) = false := by decide) (he : starEach (e :: es) X.env = (false, eval e X.env) :: starEach es X.env := by rfl) (hpl : (backTo pos (starEach es X.env)).any (·.1) = false := by rfl) :
    PE X (.Call (.Name x p) (e :: es) [] pos) (tDef sp E t) := by
  obtain ⟨fd, F, b⟩ := d.ex
  have z := pe_call (E := E) (es := es) (e := e) (p := p) (pos := pos) (F.mono hj) hr hg d.m d.kp b .nil hx ha hdb he hpl
  intro pins s σ H Q I h
  refine z pins s σ H Q I ?_
  unfold tCall
  simpa only [List.append_nil, tDef] using h
theorem pe_defX (d : DefX X.prog X.w X.K X.mg X.base j x f ps sp) (hr : RoomX k X.A) (ha : PA X (e :: es) t) (hj : j ≤ k := by decide) (hg : Gl X x := by rfl)
    (hdb : (x == ("__debug__" : Str)) = false := by decide) (he : starEach (e :: es) X.env = (false, eval e X.env) :: starEach es X.env := by rfl) (hpl : (backTo pos (starEach es X.env)).any (·.1) = false := by rfl) :
    PE X (.Call (.Name x p) (e :: es) [] pos) (tCallX sp t) := by
  obtain ⟨fd, F, b⟩ := d.ex
  exact pe_callX F (hr.mono hj) hg d.m d.kp b ha hdb he hpl
end
/-- f(..) of a local name, its reading free of the context -/
theorem pe_callW {X : Cx} {P : Program} {w : World} {K : PySem.W.Frag} {mg : Str → Option Value} {base : Heap} {k i : Nat} {E : XK} {x : Str} {p pos : Pos} {e : Expr} {es : List Expr} {t : TA} (hr : Room k X.A) (hN : X.N[i]? = some x) (hv : Vis X.env.scope x)
    (hx : Passes (CXR X.prog X.w) X E) (ha : PA X (e :: es) t) (e1 : X.prog = P := by rfl) (e2 : X.w = w := by rfl) (e3 : X.K = K := by rfl) (e4 : X.mg = mg := by rfl) (e5 : X.base = base := by rfl)
    (hdb : (x == ("__debug__" : Str)) = false := by decide) (hcd : (x == ("__classdict__" : Str)) = false := by decide) (he : starEach (e :: es) X.env = (false, eval e X.env) :: starEach es X.env := by rfl) (hpl : (backTo pos (starEach es X.env)).any (·.1) = false := by rfl) :
    PE X (.Call (.Name x p) (e :: es) [] pos) (tCallV P w K mg base k i E t) := by
  subst e1 e2 e3 e4 e5
  exact pe_callV hr hN hv hx ha hdb hcd he hpl
theorem Same.new {H : Hp} {p : Addr} (h : H p = none) (o : HO) : Same H (upd H p o) := fun b u q => by rw [upd_ne (ne_of_none q h)]; exact q
theorem Same.tup {K : PySem.W.Frag} {H H' : Hp} {a : Addr} {xs : List V} (e : Same H H') (h : SqT K H a xs) : SqT K H' a xs := by
  rcases h with h | h
  · rcases h with h | ⟨o, h⟩
    · exact .inl (.inl (e _ _ h))
    · exact .inl (.inr ⟨o, e _ _ h⟩)
  · exact .inr h
end L2

set_option maxRecDepth 100000
namespace L2
open PySem PySem.Spec PyProof.Rows

section
variable {prog : Program} {w : World} {A : Around} {R : Result → Shared → Prop} {s : Shared}
theorem comp_loop {elt target iter : Expr} {scope : Scope} {pos : Pos} {it acc : Value} {env : Env} (I : Nat → Shared → Prop)
    (turn : ∀ n s, I n s → wpAny (model prog w) A (pyNext it) (fun r s₁ => match r with
      | none => R (.ok .next) s₁
      | some v => wpAny (model prog w) A (letOwnedTupleGo target it v) (fun _ s₁' => wpAny (model prog w) A (assign target env v) (fun _ s₂ => wpAny (model prog w) A (eval elt env) (fun x s₃ =>
          wpAny (model prog w) A (call (.builtin "list.append") [acc, x]) (fun _ s₄ => ∃ m, m < n ∧ I m s₄) (fun _ _ => False) s₃)
          (fun _ _ => False) s₂) (fun _ _ => False) s₁') (fun _ _ => False) s₁) (fun _ _ => False) s)
    (n : Nat) (h : I n s) :
    codeAny (model prog w) A (.compLoop (.ListComp elt [⟨target, iter, [], 0⟩] scope pos) 0 it acc env) R s := by
  refine codeAny_loop rfl I (fun n s hI => ?_) n h
  show wpAny _ _ ((compTurn (.ListComp elt [⟨target, iter, [], 0⟩] scope pos) 0 it acc env).onRaise (fun x => do noteFrame x env; theTreesLotGoes x)) _ _ s
  refine wpAny_noted ?_
  rw [compTurn_list1]
  have no : ∀ {P : Value → Shared → Prop} (e : Value) (s : Shared), False → P e s := fun _ _ h => h.elim
  refine wpAny_bind (wpAny_standAt (wpAny_bind (wpAny_mono (turn n s hI) (fun r s₁ h₁ => ?_) no)))
  cases r with
  | none => exact wpAny_pure h₁
  | some v =>
    refine wpAny_bind (wpAny_mono h₁ (fun _ s₁' h₁' => ?_) no)
    exact wpAny_bind (wpAny_mono h₁' (fun _ s₂ h₂ => wpAny_bind (wpAny_bind (wpAny_mono h₂ (fun x s₃ h₃ => wpAny_bind (wpAny_mono h₃
      (fun _ s₄ h₄ => wpAny_pure (wpAny_pure ⟨rfl, h₄⟩)) no)) no))) no)
end

/-- the block's own context -/
abbrev Cx.block (X : Cx) (scope : Scope) (cl : List (Str × Addr)) (C : Addr) (Nc : List Str) (s₂ : Shared) (H₂ : Hp) (fp : List Addr) (pins : List (Addr × Obj)) : Cx :=
  { X with N := Nc, s₀ := s₂, H₀ := H₂, env := compEnvC scope cl C X.env, outer := X.stack, ex := fp, fn := fun _ => false, pn := X.pn ++ pins, xe := fun _ _ => False }
/-- the values of captured names: by their slots in the def -/
def capSt (caps : List (Option Nat)) (σ : St) : St := caps.map fun o => o.bind fun j => (σ[j]?).join
def tComp (wi : TI) (caps : List (Option Nat)) (g : TG) (te : TE) : TE := fun σ H Q => wi σ H fun J H1 => ∀ D, H1 D = none → ∃ W : Nat → Nat → St → Hp → Prop, (∃ m, W 0 m (capSt caps σ) (upd H1 D (.lst []))) ∧
  ∀ i m σc H2, W i m σc H2 → (J.stop i H2 ∧ Q (.ref D) H2) ∨
    (J.go i H2 ∧ ∀ x H3, J.yld i H2 x H3 → g x σc H3 fun σ4 H4 => te σ4 H4 fun y H5 => ∃ ys, H5 D = some (.lst ys) ∧ ys.length < sizeLine ∧ ∃ m', m' < m ∧ W (i + 1) m' σ4 (upd H5 D (.lst (ys ++ [y]))))
section
variable {X : Cx}
/-- what the closure of the block is: the def's own cells -/
structure Caps (X : Cx) (scope : Scope) (cl : List (Str × Addr)) (Nc : List Str) (caps : List (Option Nat)) : Prop where
  clos : closureFor scope X.env = pure cl
  sub : ∀ x c, cl.lookup x = some c → X.env.cells.lookup x = some c
  has : ∀ x, (relabel scope X.env).names.lookup x = some .cell ∨ (relabel scope X.env).names.lookup x = some .free → ∃ c, cl.lookup x = some c
  nocell : ∀ x ∈ scope.names, x.2 ≠ .cell
  kind : scope.kind = .function
  names : ∀ x ∈ scope.names, x.2 = .local → scope.names.lookup x.1 = some .local
  len : caps.length = Nc.length
  cap : ∀ (i j : Nat) (x : Str), caps[i]? = some (some j) → Nc[i]? = some x → X.N[j]? = some x ∧ Vis X.env.scope x ∧ X.env.kindOf x ≠ some .local ∧ ((relabel scope X.env).names.lookup x = some .cell ∨ (relabel scope X.env).names.lookup x = some .free)
theorem Inv.sameC {pins : List (Addr × Obj)} {σ : St} {H H' : Hp} {s s' : Shared} {h'' : Heap} {fp : List Addr} {C : Addr} (I : Inv X pins σ H s) (hf : ∀ b ∈ fp, FpOk X pins H b) (os : s'.os = s.os) (bare : AllBare s'.gens)
    (un : Un (frs X.stack) fp H H' s.heap s'.heap) (hok : HOk X.prog X.w H' s'.heap) (hC : s.heap.objs.size ≤ C) (hCn : H' C = none) (sb : Heap.SameBut C s'.heap h'') : Inv X pins σ H' { s' with heap := h'' } := by
  have ne : ∀ b o, s.heap.get? b = some o → b ≠ C := fun b o e => Nat.ne_of_lt (Nat.lt_of_lt_of_le (Heap.lt_size e) hC)
  refine I.call' (s' := { s' with heap := h'' }) (ch := fp) os ⟨fun b o e n h1 h2 => (sb.2 b (ne b o e)).trans (un.keep b o e n h1 h2), fun b o e n h1 h2 => ?_, un.free, fun b o e h2 => ?_, un.tups, un.frzs, un.tbls⟩ (fun b u e => ?_) bare (fun b hb => ?_)
  · obtain ⟨sl, z⟩ := un.slot b o e n h1 h2
    exact ⟨sl, (sb.2 b (ne b o e)).trans z⟩
  · obtain ⟨o', z⟩ := un.there b o e h2
    exact ⟨o', (sb.2 b (ne b o e)).trans z⟩
  · refine (hok b u e).stay (fun c v hc q => (sb.2 c ?_).trans q) (fun _ q => q) fun _ _ q => q
    rintro rfl
    rcases hc with rfl | hc
    · rw [hCn] at e; cases e
    · rw [hCn] at hc; cases hc
  · obtain ⟨_, f1, _, f3, f4, f5⟩ := hf b hb
    exact ⟨f3, f1, f4, f5⟩
theorem pe_comp {elt tg iter : Expr} {scope : Scope} {pos : Pos} {cl : List (Str × Addr)} {Nc : List Str} {caps : List (Option Nat)} {wi : TI} {g : TG} {te : TE} (hc : X.calm = true) (cp : Caps X scope cl Nc caps) (hi : PI X tg iter wi)
    (hg : ∀ C s₂ H₂ fp pins, PG (X.block scope cl C Nc s₂ H₂ fp pins) tg g) (he : ∀ C s₂ H₂ fp pins, PE (X.block scope cl C Nc s₂ H₂ fp pins) elt te) (hs : ∀ x, foldedSetIterable iter X.env x = pure x := by intro _; rfl) :
    PE X (.ListComp elt [⟨tg, iter, [], 0⟩] scope pos) (tComp wi caps g te) := by
  intro pins s σ H Q I h
  rw [eval_ListComp]
  refine wpAny_comprehension_free (use := none) rfl hs cp.clos cp.kind cp.names ?_
  refine thn (hi pins s σ H _ I h) fun v s1 h1 => thn h1 fun itv s2 h2 => ?_
  obtain ⟨it, fp, tn, J, H2, e, I2, T, st2, f2, hW⟩ := h2
  subst e
  refine wpAny_newObj_type ?_ (by show 0 ≤ sizeLine; exact Nat.zero_le _)
  refine wpAny_newFunctionEnv cp.nocell (by intro y hy; simp at hy) (fun h4 hns hsb => ?_) cp.kind
  dsimp only at hns hsb ⊢
  generalize hH3 : s2.heap.push { cls := .type "list", dict := none, data := .seq ([] : List Value).toArray } = H3 at hns hsb ⊢
  have hCe : H3.objs.size = s2.heap.objs.size + 1 := by rw [← hH3, Heap.size_push]
  have below : ∀ b o, s2.heap.get? b = some o → b ≠ H3.objs.size := fun b o e => by rw [hCe]; exact Nat.ne_of_lt (Nat.lt_succ_of_lt (Heap.lt_size e))
  have old : ∀ b o, s2.heap.get? b = some o → h4.get? b = some o := fun b o e => hsb.extBut b o (below b o e) (Heap.get?_push_of_some _ (hH3 ▸ Heap.get?_push_of_some _ e))
  have hD : h4.get? s2.heap.objs.size = some { cls := .type "list", dict := none, data := .seq ([] : List Value).toArray } :=
    hsb.extBut _ _ (by rw [hCe]; exact Nat.ne_of_lt (Nat.lt_succ_self _)) (Heap.get?_push_of_some _ (hH3 ▸ Heap.get?_push_size _ rfl))
  have hDn : H2 s2.heap.objs.size = none := I2.fresh
  have hCn : H2 H3.objs.size = none := I2.hok.fresh (by rw [hCe]; exact Nat.le_succ _)
  have hCs : s2.heap.objs.size ≤ H3.objs.size := by rw [hCe]; exact Nat.le_succ _
  have hDC : s2.heap.objs.size ≠ H3.objs.size := by rw [hCe]; exact Nat.ne_of_lt (Nat.lt_succ_self _)
  have fpl : ∀ b ∈ fp, ∃ o, s2.heap.get? b = some o := fun b hb => let ⟨o, e, _⟩ := T.obj _ _ st2 b hb; ⟨o, e⟩
  have fpC : ∀ b ∈ fp, b ≠ H3.objs.size := fun b hb => let ⟨o, e⟩ := fpl b hb; below b o e
  have fpD : ∀ b ∈ fp, b ≠ s2.heap.objs.size := fun b hb => let ⟨o, e⟩ := fpl b hb; Nat.ne_of_lt (Heap.lt_size e)
  have stkN : ∀ b, b ≠ X.env.locals → b ∉ X.fs → b ∉ frs X.stack := fun b h1 h2 z => (List.mem_cons.mp (I2.stkSub b z)).elim h1 h2
  obtain ⟨W, ⟨m0, w0⟩, turn⟩ := hW s2.heap.objs.size hDn
  have okB : (X.block scope cl H3.objs.size Nc s2 H2 fp pins).Ok := by
    refine ⟨I2.ok.mod, ?_, I2.ok.glob, I2.ok.blt, hCs, fun x y c h1 h2 => I2.ok.inj x y c (cp.sub x c h1) (cp.sub y c h2), fun x hx => cp.has x hx, fun x c h => (by cases h), I2.ok.hd, I2.ok.frames, .inl rfl, fun b hb => ⟨fpC b hb, fun x c h => (f2 b hb).2.2.2.2.1 x c (cp.sub x c h)⟩, I2.bs, Nat.le_trans I2.ok.bsz I2.sz, fun b o e hb => ?_, fun b hb => stkN b (f2 b hb).2.1 (f2 b hb).2.2.1, I2.stack, I2.stkFree⟩
    · exact cp.kind
    · rcases (f2 b hb).2.2.2.1 with z | z
      · exact I2.ok.noex b o e z
      · exact absurd (Nat.lt_of_lt_of_le (Heap.lt_size e) (Nat.le_trans I2.ok.bsz z)) (Nat.lt_irrefl _)
  have hokB : HOk X.prog X.w (upd H2 s2.heap.objs.size (.lst [])) h4 := I2.hok.laid old (Nat.le_refl _) ⟨Nat.zero_le _, [], _, .nil, hD⟩
  have IB : Inv (X.block scope cl H3.objs.size Nc s2 H2 fp pins) [] (capSt caps σ) (upd H2 s2.heap.objs.size (.lst [])) { s2 with heap := h4, toks := s2.toks + ([] : List (Str × Value)).length } := by
    refine ⟨okB, rfl, I2.bare, Un.laid old (Nat.le_refl _) hDn, ⟨_, hns, fun i x v e1 e2 e3 => ?_⟩, fun x c e => ?_, (show upd H2 s2.heap.objs.size (.lst []) H3.objs.size = none by rw [upd_ne (Ne.symm hDC)]; exact hCn), fun x c e => ?_, fun p hp => ?_, hokB, ?_⟩
    · unfold capSt at e2
      rw [List.getElem?_map] at e2
      cases hcap : caps[i]? with
      | none => rw [hcap] at e2; cases e2
      | some o =>
        rw [hcap] at e2
        cases o with
        | none => cases e2
        | some j =>
          have hj : σ[j]? = some (some v) := by
            have e2' : (σ[j]?).join = some v := Option.some.inj e2
            cases q : σ[j]? with
            | none => rw [q] at e2'; cases e2'
            | some z => rw [q] at e2'; exact congrArg some e2'
          obtain ⟨n1, n2, n3, n4⟩ := cp.cap i j x hcap e1
          obtain ⟨m, hm, hl⟩ := I2.loc
          obtain ⟨u, r, q⟩ := hl j x v n1 hj n2
          rcases q with ⟨k, _⟩ | ⟨k, c, ec, z⟩
          · exact absurd k n3
          · obtain ⟨c', ec'⟩ := cp.has x n4
            have := cp.sub x c' ec'
            rw [ec] at this; cases this
            obtain ⟨oc, ho, hd⟩ := z
            exact ⟨u, r, .inr ⟨n4, c, ec', oc, old _ _ ho, hd⟩⟩
    · obtain ⟨v, oc, ho, hd⟩ := I2.cell x c (cp.sub x c e)
      exact ⟨v, oc, old _ _ ho, hd⟩
    · obtain ⟨v, oc, ho, hd⟩ := I2.cell x c (cp.sub x c e)
      rw [upd_ne (Nat.ne_of_lt (Heap.lt_size ho))]
      exact I2.freeC x c (cp.sub x c e)
    · have hp' : p ∈ X.pn ++ pins := by simpa using hp
      obtain ⟨e1, e2, e3, e4, e5⟩ := I2.pin p hp'
      exact ⟨old _ _ e1, by rw [upd_ne (Nat.ne_of_lt (Heap.lt_size e1))]; exact e2, below _ _ e1, stkN _ e3 e4, e5⟩
    · show (capSt caps σ).length = Nc.length
      unfold capSt
      rw [List.length_map]; exact cp.len
  have stat : ∀ {H' : Hp}, (∀ b ∈ fp, H' b = none) → ∀ b ∈ fp, FpOk (X.block scope cl H3.objs.size Nc s2 H2 fp pins) [] H' b := fun hn b hb =>
    ⟨hn b hb, fpC b hb, stkN b (f2 b hb).2.1 (f2 b hb).2.2.1, .inl hb, fun x c h => (f2 b hb).2.2.2.2.1 x c (cp.sub x c h), fun p hp => (f2 b hb).2.2.2.2.2 p (by simpa using hp)⟩
  have loop : ∀ s5 : Shared, s5 = { s2 with heap := h4, toks := s2.toks + ([] : List (Str × Value)).length } →
      codeAny (model X.prog X.w) X.A (.compLoop (.ListComp elt [⟨tg, iter, [], 0⟩] scope pos) 0 (.ref it) (.ref s2.heap.objs.size) (compEnvC scope cl H3.objs.size X.env))
        (compPost (model X.prog X.w) X.A X.xe none (EP X pins σ Q) (.ref s2.heap.objs.size) H3.objs.size) s5 := by
    rintro s5 rfl
    refine comp_loop (fun n s' => ∃ i σ' H', Inv (X.block scope cl H3.objs.size Nc s2 H2 fp pins) [] σ' H' s' ∧ tn i s'.heap ∧ (∀ b ∈ fp, H' b = none) ∧ W i n σ' H') ?_ m0 ⟨0, _, _, IB, T.keep _ _ _ st2 fun b hb o e => old b o e, fun b hb => by rw [upd_ne (fpD b hb)]; exact (f2 b hb).1, w0⟩
    rintro n s6 ⟨i, σ6, H6, I6, st6, fr6, w6⟩
    rcases turn i n σ6 H6 w6 with ⟨stop, qn⟩ | ⟨go, step⟩
    · refine thn (T.done (X.block scope cl H3.objs.size Nc s2 H2 fp pins) rfl rfl rfl hc i [] s6 σ6 H6 _ I6 (stat fr6) st6 stop) fun r s7 ⟨hr, I7⟩ => ?_
      subst hr
      obtain ⟨m7, hn7, _⟩ := id I7.loc
      exact ⟨m7, hn7, fun h' sb => ⟨.ref s2.heap.objs.size, H6, I2.sameC f2 I7.os I7.bare I7.base I7.hok hCs I7.free sb, rfl, qn⟩⟩
    · refine thn (T.item (X.block scope cl H3.objs.size Nc s2 H2 fp pins) rfl rfl rfl hc i [] s6 σ6 H6 _ I6 (stat fr6) st6 go) fun r s7 ⟨u, hr, h7⟩ => ?_
      subst hr
      refine thn h7 fun _ s8 ⟨x, H8, I8, r8, y8, st8, fr8⟩ => ?_
      have I8' := I8.pinned (stat fr8) (T.obj _ _ st8)
      refine thn (hg _ _ _ _ _ _ s8 σ6 H8 x u _ I8' r8 (step x H8 y8)) fun _ s9 ⟨σ9, H9, I9, q9⟩ => ?_
      refine thn (he _ _ _ _ _ _ s9 σ9 H9 _ I9 q9) fun u10 s10 ⟨v10, H10, I10, r10, ys, hys, hlen, m', hm', w'⟩ => ?_
      refine thn (mt_append _ s10 σ9 H10 (.ref s2.heap.objs.size) [v10] (.ref s2.heap.objs.size) [u10] (fun _ H11 => H11 = upd H10 s2.heap.objs.size (.lst (ys ++ [v10]))) I10 rfl (.cons r10 .nil) ⟨_, ys, v10, rfl, rfl, hys, hlen, rfl⟩) fun _ s11 ⟨_, H11, I11, _, hH11⟩ => ?_
      subst hH11
      refine ⟨m', hm', i + 1, σ9, _, I11.unpinned, T.keep _ _ _ st8 fun b hb o e => (I11.pin (b, o) (List.mem_append_right _ (List.mem_append_right _ (mem_pinsAt hb e)))).1, fun b hb => ?_, w'⟩
      obtain ⟨o, e, d⟩ := T.obj _ _ st8 b hb
      exact (I11.pin (b, o) (List.mem_append_right _ (List.mem_append_right _ (mem_pinsAt hb e)))).2.1
  exact codeAny_compStart_list (loop _ rfl) (T.self _ 0 _ _ _ (T.keep _ _ _ st2 fun b hb o e => old b o e) (loop _ rfl))
end
end L2

set_option maxRecDepth 100000
namespace L2
open PySem PySem.Spec PyProof.Rows
def relabelS (scope osc : Scope) : List (Str × NameKind) := scope.names.map fun (n, k) => if (k == .free && osc.kind == .function && osc.names.lookup n == some .cell) then (n, .cell) else (n, k)
def isCF (o : Option NameKind) : Bool := o == some .cell || o == some .free
/-- the checks: names that are cells have their cell among the keys; each captured name stands at its slot, is no local of the def, and is a cell of the block -/
def capsOk (scope osc : Scope) (N ks Nc : List Str) (caps : List (Option Nat)) : Bool :=
  ((relabelS scope osc).all fun y => !(y.2 == .cell || y.2 == .free) || ks.contains y.1) && (scope.names.all fun y => y.2 != .cell) && scope.kind == .function &&
  (scope.names.all fun y => y.2 != .local || scope.names.lookup y.1 == some .local) && caps.length == Nc.length &&
  ((caps.zip Nc).all fun p => match p.1 with
    | none => true
    | some j => N[j]? == some p.2 && isCF (osc.names.lookup p.2) && isCF ((relabelS scope osc).lookup p.2))
theorem lookup_mem {α β : Type} [BEq α] [LawfulBEq α] : ∀ {l : List (α × β)} {x : α} {v : β}, l.lookup x = some v → (x, v) ∈ l
  | [], _, _, h => by simp at h
  | (a, b) :: r, x, v, h => by
    rw [List.lookup_cons] at h
    split at h
    · rename_i e
      have := eq_of_beq e
      subst this
      cases h
      exact List.mem_cons_self
    · exact List.mem_cons_of_mem _ (lookup_mem h)
theorem lookup_of_key {β : Type} : ∀ {l : List (Str × β)} {x : Str}, x ∈ l.map (·.1) → ∃ c, l.lookup x = some c
  | [], _, h => by simp at h
  | (a, b) :: r, x, h => by
    rw [List.lookup_cons]
    by_cases e : x = a
    · subst e; exact ⟨b, by simp⟩
    · have : (x == a) = false := by simpa using e
      rw [this]
      rcases List.mem_cons.mp h with z | z
      · exact absurd z e
      · exact lookup_of_key z
theorem isCF_or {o : Option NameKind} (h : isCF o = true) : o = some .cell ∨ o = some .free := by
  unfold isCF at h
  simp only [Bool.or_eq_true, beq_iff_eq] at h
  exact h
theorem Caps.of {X : Cx} {scope osc : Scope} {cl : List (Str × Addr)} {N ks Nc : List Str} {caps : List (Option Nat)} (clos : closureFor scope X.env = pure cl) (hN : X.N = N) (hosc : X.env.scope = osc) (hks : cl.map (·.1) = ks)
    (sub : ∀ x c, cl.lookup x = some c → X.env.cells.lookup x = some c) (ok : capsOk scope osc N ks Nc caps = true) : Caps X scope cl Nc caps := by
  unfold capsOk at ok
  simp only [Bool.and_eq_true, List.all_eq_true, beq_iff_eq, Bool.or_eq_true, Bool.not_eq_true', bne_iff_ne, ne_eq] at ok
  obtain ⟨⟨⟨⟨⟨o1, o2⟩, o3⟩, o4⟩, o5⟩, o6⟩ := ok
  have er : (relabel scope X.env).names = relabelS scope osc := by subst hosc; rfl
  have kof : ∀ x, X.env.kindOf x = osc.names.lookup x := fun x => by subst hosc; rfl
  refine ⟨clos, sub, fun x h => ?_, fun x hx => o2 x hx, o3, fun x hx hl => ?_, o5, fun i j x h1 h2 => ?_⟩
  · rw [er] at h
    refine lookup_of_key ?_
    rw [hks]
    have key : ∀ k, (relabelS scope osc).lookup x = some k → (k = .cell ∨ k = .free) → x ∈ ks := fun k hk hcf => by
      rcases o1 (x, k) (lookup_mem hk) with z | z
      · rcases hcf with rfl | rfl <;> simp at z
      · simpa using z
    rcases h with h | h
    · exact key _ h (.inl rfl)
    · exact key _ h (.inr rfl)
  · rcases o4 x hx with z | z
    · exact absurd hl z
    · exact z
  · have hm : (some j, x) ∈ caps.zip Nc := by
      have : (caps.zip Nc)[i]? = some (some j, x) := by
        rw [List.getElem?_zip_eq_some]; exact ⟨h1, h2⟩
      exact List.mem_of_getElem? this
    have z := o6 _ hm
    simp only [Bool.and_eq_true, beq_iff_eq] at z
    obtain ⟨⟨z1, z2⟩, z3⟩ := z
    have c2 := isCF_or z2
    have c3 := isCF_or z3
    refine ⟨by rw [hN]; exact z1, ?_, ?_, ?_⟩
    · rw [hosc]
      rcases c2 with c | c
      · exact .inr (.inl c)
      · exact .inr (.inr c)
    · rw [kof]
      rcases c2 with c | c <;> rw [c] <;> decide
    · rw [er]; exact c3
end L2

set_option maxRecDepth 100000
namespace L2
open PySem PySem.Spec PyProof.Rows

section
variable {X : Cx} {pins : List (Addr × Obj)} {σ : St} {H : Hp} {s : Shared}
end

section
variable {X : Cx}
end

section
variable {prog : Program} {w : World} {A : Around} {R : Result → Shared → Prop} {s : Shared}
end
def tCompIf (wi : TI) (caps : List (Option Nat)) (g : TG) (tt : TT) (te : TE) : TE := fun σ H Q => wi σ H fun J H1 => ∀ D, H1 D = none → ∃ W : Nat → Nat → St → Hp → Prop, (∃ m, W 0 m (capSt caps σ) (upd H1 D (.lst []))) ∧
  ∀ i m σc H2, W i m σc H2 → (J.stop i H2 ∧ Q (.ref D) H2) ∨
    (J.go i H2 ∧ ∀ x H3, J.yld i H2 x H3 → g x σc H3 fun σ4 H4 => tt σ4 H4 fun b H4' => if b = true then te σ4 H4' fun y H5 => ∃ ys, H5 D = some (.lst ys) ∧ ys.length < sizeLine ∧ ∃ m', m' < m ∧ W (i + 1) m' σ4 (upd H5 D (.lst (ys ++ [y])))
      else ∃ m', m' < m ∧ W (i + 1) m' σ4 H4')
section
variable {X : Cx}
end
end L2

set_option maxRecDepth 100000
namespace L2
open PySem PySem.Spec PyProof.Rows
section
variable {X : Cx}
theorem all_range_get (bs : List Bool) : (List.range bs.length).all (fun i => (bs[i]?).getD true) = bs.all id := by
  induction bs with
  | nil => rfl
  | cons b bs ih =>
    rw [List.length_cons, all_range_succ, List.all_cons, ← ih]
    rfl
theorem call_all (hc : X.calm = true) : CallR X (.builtin "all") (fun xs H Q => ∃ (p : Addr) (bs : List Bool), xs = [.ref p] ∧ SqL X.K H p (bs.map V.bl) ∧ Q (.bl (bs.all id)) H) := by
  intro pins s σ H xs us Q I r h
  obtain ⟨p, bs, rfl, hq, q⟩ := h
  obtain ⟨u, rfl, rx⟩ := vals1 r
  cases rx
  obtain ⟨its, r', pl, hz⟩ := I.list hq
  have hlen : its.length = bs.length := by rw [← r'.length, List.length_map]
  have hp : p ≠ s.heap.objs.size := by
    obtain ⟨o, ho, _⟩ := pl.isList
    exact Nat.ne_of_lt (Heap.lt_size ho)
  refine call_all_walk (wpAny_pyIter_list pl.isList ?_)
  refine ⟨s.heap.objs.size, _, _, _, _, _, fun i => (bs[i]?).getD true, rfl, Walks.list (A := X.A.in1) (I.ok.hd hc) _ p hp its.toArray, ⟨⟨_, Heap.get?_push_size _ rfl, rfl, rfl⟩, pl.isList.at fun o e => Heap.get?_push_of_some _ e⟩, ?_, ?_⟩
  · intro i v s' Q' E' hv hQ
    have hv' : its[i]? = some v := by simpa using hv
    have hi : i < bs.length := by rw [← hlen]; exact (List.getElem?_eq_some_iff.mp hv').1
    obtain ⟨u, hu, ru⟩ := r'.get (i := i) (x := .bl bs[i]) (by rw [List.getElem?_map, List.getElem?_eq_getElem hi]; rfl)
    rw [hv'] at hu
    cases hu
    cases ru
    simp only [List.getElem?_eq_getElem hi] at hQ
    exact wpAny_truthy_bool hQ
  · intro h' tk kk
    have e : (List.range its.toArray.size).all (fun i => (bs[i]?).getD true) = bs.all id := by rw [List.size_toArray, hlen, all_range_get]
    rw [e]
    refine ⟨.bl _, H, I.kept (t' := tk) fun b o e => kk b o ?_ (Heap.get?_push_of_some _ e), rfl, q⟩
    intro z
    have : b = s.heap.objs.size := by simpa using z
    exact absurd (Heap.lt_size e) (by rw [this]; exact Nat.lt_irrefl _)

def rNeD (K : PySem.W.Frag) : R2 := fun x y H Q => ∃ d d', d.isV = false ∧ IsD K H x d ∧ IsD K H y d' ∧ okD d d' = true ∧ dpD d ≤ 60 ∧ Q (.bl (!eqD d d')) H
theorem op_neD (hu : X.A.units + 64 < cLine) : OpR X (compareOp .NotEq) (rNeD X.K) := by
  intro pins s σ H x y v u Q I rx ry h
  obtain ⟨d, d', nf, h1, h2, ok, dp, q⟩ := h
  have fin : EP X pins σ Q (.bool (!eqD d d')) s := ⟨.bl _, H, I, rfl, q⟩
  cases h1 with
  | v f =>
    cases h2 with
    | v f' => exact absurd (show true = false from nf) (by decide)
    | tup _ _ => simp [okD] at ok
    | lst _ _ => simp [okD] at ok
  | @tup p xs ds h t =>
    cases h2 with
    | v f' => simp [okD] at ok
    | @tup p' ys ds' h' t' =>
      cases (show v = Value.ref p from rx)
      cases (show u = Value.ref p' from ry)
      rw [okD] at ok
      rw [dpD] at dp
      rw [eqD] at fin
      obtain ⟨its, r1, i1, _⟩ := I.tuple h
      obtain ⟨its', r2, i2, _⟩ := I.tuple h'
      have q' : ∀ (j : Nat) (h1 : j < its.length) (h2 : j < its'.length), SeqAt.EqAt X.A.in1 s its[j] its'[j] (eqAtI ds ds' j) := fun j h1 h2 => eqAts_D (A := X.A.in1) I t t' ok r1 r2 (by show X.A.units + 1 + _ < _; omega) j h1 h2
      have z := SeqAt.RcNeAt.tuples (A := X.A) (items := its.toArray) (items2 := its'.toArray) (e := eqAtI ds ds') i1 i2 (by omega) (fun j h1 h2 => q' j (by simpa using h1) (by simpa using h2))
      have e1 : its.toArray.size = ds.length := by rw [List.size_toArray, ← r1.length, t.length]
      have e2 : its'.toArray.size = ds'.length := by rw [List.size_toArray, ← r2.length, t'.length]
      rw [e1, e2, all_eqAtI] at z
      exact PySem.EqBoolInt.of_rcne z fin
    | lst _ _ => simp [okD] at ok
  | @lst p xs ds h t =>
    cases h2 with
    | v f' => simp [okD] at ok
    | tup _ _ => simp [okD] at ok
    | @lst p' ys ds' h' t' =>
      cases (show v = Value.ref p from rx)
      cases (show u = Value.ref p' from ry)
      rw [okD] at ok
      rw [dpD] at dp
      rw [eqD] at fin
      obtain ⟨its, r1, i1, _⟩ := I.list h
      obtain ⟨its', r2, i2, _⟩ := I.list h'
      have q' : ∀ (j : Nat) (h1 : j < its.length) (h2 : j < its'.length), SeqAt.EqAt X.A.in1 s its[j] its'[j] (eqAtI ds ds' j) := fun j h1 h2 => eqAts_D (A := X.A.in1) I t t' ok r1 r2 (by show X.A.units + 1 + _ < _; omega) j h1 h2
      have e1 : its.toArray.size = ds.length := by rw [List.size_toArray, ← r1.length, t.length]
      have e2 : its'.toArray.size = ds'.length := by rw [List.size_toArray, ← r2.length, t'.length]
      by_cases hl : ds.length = ds'.length
      · have z := SeqAt.RcNeAt.lists (A := X.A) (items := its.toArray) (items2 := its'.toArray) (e := eqAtI ds ds') i1.isList i2.isList (by rw [e1, e2, hl]) (by omega) (fun j h1 h2 => q' j (by simpa using h1) (by simpa using h2))
        rw [e1, all_eqAtI_len ds ds' hl] at z
        exact PySem.EqBoolInt.of_rcne z fin
      · rw [eqDs_len ds ds' hl] at fin
        exact PySem.EqBoolInt.of_rcne (SeqAt.RcNeAt.lists_lengths (A := X.A) i1.isList i2.isList (by rw [e1, e2]; simpa using hl) (by omega)) fin

def pickV (xs : List V) (lo hi st : Option Int) : List V :=
  (sliceRange (sliceBounds lo hi st xs.length).1 (sliceBounds lo hi st xs.length).2.1 (sliceBounds lo hi st xs.length).2.2).filterMap (xs[·]?)
theorem Vals.picks {xs : List V} {us : List Value} (r : Vals xs us) : ∀ ks : List Nat, Vals (ks.filterMap (xs[·]?)) (ks.filterMap (us[·]?))
  | [] => .nil
  | k :: ks => by
    rw [List.filterMap_cons, List.filterMap_cons]
    cases h : xs[k]? with
    | none => rw [r.none_of h]; exact r.picks ks
    | some x =>
      obtain ⟨u, hu, ru⟩ := r.get h
      rw [hu]
      exact .cons ru (r.picks ks)
def tSl3 (K : PySem.W.Frag) (te : TE) (tl th tk : TO) : TE := fun σ H Q => te σ H fun x H1 => tl σ H1 fun l H2 => th σ H2 fun u H3 => tk σ H3 fun k H4 =>
  ∃ a xs, x = .ref a ∧ SqL K H4 a xs ∧ k ≠ some 0 ∧ ∀ p, H4 p = none → Q (.ref p) (upd H4 p (.lst (pickV xs l u k)))
theorem pe_slice3 {e : Expr} {te : TE} {lo hi : Option Expr} {st : Expr} {tl th tk : TO} {pos p2 : Pos} (he : PE X e te) (hl : PO X lo tl) (hu : PO X hi th) (hk : PO X (some st) tk) : PE X (.Subscript e (.Slice lo hi (some st) p2) pos) (tSl3 X.K te tl th tk) := by
  intro pins s σ H Q I h
  refine Subscript_ (thn (he pins s σ H _ I h) fun v s1 ⟨x, H1, I1, r1, q1⟩ => ?_)
  refine wpAny_Slice (thn (hl pins s1 σ H1 _ I1 q1) fun vl s2 ⟨l, H2, I2, pl, q2⟩ => thn (hu pins s2 σ H2 _ I2 q2) fun vu s3 ⟨u, H3, I3, pu, q3⟩ => thn (hk pins s3 σ H3 _ I3 q3) fun vk s4 ⟨k, H4, I4, pk, q4⟩ => ?_)
  obtain ⟨a, xs, rfl, hq, h0, q⟩ := q4
  cases r1
  have I5 : Inv X pins σ H4 { s4 with heap := s4.heap.push { cls := .type "slice", data := .fields #[vl, vu, vk] } } := I4.kept (t' := s4.toks) fun b ob q => Heap.get?_push_of_some _ q
  obtain ⟨its, r, ht, hz⟩ := I5.list hq
  have hlen := r.length
  show wpAny (model X.prog X.w) X.A (subscriptTail e (.Slice lo hi (some st) p2) (.ref a) (.ref s4.heap.objs.size)) (EP X pins σ Q) X.xe { s4 with heap := s4.heap.push { cls := .type "slice", data := .fields #[vl, vu, vk] } }
  refine tail_any (ops := [.ref a, .ref s4.heap.objs.size]) (s := { s4 with heap := s4.heap.push { cls := .type "slice", data := .fields #[vl, vu, vk] } }) (T := "list") ht.isList.typeIs slot_list_getitem.lookup ?_ (by with_unfolding_all rfl)
  refine wpAny_getItem_list_slice ht.isList (Heap.IsSliceOf.new ..) pl pu pk h0 ?_ (by rw [List.size_toArray] <;> omega)
  have ep : (slicePick its.toArray l u k) = ((sliceRange (sliceBounds l u k xs.length).1 (sliceBounds l u k xs.length).2.1 (sliceBounds l u k xs.length).2.2).filterMap (its[·]?)).toArray := by
    unfold slicePick
    rw [List.size_toArray, ← hlen]
    simp
  rw [ep]
  have hv : Vals (pickV xs l u k) ((sliceRange (sliceBounds l u k xs.length).1 (sliceBounds l u k xs.length).2.1 (sliceBounds l u k xs.length).2.2).filterMap (its[·]?)) := Vals.picks r _
  have hsz := slicePick_size_le its.toArray l u k
  rw [ep, List.size_toArray, List.size_toArray, ← hv.length] at hsz
  refine ⟨.ref _, _, I5.laid (t' := s4.toks) (o := .lst (pickV xs l u k)) (fun b ob q => Heap.get?_push_of_some _ q) (Nat.le_refl _) ?_, rfl, q _ (I5.hok.fresh (Nat.le_refl _))⟩
  exact ⟨by omega, _, 0, hv, Heap.get?_push_size _ rfl⟩
end
def CompN (D : Addr) (n : Nat) (Pv : Nat → St → Hp → Prop) (i : Nat) (σ4 : St) (y : V) (H5 : Hp) : Prop :=
  ∃ ys, H5 D = some (.lst ys) ∧ ys.length < sizeLine ∧ ∃ m', m' < n - i ∧ (m' = n - (i + 1) ∧ i + 1 ≤ n ∧ Pv (i + 1) σ4 (upd H5 D (.lst (ys ++ [y]))))
theorem CompN.mk {D : Addr} {n : Nat} {Pv : Nat → St → Hp → Prop} {i : Nat} {σ4 : St} {y : V} {H5 : Hp} {ys : List V} (hi : i < n) (h : H5 D = some (.lst ys)) (hl : ys.length < sizeLine) (p : Pv (i + 1) σ4 (upd H5 D (.lst (ys ++ [y])))) : CompN D n Pv i σ4 y H5 :=
  ⟨ys, h, hl, _, by omega, rfl, hi, p⟩
section
variable {K : PySem.W.Frag} {a D : Addr} {xs : List V} {g : TG} {te : TE} {σ0 : St} {H0 : Hp} {Q : VK}
theorem comp_list (Pv : Nat → St → Hp → Prop) (h0 : Pv 0 σ0 H0) (hl : ∀ i σ H, i ≤ xs.length → Pv i σ H → SqL K H a xs)
    (hs : ∀ i x σ H, xs[i]? = some x → Pv i σ H → g x σ H fun σ4 H4 => te σ4 H4 fun y H5 => CompN D xs.length Pv i σ4 y H5) (hd : ∀ σ H, Pv xs.length σ H → Q (.ref D) H) :
    ∃ W : Nat → Nat → St → Hp → Prop, (∃ m, W 0 m σ0 H0) ∧ ∀ i m σc H2, W i m σc H2 → ((Itl K a).stop i H2 ∧ Q (.ref D) H2) ∨
      ((Itl K a).go i H2 ∧ ∀ x H3, (Itl K a).yld i H2 x H3 → g x σc H3 fun σ4 H4 => te σ4 H4 fun y H5 => ∃ ys, H5 D = some (.lst ys) ∧ ys.length < sizeLine ∧ ∃ m', m' < m ∧ W (i + 1) m' σ4 (upd H5 D (.lst (ys ++ [y])))) := by
  refine ⟨fun i m σ H => m = xs.length - i ∧ i ≤ xs.length ∧ Pv i σ H, ⟨xs.length, by simp, Nat.zero_le _, h0⟩, ?_⟩
  rintro i m σ H ⟨rfl, hi, p⟩
  have q := hl i σ H hi p
  by_cases hlt : i < xs.length
  · refine .inr ⟨⟨xs, xs[i], q, List.getElem?_eq_getElem hlt⟩, ?_⟩
    rintro x H3 ⟨rfl, hx⟩
    exact hs i x σ _ (hx xs q) p
  · have e : i = xs.length := by omega
    subst e
    exact .inl ⟨⟨xs, q, Nat.le_refl _⟩, hd σ H p⟩
theorem comp_range {lo : Int} {n : Nat} (Pv : Nat → St → Hp → Prop) (h0 : Pv 0 σ0 H0)
    (hs : ∀ i σ H, i < n → Pv i σ H → g (.int (lo + i)) σ H fun σ4 H4 => te σ4 H4 fun y H5 => CompN D n Pv i σ4 y H5) (hd : ∀ σ H, Pv n σ H → Q (.ref D) H) :
    ∃ W : Nat → Nat → St → Hp → Prop, (∃ m, W 0 m σ0 H0) ∧ ∀ i m σc H2, W i m σc H2 → ((Itr lo n).stop i H2 ∧ Q (.ref D) H2) ∨
      ((Itr lo n).go i H2 ∧ ∀ x H3, (Itr lo n).yld i H2 x H3 → g x σc H3 fun σ4 H4 => te σ4 H4 fun y H5 => ∃ ys, H5 D = some (.lst ys) ∧ ys.length < sizeLine ∧ ∃ m', m' < m ∧ W (i + 1) m' σ4 (upd H5 D (.lst (ys ++ [y])))) := by
  refine ⟨fun i m σ H => m = n - i ∧ i ≤ n ∧ Pv i σ H, ⟨n, by simp, Nat.zero_le _, h0⟩, ?_⟩
  rintro i m σ H ⟨rfl, hi, p⟩
  by_cases hlt : i < n
  · refine .inr ⟨hlt, ?_⟩
    rintro x H3 ⟨rfl, rfl⟩
    exact hs i σ _ hlt p
  · have e : i = n := by omega
    subst e
    exact .inl ⟨Nat.le_refl _, hd σ H p⟩
end
end L2

namespace R
theorem num_den_of {n d : Int} (hd : 0 < d) (hc : Int.gcd n d = 1) : (Rat.divInt n d).num = n ∧ ((Rat.divInt n d).den : Int) = d := by
  obtain ⟨k, rfl⟩ : ∃ k : Nat, d = k := ⟨d.toNat, by omega⟩
  have hk : k ≠ 0 := by omega
  have hc' : n.natAbs.Coprime k := by
    rw [Int.gcd_eq_natAbs_gcd_natAbs] at hc
    simpa [Nat.Coprime] using hc
  have e : (⟨n, k, hk, hc'⟩ : Rat) = Rat.divInt n k := Rat.mk_eq_divInt
  rw [← e]
  exact ⟨rfl, rfl⟩
/-- what stands over what -/
theorem eq_of_divInt {n d t b : Int} (hd : 0 < d) (hc : Int.gcd n d = 1) (hb : b ≠ 0) (h : n * b = t * d) : n = (Rat.divInt t b).num ∧ d = ((Rat.divInt t b).den : Int) := by
  have e : Rat.divInt n d = Rat.divInt t b := (Rat.divInt_eq_divInt_iff (by omega) hb).mpr h
  obtain ⟨h1, h2⟩ := num_den_of hd hc
  rw [e] at h1 h2
  exact ⟨h1.symm, h2.symm⟩
theorem fdiv_of_mul {g n : Int} (hg : g ≠ 0) : (g * n).fdiv g = n := by
  rw [Int.mul_comm]; exact Int.mul_fdiv_cancel n hg
theorem gcd_pos {t b : Int} (hb : b ≠ 0) : 0 < Int.gcd t b := Int.gcd_pos_of_ne_zero_right t hb
theorem coprime_parts {t b n d : Int} (hb : b ≠ 0) (h1 : t = (Int.gcd t b : Int) * n) (h2 : b = (Int.gcd t b : Int) * d) : Int.gcd n d = 1 := by
  have hg := gcd_pos (t := t) hb
  have e : Int.gcd ((Int.gcd t b : Int) * n) ((Int.gcd t b : Int) * d) = Int.gcd t b * Int.gcd n d := by
    rw [Int.gcd_mul_left]; simp
  rw [← h1, ← h2] at e
  exact Nat.eq_of_mul_eq_mul_left hg (by rw [← e, Nat.mul_one])
/-- lowest terms: over the common divisor, its sign that of the bottom -/
theorem low_eq {t b g : Int} (hb : b ≠ 0) (hg : g = if b < 0 then -(Int.gcd t b : Int) else (Int.gcd t b : Int)) : t.fdiv g = (Rat.divInt t b).num ∧ b.fdiv g = ((Rat.divInt t b).den : Int) := by
  have hp : (0 : Int) < Int.gcd t b := by have := gcd_pos (t := t) hb; omega
  obtain ⟨n, hn⟩ := Int.gcd_dvd_left t b
  obtain ⟨d, hd⟩ := Int.gcd_dvd_right t b
  have hc := coprime_parts hb hn hd
  by_cases hs : b < 0
  · rw [if_pos hs] at hg
    subst hg
    have hg0 : (-(Int.gcd t b : Int)) ≠ 0 := by omega
    have e1 : t = -(Int.gcd t b : Int) * (-n) := by rw [Int.neg_mul_neg]; exact hn
    have e2 : b = -(Int.gcd t b : Int) * (-d) := by rw [Int.neg_mul_neg]; exact hd
    have f1 : t.fdiv (-(Int.gcd t b : Int)) = -n := by conv => lhs; arg 1; rw [e1]
                                                       exact fdiv_of_mul hg0
    have f2 : b.fdiv (-(Int.gcd t b : Int)) = -d := by conv => lhs; arg 1; rw [e2]
                                                       exact fdiv_of_mul hg0
    rw [f1, f2]
    have hd0 : 0 < -d := by
      rcases Int.lt_or_le d 0 with z | z
      · omega
      · have := Int.mul_nonneg (Int.le_of_lt hp) z; omega
    refine eq_of_divInt hd0 (by rw [Int.gcd_neg, Int.neg_gcd]; exact hc) hb ?_
    conv => lhs; rw [hd]
    conv => rhs; rw [hn]
    generalize (Int.gcd t b : Int) = g
    grind
  · rw [if_neg hs] at hg
    subst hg
    have hg0 : ((Int.gcd t b : Int)) ≠ 0 := by omega
    have f1 : t.fdiv (Int.gcd t b : Int) = n := by conv => lhs; arg 1; rw [hn]
                                                   exact fdiv_of_mul hg0
    have f2 : b.fdiv (Int.gcd t b : Int) = d := by conv => lhs; arg 1; rw [hd]
                                                   exact fdiv_of_mul hg0
    rw [f1, f2]
    have hd0 : 0 < d := by
      rcases Int.lt_or_le 0 d with z | z
      · exact z
      · have := Int.mul_nonneg (Int.le_of_lt hp) (show 0 ≤ -d by omega); rw [Int.mul_neg] at this; omega
    refine eq_of_divInt hd0 hc hb ?_
    conv => lhs; rw [hd]
    conv => rhs; rw [hn]
    generalize (Int.gcd t b : Int) = g
    grind
theorem rat_den_pos (q : Rat) : (0 : Int) < q.den := by have := q.den_nz; omega
/-- the greatest common divisor by Euclid's way with Python's rest -/
theorem gcd_fmod (a b : Int) : Int.gcd b (a.fmod b) = Int.gcd a b := by
  have e := Int.mul_fdiv_add_fmod a b
  rw [Int.gcd_comm a b]
  conv => rhs; rw [← e]
  rw [show b * a.fdiv b + a.fmod b = a.fmod b + a.fdiv b * b by rw [Int.mul_comm, Int.add_comm]]
  simp
theorem natAbs_fmod_lt (a : Int) {b : Int} (hb : b ≠ 0) : (a.fmod b).natAbs < b.natAbs := by
  rcases Int.lt_or_le b 0 with h | h
  · have e := Int.neg_fmod_neg a b
    have h1 := Int.fmod_nonneg_of_pos (-a) (show 0 < -b by omega)
    have h2 := Int.fmod_lt_of_pos (-a) (show 0 < -b by omega)
    omega
  · have h1 := Int.fmod_nonneg_of_pos a (show 0 < b by omega)
    have h2 := Int.fmod_lt_of_pos a (show 0 < b by omega)
    omega
end R

set_option maxRecDepth 100000
namespace R
open PySem L2 PyProof.Rows
section
variable {P : Program} {w : World} {K : PySem.W.Frag} {mg : Str → Option Value} {base : Heap}
theorem intBits_lt {a : Int} {m : Nat} (h : a.natAbs < 2 ^ m) : Builtin.Int.intBits a ≤ m := by
  unfold Builtin.Int.intBits
  split
  · exact Nat.zero_le _
  · rename_i hz
    have h0 : a.natAbs ≠ 0 := by
      intro z
      have : a = 0 := by omega
      simp [this] at hz
    have := (Nat.log2_lt h0).mpr h
    omega
theorem divOk {j : Int} (h0 : j ≠ 0) (h : j.natAbs < 2 ^ 9000) : CDivB i j := ⟨h0, (Nat.log2_lt (by omega)).mpr h⟩
theorem pow_le_pow2 {m n : Nat} (h : m ≤ n) : 2 ^ m ≤ 2 ^ n := Nat.pow_le_pow_right (by decide) h
theorem lt_up {a : Nat} {m n : Nat} (h : a < 2 ^ m) (hm : m ≤ n := by decide) : a < 2 ^ n := Nat.lt_of_lt_of_le h (pow_le_pow2 hm)
def numV (q : Rat) : List V := [.int q.num, .int (q.den : Int)]
structure Bd (q : Rat) : Prop where
  n : q.num.natAbs < 2 ^ 3000
  d : q.den < 2 ^ 3000
def Num (K : PySem.W.Frag) (H : Hp) (v : V) (q : Rat) : Prop := ∃ p, v = .ref p ∧ SqT K H p (numV q)
def NumRes (H : Hp) (Q : VK) (q : Rat) : Prop := ∀ r H', Same H H' → H' r = some (.tup (numV q)) → Q (.ref r) H'
theorem small2 : (2 : Nat) ≤ sizeLine := by decide
theorem small1 : (1 : Nat) ≤ sizeLine := by decide
theorem gcd_lt {a b : Int} {n : Nat} (hb : b ≠ 0) (h : b.natAbs < n) : ((Int.gcd a b : Nat) : Int).natAbs < n := by
  have h1 : Int.gcd a b ∣ b.natAbs := by
    have := Int.natAbs_dvd_natAbs.mpr (Int.gcd_dvd_right a b)
    simpa using this
  have h2 := Nat.le_of_dvd (by omega) h1
  simp only [Int.natAbs_natCast]
  omega
theorem num_zero {q : Rat} : q.num = 0 ↔ q = 0 := by
  constructor
  · intro h; exact Rat.num_eq_zero.mp h
  · intro h; rw [h]; rfl
theorem at0 (q : Rat) : atI (numV q) 0 = some (.int q.num) := rfl
theorem at1 (q : Rat) : atI (numV q) 1 = some (.int (q.den : Int)) := rfl
theorem mulS {a b : Int} (h : a.natAbs < 2 ^ 64) : IntMulOk a b := IntMulOk.of_left (intBits_lt h)
theorem mulS' {a b : Int} (h : b.natAbs < 2 ^ 64) : IntMulOk a b := IntMulOk.of_right (intBits_lt h)
def spLow : Sp := fun vs H Q _ => ∃ t b : Int, vs = [.int t, .int b] ∧ b ≠ 0 ∧ b.natAbs < 2 ^ 6000 ∧ NumRes H Q (Rat.divInt t b)
def UrnAt (H : Hp) (u : Addr) : Prop := ∃ g m p : Int, H u = some (.lst [.int g, .int m, .int p]) ∧ 0 ≤ g ∧ 0 ≤ m ∧ m < 2 ^ 40 ∧ 0 < p ∧ p < 2 ^ 40
def SameX (u : Addr) (H H' : Hp) : Prop := ∀ b o, H b = some o → b ≠ u → H' b = some o
theorem Same.x {H H' : Hp} (s : Same H H') (u : Addr) : SameX u H H' := fun b o h _ => s b o h
theorem SameX.trans {u : Addr} {H H1 H2 : Hp} (a : SameX u H H1) (b : SameX u H1 H2) : SameX u H H2 := fun c o h n => b c o (a c o h n) n
theorem SameX.upd (u : Addr) (H : Hp) (o : HO) : SameX u H (upd H u o) := fun b p h n => by rw [upd_ne n]; exact h
theorem Same.urn {H H' : Hp} {u : Addr} (s : Same H H') (h : UrnAt H u) : UrnAt H' u := let ⟨g, m, p, h1, r⟩ := h; ⟨g, m, p, s _ _ h1, r⟩
def spUrn (K : PySem.W.Frag) : Sp := fun vs H Q _ => ∃ (a : Addr) (ns : List Int) (k : Int), vs = [.ref a, .int k] ∧ SqL K H a (ns.map V.int) ∧ 0 ≤ k ∧ k < 64 ∧ ∀ r H', Same H H' → H r = none → UrnAt H' r → Q (.ref r) H'
def primes : List V := [.int 1899999979, .int 1899998977, .int 1899997949, .int 1899996929, .int 1899995927, .int 1899994903, .int 1899993877, .int 1899992839]
theorem prime_at {k : Int} (h0 : 0 ≤ k) : ∃ p : Int, atI primes (k.fmod 8) = some (.int p) ∧ 1899992839 ≤ p ∧ p ≤ 1899999979 := by
  have h1 := Int.fmod_nonneg_of_pos k (show (0 : Int) < 8 by decide)
  have h2 := Int.fmod_lt_of_pos k (show (0 : Int) < 8 by decide)
  have h3 : k.fmod 8 = 0 ∨ k.fmod 8 = 1 ∨ k.fmod 8 = 2 ∨ k.fmod 8 = 3 ∨ k.fmod 8 = 4 ∨ k.fmod 8 = 5 ∨ k.fmod 8 = 6 ∨ k.fmod 8 = 7 := by omega
  rcases h3 with h | h | h | h | h | h | h | h <;> rw [h] <;> exact ⟨_, rfl, by decide, by decide⟩
theorem at_script {ns : List Int} {k : Int} (h0 : 0 ≤ k) (h : k < (ns.length : Int)) : ∃ v : Int, atI (ns.map V.int) k = some (.int v) := by
  have hk : k.toNat < ns.length := by omega
  have ek : k = ((k.toNat : Nat) : Int) := by omega
  have q : atI (ns.map V.int) ((k.toNat : Nat) : Int) = some (.int ns[k.toNat]) := atI_nat (by rw [List.getElem?_map, List.getElem?_eq_getElem hk] <;> rfl)
  rw [← ek] at q
  exact ⟨_, q⟩
def spDraw : Sp := fun vs H Q _ => ∃ (u : Addr) (n : Int), vs = [.ref u, .int n] ∧ UrnAt H u ∧ 0 < n ∧ n < 2 ^ 40 ∧ ∀ r H', 0 ≤ r → r < n → SameX u H H' → UrnAt H' u → Q (.int r) H'
structure Sm (q : Rat) : Prop where
  n : q.num.natAbs ≤ 10 ^ 12
  d : q.den ≤ 10 ^ 12
theorem divInt_le {t b : Int} (hb : b ≠ 0) : (Rat.divInt t b).num.natAbs ≤ t.natAbs ∧ (Rat.divInt t b).den ≤ b.natAbs := by
  have hp := gcd_pos (t := t) hb
  obtain ⟨e1, e2⟩ := low_eq (t := t) (b := b) (g := if b < 0 then -(Int.gcd t b : Int) else (Int.gcd t b : Int)) hb rfl
  have key : ∀ x : Int, (Int.gcd t b : Int) ∣ x → (x.fdiv (if b < 0 then -(Int.gcd t b : Int) else (Int.gcd t b : Int))).natAbs ≤ x.natAbs := by
    rintro x ⟨n, hn⟩
    split
    · have : x = -(Int.gcd t b : Int) * (-n) := by rw [Int.neg_mul_neg]; exact hn
      rw [this, fdiv_of_mul (by omega), Int.natAbs_mul]
      exact Nat.le_mul_of_pos_left _ (by omega)
    · rw [hn, fdiv_of_mul (by omega), Int.natAbs_mul]
      exact Nat.le_mul_of_pos_left _ (by omega)
  have k1 := key t (Int.gcd_dvd_left t b)
  have k2 := key b (Int.gcd_dvd_right t b)
  rw [e1] at k1
  rw [e2] at k2
  exact ⟨k1, by omega⟩
theorem sm_of {t b : Int} (hb : b ≠ 0) (h1 : t.natAbs ≤ 10 ^ 12) (h2 : b.natAbs ≤ 10 ^ 12) : Sm (Rat.divInt t b) := by
  obtain ⟨e1, e2⟩ := divInt_le (t := t) hb
  exact ⟨by omega, by omega⟩
def spKind : Sp := fun vs H Q _ => ∃ u, vs = [.ref u] ∧ UrnAt H u ∧ ∀ r H', r = 0 ∨ r = 1 ∨ r = 2 → SameX u H H' → UrnAt H' u → Q (.int r) H'
theorem urn_ne {H : Hp} {u l : Addr} (hu : UrnAt H u) (hl : H l = none) : l ≠ u := by
  obtain ⟨g, m, p, h, r⟩ := hu
  exact (ne_of_none h hl).symm
theorem urn_new {H : Hp} {u l : Addr} {o : HO} (hu : UrnAt H u) (hl : H l = none) : UrnAt (upd H l o) u := by
  obtain ⟨g, m, p, h, r⟩ := hu
  exact ⟨g, m, p, by rw [upd_ne (ne_of_none h hl)]; exact h, r⟩
def spNumber : Sp := fun vs H Q _ => ∃ u kd, vs = [.ref u, .int kd] ∧ UrnAt H u ∧ ∀ r q H', Sm q → SameX u H H' → UrnAt H' u → H' r = some (.tup (numV q)) → Q (.ref r) H'
def spWhole : Sp := fun vs H Q _ => ∃ i : Int, vs = [.int i] ∧ Q (.bl true) H
theorem kit_int_int : PySem.W.kitOne K (.type "int") (.type "int") = some true := by unfold PySem.W.kitOne; rw [if_pos (by decide)]
theorem kit_int_bool : PySem.W.kitOne K (.type "int") (.type "bool") = some false := by kernel_rfl
theorem kit_tup_tup : PySem.W.kitOne K (.type "tuple") (.type "tuple") = some true := by unfold PySem.W.kitOne; rw [if_pos (by decide)]
def dNum (q : Rat) : D := .tup [.v (.int q.num), .v (.int (q.den : Int))]
theorem isD_num {H : Hp} {a : Addr} {q : Rat} (h : SqT K H a (numV q)) : IsD K H (.ref a) (dNum q) := .tup h (.cons (.v rfl) (.cons (.v rfl) .nil))
theorem eqD_num (q : Rat) : eqD (dNum q) (dNum q) = true := by simp [dNum, eqD, eqDs, eqV]
theorem okD_num (p q : Rat) : okD (dNum p) (dNum q) = true := by simp [dNum, okD, okDs]
theorem dp_num (q : Rat) : dpD (dNum q) ≤ 60 := by simp [dNum, dpD, dpDs]
def spIsNum (K : PySem.W.Frag) : Sp := fun vs H Q _ => ∃ x q, vs = [x] ∧ (∃ p, x = .ref p ∧ SqT K H p (numV q)) ∧ (q.den : Int).natAbs < 2 ^ 6000 ∧ ∀ H', Same H H' → Q (.bl true) H'
end
end R

set_option maxRecDepth 100000
namespace R
open PySem L2 PyProof.Rows
inductive Nums (H : Hp) : List V → List Rat → Prop where
  | nil : Nums H [] []
  | cons {p : Addr} {q : Rat} {vs : List V} {qs : List Rat} (h : H p = some (.tup (numV q))) (t : Nums H vs qs) : Nums H (.ref p :: vs) (q :: qs)
/-- tuples stay -/
def TupS (H H' : Hp) : Prop := ∀ b xs, H b = some (.tup xs) → H' b = some (.tup xs)
theorem _root_.L2.Same.tups {H H' : Hp} (s : Same H H') : TupS H H' := fun b xs h => s b _ h
theorem SameX.tups {u : Addr} {H H' : Hp} (s : SameX u H H') (hu : UrnAt H u) : TupS H H' := fun b xs h => by
  obtain ⟨g, m, p, e, _⟩ := hu
  exact s b _ h (ne_of h e (by intro z; cases z))
theorem TupS.lst {H : Hp} {a : Addr} {xs : List V} {o : HO} (h : H a = some (.lst xs)) : TupS H (upd H a o) := fun b ys e => by
  rw [upd_ne (ne_of e h (by intro z; cases z))]; exact e
theorem TupS.new {H : Hp} {a : Addr} {o : HO} (h : H a = none) : TupS H (upd H a o) := (Same.new h o).tups
theorem Nums.mono {H H' : Hp} (e : TupS H H') : ∀ {vs : List V} {qs : List Rat}, Nums H vs qs → Nums H' vs qs
  | _, _, .nil => .nil
  | _, _, .cons h t => .cons (e _ _ h) (t.mono e)
theorem Nums.length {H : Hp} : ∀ {vs : List V} {qs : List Rat}, Nums H vs qs → vs.length = qs.length
  | _, _, .nil => rfl
  | _, _, .cons _ t => congrArg (· + 1) t.length
theorem Nums.take {H : Hp} : ∀ {vs : List V} {qs : List Rat} (m : Nat), Nums H vs qs → Nums H (vs.take m) (qs.take m)
  | _, _, 0, _ => by simp; exact .nil
  | _, _, _ + 1, .nil => .nil
  | _, _, m + 1, .cons h t => .cons h (t.take m)
theorem Nums.drop {H : Hp} : ∀ {vs : List V} {qs : List Rat} (m : Nat), Nums H vs qs → Nums H (vs.drop m) (qs.drop m)
  | _, _, 0, h => h
  | _, _, _ + 1, .nil => .nil
  | _, _, m + 1, .cons h t => t.drop m
theorem Nums.append {H : Hp} : ∀ {vs ws : List V} {qs rs : List Rat}, Nums H vs qs → Nums H ws rs → Nums H (vs ++ ws) (qs ++ rs)
  | _, _, _, _, .nil, b => b
  | _, _, _, _, .cons h t, b => .cons h (t.append b)
theorem Nums.get {H : Hp} : ∀ {vs : List V} {qs : List Rat} {i : Nat} {q : Rat}, Nums H vs qs → qs[i]? = some q → ∃ p, vs[i]? = some (.ref p) ∧ H p = some (.tup (numV q))
  | _, _, _, _, .nil, e => by simp at e
  | _, _, 0, _, .cons h t, e => by
    have := Option.some.inj e
    subst this
    exact ⟨_, rfl, h⟩
  | _, _, i + 1, _, .cons h t, e => by
    obtain ⟨p, e1, e2⟩ := t.get (i := i) (by simpa using e)
    exact ⟨p, by simpa using e1, e2⟩
theorem Nums.getV {H : Hp} : ∀ {vs : List V} {qs : List Rat} {i : Nat} {v : V}, Nums H vs qs → vs[i]? = some v → ∃ p q, v = .ref p ∧ qs[i]? = some q ∧ H p = some (.tup (numV q))
  | _, _, _, _, .nil, e => by simp at e
  | _, _, 0, _, .cons h t, e => by
    have := Option.some.inj e
    subst this
    exact ⟨_, _, rfl, rfl, h⟩
  | _, _, i + 1, _, .cons h t, e => by
    obtain ⟨p, q, e0, e1, e2⟩ := t.getV (i := i) (by simpa using e)
    exact ⟨p, q, e0, by simpa using e1, e2⟩
theorem Nums.isDs {K : PySem.W.Frag} {H : Hp} : ∀ {vs : List V} {qs : List Rat}, Nums H vs qs → IsDs K H vs (qs.map dNum)
  | _, _, .nil => .nil
  | _, _, .cons h t => .cons (isD_num (SqT.of h)) t.isDs
theorem rat_ext {p q : Rat} (h1 : p.num = q.num) (h2 : p.den = q.den) : p = q := by
  cases p; cases q; simp at h1 h2; subst h1 h2; rfl
theorem eqD_nums (p q : Rat) : eqD (dNum p) (dNum q) = decide (p = q) := by
  by_cases h : p = q
  · subst h; rw [eqD_num]; simp
  · rw [decide_eq_false h]
    simp only [dNum, eqD, eqDs, eqV, Bool.and_true]
    by_cases h1 : p.num = q.num
    · have h2 : p.den ≠ q.den := fun z => h (rat_ext h1 z)
      have : ((p.den : Int) == (q.den : Int)) = false := by
        rw [beq_eq_false_iff_ne]; intro z; exact h2 (by omega)
      rw [this, Bool.and_false]
    · have : (p.num == q.num) = false := by rw [beq_eq_false_iff_ne]; exact h1
      rw [this, Bool.false_and]
theorem eqDs_nums : ∀ ps qs : List Rat, eqDs (ps.map dNum) (qs.map dNum) = decide (ps = qs)
  | [], [] => by simp [eqDs]
  | [], _ :: _ => by simp [eqDs]
  | _ :: _, [] => by simp [eqDs]
  | p :: ps, q :: qs => by
    rw [List.map_cons, List.map_cons, eqDs, eqD_nums, eqDs_nums ps qs]
    by_cases h1 : p = q <;> by_cases h2 : ps = qs <;> simp [h1, h2]
theorem okDs_nums : ∀ ps qs : List Rat, okDs (ps.map dNum) (qs.map dNum) = true
  | [], [] => by simp [okDs]
  | [], _ :: _ => by simp [okDs]
  | _ :: _, [] => by simp [okDs]
  | p :: ps, q :: qs => by rw [List.map_cons, List.map_cons, okDs, okD_num, okDs_nums ps qs]; rfl
theorem dpDs_nums : ∀ qs : List Rat, dpDs (qs.map dNum) ≤ 1
  | [] => by simp [dpDs]
  | q :: qs => by
    have h1 : dpD (dNum q) ≤ 1 := by simp [dNum, dpD, dpDs]
    have h2 := dpDs_nums qs
    rw [List.map_cons, dpDs]
    omega
def dList (qs : List Rat) : D := .lst (qs.map dNum)
theorem isD_list {K : PySem.W.Frag} {H : Hp} {a : Addr} {vs : List V} {qs : List Rat} (h : SqL K H a vs) (n : Nums H vs qs) : IsD K H (.ref a) (dList qs) := .lst h n.isDs
theorem eqD_list (ps qs : List Rat) : eqD (dList ps) (dList qs) = decide (ps = qs) := by unfold dList; rw [eqD, eqDs_nums]
theorem okD_list (ps qs : List Rat) : okD (dList ps) (dList qs) = true := by unfold dList; rw [okD, okDs_nums]
theorem dp_list (qs : List Rat) : dpD (dList qs) ≤ 2 := by unfold dList; rw [dpD]; have := dpDs_nums qs; omega
/-- two lists of numbers, a tuple -/
structure IsTl (qs : List Rat) (m : Nat) : Prop where
  le : m ≤ qs.length
  zero : ∀ (i : Nat) (q : Rat), m ≤ i → qs[i]? = some q → q = 0
  last : m ≠ 0 → ∀ q, qs[m - 1]? = some q → q ≠ 0
theorem IsTl.uniq {qs : List Rat} {m n : Nat} (a : IsTl qs m) (b : IsTl qs n) : m = n := by
  have key : ∀ {m n : Nat}, IsTl qs m → IsTl qs n → ¬ m < n := by
    intro m n a b h
    have hn : n - 1 < qs.length := by have := b.le; omega
    exact b.last (by omega) _ (List.getElem?_eq_getElem hn) (a.zero (n - 1) _ (by omega) (List.getElem?_eq_getElem hn))
  have := key a b
  have := key b a
  omega
end R

set_option maxRecDepth 100000
namespace L2
open PySem PySem.Spec PyProof.Rows
/-- a while loop by what holds turn by turn, and a measure -/
def WhN (Pv : St → Hp → Prop) (μ : St → Hp → Nat) (m : Nat) : St → Hp → Prop := fun σ' H' => ∃ m', m' < m ∧ (m' = μ σ' H' ∧ Pv σ' H')
theorem WhN.mk {Pv : St → Hp → Prop} {μ : St → Hp → Nat} {m : Nat} {σ' : St} {H' : Hp} (h : Pv σ' H') (l : μ σ' H' < m) : WhN Pv μ m σ' H' := ⟨_, l, rfl, h⟩
def WhB (tb : TS) (D : Ends) (Pv : St → Hp → Prop) (μ : St → Hp → Nat) (m : Nat) (σ : St) (H1 : Hp) : Prop :=
  ∃ N : St → Hp → Prop, (∀ σ' H', N σ' H' → ∃ m', m' < m ∧ (m' = μ σ' H' ∧ Pv σ' H')) ∧ tb { D with nx := N, ct := N, bk := D.nx } σ H1
theorem WhB.mk {tb : TS} {D : Ends} {Pv : St → Hp → Prop} {μ : St → Hp → Nat} {m : Nat} {σ : St} {H1 : Hp} (h : tb { D with nx := WhN Pv μ m, ct := WhN Pv μ m, bk := D.nx } σ H1) : WhB tb D Pv μ m σ H1 := ⟨_, fun _ _ n => n, h⟩
theorem while_to {c : TT} {tb : TS} {D : Ends} {σ : St} {H : Hp} (Pv : St → Hp → Prop) (μ : St → Hp → Nat) (h0 : Pv σ H)
    (hs : ∀ σ H, Pv σ H → c σ H fun b H1 => if b = true then WhB tb D Pv μ (μ σ H) σ H1 else D.nx σ H1) : tWhile c tb D σ H := by
  refine ⟨fun m σ H => m = μ σ H ∧ Pv σ H, ⟨_, rfl, h0⟩, ?_⟩
  rintro m σ H ⟨rfl, p⟩
  exact hs σ H p
theorem Same.over {H H1 : Hp} {l : Addr} (s : Same H H1) (hl : H l = none) (o : HO) : Same H (upd H1 l o) := fun b u h => by
  rw [upd_ne (ne_of_none h hl)]; exact s b u h
def CompW (J : It) (D : Addr) (σ0 : St) (H0 : Hp) (g : TG) (te : TE) (Q : VK) : Prop := ∃ W : Nat → Nat → St → Hp → Prop, (∃ m, W 0 m σ0 H0) ∧
  ∀ i m σc H2, W i m σc H2 → (J.stop i H2 ∧ Q (.ref D) H2) ∨
    (J.go i H2 ∧ ∀ x H3, J.yld i H2 x H3 → g x σc H3 fun σ4 H4 => te σ4 H4 fun y H5 => ∃ ys, H5 D = some (.lst ys) ∧ ys.length < sizeLine ∧ ∃ m', m' < m ∧ W (i + 1) m' σ4 (upd H5 D (.lst (ys ++ [y]))))
theorem tComp_eq (wi : TI) (caps : List (Option Nat)) (g : TG) (te : TE) : tComp wi caps g te = fun σ H Q => wi σ H fun J H1 => ∀ D, H1 D = none → CompW J D (capSt caps σ) (upd H1 D (.lst [])) g te Q := rfl
def CompWI (J : It) (D : Addr) (σ0 : St) (H0 : Hp) (g : TG) (tt : TT) (te : TE) (Q : VK) : Prop := ∃ W : Nat → Nat → St → Hp → Prop, (∃ m, W 0 m σ0 H0) ∧
  ∀ i m σc H2, W i m σc H2 → (J.stop i H2 ∧ Q (.ref D) H2) ∨
    (J.go i H2 ∧ ∀ x H3, J.yld i H2 x H3 → g x σc H3 fun σ4 H4 => tt σ4 H4 fun b H4' => if b = true then te σ4 H4' fun y H5 => ∃ ys, H5 D = some (.lst ys) ∧ ys.length < sizeLine ∧ ∃ m', m' < m ∧ W (i + 1) m' σ4 (upd H5 D (.lst (ys ++ [y])))
      else ∃ m', m' < m ∧ W (i + 1) m' σ4 H4')
theorem tCompIf_eq (wi : TI) (caps : List (Option Nat)) (g : TG) (tt : TT) (te : TE) : tCompIf wi caps g tt te = fun σ H Q => wi σ H fun J H1 => ∀ D, H1 D = none → CompWI J D (capSt caps σ) (upd H1 D (.lst [])) g tt te Q := rfl
section
variable {K : PySem.W.Frag} {a D : Addr} {xs : List V} {g : TG} {te : TE} {σ0 : St} {H0 : Hp} {Q : VK}
theorem cw_list (xs : List V) (Pv : Nat → St → Hp → Prop) (h0 : Pv 0 σ0 H0) (hl : ∀ i σ H, i ≤ xs.length → Pv i σ H → SqL K H a xs)
    (hs : ∀ i x σ H, xs[i]? = some x → Pv i σ H → g x σ H fun σ4 H4 => te σ4 H4 fun y H5 => CompN D xs.length Pv i σ4 y H5) (hd : ∀ σ H, Pv xs.length σ H → Q (.ref D) H) : CompW (Itl K a) D σ0 H0 g te Q := comp_list Pv h0 hl hs hd
theorem cw_range {lo : Int} {n : Nat} (Pv : Nat → St → Hp → Prop) (h0 : Pv 0 σ0 H0)
    (hs : ∀ i σ H, i < n → Pv i σ H → g (.int (lo + i)) σ H fun σ4 H4 => te σ4 H4 fun y H5 => CompN D n Pv i σ4 y H5) (hd : ∀ σ H, Pv n σ H → Q (.ref D) H) : CompW (Itr lo n) D σ0 H0 g te Q := comp_range Pv h0 hs hd
end
theorem sub_nil {cells : List (Str × Addr)} : ∀ (x : Str) (c : Addr), ([] : List (Str × Addr)).lookup x = some c → cells.lookup x = some c := fun x c h => by cases h
theorem sub_cons {cells cl : List (Str × Addr)} {k : Str} {a : Addr} (h : cells.lookup k = some a) (r : ∀ (x : Str) (c : Addr), cl.lookup x = some c → cells.lookup x = some c) : ∀ (x : Str) (c : Addr), ((k, a) :: cl).lookup x = some c → cells.lookup x = some c := fun x c e => by
  rw [List.lookup_cons] at e
  split at e
  · rename_i q
    have := eq_of_beq q
    subst this
    cases e
    exact h
  · exact r x c e
end L2
namespace R
open PySem L2 PyProof.Rows
theorem SameX.over {u : Addr} {H H1 : Hp} {l : Addr} (s : SameX u H H1) (hl : H l = none) (o : HO) : SameX u H (L2.upd H1 l o) := fun b x h n => by
  rw [upd_ne (ne_of_none h hl)]; exact s b x h n
theorem SameX.free {u : Addr} {H H' : Hp} {l : Addr} (s : SameX u H H') (hu : UrnAt H' u) (h : H' l = none) : H l = none := by
  cases e : H l with
  | none => rfl
  | some o =>
    by_cases q : l = u
    · subst q
      obtain ⟨_, _, _, z, _⟩ := hu
      rw [z] at h; cases h
    · rw [s l o e q] at h; cases h
theorem UrnAt.other {H : Hp} {u l : Addr} {o : HO} (h : UrnAt H u) (ne : l ≠ u) : UrnAt (upd H l o) u := by
  obtain ⟨g, m, p, e, r⟩ := h
  exact ⟨g, m, p, by rw [upd_ne ne.symm]; exact e, r⟩
theorem new_free {H : Hp} {p l : Addr} {o : HO} (h : upd H p o l = none) : H l = none := by
  by_cases q : l = p
  · subst q; rw [upd_same] at h; cases h
  · rw [upd_ne q] at h; exact h
theorem kit_list_list {K : PySem.W.Frag} : PySem.W.kitOne K (.type "list") (.type "list") = some true := by unfold PySem.W.kitOne; rw [if_pos (by decide)]
end R

set_option maxRecDepth 100000
namespace L2
open PySem PySem.Spec PyProof.Rows

section
variable {X : Cx}
end
end L2

set_option maxRecDepth 100000
namespace L2
open PySem PySem.Spec PyProof.Rows
section
variable {prog : Program} {w : World} {A : Around} {E : Value → Shared → Prop} {s : Shared}
variable {R : Result → Shared → Prop} {I : Addr} {fp wr : List Addr} {n : Nat} {P : Nat → Value → Prop} {St : Nat → Heap → Prop}
end
section
variable {X : Cx}
end
end L2

set_option maxRecDepth 100000
namespace R
open PySem L2 PyProof.Rows
structure BdN (k : Nat) (q : Rat) : Prop where
  n : q.num.natAbs < 2 ^ k
  d : q.den < 2 ^ k
theorem BdN.mono {m n : Nat} {q : Rat} (h : BdN m q) (l : m ≤ n) : BdN n q := ⟨Nat.lt_of_lt_of_le h.n (pow_le_pow2 l), Nat.lt_of_lt_of_le h.d (pow_le_pow2 l)⟩
/-- numbers of twelve figures, one more or less -/
structure SmW (q : Rat) : Prop where
  n : q.num.natAbs < 2 ^ 42
  d : q.den < 2 ^ 40
section
variable {α β : Type}
end
def lcmL (qs : List Rat) : Nat := qs.foldl (fun b q => Nat.lcm b q.den) 1
/-- what a polynomial is by whole numbers over its least common bottom -/
def wholesOf (B : Nat) (qs : List Rat) : List Int := qs.map fun q => q.num * (B : Int).fdiv (q.den : Int)
end R
namespace L2
open PySem PySem.Spec PyProof.Rows
section
variable {K : PySem.W.Frag} {a b D : Addr} {xs ys : List V} {g : TG} {te : TE} {σ0 : St} {H0 : Hp} {Q : VK}
end
section
variable {X : Cx}
end
end L2

set_option maxRecDepth 100000
namespace L2
open PySem PySem.Spec PyProof.Rows
theorem ns_nocell {h : Heap} {a : Addr} {m : Str → Option Value} {o : Obj} (n : h.Ns a m) (e : h.get? a = some o) (v : Option Value) (z : o.data = .cell v) : False := by
  obtain ⟨o', es, ep, e', r⟩ := n
  rw [e] at e'
  cases e'
  have d := r.1
  rw [d] at z; cases z
section
variable {X : Cx}
theorem ps_setComp {elt tg iter : Expr} {scope : Scope} {pos spos py : Pos} {y : Str} {i₀ : Nat} {cl : List (Str × Addr)} {Nc : List Str} {caps : List (Option Nat)} {wi : TI} {g : TG} {te : TE} (hN : X.N.Nodup) (hi₀ : X.N[i₀]? = some y) (hx : Loc X.env.scope y) (hc : X.calm = true) (cp : Caps X scope cl Nc caps) (hi : PI X tg iter wi)
    (hg : ∀ C s₂ H₂ fp pins, PG (X.block scope cl C Nc s₂ H₂ fp pins) tg g) (he : ∀ C s₂ H₂ fp pins, PE (X.block scope cl C Nc s₂ H₂ fp pins) elt te) (hs : ∀ x, foldedSetIterable iter X.env x = pure x := by intro _; rfl) (hsw : swapsWith (.ListComp elt [⟨tg, iter, [], 0⟩] scope pos) (some (.Name y py)) spos.line X.env = pure true := by rfl)
    (hf : X.fn y = true ∨ X.env.scope.names.lookup y = some .local := by first | exact .inl rfl | exact .inr rfl | assumption) :
    PS X (.Assign [.Name y py] (.ListComp elt [⟨tg, iter, [], 0⟩] scope pos) spos) (tAsg (tComp wi caps g te) (gName i₀)) := by
  intro pins s σ H DD I h
  rw [exec_Assign_Name_used _ _ _ _ hsw]
  refine wpAny_bind (wpAny_standAt (wpAny_bind ?_))
  show wpAny _ X.A (do let _ ← comprehension (.ListComp elt [⟨tg, iter, [], 0⟩] scope pos) scope X.env _ (newList []) false (eval iter X.env) (some (assign (.Name y py) X.env))) _ _ s
  refine wpAny_bind (wpAny_mono (wpAny_comprehension_free (use := some (assign (.Name y py) X.env)) (Q := fun _ s' => SP X pins DD .next s') rfl hs cp.clos cp.kind cp.names ?_) (fun _ s' hq => wpAny_pure (wpAny_pure hq)) fun _ _ e => e)
  refine thn (hi pins s σ H _ I h) fun v s1 h1 => thn h1 fun itv s2 h2 => ?_
  obtain ⟨it, fp, tn, J, H2, e, I2, T, st2, f2, hW⟩ := h2
  subst e
  refine wpAny_newObj_type ?_ (by show 0 ≤ sizeLine; exact Nat.zero_le _)
  refine wpAny_newFunctionEnv cp.nocell (by intro y hy; simp at hy) (fun h4 hns hsb => ?_) cp.kind
  dsimp only at hns hsb ⊢
  generalize hH3 : s2.heap.push { cls := .type "list", dict := none, data := .seq ([] : List Value).toArray } = H3 at hns hsb ⊢
  have hCe : H3.objs.size = s2.heap.objs.size + 1 := by rw [← hH3, Heap.size_push]
  have below : ∀ b o, s2.heap.get? b = some o → b ≠ H3.objs.size := fun b o e => by rw [hCe]; exact Nat.ne_of_lt (Nat.lt_succ_of_lt (Heap.lt_size e))
  have old : ∀ b o, s2.heap.get? b = some o → h4.get? b = some o := fun b o e => hsb.extBut b o (below b o e) (Heap.get?_push_of_some _ (hH3 ▸ Heap.get?_push_of_some _ e))
  have hD : h4.get? s2.heap.objs.size = some { cls := .type "list", dict := none, data := .seq ([] : List Value).toArray } :=
    hsb.extBut _ _ (by rw [hCe]; exact Nat.ne_of_lt (Nat.lt_succ_self _)) (Heap.get?_push_of_some _ (hH3 ▸ Heap.get?_push_size _ rfl))
  have hDn : H2 s2.heap.objs.size = none := I2.fresh
  have hCn : H2 H3.objs.size = none := I2.hok.fresh (by rw [hCe]; exact Nat.le_succ _)
  have hCs : s2.heap.objs.size ≤ H3.objs.size := by rw [hCe]; exact Nat.le_succ _
  have hDC : s2.heap.objs.size ≠ H3.objs.size := by rw [hCe]; exact Nat.ne_of_lt (Nat.lt_succ_self _)
  have fpl : ∀ b ∈ fp, ∃ o, s2.heap.get? b = some o := fun b hb => let ⟨o, e, _⟩ := T.obj _ _ st2 b hb; ⟨o, e⟩
  have fpC : ∀ b ∈ fp, b ≠ H3.objs.size := fun b hb => let ⟨o, e⟩ := fpl b hb; below b o e
  have fpD : ∀ b ∈ fp, b ≠ s2.heap.objs.size := fun b hb => let ⟨o, e⟩ := fpl b hb; Nat.ne_of_lt (Heap.lt_size e)
  have stkN : ∀ b, b ≠ X.env.locals → b ∉ X.fs → b ∉ frs X.stack := fun b h1 h2 z => (List.mem_cons.mp (I2.stkSub b z)).elim h1 h2
  obtain ⟨W, ⟨m0, w0⟩, turn⟩ := hW s2.heap.objs.size hDn
  have okB : (X.block scope cl H3.objs.size Nc s2 H2 fp pins).Ok := by
    refine ⟨I2.ok.mod, ?_, I2.ok.glob, I2.ok.blt, hCs, fun x y c h1 h2 => I2.ok.inj x y c (cp.sub x c h1) (cp.sub y c h2), fun x hx => cp.has x hx, fun x c h => (by cases h), I2.ok.hd, I2.ok.frames, .inl rfl, fun b hb => ⟨fpC b hb, fun x c h => (f2 b hb).2.2.2.2.1 x c (cp.sub x c h)⟩, I2.bs, Nat.le_trans I2.ok.bsz I2.sz, fun b o e hb => ?_, fun b hb => stkN b (f2 b hb).2.1 (f2 b hb).2.2.1, I2.stack, I2.stkFree⟩
    · exact cp.kind
    · rcases (f2 b hb).2.2.2.1 with z | z
      · exact I2.ok.noex b o e z
      · exact absurd (Nat.lt_of_lt_of_le (Heap.lt_size e) (Nat.le_trans I2.ok.bsz z)) (Nat.lt_irrefl _)
  have hokB : HOk X.prog X.w (upd H2 s2.heap.objs.size (.lst [])) h4 := I2.hok.laid old (Nat.le_refl _) ⟨Nat.zero_le _, [], _, .nil, hD⟩
  have IB : Inv (X.block scope cl H3.objs.size Nc s2 H2 fp pins) [] (capSt caps σ) (upd H2 s2.heap.objs.size (.lst [])) { s2 with heap := h4, toks := s2.toks + ([] : List (Str × Value)).length } := by
    refine ⟨okB, rfl, I2.bare, Un.laid old (Nat.le_refl _) hDn, ⟨_, hns, fun i x v e1 e2 e3 => ?_⟩, fun x c e => ?_, (show upd H2 s2.heap.objs.size (.lst []) H3.objs.size = none by rw [upd_ne (Ne.symm hDC)]; exact hCn), fun x c e => ?_, fun p hp => ?_, hokB, ?_⟩
    · unfold capSt at e2
      rw [List.getElem?_map] at e2
      cases hcap : caps[i]? with
      | none => rw [hcap] at e2; cases e2
      | some o =>
        rw [hcap] at e2
        cases o with
        | none => cases e2
        | some j =>
          have hj : σ[j]? = some (some v) := by
            have e2' : (σ[j]?).join = some v := Option.some.inj e2
            cases q : σ[j]? with
            | none => rw [q] at e2'; cases e2'
            | some z => rw [q] at e2'; exact congrArg some e2'
          obtain ⟨n1, n2, n3, n4⟩ := cp.cap i j x hcap e1
          obtain ⟨m, hm, hl⟩ := I2.loc
          obtain ⟨u, r, q⟩ := hl j x v n1 hj n2
          rcases q with ⟨k, _⟩ | ⟨k, c, ec, z⟩
          · exact absurd k n3
          · obtain ⟨c', ec'⟩ := cp.has x n4
            have := cp.sub x c' ec'
            rw [ec] at this; cases this
            obtain ⟨oc, ho, hd⟩ := z
            exact ⟨u, r, .inr ⟨n4, c, ec', oc, old _ _ ho, hd⟩⟩
    · obtain ⟨v, oc, ho, hd⟩ := I2.cell x c (cp.sub x c e)
      exact ⟨v, oc, old _ _ ho, hd⟩
    · obtain ⟨v, oc, ho, hd⟩ := I2.cell x c (cp.sub x c e)
      rw [upd_ne (Nat.ne_of_lt (Heap.lt_size ho))]
      exact I2.freeC x c (cp.sub x c e)
    · have hp' : p ∈ X.pn ++ pins := by simpa using hp
      obtain ⟨e1, e2, e3, e4, e5⟩ := I2.pin p hp'
      exact ⟨old _ _ e1, by rw [upd_ne (Nat.ne_of_lt (Heap.lt_size e1))]; exact e2, below _ _ e1, stkN _ e3 e4, e5⟩
    · show (capSt caps σ).length = Nc.length
      unfold capSt
      rw [List.length_map]; exact cp.len
  have stat : ∀ {H' : Hp}, (∀ b ∈ fp, H' b = none) → ∀ b ∈ fp, FpOk (X.block scope cl H3.objs.size Nc s2 H2 fp pins) [] H' b := fun hn b hb =>
    ⟨hn b hb, fpC b hb, stkN b (f2 b hb).2.1 (f2 b hb).2.2.1, .inl hb, fun x c h => (f2 b hb).2.2.2.2.1 x c (cp.sub x c h), fun p hp => (f2 b hb).2.2.2.2.2 p (by simpa using hp)⟩
  have loop : ∀ s5 : Shared, s5 = { s2 with heap := h4, toks := s2.toks + ([] : List (Str × Value)).length } →
      codeAny (model X.prog X.w) X.A (.compLoop (.ListComp elt [⟨tg, iter, [], 0⟩] scope pos) 0 (.ref it) (.ref s2.heap.objs.size) (compEnvC scope cl H3.objs.size X.env))
        (compPost (model X.prog X.w) X.A X.xe (some (assign (.Name y py) X.env)) (fun _ s' => SP X pins DD .next s') (.ref s2.heap.objs.size) H3.objs.size) s5 := by
    rintro s5 rfl
    refine comp_loop (fun n s' => ∃ i σ' H', Inv (X.block scope cl H3.objs.size Nc s2 H2 fp pins) [] σ' H' s' ∧ tn i s'.heap ∧ (∀ b ∈ fp, H' b = none) ∧ W i n σ' H') ?_ m0 ⟨0, _, _, IB, T.keep _ _ _ st2 fun b hb o e => old b o e, fun b hb => by rw [upd_ne (fpD b hb)]; exact (f2 b hb).1, w0⟩
    rintro n s6 ⟨i, σ6, H6, I6, st6, fr6, w6⟩
    rcases turn i n σ6 H6 w6 with ⟨stop, qn⟩ | ⟨go, step⟩
    · refine thn (T.done (X.block scope cl H3.objs.size Nc s2 H2 fp pins) rfl rfl rfl hc i [] s6 σ6 H6 _ I6 (stat fr6) st6 stop) fun r s7 ⟨hr, I7⟩ => ?_
      subst hr
      obtain ⟨m7, hn7, _⟩ := id I7.loc
      have Io : Inv X pins σ H6 s7 := I2.sameC (h'' := s7.heap) f2 I7.os I7.bare I7.base I7.hok hCs I7.free ⟨rfl, fun _ _ => rfl⟩
      have fC : FpOk X pins H6 H3.objs.size := I2.fpOk hCs I7.free
      have fC' : ∀ b ∈ [H3.objs.size], FpOk X pins H6 b := fun b hb => by rw [List.mem_singleton.mp hb]; exact fC
      obtain ⟨oC, esC, epC, hoC, restC⟩ := id hn7
      have obC : ∀ b ∈ [H3.objs.size], ∃ o, s7.heap.get? b = some o ∧ ∀ v, o.data ≠ .cell v := fun b hb => by
        rw [List.mem_singleton.mp hb]
        exact ⟨oC, hoC, fun v z => ns_nocell hn7 hoC v z⟩
      have Ip := Io.pinned fC' obC
      show wpAny (model X.prog X.w) X.A (assign (.Name y py) X.env (.ref s2.heap.objs.size)) _ _ s7
      refine thn (pg_name (pos := py) hN hi₀ hx hf _ s7 σ H6 (.ref s2.heap.objs.size) (.ref s2.heap.objs.size) DD.nx Ip rfl qn) fun _ s9 ⟨σ9, H9, I9, q9⟩ => ?_
      have keepC := (I9.pin (H3.objs.size, oC) (List.mem_append_right _ (List.mem_append_right _ (mem_pinsAt (by simp) hoC)))).1
      have H9C := (I9.pin (H3.objs.size, oC) (List.mem_append_right _ (List.mem_append_right _ (mem_pinsAt (by simp) hoC)))).2.1
      refine ⟨m7, hn7.at' fun o e => by rw [hoC] at e; cases e; exact keepC, fun h' sb => ?_⟩
      obtain ⟨_, g1, g2, g3, g4, g5⟩ := fC
      exact ⟨σ9, H9, I9.unpinned.turned (t' := s9.toks) (fun b o hb e => (sb.2 b hb).trans e) H9C g1 g3 g4 g5, q9⟩
    · refine thn (T.item (X.block scope cl H3.objs.size Nc s2 H2 fp pins) rfl rfl rfl hc i [] s6 σ6 H6 _ I6 (stat fr6) st6 go) fun r s7 ⟨u, hr, h7⟩ => ?_
      subst hr
      refine thn h7 fun _ s8 ⟨x, H8, I8, r8, y8, st8, fr8⟩ => ?_
      have I8' := I8.pinned (stat fr8) (T.obj _ _ st8)
      refine thn (hg _ _ _ _ _ _ s8 σ6 H8 x u _ I8' r8 (step x H8 y8)) fun _ s9 ⟨σ9, H9, I9, q9⟩ => ?_
      refine thn (he _ _ _ _ _ _ s9 σ9 H9 _ I9 q9) fun u10 s10 ⟨v10, H10, I10, r10, ys, hys, hlen, m', hm', w'⟩ => ?_
      refine thn (mt_append _ s10 σ9 H10 (.ref s2.heap.objs.size) [v10] (.ref s2.heap.objs.size) [u10] (fun _ H11 => H11 = upd H10 s2.heap.objs.size (.lst (ys ++ [v10]))) I10 rfl (.cons r10 .nil) ⟨_, ys, v10, rfl, rfl, hys, hlen, rfl⟩) fun _ s11 ⟨_, H11, I11, _, hH11⟩ => ?_
      subst hH11
      refine ⟨m', hm', i + 1, σ9, _, I11.unpinned, T.keep _ _ _ st8 fun b hb o e => (I11.pin (b, o) (List.mem_append_right _ (List.mem_append_right _ (mem_pinsAt hb e)))).1, fun b hb => ?_, w'⟩
      obtain ⟨o, e, d⟩ := T.obj _ _ st8 b hb
      exact (I11.pin (b, o) (List.mem_append_right _ (List.mem_append_right _ (mem_pinsAt hb e)))).2.1
  exact codeAny_compStart_list (loop _ rfl) (T.self _ 0 _ _ _ (T.keep _ _ _ st2 fun b hb o e => old b o e) (loop _ rfl))
end
end L2

set_option maxRecDepth 100000
namespace L2
open PySem PySem.Spec PyProof.Rows

section
variable {X : Cx}
end
end L2

set_option maxRecDepth 100000
namespace L2
open PySem PySem.Spec PyProof.Rows
section
variable {X : Cx}
end
section
variable {X : Cx}
end
section
variable {X : Cx} {tg : Expr}
end
end L2

set_option maxRecDepth 100000
namespace L2
open PySem PySem.Spec PyProof.Rows
/-- len(..) within a comprehension: its reading free of the block -/
def rLen (K : PySem.W.Frag) : List V → Hp → VK → Prop := fun xs H Q => ∃ p ys, xs = [.ref p] ∧ (SqL K H p ys ∨ SqT K H p ys) ∧ Q (.int ys.length) H
end L2

set_option maxRecDepth 100000
namespace L2
open PySem PySem.Spec PyProof.Rows
section
variable {X : Cx} {pins : List (Addr × Obj)} {σ : St} {H : Hp} {s : Shared}
end
section
variable {X : Cx}
end
end L2

set_option maxRecDepth 100000
namespace L2
open PySem PySem.Spec PyProof.Rows
section
variable {X : Cx}
end
/-- list(..) within a comprehension: its reading free of the block -/
def rLst (K : PySem.W.Frag) : List V → Hp → VK → Prop := fun xs H Q => ∃ p ys, xs = [.ref p] ∧ (SqL K H p ys ∨ SqT K H p ys) ∧ ∀ l, H l = none → Q (.ref l) (upd H l (.lst ys))
end L2

set_option maxRecDepth 100000
namespace L2
open PySem PySem.Spec PyProof.Rows

structure OwnCells (h h' : Heap) (names : List (Str × NameKind)) (acc cs : List (Str × Addr)) : Prop where
  cell : ∀ x c, cs.lookup x = some c → ∃ v, h'.IsCell c v
  inj : ∀ x y c, cs.lookup x = some c → cs.lookup y = some c → x = y
  old : ∀ x c, cs.lookup x = some c → acc.lookup x = some c ∨ h.objs.size ≤ c
  fresh : ∀ x, (x, NameKind.cell) ∈ names → ∀ c, cs.lookup x = some c → h.objs.size ≤ c
/-- what the closure of the block is: the def's own cells; and cells that are made with it -/
structure CapsC (X : Cx) (scope : Scope) (cl : List (Str × Addr)) (Nc : List Str) (caps : List (Option Nat)) : Prop where
  clos : closureFor scope X.env = pure cl
  sub : ∀ x c, cl.lookup x = some c → X.env.cells.lookup x = some c
  has : ∀ n x, (relabel scope X.env).names.lookup x = some .cell ∨ (relabel scope X.env).names.lookup x = some .free → ∃ c, (cellsFrom n scope.names cl).lookup x = some c
  kind : scope.kind = .function
  names : ∀ x ∈ scope.names, x.2 = .local → scope.names.lookup x.1 = some .local
  len : caps.length = Nc.length
  cap : ∀ (i j : Nat) (x : Str), caps[i]? = some (some j) → Nc[i]? = some x → X.N[j]? = some x ∧ Vis X.env.scope x ∧ X.env.kindOf x ≠ some .local ∧ ((relabel scope X.env).names.lookup x = some .cell ∨ (relabel scope X.env).names.lookup x = some .free) ∧
    (∃ c, cl.lookup x = some c) ∧ ∀ n c, cl.lookup x = some c → (cellsFrom n scope.names cl).lookup x = some c
section
variable {X : Cx}
end
end L2

set_option maxRecDepth 100000
namespace L2
open PySem PySem.Spec PyProof.Rows
section
variable {X : Cx}
end
end L2

set_option maxRecDepth 100000
namespace L2
open PySem PySem.Spec PyProof.Rows
section
variable {X : Cx}
end
end L2

set_option maxRecDepth 100000
namespace L2
open PySem PySem.Spec PyProof.Rows
end L2

set_option maxRecDepth 100000
namespace L2
open PySem PySem.Spec PyProof.Rows
/-- how an iterator answers that a zip holds -/
structure Stp (prog : Program) (w : World) (it src : Addr) (ar : Array Value) (st : Nat → Heap → Prop) : Prop where
  stay : ∀ {k : Nat} {h h' : Heap}, st k h → (∀ o, h.get? it = some o → h'.get? it = some o) → (∀ o, h.get? src = some o → h'.get? src = some o) → st k h'
  item : ∀ {A : Around} {E : Value → Shared → Prop} {s : Shared} {k : Nat} {v : Value} {Q : Value → Shared → Prop}, st k s.heap → ar[k]? = some v → (∀ h', st (k + 1) h' → Heap.SameBut it s.heap h' → Q v { s with heap := h' }) → wpAny (model prog w) A (Builtin.SmallTypes.nextOf (.ref it)) Q E s
  fin : ∀ {A : Around} {E : Value → Shared → Prop} {s : Shared} {k : Nat} {Q : Value → Shared → Prop}, A.handled = none → st k s.heap → ar[k]? = none → (∀ h' e, Heap.ExtBut it s.heap h' → (∃ o, h'.get? e = some o ∧ o.cls = .type "StopIteration") → E (.ref e) { s with heap := h' }) → wpAny (model prog w) A (Builtin.SmallTypes.nextOf (.ref it)) Q E s
section
variable {prog : Program} {w : World} {A : Around} {E : Value → Shared → Prop} {s : Shared}
end
section
variable {prog : Program} {w : World} {A : Around} {E : Value → Shared → Prop} {s : Shared}
end
section
variable {X : Cx}
end
end L2

set_option maxRecDepth 100000
namespace L2
open PySem PySem.Spec PyProof.Rows
section
variable {X : Cx} {pos : Pos}
end
end L2

set_option maxRecDepth 100000
namespace L2
open PySem PyProof.Rows
section
variable {X : Cx} {pos : Pos}
end
end L2

set_option maxRecDepth 100000
namespace L2
open PySem PySem.Spec PyProof.Rows
section
variable {prog : Program} {w : World} {A : Around} {E : Value → Shared → Prop} {s : Shared}
variable {R : Result → Shared → Prop} {I : Addr} {fp wr : List Addr} {n : Nat} {P : Nat → Value → Prop} {St : Nat → Heap → Prop}
end
section
variable {X : Cx}
end
end L2

set_option maxRecDepth 100000
namespace L2
open PySem PySem.Spec PyProof.Rows
section
variable {X : Cx}
end
end L2

set_option maxRecDepth 100000
namespace L2
open PySem PySem.Spec PyProof.Rows
section
variable {X : Cx}
end
end L2

set_option maxRecDepth 100000
namespace L2
open PySem PySem.Spec PyProof.Rows
section
variable {X : Cx}
end
end L2

set_option maxRecDepth 100000
namespace HT
open PySem PyProof.Rows
section
variable {prog : Program} {w : World} {A : Around} {E : Value → Shared → Prop} {s : Shared}
end
end HT
namespace L2
open PySem PySem.Spec PyProof.Rows
section
variable {X : Cx}
end
end L2

set_option maxRecDepth 100000
namespace PySem
open Sem (wp)
open AutoSeq1 (wpAny_loadPart')
section
variable {prog : Program} {w : World} {A : Around} {E : Value → Shared → Prop} {s : Shared}
end
section
variable {prog : Program} {w : World} {A : Around} {E : Value → Shared → Prop} {s : Shared}
end
end PySem
namespace L2
open PySem PySem.Spec PyProof.Rows
section
variable {X : Cx}
end
end L2

set_option maxRecDepth 100000
namespace L2
open PySem PySem.Spec PyProof.Rows
section
variable {X : Cx}
end
end L2

set_option maxRecDepth 100000
namespace L2
open PySem PySem.Spec PyProof.Rows
section
variable {X : Cx}
/-- x[a:b] of a text -/
def rSlS : V → Option Int → Option Int → Hp → VK → Prop := fun x lo hi H Q => ∃ z, x = .str z ∧ z.length ≤ sizeLine ∧ Q (.str (Txt.slice z lo hi)) H
theorem sl_str : SlR X rSlS := by
  intro pins s σ H x v vl vu lo hi sl Q I rx hs pl pu h
  obtain ⟨z, rfl, hz, q⟩ := h
  obtain ⟨t, rfl⟩ := rx
  have fin : ∀ t' k, EP X pins σ Q (.str (Txt.slice z lo hi) t') { s with toks := k } := fun t' k => ⟨.str _, H, I.kept (t' := k) fun b o e => e, ⟨_, rfl⟩, q⟩
  refine ⟨"str", _, F.slot_str_getitem.lookup, typeIs_str _ _ _, ?_⟩
  cases pl with
  | none =>
    cases pu with
    | none => exact wpAny_getItem_str_slice (l := none) (u := none) (st := none) hs rfl (post_val_or_str ⟨Nat.le_trans (Txt.slice_le z _ _) hz, fun t' k => fin t' k⟩)
    | int j uj => exact wpAny_getItem_str_slice (l := none) (u := some (j, uj)) (st := none) hs rfl (post_val_or_str ⟨Nat.le_trans (Txt.slice_le z _ _) hz, fun t' k => fin t' k⟩)
  | int i ui =>
    cases pu with
    | none => exact wpAny_getItem_str_slice (l := some (i, ui)) (u := none) (st := none) hs rfl (post_val_or_str ⟨Nat.le_trans (Txt.slice_le z _ _) hz, fun t' k => fin t' k⟩)
    | int j uj => exact wpAny_getItem_str_slice (l := some (i, ui)) (u := some (j, uj)) (st := none) hs rfl (post_val_or_str ⟨Nat.le_trans (Txt.slice_le z _ _) hz, fun t' k => fin t' k⟩)
/-- text.partition(sep) -/
def partS (x y : Str) : List Str := match Builtin.Str.occurrences x y 0 x.length 1 with
  | i :: _ => [Builtin.Str.strSub x 0 i, y, Builtin.Str.strSub x (i + y.length) x.length]
  | [] => [x, Str.empty, Str.empty]
def rPartition : V → List V → Hp → VK → Prop := fun v vs H Q => ∃ x y, v = .str x ∧ vs = [.str y] ∧ (y.length == 0) = false ∧ x.length ≤ sizeLine ∧ ∀ p, H p = none → Q (.ref p) (upd H p (.tup ((partS x y).map V.str)))
theorem mt_partition : MtM X "str.partition" rPartition := by
  intro pins s σ H x vs v us Q I rx rv h
  obtain ⟨x', y, rfl, rfl, h1, h2, q⟩ := h
  obtain ⟨t, rfl⟩ := rx
  obtain ⟨u, rfl, t', rfl⟩ := rv.one
  refine call_meets F.slot_str_partition rfl F.entry_str_partition (F.args_str_partition_2 _ _) (meets_str_partition x' y t t' h1 h2) ?_
  have q' := q _ I.fresh
  unfold partS at q'
  revert q'
  cases Builtin.Str.occurrences x' y 0 x'.length 1 with
  | nil =>
    intro q'
    refine ⟨.ref _, _, I.laid (t' := s.toks + 1) (o := .tup ([x', Str.empty, Str.empty].map V.str)) (fun b ob q => Heap.get?_push_of_some _ q) (Nat.le_refl _) ?_, rfl, q'⟩
    exact ⟨show 3 ≤ sizeLine by decide, _, .cons ⟨_, rfl⟩ (.cons ⟨_, rfl⟩ (.cons ⟨_, rfl⟩ .nil)), IsTup.new _ _⟩
  | cons i r =>
    intro q'
    refine ⟨.ref _, _, I.laid (t' := s.toks + 1 + 1) (o := .tup ([Builtin.Str.strSub x' 0 i, y, Builtin.Str.strSub x' (i + y.length) x'.length].map V.str)) (fun b ob q => Heap.get?_push_of_some _ q) (Nat.le_refl _) ?_, rfl, q'⟩
    exact ⟨show 3 ≤ sizeLine by decide, _, .cons ⟨_, rfl⟩ (.cons ⟨_, rfl⟩ (.cons ⟨_, rfl⟩ .nil)), IsTup.new _ _⟩
/-- text.startswith(y) -/
def rStarts : V → List V → Hp → VK → Prop := fun v vs H Q => ∃ x y, v = .str x ∧ vs = [.str y] ∧ Q (.bl (decide (0 + y.length ≤ x.length) && Builtin.Str.subAt x y 0)) H
theorem mt_starts : MtM X "str.startswith" rStarts := by
  intro pins s σ H x vs v us Q I rx rv h
  obtain ⟨x', y, rfl, rfl, q⟩ := h
  obtain ⟨t, rfl⟩ := rx
  obtain ⟨u, rfl, t', rfl⟩ := rv.one
  exact call_gives F.slot_str_startswith rfl F.entry_str_startswith (F.args_str_startswith_2 _ _) (gives_str_startswith x' y t t') ⟨.bl _, H, I, rfl, q⟩
end
end L2

set_option maxRecDepth 100000
namespace L2
open PySem PySem.Spec PyProof.Rows
/-- the signs of a text, one by one -/
def Its (x : Str) : It where
  stop := fun i _ => x.cps.size ≤ i
  go := fun i _ => i < x.cps.size
  yld := fun i H v H' => H' = H ∧ ∃ c, x.cps[i]? = some c ∧ v = .str ⟨#[c]⟩
theorem turn_str {P : Program} {w : World} {K : PySem.W.Frag} {tg : Expr} (it : Addr) (x : Str) (t : Tok) (n : String) (hn : n = "str_ascii_iterator" ∨ n = "str_iterator") : Turn P w K tg (Its x) [it] it (fun i h => h.IsStrIter it n x t i) where
  mem := by simp
  obj := fun i h st b hb => by
    have e : b = it := by simpa using hb
    subst e
    obtain ⟨o, ho, hc, hd⟩ := st
    exact ⟨o, ho, fun v z => by rw [hd] at z; cases z⟩
  keep := fun i h h' st k => let ⟨o, ho, r⟩ := st; ⟨o, k it (by simp) o ho, r⟩
  item := by
    intro X hP hw hK hc i pins s σ H E I hf st hg
    subst hP hw hK
    obtain ⟨f0, f1, f2, f3, f4, f5⟩ := hf it (by simp)
    have key : ∀ (W : Walks X.prog X.w X.A it [it] [it] x.cps.size (SignAt x) (fun i h => h.IsStrIter it n x t i)), wpAny (model X.prog X.w) X.A (pyNext (.ref it)) (fun r s1 => ∃ u, r = some u ∧ wpAny (model X.prog X.w) X.A (letOwnedTupleGo tg (.ref it) u) (fun _ s2 => ∃ x_1 H', Inv X pins σ H' s2 ∧ RelV x_1 u ∧ (Its x).yld i H x_1 H' ∧ s2.heap.IsStrIter it n x t (i + 1) ∧ ∀ b ∈ [it], H' b = none) E s1) E s := fun W => by
      refine W.item i s _ _ hg st fun v h' tk hv st' kk => ?_
      obtain ⟨c, u, hcx, rfl⟩ := hv
      have I1 : Inv X pins σ H { s with heap := h', toks := tk } := I.turned (fun b o hb e => kk b o (by simpa using hb) e) f0 f1 f3 f4 f5
      obtain ⟨o, ho, hoc, hod⟩ := id st'
      refine ⟨_, rfl, go_of (s := { s with heap := h', toks := tk }) (n := n) ho hoc hod (by rcases hn with rfl | rfl <;> decide) ⟨.str ⟨#[c]⟩, H, I1, ⟨_, rfl⟩, ⟨rfl, c, hcx, rfl⟩, st', fun b hb => (hf b hb).1⟩⟩
    rcases hn with rfl | rfl
    · exact key (Walks.strAscii (I.ok.hd hc) it x t)
    · exact key (Walks.strWide (I.ok.hd hc) it x t)
  done := by
    intro X hP hw hK hc i pins s σ H E I hf st hg
    subst hP hw hK
    obtain ⟨f0, f1, f2, f3, f4, f5⟩ := hf it (by simp)
    rcases hn with rfl | rfl
    · exact wpAny_pyNext_ascii_end (I.ok.hd hc) st (by have hg : x.cps.size ≤ i := hg; simpa using hg) fun h' he' => ⟨rfl, I.turned (t' := s.toks) (fun b o hb e => he' b o hb e) f0 f1 f3 f4 f5⟩
    · exact wpAny_pyNext_wide_end (I.ok.hd hc) st (by have hg : x.cps.size ≤ i := hg; simpa using hg) fun h' he' => ⟨rfl, I.turned (t' := s.toks) (fun b o hb e => he' b o hb e) f0 f1 f3 f4 f5⟩
  self := fun _ _ _ _ _ st h => by
    rcases hn with rfl | rfl
    · exact wpAny_pyIter_striter_ascii st h
    · exact wpAny_pyIter_striter_wide st h
section
variable {X : Cx} {tg : Expr}
def iStr (tl : TE) : TI := fun σ H R => tl σ H fun v H1 => ∃ x, v = .str x ∧ R (Its x) H1
theorem pi_str {l : Expr} {tl : TE} (hl : PE X l tl) : PI X tg l (iStr tl) := by
  intro pins s σ H R I h
  refine thn (hl pins s σ H _ I h) fun v s1 ⟨y, H1, I1, r1, q1⟩ => ?_
  obtain ⟨x, rfl, q⟩ := q1
  obtain ⟨t, rfl⟩ := r1
  have fin : ∀ (n : String) (o : Obj), n = "str_ascii_iterator" ∨ n = "str_iterator" → (s1.heap.push o).IsStrIter s1.heap.objs.size n x t 0 → PIE X pins σ tg R (.ref s1.heap.objs.size) { s1 with heap := s1.heap.push o } := fun n o hn st => by
    refine ⟨s1.heap.objs.size, [s1.heap.objs.size], _, _, H1, rfl, I1.kept (t' := s1.toks) fun b o e => Heap.get?_push_of_some _ e, turn_str _ x t n hn, st, fun b hb => ?_, q⟩
    have e : b = s1.heap.objs.size := by simpa using hb
    subst e
    exact I1.fpOk (Nat.le_refl _) (I1.hok.fresh (Nat.le_refl _))
  cases ha : x.cps.all (· < 128)
  · exact wpAny_pyIter_wide ha (fin _ _ (.inr rfl) ⟨_, Heap.get?_push_size _ rfl, rfl, rfl⟩)
  · exact wpAny_pyIter_ascii ha (fin _ _ (.inl rfl) ⟨_, Heap.get?_push_size _ rfl, rfl, rfl⟩)
end
end L2

set_option maxRecDepth 100000
namespace L2
open PySem PySem.Spec PyProof.Rows
section
variable {X : Cx}
end
end L2

set_option maxRecDepth 100000
namespace L2
open PySem PySem.Spec PyProof.Rows
section
variable {X : Cx}
/-- int(text) -/
def rIntS : List V → Hp → VK → Prop := fun xs H Q => ∃ z n, xs = [.str z] ∧ z.length ≤ 640 ∧ PySem.intText? z = some n ∧ Q (.int n) H
theorem call_intS : CallR X (.type "int") rIntS := by
  intro pins s σ H xs us Q I r h
  obtain ⟨z, n, rfl, hz, hn, q⟩ := h
  obtain ⟨u, rfl, t, rfl⟩ := vals1 r
  exact PySem.W.KIN.call_text hn hz ⟨.int n, H, I.tok _, ⟨_, rfl⟩, q⟩
theorem strsAre_of : ∀ {ys : List Str} {vs : List Value}, Vals (ys.map V.str) vs → StrsAre vs ys
  | [], _, .nil => .nil
  | y :: ys, _, .cons ⟨t, e⟩ r => by subst e; exact .cons y t (strsAre_of r)
/-- text.join(list of texts) -/
def rJoin (K : PySem.W.Frag) : V → List V → Hp → VK → Prop := fun v vs H Q => ∃ x p ys, v = .str x ∧ vs = [.ref p] ∧ SqL K H p (ys.map V.str) ∧ (ys.map (·.length)).sum + ys.length * x.length ≤ 16777216 ∧ Q (.str (Txt.join x ys)) H
theorem mt_join : MtM X "str.join" (rJoin X.K) := by
  intro pins s σ H x vs v us Q I rx rv h
  obtain ⟨x', p, ys, rfl, rfl, hp, hz, q⟩ := h
  obtain ⟨t, rfl⟩ := rx
  obtain ⟨u, rfl, r⟩ := rv.one
  cases r
  obtain ⟨its, r, pl, _⟩ := I.list hp
  obtain ⟨o, n, e1, e2, e3, e4⟩ := pl
  exact join_list (items := its.toArray) ⟨o, e1, e2, ⟨n, e4⟩⟩ (by exact strsAre_of r) hz fun t' k => ⟨.str _, H, I.tok _, ⟨_, rfl⟩, q⟩
end
end L2

set_option maxRecDepth 100000
namespace R
open PySem L2 PyProof.Rows
def term (p q : List Rat) (k i : Nat) : Rat := if i ≤ k then (p[i]?).getD 0 * (q[k - i]?).getD 0 else 0
end R
namespace L2
theorem seq_cut {t R : TS} {D : Ends} {σ : St} {H : Hp} (P : St → Hp → Prop) (first : ∀ N : St → Hp → Prop, (∀ σ H, P σ H → N σ H) → t { D with nx := N } σ H) (rest : ∀ σ H, P σ H → R D σ H) : tSeq t R D σ H := first _ rest
end L2

set_option maxRecDepth 100000
namespace R
section
variable {α : Type} [Lean.Grind.CommRing α]
def syn (c : α) : List α → List α
  | [] => []
  | a :: p => match syn c p with
    | [] => [a]
    | h :: t => (a + c * h) :: h :: t
/-- a pass from the place k on -/
def pass (c : α) (k : Nat) (l : List α) : List α := l.take k ++ syn c (l.drop k)
end
end R

set_option maxRecDepth 100000
namespace R
open PySem L2 PyProof.Rows
structure Bd6 (q : Rat) : Prop where
  n : q.num.natAbs < 2 ^ 6000
  d : q.den < 2 ^ 6000
theorem BdN.bd6 {n : Nat} {q : Rat} (h : BdN n q) (l : n ≤ 6000) : Bd6 q := ⟨Nat.lt_of_lt_of_le h.n (pow_le_pow2 l), Nat.lt_of_lt_of_le h.d (pow_le_pow2 l)⟩
end R

set_option maxRecDepth 100000
namespace R
end R

set_option maxRecDepth 100000
namespace R
end R

set_option maxRecDepth 100000
namespace R
end R

set_option maxRecDepth 100000
namespace R
open PySem L2 PyProof.Rows
/-- numbers brought to one bottom: the bits of that bottom and of the tops -/
structure ClN (W : Nat) (qs : List Rat) : Prop where
  l : lcmL qs < 2 ^ W
  w : ∀ v ∈ wholesOf (lcmL qs) qs, Int.natAbs v < 2 ^ W
end R

set_option maxRecDepth 100000
namespace R
open PySem L2 PyProof.Rows
structure PolyAt (H : Hp) (p : Addr) (qs : List Rat) : Prop where
  ex : ∃ xs, H p = some (.lst xs) ∧ Nums H xs qs
  bd : ∀ q ∈ qs, q.den < 2 ^ 6000
  len : qs.length < 900
  tl : IsTl qs qs.length
inductive Polys (H : Hp) : List Addr → List (List Rat) → Prop where
  | nil : Polys H [] []
  | cons {p : Addr} {ps : List Addr} {L : List Rat} {Ls : List (List Rat)} (h : PolyAt H p L) (t : Polys H ps Ls) : Polys H (p :: ps) (L :: Ls)
theorem refs_get {ts : List Addr} {i : Nat} {x : V} (h : (ts.map V.ref)[i]? = some x) : ∃ p, ts[i]? = some p ∧ x = .ref p := by
  rw [List.getElem?_map] at h
  cases hw : ts[i]? with
  | none => rw [hw] at h; cases h
  | some v => rw [hw] at h; cases h; exact ⟨v, rfl, rfl⟩
end R

set_option maxRecDepth 100000
namespace R
open PySem L2 PyProof.Rows
theorem cut_from (xs : List V) {n : Nat} (h : n ≤ xs.length) : cutV xs (some (n : Int)) none = xs.drop n := by
  unfold cutV
  have e1 : HT.sIx xs.length 0 (some (n : Int)) = n := by
    simp only [HT.sIx]
    rw [if_neg (by omega)]; omega
  have e2 : HT.sIx xs.length xs.length none = xs.length := rfl
  rw [e1, e2, List.take_of_length_le (by rw [List.length_drop]; omega)]
theorem cut_one (xs : List V) : cutV xs (some 1) none = xs.drop 1 := by
  cases xs with
  | nil => exact List.eq_nil_of_length_eq_zero (by have := cutV_length [] (some 1) none; simpa using this)
  | cons x xs => exact cut_from (x :: xs) (n := 1) (by simp)
theorem tl_of_last {qs : List Rat} (h : ∀ x, qs[qs.length - 1]? = some x → x ≠ 0) : IsTl qs qs.length :=
  ⟨Nat.le_refl _, fun i q hi e => (by rw [List.getElem?_eq_none hi] at e; cases e), fun _ q e => h q e⟩
theorem SameX.seq {K : PySem.W.Frag} {u : Addr} {H H' : Hp} {b : Addr} {xs : List V} (s : SameX u H H') (hu : H u = none) (h : SqL K H b xs) : SqL K H' b xs := by
  rcases h with h | h
  · rcases h with h | ⟨o, h⟩
    · exact .inl (.inl (s _ _ h (ne_of_none h hu)))
    · exact .inl (.inr ⟨o, s _ _ h (ne_of_none h hu)⟩)
  · exact .inr h
theorem tl_full {qs : List Rat} {q : Rat} (h : q ≠ 0) : IsTl (qs ++ [q]) (qs ++ [q]).length := by
  refine ⟨Nat.le_refl _, fun i p hi e => ?_, fun _ p e => ?_⟩
  · rw [List.getElem?_eq_none hi] at e; cases e
  · rw [List.length_append, List.length_singleton, Nat.add_sub_cancel, List.getElem?_append_right (Nat.le_refl _)] at e
    simp at e
    rw [← e]; exact h
def spLaw (K : PySem.W.Frag) : Sp := fun vs H Q _ => ∃ (a : Addr) (ns : List Int), vs = [.ref a] ∧ SqL K H a (ns.map V.int) ∧ ns.length ≤ 63 ∧ ∀ H', Q (.bl true) H'
structure ExT (K : PySem.W.Frag) (mg : Str → Option Value) (x : Str) (C : Addr) : Prop where
  m : mg x = some (.ref C)
  ox : OwnX K C [.type "ValueError", .type "Exception", .type "BaseException", .type "object"] "ValueError.__new__"
  ec : ExcCls K C
structure CAd where
  c_NoFraction : Addr
  c_NoPolynomial : Addr
  c_NoStretch : Addr
  c_NoRow : Addr
  c_NoPair : Addr
  c_NoBack : Addr
  c_NoForm : Addr
  c_NoParts : Addr
  c_NoDegree : Addr
  c_NoSteps : Addr
  c_NoBox : Addr
  c_NoGain : Addr
  c_NoText : Addr
  c_NoLine : Addr
  c_NoName : Addr
  c_NoDeed : Addr
  c_RestError : Addr
structure XTx (K : PySem.W.Frag) (mg : Str → Option Value) (a : CAd) : Prop where
  x_NoFraction : ExT K mg "NoFraction" a.c_NoFraction
  x_NoPolynomial : ExT K mg "NoPolynomial" a.c_NoPolynomial
  x_NoStretch : ExT K mg "NoStretch" a.c_NoStretch
  x_NoRow : ExT K mg "NoRow" a.c_NoRow
  x_NoPair : ExT K mg "NoPair" a.c_NoPair
  x_NoBack : ExT K mg "NoBack" a.c_NoBack
  x_NoForm : ExT K mg "NoForm" a.c_NoForm
  x_NoParts : ExT K mg "NoParts" a.c_NoParts
  x_NoDegree : ExT K mg "NoDegree" a.c_NoDegree
  x_NoSteps : ExT K mg "NoSteps" a.c_NoSteps
  x_NoBox : ExT K mg "NoBox" a.c_NoBox
  x_NoGain : ExT K mg "NoGain" a.c_NoGain
  x_NoText : ExT K mg "NoText" a.c_NoText
  x_NoLine : ExT K mg "NoLine" a.c_NoLine
  x_NoName : ExT K mg "NoName" a.c_NoName
  x_NoDeed : ExT K mg "NoDeed" a.c_NoDeed
structure Kits (K : PySem.W.Frag) (a : CAd) (C : Addr) (j : Nat) : Prop where
  k_NoFraction : PySem.W.kitOne K (.ref C) (.ref a.c_NoFraction) = some (decide (j = 0))
  k_NoPolynomial : PySem.W.kitOne K (.ref C) (.ref a.c_NoPolynomial) = some (decide (j = 1))
  k_NoStretch : PySem.W.kitOne K (.ref C) (.ref a.c_NoStretch) = some (decide (j = 2))
  k_NoRow : PySem.W.kitOne K (.ref C) (.ref a.c_NoRow) = some (decide (j = 3))
  k_NoPair : PySem.W.kitOne K (.ref C) (.ref a.c_NoPair) = some (decide (j = 4))
  k_NoBack : PySem.W.kitOne K (.ref C) (.ref a.c_NoBack) = some (decide (j = 5))
  k_NoForm : PySem.W.kitOne K (.ref C) (.ref a.c_NoForm) = some (decide (j = 6))
  k_NoParts : PySem.W.kitOne K (.ref C) (.ref a.c_NoParts) = some (decide (j = 7))
  k_NoDegree : PySem.W.kitOne K (.ref C) (.ref a.c_NoDegree) = some (decide (j = 8))
  k_NoSteps : PySem.W.kitOne K (.ref C) (.ref a.c_NoSteps) = some (decide (j = 9))
  k_NoBox : PySem.W.kitOne K (.ref C) (.ref a.c_NoBox) = some (decide (j = 10))
  k_NoGain : PySem.W.kitOne K (.ref C) (.ref a.c_NoGain) = some (decide (j = 11))
  k_NoText : PySem.W.kitOne K (.ref C) (.ref a.c_NoText) = some (decide (j = 12))
  k_NoLine : PySem.W.kitOne K (.ref C) (.ref a.c_NoLine) = some (decide (j = 13))
  k_NoName : PySem.W.kitOne K (.ref C) (.ref a.c_NoName) = some (decide (j = 14))
  k_NoDeed : PySem.W.kitOne K (.ref C) (.ref a.c_NoDeed) = some (decide (j = 15))
  kV : PySem.W.kitOne K (.ref C) (.type "ValueError") = some true
  ec : ExcCls K C
  ex : PySem.W.exmOne K (.ref C) (.ref a.c_RestError) = some true
def nameOf (j : Nat) : Str := [("fraction" : Str), "polynomial", "stretch", "row", "pair", "back", "form", "parts", "degree", "steps", "box", "gain", "text", "line", "name", "deed"].getD j ""
def spWhich (K : PySem.W.Frag) (a : CAd) : Sp := fun vs H Q _ => ∃ e C j, vs = [.ref e] ∧ Kits K a C j ∧ j < 16 ∧ H e = some (Exc (.ref C) e) ∧ ∀ H', Same H H' → Q (.str (nameOf j)) H'
def told (j : Nat) : List V := [V.bl (decide (j = 0)), V.bl (decide (j = 1)), V.bl (decide (j = 2)), V.bl (decide (j = 3))] ++ [V.bl (decide (j = 4)), V.bl (decide (j = 5)), V.bl (decide (j = 6)), V.bl (decide (j = 7))] ++ [V.bl (decide (j = 8)), V.bl (decide (j = 9)), V.bl (decide (j = 10)), V.bl (decide (j = 11))] ++ [V.bl (decide (j = 12)), V.bl (decide (j = 13)), V.bl (decide (j = 14)), V.bl (decide (j = 15))]
theorem told_count : ∀ j, j < 16 → (told j).countP (fun z => eqV z (V.bl true)) = 1 := by decide
theorem told_idx : ∀ j, j < 16 → (told j).findIdx? (fun z => eqV z (V.bl true)) = some j := by decide
theorem told_flat : ∀ j, j < 16 → (told j).all flatV = true := by decide
theorem parts_names : partsOf "fraction polynomial stretch row pair back form parts degree steps box gain text line name deed" " " = [("fraction" : Str), "polynomial", "stretch", "row", "pair", "back", "form", "parts", "degree", "steps", "box", "gain", "text", "line", "name", "deed"] := by decide +kernel
theorem name_at {j : Nat} (hj : j < 16) : atI ((partsOf "fraction polynomial stretch row pair back form parts degree steps box gain text line name deed" " ").map V.str) (j : Int) = some (.str (nameOf j)) := by
  rw [parts_names]
  refine atI_nat ?_
  have : ∀ j, j < 16 → ((["fraction", "polynomial", "stretch", "row", "pair", "back", "form", "parts", "degree", "steps", "box", "gain", "text", "line", "name", "deed"] : List Str).map V.str)[j]? = some (.str (nameOf j)) := by decide
  exact this j hj
end R

set_option maxRecDepth 100000
namespace R
open PySem L2 PyProof.Rows
def tyD : D → Value
  | .v .non => .type "NoneType"
  | .v (.bl _) => .type "bool"
  | .v (.int _) => .type "int"
  | .v (.str _) => .type "str"
  | .v _ => .type "object"
  | .tup _ => .type "tuple"
  | .lst _ => .type "list"
theorem _root_.L2.IsD.ty {K : PySem.W.Frag} {H : Hp} {v : V} {d : D} (h : IsD K H v d) : TyX K H v (tyD d) := by
  cases h with
  | v f =>
    cases v with
    | non => exact .of .non
    | bl b => exact .of (.bl b)
    | int i => exact .of (.int i)
    | str s => exact .of (.str s)
    | _ => cases f
  | tup h t => exact .sqt h
  | lst h t => exact .sql h
def isTupD : D → Bool
  | .tup _ => true
  | _ => false
def isIntD : D → Bool
  | .v (.int _) => true
  | .v (.bl _) => true
  | _ => false
def isBlD : D → Bool
  | .v (.bl _) => true
  | _ => false
def isStrD : D → Bool
  | .v (.str _) => true
  | _ => false
theorem kit_self {K : PySem.W.Frag} (a : String) : PySem.W.kitOne K (.type a) (.type a) = some true := by unfold PySem.W.kitOne; rw [if_pos (by simp)]
section
variable {K : PySem.W.Frag}
theorem kit_D_tuple {H : Hp} {v : V} {d : D} (h : IsD K H v d) : PySem.W.kitOne K (tyD d) (.type "tuple") = some (isTupD d) := by
  cases h with
  | v f =>
    cases v with
    | non => kernel_rfl
    | bl b => kernel_rfl
    | int i => kernel_rfl
    | str s => kernel_rfl
    | _ => cases f
  | tup h t => kernel_rfl
  | lst h t => kernel_rfl
theorem kit_D_int {H : Hp} {v : V} {d : D} (h : IsD K H v d) : PySem.W.kitOne K (tyD d) (.type "int") = some (isIntD d) := by
  cases h with
  | v f =>
    cases v with
    | non => kernel_rfl
    | bl b => kernel_rfl
    | int i => kernel_rfl
    | str s => kernel_rfl
    | _ => cases f
  | tup h t => kernel_rfl
  | lst h t => kernel_rfl
theorem kit_D_bool {H : Hp} {v : V} {d : D} (h : IsD K H v d) : PySem.W.kitOne K (tyD d) (.type "bool") = some (isBlD d) := by
  cases h with
  | v f =>
    cases v with
    | non => kernel_rfl
    | bl b => kernel_rfl
    | int i => kernel_rfl
    | str s => kernel_rfl
    | _ => cases f
  | tup h t => kernel_rfl
  | lst h t => kernel_rfl
end
def wholeD : D → Bool
  | .v (.int _) => true
  | _ => false
theorem wholeD_int {d : D} (h : wholeD d = true) : ∃ i, d = .v (.int i) := by
  unfold wholeD at h
  split at h
  · exact ⟨_, rfl⟩
  · cases h
def numD : D → Bool
  | .tup [.v (.int t), .v (.int b)] => decide (1 ≤ b) && decide (Int.gcd t b = 1)
  | _ => false
/-- the bits of the bottom, where a thing looks like a number -/
def bitsD (d : D) : Prop := ∀ t b : Int, d = .tup [.v (.int t), .v (.int b)] → t.natAbs < 2 ^ 6000 ∨ b.natAbs < 2 ^ 6000
end R
namespace L2
open PySem PyProof.Rows
end L2

set_option maxRecDepth 100000
namespace R
open PySem L2 PyProof.Rows
mutual
def noU : D → Bool
  | .v _ => true
  | .tup ds => noUs ds
  | .lst ds => (ds.length != 3) && noUs ds
def noUs : List D → Bool
  | [] => true
  | d :: ds => noU d && noUs ds
end
end R

set_option maxRecDepth 100000
namespace L2
open PySem PySem.Spec PyProof.Rows
theorem cw_str {x : Str} {D : Addr} {g : TG} {te : TE} {σ0 : St} {H0 : Hp} {Q : VK} (Pv : Nat → St → Hp → Prop) (h0 : Pv 0 σ0 H0)
    (hs : ∀ i c σ H, x.cps[i]? = some c → Pv i σ H → g (.str ⟨#[c]⟩) σ H fun σ4 H4 => te σ4 H4 fun y H5 => CompN D x.cps.size Pv i σ4 y H5) (hd : ∀ σ H, Pv x.cps.size σ H → Q (.ref D) H) : CompW (Its x) D σ0 H0 g te Q := by
  refine ⟨fun i m σ H => m = x.cps.size - i ∧ i ≤ x.cps.size ∧ Pv i σ H, ⟨x.cps.size, by simp, Nat.zero_le _, h0⟩, ?_⟩
  rintro i m σ H ⟨rfl, hi, p⟩
  by_cases hlt : i < x.cps.size
  · refine .inr ⟨hlt, ?_⟩
    rintro v H3 ⟨rfl, c, e, rfl⟩
    exact hs i c σ _ e p
  · have e : i = x.cps.size := by omega
    subst e
    exact .inl ⟨Nat.le_refl _, hd σ H p⟩
end L2
namespace R
open PySem L2 PyProof.Rows
abbrev sgn (x : Str) : List Nat := x.cps.toList
def isDg (c : Nat) : Bool := decide (48 ≤ c ∧ c ≤ 57)
theorem sgn_len (x : Str) : (sgn x).length = x.length := Array.length_toList
theorem str_ext {x y : Str} (h : sgn x = sgn y) : x = y := by
  cases x; cases y
  simp only [sgn, Array.toList_inj] at h
  rw [h]
theorem dg_in (c : Nat) : (!(Builtin.Str.occurrences ("0123456789" : Str) ⟨#[c]⟩ 0 (Str.length "0123456789") 1).isEmpty) = isDg c := by
  have := StrLaws.found_one ("0123456789" : Str) c
  rw [this]
  unfold isDg
  rw [decide_eq_decide]
  have e : sgn ("0123456789" : Str) = [48, 49, 50, 51, 52, 53, 54, 55, 56, 57] := by decide +kernel
  show c ∈ sgn ("0123456789" : Str) ↔ _
  rw [e]
  simp only [List.mem_cons, List.not_mem_nil, or_false]
  omega
/-- the whole number that a text of figures writes -/
def figS (x : Str) : Option Nat :=
  if x.length = 0 ∨ 30 < x.length ∨ (sgn x).all isDg = false then none
  else if (sgn x).head? = some 48 ∧ x.length ≠ 1 then none else some (NumText.digitsVal (sgn x))
theorem digits_lt : ∀ (cs : List Nat) (a : Nat), (∀ c ∈ cs, isDg c = true) → cs.foldl (fun acc c => acc * 10 + (c - 48)) a < (a + 1) * 10 ^ cs.length
  | [], a, _ => by simp
  | c :: cs, a, h => by
    have hc : 48 ≤ c ∧ c ≤ 57 := of_decide_eq_true (h c (by simp))
    have ih := digits_lt cs (a * 10 + (c - 48)) (fun d hd => h d (by simp [hd]))
    rw [List.foldl_cons]
    refine Nat.lt_of_lt_of_le ih ?_
    rw [List.length_cons, Nat.pow_succ, Nat.mul_comm (10 ^ cs.length) 10, ← Nat.mul_assoc]
    exact Nat.mul_le_mul_right _ (by omega)
theorem figS_lt {x : Str} {n : Nat} (h : figS x = some n) : n < 10 ^ 30 := by
  unfold figS at h
  split at h
  · cases h
  rename_i h1
  split at h
  · cases h
  cases h
  have hl : x.length ≤ 30 := by omega
  have hd : (sgn x).all isDg = true := by
    cases e : (sgn x).all isDg
    · exact absurd (.inr (.inr e)) h1
    · rfl
  refine Nat.lt_of_lt_of_le (digits_lt (sgn x) 0 (fun c hc => List.all_eq_true.mp hd c hc)) ?_
  rw [sgn_len, Nat.zero_add, Nat.one_mul]
  exact Nat.pow_le_pow_right (by decide) hl
/-- a text parted by the stroke -/
def pA (x : Str) : Str := (partS x "/").getD 0 Str.empty
def pM (x : Str) : Str := (partS x "/").getD 1 Str.empty
def pB (x : Str) : Str := (partS x "/").getD 2 Str.empty
theorem part_eq (x : Str) : partS x "/" = [pA x, pM x, pB x] := by
  unfold pA pM pB partS
  split <;> rfl
theorem pA_len (x : Str) : (pA x).length ≤ x.length := by
  unfold pA partS
  split
  · show (x.cps.extract _ _).size ≤ x.cps.size
    simp; omega
  · exact Nat.le_refl _
theorem pB_len (x : Str) : (pB x).length ≤ x.length := by
  unfold pB partS
  split
  · show (x.cps.extract _ _).size ≤ x.cps.size
    simp; omega
  · exact Nat.zero_le _
theorem pM_two (x : Str) : pM x = "/" ∨ pM x = Str.empty := by
  unfold pM partS
  split
  · exact .inl rfl
  · exact .inr rfl
def isMn (x : Str) : Bool := decide (0 + Str.length "-" ≤ x.length) && Builtin.Str.subAt x "-" 0
theorem idx_from (a n : Nat) : Builtin.Str.strSliceIndices (some (a : Int)) none 1 n = Builtin.Str.strSliceIndices (some ((min a n : Nat) : Int)) (some (n : Int)) 1 n := by
  have h1 : ¬ ((a : Int) < 0) := by omega
  have h2 : ¬ ((n : Int) < 0) := by omega
  have h3 : ¬ (((min a n : Nat) : Int) < 0) := by omega
  have e1 : max (0 : Int) (min (a : Int) (n : Int)) = ((min a n : Nat) : Int) := by omega
  have e2 : max (0 : Int) (min ((min a n : Nat) : Int) (n : Int)) = ((min a n : Nat) : Int) := by omega
  have e3 : max (0 : Int) (min (n : Int) (n : Int)) = (n : Int) := by omega
  simp only [Builtin.Str.strSliceIndices, h1, h2, h3, if_false, e1, e2, e3, show ((1 : Int) > 0) = True from by simp, if_true]
theorem slice_plain {x : Str} {l u : Option Int} {a b : Nat} (hab : a ≤ b) (hb : b ≤ x.length) (h : Builtin.Str.strSliceIndices l u 1 x.length = Builtin.Str.strSliceIndices (some (a : Int)) (some (b : Int)) 1 x.length) : sgn (Txt.slice x l u) = ((sgn x).drop a).take (b - a) := by
  unfold Txt.slice
  rw [h]
  split
  · rename_i e
    rw [StrLaws.strSliceIndices_plain hab hb] at e
    simp only [List.length_map, List.length_range, beq_self_eq_true, Bool.true_and, beq_iff_eq] at e
    have : a = 0 := by omega
    subst this
    rw [List.drop_zero, List.take_of_length_le]
    rw [sgn_len]; omega
  · rw [StrLaws.sliced_plain x hab hb]
theorem slice_from (x : Str) (a : Nat) : sgn (Txt.slice x (some (a : Int)) none) = (sgn x).drop a := by
  rw [slice_plain (a := min a x.length) (b := x.length) (by omega) (Nat.le_refl _) (idx_from a x.length)]
  rw [List.take_of_length_le (by rw [List.length_drop, sgn_len]; omega)]
  by_cases h : a ≤ x.length
  · rw [Nat.min_eq_left h]
  · rw [List.drop_eq_nil_of_le (by rw [sgn_len]; omega), List.drop_eq_nil_of_le (by rw [sgn_len]; omega)]
theorem sgn_lit : sgn ("-" : Str) = [45] := by decide +kernel
theorem mn_iff (x : Str) : isMn x = true ↔ (sgn x).head? = some 45 := by
  unfold isMn
  rw [StrLaws.subAt_eq, Bool.and_eq_true, decide_eq_true_eq, beq_iff_eq, List.drop_zero]
  have e : Str.length "-" = 1 := by decide +kernel
  show _ ∧ List.take _ (sgn x) = sgn ("-" : Str) ↔ _
  rw [e, sgn_lit, ← sgn_len]
  cases sgn x with
  | nil => simp
  | cons c cs => simp
/-- the number that a text writes -/
def topS (x : Str) : Option Nat := figS (if isMn (pA x) = true then Txt.slice (pA x) (some 1) none else pA x)
def botS (x : Str) : Option Nat := if pM x = Str.empty then some 1 else figS (pB x)
def readS (x : Str) : Option Rat := match topS x, botS x with
  | some t, some b => if b = 0 ∨ (isMn (pA x) = true ∧ t = 0) ∨ (pM x ≠ Str.empty ∧ b = 1) ∨ Int.gcd t b ≠ 1 then none else some (Rat.divInt (if isMn (pA x) = true then -(t : Int) else t) b)
  | _, _ => none
theorem botS_lt {x : Str} {n : Nat} (h : botS x = some n) : n < 10 ^ 30 := by
  unfold botS at h
  split at h
  · cases h; decide
  · exact figS_lt h
/-- a number written -/
def showS (q : Rat) : Str := if q.den = 1 then (Str.ofString (toString q.num)) else Str.ofString (toString q.num) ++ "/" ++ Str.ofString (toString (q.den : Int))
end R
namespace R
open PySem L2 PyProof.Rows
theorem kit_D_str {K : PySem.W.Frag} {H : Hp} {v : V} {d : D} (h : IsD K H v d) : PySem.W.kitOne K (tyD d) (.type "str") = some (isStrD d) := by
  cases h with
  | v f =>
    cases v with
    | non => kernel_rfl
    | bl b => kernel_rfl
    | int i => kernel_rfl
    | str s => kernel_rfl
    | _ => cases f
  | tup h t => kernel_rfl
  | lst h t => kernel_rfl
theorem sgn_of (s : String) : sgn (Str.ofString s) = s.toList.map Char.toNat := by rw [Str.ofString_eq_toList]
theorem sgn_app (x y : Str) : sgn (x ++ y) = sgn x ++ sgn y := by
  show (x.cps ++ y.cps).toList = _
  rw [Array.toList_append]
theorem sgn_nat (n : Nat) : sgn (Str.ofString (toString ((n : Nat) : Int))) = (Nat.toDigits 10 n).map Char.toNat := PySem.W.KIN.signs_num n
theorem text_neg (n : Nat) (h : 0 < n) : Str.ofString (toString (-((n : Nat) : Int))) = "-" ++ Str.ofString (toString ((n : Nat) : Int)) := by
  obtain ⟨m, rfl⟩ : ∃ m, n = m + 1 := ⟨n - 1, by omega⟩
  refine str_ext ?_
  rw [sgn_app, sgn_of, sgn_of, sgn_of]
  have e : -((m + 1 : Nat) : Int) = Int.negSucc m := rfl
  rw [e]
  show (("-" ++ Nat.repr (m + 1) : String)).toList.map Char.toNat = _ ++ (Nat.repr (m + 1)).toList.map Char.toNat
  rw [String.toList_append, List.map_append]
theorem text_len_nat {n k : Nat} (hk : 0 < k) (h : n < 10 ^ k) : (Str.ofString (toString ((n : Nat) : Int))).length ≤ k := by
  rw [← sgn_len, sgn_nat, List.length_map]
  exact (Nat.length_toDigits_le_iff (by decide) hk).mpr h
theorem text_len {i : Int} {k : Nat} (hk : 0 < k) (h : i.natAbs < 10 ^ k) : (Str.ofString (toString i)).length ≤ k + 1 := by
  rcases Int.lt_or_le i 0 with hi | hi
  · obtain ⟨n, rfl⟩ : ∃ n : Nat, i = -(n : Int) := ⟨i.natAbs, by omega⟩
    rw [text_neg n (by omega), ← sgn_len, sgn_app, List.length_append, sgn_len, sgn_len]
    have := text_len_nat (n := n) hk (by simpa using h)
    have : Str.length "-" = 1 := by decide +kernel
    omega
  · obtain ⟨n, rfl⟩ : ∃ n : Nat, i = (n : Int) := ⟨i.toNat, by omega⟩
    have := text_len_nat (n := n) hk (by simpa using h)
    omega
theorem show_len {q : Rat} {k : Nat} (hk : 0 < k) (h1 : q.num.natAbs < 10 ^ k) (h2 : q.den < 10 ^ k) : (showS q).length ≤ 2 * k + 2 := by
  have l1 := text_len hk h1
  have l2 := text_len_nat hk h2
  unfold showS
  split
  · omega
  · rw [← sgn_len, sgn_app, sgn_app, List.length_append, List.length_append, sgn_len, sgn_len, sgn_len]
    have : Str.length "/" = 1 := by decide +kernel
    omega
end R

set_option maxRecDepth 100000
namespace L2
open PySem PySem.Spec PyProof.Rows
section
variable {X : Cx}
/-- text.split(sep), whatever the text -/
def rSplitS : V → List V → Hp → VK → Prop := fun v vs H Q => ∃ x y, v = .str x ∧ vs = [.str y] ∧ (y.length == 0) = false ∧ x.length ≤ 100000 ∧ ∀ l, H l = none → Q (.ref l) (upd H l (.lst ((Txt.split x y).map V.str)))
theorem mt_splitS : MtM X "str.split" rSplitS := by
  intro pins s σ H x vs v us Q I rx rv h
  obtain ⟨x', y, rfl, rfl, hy, hx, q⟩ := h
  obtain ⟨t, rfl⟩ := rx
  obtain ⟨u, rfl, t', rfl⟩ := rv.one
  have hx' : x'.length ≤ sizeLine := Nat.le_trans hx (by decide)
  have hz : (Txt.split x' y).length ≤ sizeLine := Nat.le_trans (split_le x' y) (Nat.le_trans (show x'.length + 2 ≤ 100002 by omega) (by decide))
  have itself : Txt.split x' y = [x'] → EP X pins σ Q (.ref s.heap.objs.size) { s with heap := s.heap.push { cls := .type "list", data := .seq [Value.str x' t].toArray } } := fun e => by
    have q' := q _ I.fresh
    rw [e] at q'
    exact ⟨.ref _, _, I.lnew (ys := [V.str x']) (.cons ⟨_, rfl⟩ .nil) (show 1 ≤ sizeLine by decide), rfl, q'⟩
  cases h1 : (decide (x'.length < y.length) || decide (Builtin.Str.strKind x' < Builtin.Str.strKind y))
  · cases h3 : (Builtin.Str.occurrences x' y 0 x'.length (x'.length + 1)).isEmpty
    · have e : Txt.split x' y = Builtin.Str.partsBetween x' (Builtin.Str.occurrences x' y 0 x'.length (x'.length + 1)) y.length := by
        unfold Txt.split
        rw [if_neg (by rw [h1]; exact Bool.false_ne_true), if_neg (by rw [h3]; exact Bool.false_ne_true)]
      rw [e] at hz q
      refine call_meets F.slot_str_split rfl F.entry_str_split (F.args_str_split_2 _ _) (meets_str_split_sep x' y t t' h1 hy h3 hx' hz) ?_
      exact ⟨.ref _, _, I.lnew (ys := (partsOf x' y).map V.str) (vals_strs _ _) (by rw [List.length_map]; exact hz), rfl, q _ I.fresh⟩
    · refine call_meets F.slot_str_split rfl F.entry_str_split (F.args_str_split_2 _ _) (meets_str_split_not_found x' y t t' h1 hy h3) (itself ?_)
      unfold Txt.split
      rw [if_neg (by rw [h1]; exact Bool.false_ne_true), if_pos h3]
  · refine call_meets F.slot_str_split rfl F.entry_str_split (F.args_str_split_2 _ _) (meets_str_split_cannot_occur x' y t t' h1) (itself ?_)
    unfold Txt.split
    rw [if_pos h1]
/-- None in a list of things each None, a list or a tuple -/
def isNonU : Value → Bool
  | .none => true
  | _ => false
def isNonV : V → Bool
  | .non => true
  | _ => false
def Seqish (K : PySem.W.Frag) (H : Hp) (v : V) : Prop := v = .non ∨ ∃ a, v = .ref a ∧ ((∃ ys, SqT K H a ys) ∨ ∃ ys, SqL K H a ys)
theorem any_non {K : PySem.W.Frag} {H : Hp} : ∀ {xs : List V} {us : List Value}, Vals xs us → (∀ v ∈ xs, Seqish K H v) → us.any isNonU = xs.any isNonV
  | _, _, .nil, _ => rfl
  | x :: xs, u :: us, .cons r t, h => by
    rw [List.any_cons, List.any_cons, any_non t fun v hv => h v (List.mem_cons_of_mem _ hv)]
    rcases h x (List.mem_cons_self ..) with rfl | ⟨a, rfl, _⟩
    · cases (show u = Value.none from r); rfl
    · cases (show u = Value.ref a from r); rfl
def rInN (K : PySem.W.Frag) : R2 := fun x y H Q => ∃ p xs, x = .non ∧ y = .ref p ∧ SqL K H p xs ∧ (∀ v ∈ xs, Seqish K H v) ∧ Q (.bl (xs.any isNonV)) H
theorem eqAt_non {pins : List (Addr × Obj)} {σ : St} {H : Hp} {s : Shared} {A : Around} (I : Inv X pins σ H s) (hu : A.units < cLine) : ∀ {xs : List V} {us : List Value}, Vals xs us → (∀ v ∈ xs, Seqish X.K H v) → ∀ w ∈ us, SeqAt.EqAt A s w .none (isNonU w)
  | _, _, .nil, _ => fun w hw => by cases hw
  | x :: xs, u :: us, .cons r t, h => fun w hw => by
    rcases List.mem_cons.mp hw with rfl | hw
    · rcases h x (List.mem_cons_self ..) with rfl | ⟨a, rfl, ⟨ys, hs⟩ | ⟨ys, hs⟩⟩
      · cases (show w = Value.none from r)
        exact SeqAt.EqAt.same _
      · cases (show w = Value.ref a from r)
        obtain ⟨its, _, i1, _⟩ := I.tuple hs
        exact SeqAt.EqAt.tuple_none i1 hu
      · cases (show w = Value.ref a from r)
        obtain ⟨its, _, i1, _⟩ := I.list hs
        exact SeqAt.EqAt.list_none i1.isList hu
    · exact eqAt_non I hu t (fun v hv => h v (List.mem_cons_of_mem _ hv)) w hw
theorem op_inN (hu : X.A.units + 64 < cLine) : OpR X (compareOp .In) (rInN X.K) := by
  intro pins s σ H x y v u Q I rx ry h
  obtain ⟨p, xs, rfl, rfl, hq, hs, q⟩ := h
  cases ry
  cases (show v = Value.none from rx)
  obtain ⟨its, r, pl, hz⟩ := I.list hq
  refine SeqAt.in_listAt isNonU pl.isList (fun w hw => eqAt_non I (A := _) (by show X.A.units + _ < _; first | omega | exact Nat.lt_of_le_of_lt (Nat.le_add_right _ _) hu) r hs w (by simpa using hw)) ⟨.bl _, H, I, rfl, ?_⟩
  rw [show its.toArray.any isNonU = its.any isNonU by simp, any_non r hs]
  exact q
end
end L2

set_option maxRecDepth 100000
namespace R
open PySem L2 PyProof.Rows
/-- texts put together, sign by sign -/
def jn (y : List Nat) : List (List Nat) → List Nat
  | [] => []
  | [w] => w
  | w :: ws => w ++ y ++ jn y ws
theorem sgn_join (y : Str) : ∀ ws : List Str, sgn (Str.join y ws) = jn (sgn y) (ws.map sgn)
  | [] => rfl
  | [w] => rfl
  | w :: w2 :: ws => by
    have ih := sgn_join y (w2 :: ws)
    show sgn (w ++ y ++ Str.join y (w2 :: ws)) = _
    rw [sgn_app, sgn_app, ih]; rfl
theorem join_eq (y : Str) (ws : List Str) : Txt.join y ws = Str.join y ws := StrLaws.glued_eq_join y ws
theorem at_iff (x y : Str) (k : Nat) : StrLaws.At x y x.length k ↔ k + y.length ≤ x.length ∧ ((sgn x).drop k).take y.length = sgn y := by
  unfold StrLaws.At
  rw [StrLaws.subAt_eq, beq_iff_eq]
theorem at_head {x y : Str} {c k : Nat} {t : List Nat} (hy : sgn y = c :: t) (h : StrLaws.At x y x.length k) : (sgn x)[k]? = some c := by
  obtain ⟨h1, h2⟩ := (at_iff x y k).mp h
  rw [hy] at h2
  have hl : y.length = t.length + 1 := by rw [← sgn_len, hy]; rfl
  rw [hl] at h2
  cases e : (sgn x).drop k with
  | nil => rw [e] at h2; simp at h2
  | cons d ds =>
    rw [e] at h2
    simp at h2
    have := List.getElem?_drop (xs := sgn x) (i := k) (j := 0)
    rw [e, Nat.add_zero, List.getElem?_cons_zero] at this
    rw [← this, h2.1]
theorem parts_join (x y : Str) {c : Nat} {t : List Nat} (hy : sgn y = c :: t) : ∀ (ws : List Str) (a : Nat) (cuts : List Nat) (f : Nat), ws ≠ [] → (∀ w ∈ ws, c ∉ sgn w) → a ≤ x.length → (sgn x).drop a = jn (sgn y) (ws.map sgn) → StrLaws.ChainG x y x.length a cuts f → (∀ k, f ≤ k → ¬ StrLaws.At x y x.length k) → StrLaws.partsFrom x y.length a cuts = ws
  | [], _, _, _, h, _, _, _, _, _ => absurd rfl h
  | [w], a, cuts, f, _, hw, ha, hx, hc, hn => by
    have hx' : (sgn x).drop a = sgn w := hx
    have no : ∀ k, a ≤ k → ¬ StrLaws.At x y x.length k := fun k hk h => by
      have h1 := at_head hy h
      have h2 : ((sgn x).drop a)[k - a]? = some c := by rw [List.getElem?_drop, show a + (k - a) = k by omega]; exact h1
      rw [hx'] at h2
      exact hw w (by simp) (List.mem_of_getElem? h2)
    cases cuts with
    | nil =>
      show [Builtin.Str.strSub x a x.length] = [w]
      rw [List.cons.injEq]
      refine ⟨str_ext ?_, rfl⟩
      show (Builtin.Str.strSub x a x.length).cps.toList = _
      rw [StrLaws.strSub_toList, List.take_of_length_le]
      · exact hx'
      · rw [List.length_drop]; have := sgn_len x; show (sgn x).length - a ≤ _; omega
    | cons d r => exact absurd hc.2.1 (no d hc.1)
  | w :: w2 :: ws, a, cuts, f, _, hw, ha, hx, hc, hn => by
    have hx' : (sgn x).drop a = sgn w ++ sgn y ++ jn (sgn y) ((w2 :: ws).map sgn) := hx
    have hl : (sgn x).length = a + (sgn w).length + (sgn y).length + (jn (sgn y) ((w2 :: ws).map sgn)).length := by
      have := congrArg List.length hx'
      rw [List.length_drop, List.length_append, List.length_append] at this
      have : a ≤ (sgn x).length := by rw [sgn_len]; exact ha
      have : 0 < (sgn y).length := by rw [hy]; simp
      omega
    have d1 : (sgn x).drop (a + (sgn w).length) = sgn y ++ jn (sgn y) ((w2 :: ws).map sgn) := by
      rw [← List.drop_drop, hx', List.append_assoc, List.drop_left]
    have yes : StrLaws.At x y x.length (a + (sgn w).length) := by
      rw [at_iff]
      have := sgn_len x
      have := sgn_len y
      refine ⟨by omega, ?_⟩
      rw [d1, ← sgn_len y, List.take_left]
    have no : ∀ k, a ≤ k → k < a + (sgn w).length → ¬ StrLaws.At x y x.length k := fun k h1 h2 h => by
      have h3 := at_head hy h
      have h4 : ((sgn x).drop a)[k - a]? = some c := by rw [List.getElem?_drop, show a + (k - a) = k by omega]; exact h3
      rw [hx', List.append_assoc, List.getElem?_append_left (by omega)] at h4
      exact hw w (by simp) (List.mem_of_getElem? h4)
    cases cuts with
    | nil =>
      have e : f = a := hc
      exact absurd yes (hn _ (by omega))
    | cons d r =>
      have ed : d = a + (sgn w).length := by
        rcases Nat.lt_trichotomy d (a + (sgn w).length) with h | h | h
        · exact absurd hc.2.1 (no d hc.1 h)
        · exact h
        · exact absurd yes (hc.2.2.1 _ (by omega) h)
      subst ed
      show Builtin.Str.strSub x a (a + (sgn w).length) :: StrLaws.partsFrom x y.length (a + (sgn w).length + y.length) r = w :: w2 :: ws
      have := sgn_len x
      have := sgn_len y
      rw [parts_join x y hy (w2 :: ws) _ r f (by simp) (fun v hv => hw v (by simp at hv ⊢; exact .inr hv)) (by omega) ?_ hc.2.2.2 hn, List.cons.injEq]
      · refine ⟨str_ext ?_, rfl⟩
        show (Builtin.Str.strSub x a _).cps.toList = _
        rw [StrLaws.strSub_toList]
        show ((sgn x).drop a).take _ = _
        rw [hx', List.append_assoc, show a + (sgn w).length - a = (sgn w).length by omega, List.take_left]
      · rw [← List.drop_drop, d1, ← sgn_len y, List.drop_left]
theorem split_join (y : Str) {c : Nat} {t : List Nat} (hy : sgn y = c :: t) (hk : Builtin.Str.strKind y = 1) (ws : List Str) (hne : ws ≠ []) (hw : ∀ w ∈ ws, c ∉ sgn w) : Txt.split (Str.join y ws) y = ws := by
  obtain ⟨f, hG, hn⟩ := StrLaws.occ_tight (Str.join y ws) y (by rw [← sgn_len, hy]; simp)
  have main := parts_join (Str.join y ws) y hy ws 0 _ f hne hw (Nat.zero_le _) (by rw [List.drop_zero, sgn_join]) hG hn
  have kx : 1 ≤ Builtin.Str.strKind (Str.join y ws) := by
    unfold Builtin.Str.strKind
    split
    · exact Nat.le_refl _
    · split <;> decide
  have one : ws.length = 1 → [Str.join y ws] = ws := fun h => by
    match ws, h with
    | [w], _ => rfl
  unfold Txt.split
  split
  · rename_i h
    rw [hk, Bool.or_eq_true, decide_eq_true_eq, decide_eq_true_eq] at h
    refine one ?_
    match ws, hne with
    | [w], _ => rfl
    | w :: w2 :: ws, _ =>
      rcases h with h | h
      · rw [← sgn_len, ← sgn_len, sgn_join] at h
        simp only [List.map_cons, jn, List.length_append] at h
        omega
      · omega
  · split
    · rename_i h
      rw [List.isEmpty_iff.mp h] at main
      rw [← main]
      show _ = [Builtin.Str.strSub _ 0 _]
      rw [main]
      rw [StrLaws.sub_whole]
    · rw [StrLaws.partsBetween_eq]; exact main
end R

set_option maxRecDepth 100000
namespace L2
open PySem PyProof.Rows
end L2
namespace R
open PySem L2 PyProof.Rows
inductive Rws (H : Hp) : List Addr → List (List Rat) → Prop where
  | nil : Rws H [] []
  | cons {p : Addr} {xs : List V} {ps : List Addr} {L : List Rat} {Ls : List (List Rat)} (h : H p = some (.lst xs)) (n : Nums H xs L) (t : Rws H ps Ls) : Rws H (p :: ps) (L :: Ls)
theorem Rws.length {H : Hp} : ∀ {ts : List Addr} {M : List (List Rat)}, Rws H ts M → ts.length = M.length
  | _, _, .nil => rfl
  | _, _, .cons _ _ t => congrArg (· + 1) t.length
theorem Rws.same {H H' : Hp} (s : Same H H') : ∀ {ts : List Addr} {M : List (List Rat)}, Rws H ts M → Rws H' ts M
  | _, _, .nil => .nil
  | _, _, .cons h n t => .cons (s _ _ h) (n.mono s.tups) (t.same s)
theorem Rws.samex {u : Addr} {H H' : Hp} (s : SameX u H H') (hu : UrnAt H u) : ∀ {ts : List Addr} {M : List (List Rat)}, (∀ t ∈ ts, t ≠ u) → Rws H ts M → Rws H' ts M
  | _, _, _, .nil => .nil
  | _, _, hn, .cons h n t => .cons (s _ _ h (hn _ List.mem_cons_self)) (n.mono (s.tups hu)) (t.samex s hu fun x hx => hn x (List.mem_cons_of_mem _ hx))
theorem Rws.over {H : Hp} {l : Addr} {xs : List V} {o : HO} (hl : H l = some (.lst xs)) : ∀ {ts : List Addr} {M : List (List Rat)}, l ∉ ts → Rws H ts M → Rws (upd H l o) ts M
  | _, _, _, .nil => .nil
  | _, _, hn, .cons h n t => .cons (by rw [upd_ne (fun z => hn (by rw [← z]; exact List.mem_cons_self))]; exact h) (n.mono (TupS.lst hl)) (t.over hl fun z => hn (List.mem_cons_of_mem _ z))
theorem Rws.append {H : Hp} : ∀ {ts us : List Addr} {M N : List (List Rat)}, Rws H ts M → Rws H us N → Rws H (ts ++ us) (M ++ N)
  | _, _, _, _, .nil, h => h
  | _, _, _, _, .cons h n t, k => .cons h n (t.append k)
theorem Rws.get {H : Hp} : ∀ {ts : List Addr} {M : List (List Rat)} {i : Nat} {p : Addr}, Rws H ts M → ts[i]? = some p → ∃ xs L, M[i]? = some L ∧ H p = some (.lst xs) ∧ Nums H xs L
  | _, _, _, _, .nil, e => by simp at e
  | _, _, 0, _, .cons h n _, e => by cases e; exact ⟨_, _, rfl, h, n⟩
  | _, _, i + 1, _, .cons _ _ t, e => t.get (i := i) (by simpa using e)
theorem Rws.isDs {K : PySem.W.Frag} {H : Hp} : ∀ {ts : List Addr} {M : List (List Rat)}, Rws H ts M → IsDs K H (ts.map V.ref) (M.map dList)
  | _, _, .nil => .nil
  | _, _, .cons h n t => .cons (isD_list (SqL.of h) n) t.isDs
end R

set_option maxRecDepth 100000
namespace R
open PySem L2 PyProof.Rows
/-- a table that was made: all its lists are new and apart -/
def TabRes (H : Hp) (Q : VK) (M : List (List Rat)) : Prop := ∀ (r : Addr) (ts : List Addr) (H' : Hp), Same H H' → H r = none → (∀ t ∈ ts, H t = none ∧ t ≠ r) → ts.Nodup → H' r = some (.lst (ts.map V.ref)) → Rws H' ts M → Q (.ref r) H'
structure TabAt (H : Hp) (D : Addr) (M : List (List Rat)) (H2 : Hp) : Prop where
  same : Same H H2
  at' : ∃ ts : List Addr, H2 D = some (.lst (ts.map V.ref)) ∧ (∀ t ∈ ts, H t = none ∧ t ≠ D) ∧ ts.Nodup ∧ Rws H2 ts M
structure RowAt (H : Hp) (D : Addr) (L : List Rat) (H2 : Hp) : Prop where
  same : Same H H2
  at' : ∃ xs : List V, H2 D = some (.lst xs) ∧ Nums H2 xs L
def NmC (K : PySem.W.Frag) (H : Hp) (p : Addr) (q : Rat) : Prop := H p = some (.tup (numV q)) ∨ ∀ H', SqT K H' p (numV q)
theorem NmC.sqt {K : PySem.W.Frag} {H : Hp} {p : Addr} {q : Rat} : NmC K H p q → SqT K H p (numV q)
  | .inl h => SqT.of h
  | .inr h => h H
theorem NmC.mono {K : PySem.W.Frag} {H H' : Hp} {p : Addr} {q : Rat} (e : TupS H H') : NmC K H p q → NmC K H' p q
  | .inl h => .inl (e _ _ h)
  | .inr h => .inr h
inductive NumsC (K : PySem.W.Frag) (H : Hp) : List V → List Rat → Prop where
  | nil : NumsC K H [] []
  | cons {p : Addr} {q : Rat} {vs : List V} {qs : List Rat} (h : NmC K H p q) (t : NumsC K H vs qs) : NumsC K H (.ref p :: vs) (q :: qs)
theorem NumsC.mono {K : PySem.W.Frag} {H H' : Hp} (e : TupS H H') : ∀ {vs : List V} {qs : List Rat}, NumsC K H vs qs → NumsC K H' vs qs
  | _, _, .nil => .nil
  | _, _, .cons h t => .cons (h.mono e) (t.mono e)
theorem NumsC.length {K : PySem.W.Frag} {H : Hp} : ∀ {vs : List V} {qs : List Rat}, NumsC K H vs qs → vs.length = qs.length
  | _, _, .nil => rfl
  | _, _, .cons _ t => congrArg (· + 1) t.length
theorem NumsC.getV {K : PySem.W.Frag} {H : Hp} : ∀ {vs : List V} {qs : List Rat} {i : Nat} {v : V}, NumsC K H vs qs → vs[i]? = some v → ∃ p q, v = .ref p ∧ qs[i]? = some q ∧ NmC K H p q
  | _, _, _, _, .nil, e => by simp at e
  | _, _, 0, _, .cons h t, e => by cases e; exact ⟨_, _, rfl, rfl, h⟩
  | _, _, i + 1, _, .cons _ t, e => t.getV (i := i) (by simpa using e)
theorem NumsC.isDs {K : PySem.W.Frag} {H : Hp} : ∀ {vs : List V} {qs : List Rat}, NumsC K H vs qs → IsDs K H vs (qs.map dNum)
  | _, _, .nil => .nil
  | _, _, .cons h t => .cons (isD_num h.sqt) t.isDs
theorem Nums.toC {K : PySem.W.Frag} {H : Hp} : ∀ {vs : List V} {qs : List Rat}, Nums H vs qs → NumsC K H vs qs
  | _, _, .nil => .nil
  | _, _, .cons h t => .cons (.inl h) t.toC
inductive RwsC (K : PySem.W.Frag) (H : Hp) : List Addr → List (List Rat) → Prop where
  | nil : RwsC K H [] []
  | cons {p : Addr} {xs : List V} {ps : List Addr} {L : List Rat} {Ls : List (List Rat)} (h : H p = some (.lst xs)) (n : NumsC K H xs L) (t : RwsC K H ps Ls) : RwsC K H (p :: ps) (L :: Ls)
theorem Rws.toC {K : PySem.W.Frag} {H : Hp} : ∀ {ts : List Addr} {M : List (List Rat)}, Rws H ts M → RwsC K H ts M
  | _, _, .nil => .nil
  | _, _, .cons h n t => .cons h n.toC t.toC
theorem RwsC.length {K : PySem.W.Frag} {H : Hp} : ∀ {ts : List Addr} {M : List (List Rat)}, RwsC K H ts M → ts.length = M.length
  | _, _, .nil => rfl
  | _, _, .cons _ _ t => congrArg (· + 1) t.length
theorem RwsC.get {K : PySem.W.Frag} {H : Hp} : ∀ {ts : List Addr} {M : List (List Rat)} {i : Nat} {p : Addr}, RwsC K H ts M → ts[i]? = some p → ∃ xs L, M[i]? = some L ∧ H p = some (.lst xs) ∧ NumsC K H xs L
  | _, _, _, _, .nil, e => by simp at e
  | _, _, 0, _, .cons h n _, e => by cases e; exact ⟨_, _, rfl, h, n⟩
  | _, _, i + 1, _, .cons _ _ t, e => t.get (i := i) (by simpa using e)
structure TabC (K : PySem.W.Frag) (H : Hp) (D : Addr) (M : List (List Rat)) (H2 : Hp) : Prop where
  same : Same H H2
  at' : ∃ ts : List Addr, H2 D = some (.lst (ts.map V.ref)) ∧ (∀ t ∈ ts, H t = none ∧ t ≠ D) ∧ ts.Nodup ∧ RwsC K H2 ts M
structure RowC (K : PySem.W.Frag) (H : Hp) (D : Addr) (L : List Rat) (H2 : Hp) : Prop where
  same : Same H H2
  at' : ∃ xs : List V, H2 D = some (.lst xs) ∧ NumsC K H2 xs L
/-- numbers cleared, one after another; none of their lists is D -/
def ClA (D : Addr) (H : Hp) (v : V) (p : List Rat) : Prop := ∃ r l, v = .ref r ∧ H r = some (.tup [.ref l, .int (lcmL p)]) ∧ H l = some (.lst ((wholesOf (lcmL p) p).map V.int)) ∧ l ≠ D
inductive ClL (D : Addr) (H : Hp) : List V → List (List Rat) → Prop where
  | nil : ClL D H [] []
  | cons {v : V} {p : List Rat} {vs : List V} {ps : List (List Rat)} (h : ClA D H v p) (t : ClL D H vs ps) : ClL D H (v :: vs) (p :: ps)
/-- such a list that is being made -/
structure ClR (H : Hp) (D : Addr) (M : List (List Rat)) (H2 : Hp) : Prop where
  same : Same H H2
  at' : ∃ vs : List V, H2 D = some (.lst vs) ∧ ClL D H2 vs M
end R

set_option maxRecDepth 100000
namespace R
open PySem L2 PyProof.Rows
/-- all or none -/
def allO {α : Type} : List (Option α) → Option (List α)
  | [] => some []
  | none :: _ => none
  | some q :: l => (allO l).map (q :: ·)
theorem allO_some {α : Type} : ∀ {l : List (Option α)} {qs : List α}, allO l = some qs → l = qs.map some
  | [], qs, h => by cases h; rfl
  | none :: _, qs, h => by cases h
  | some q :: l, qs, h => by
    unfold allO at h
    cases e : allO l with
    | none => rw [e] at h; cases h
    | some rs => rw [e] at h; cases h; rw [allO_some e]; rfl
theorem allO_map {α : Type} : ∀ (qs : List α), allO (qs.map some) = some qs
  | [] => rfl
  | q :: qs => by rw [List.map_cons, allO, allO_map qs]; rfl
theorem allO_none {α : Type} : ∀ {l : List (Option α)}, allO l = none ↔ l.any Option.isNone = true
  | [] => by simp [allO]
  | none :: l => by simp [allO]
  | some q :: l => by
    rw [allO, List.any_cons, Option.map_eq_none_iff, allO_none]; simp
/-- what is told of a text: None or a number -/
def OptN (H : Hp) (v : V) : Option Rat → Prop
  | none => v = .non
  | some q => ∃ p, v = .ref p ∧ H p = some (.tup (numV q))
inductive OptNs (H : Hp) : List V → List (Option Rat) → Prop where
  | nil : OptNs H [] []
  | cons {v : V} {vs : List V} {o : Option Rat} {os : List (Option Rat)} (h : OptN H v o) (t : OptNs H vs os) : OptNs H (v :: vs) (o :: os)
theorem OptN.mono {H H' : Hp} (e : TupS H H') {v : V} {o : Option Rat} (h : OptN H v o) : OptN H' v o := by
  cases o with
  | none => exact h
  | some q => obtain ⟨p, rfl, hp⟩ := h; exact ⟨p, rfl, e _ _ hp⟩
theorem OptNs.mono {H H' : Hp} (e : TupS H H') {vs : List V} {os : List (Option Rat)} (h : OptNs H vs os) : OptNs H' vs os := by
  induction h with
  | nil => exact .nil
  | cons h t ih => exact .cons (h.mono e) ih
theorem OptNs.append {H : Hp} {vs ws : List V} {os ps : List (Option Rat)} (h : OptNs H vs os) (q : OptNs H ws ps) : OptNs H (vs ++ ws) (os ++ ps) := by
  induction h with
  | nil => exact q
  | cons h t ih => exact .cons h ih
theorem OptNs.seqish {K : PySem.W.Frag} {H : Hp} {vs : List V} {os : List (Option Rat)} (h : OptNs H vs os) : ∀ v ∈ vs, Seqish K H v := by
  induction h with
  | nil => intro v hv; cases hv
  | @cons v vs o os h t ih =>
    intro w hw
    rcases List.mem_cons.mp hw with rfl | hw
    · cases o with
      | none => exact .inl h
      | some q => obtain ⟨p, rfl, hp⟩ := h; exact .inr ⟨p, rfl, .inl ⟨_, SqT.of hp⟩⟩
    · exact ih w hw
theorem OptNs.any {H : Hp} {vs : List V} {os : List (Option Rat)} (h : OptNs H vs os) : vs.any isNonV = os.any Option.isNone := by
  induction h with
  | nil => rfl
  | @cons v vs o os h t ih =>
    rw [List.any_cons, List.any_cons, ih]
    cases o with
    | none => cases h; rfl
    | some q => obtain ⟨p, rfl, hp⟩ := h; rfl
theorem OptNs.nums {H : Hp} : ∀ {vs : List V} {qs : List Rat}, OptNs H vs (qs.map some) → Nums H vs qs
  | _, [], .nil => .nil
  | _, q :: qs, .cons h t => by obtain ⟨p, rfl, hp⟩ := h; exact .cons hp (OptNs.nums t)
/-- the words of a text as numbers -/
def wds (x : Str) : List Str := Txt.split x " "
def numsS (x : Str) : Option (List Rat) := allO ((wds x).map readS)
def polyS (x : Str) : Option (List Rat) := if x = "-" then some [] else match numsS x with
  | none => none
  | some qs => if 15 < qs.length ∨ qs.getLast? = some 0 then none else some qs
def rwsS (x : Str) : List Str := Txt.split x "; "
def tabS (x : Str) : Option (List (List Rat)) := match allO ((rwsS x).map numsS) with
  | none => none
  | some M => if 7 < M.length ∨ M.any (fun L => decide (L.length ≠ M.length)) = true then none else some M
theorem wds_ne (x : Str) : wds x ≠ [] := fun e => by have := split_pos x " "; unfold wds at e; rw [e] at this; simp at this
theorem jn_mem {y : List Nat} : ∀ {ws : List (List Nat)} {w : List Nat}, w ∈ ws → w.length ≤ (jn y ws).length
  | [], w, h => by cases h
  | [v], w, h => by rw [List.mem_singleton.mp h]; exact Nat.le_refl _
  | v :: v2 :: ws, w, h => by
    rw [jn, List.length_append, List.length_append]
    · rcases List.mem_cons.mp h with rfl | h
      · omega
      · have := jn_mem (y := y) h; omega
    · simp
theorem part_len {x y w : Str} (h : w ∈ Txt.split x y) : w.length ≤ x.length := by
  have e := StrLaws.join_split x y
  have := jn_mem (y := sgn y) (ws := (Txt.split x y).map sgn) (w := sgn w) (List.mem_map.mpr ⟨w, h, rfl⟩)
  rw [← sgn_join, e, sgn_len, sgn_len] at this
  exact this
theorem parts_many (x y : Str) : (Txt.split x y).length ≤ x.length + 2 := split_le x y
theorem bd30 {q : Rat} (h : q.num.natAbs < 10 ^ 30 ∧ q.den < 10 ^ 30) : BdN 100 q := ⟨Nat.lt_of_lt_of_le h.1 (by decide), Nat.lt_of_lt_of_le h.2 (by decide)⟩
end R

set_option maxRecDepth 100000
namespace R
open PySem L2 PyProof.Rows
def top (i : Nat) : Stmt := PySem.Challenge.pw_restward_k64_polynomials_and_tables_writ.main.body.getD i (.Pass ⟨0, 0, 0, 0⟩)
end R

set_option maxRecDepth 100000
namespace R
open PySem L2 PyProof.Rows
def optI : Option Nat → V
  | none => .non
  | some n => .int (n : Nat)
def spFig : Sp := fun vs H Q _ => ∃ x, vs = [.str x] ∧ x.length ≤ 5000 ∧ ∀ H', Same H H' → Q (optI (figS x)) H'
theorem all_pre {x : Str} {bs : List Bool} (h : ∀ i : Nat, bs[i]? = (x.cps[i]?).map isDg) : bs.all id = (sgn x).all isDg := by
  have : bs = (sgn x).map isDg := by
    apply List.ext_getElem?
    intro i
    rw [h i, List.getElem?_map]
    simp [sgn]
  rw [this, List.all_map]
  rfl
theorem sz {n : Nat} (h : n ≤ 5000) : n ≤ sizeLine := Nat.le_trans h (by decide)
theorem comp_dg {x : Str} {D : Addr} {H : Hp} {Qv : VK} (hD : H D = none) (h30 : x.length ≤ 30) (hk : ∀ H1 (bs : List Bool), Same H H1 → H1 D = some (.lst (bs.map V.bl)) → bs.all id = (sgn x).all isDg → Qv (.ref D) H1) :
    CompW (Its x) D [none] (upd H D (HO.lst [])) (gName 0) (tOp (fun x y H Q => ∃ i, x = V.str i ∧ ∃ x, y = V.str x ∧ Q (V.bl !(Builtin.Str.occurrences x i 0 x.length 1).isEmpty) H) (tVar 0) (tC (V.str "0123456789"))) Qv := by
  refine cw_str (fun i σ H1 => ∃ o, σ = [o] ∧ Same H H1 ∧ ∃ bs : List Bool, H1 D = some (.lst (bs.map V.bl)) ∧ bs.length = i ∧ ∀ j : Nat, j < i → bs[j]? = (x.cps[j]?).map isDg) ⟨_, rfl, Same.new hD _, [], upd_same, rfl, fun j hj => absurd hj (by omega)⟩ ?_ ?_
  · rintro i c σ H1 hc ⟨o, rfl, s1, bs, e1, l1, b1⟩
    have hi : i < x.cps.size := (Array.getElem?_eq_some_iff.mp hc).1
    simp only [rLen, rLst, rSlS, rPartition, rStarts, iStr, rIntS, rJoin, rIxS, rSplitS, rInN, tComp_eq, tCompIf_eq, tSl, tSl3, tPart, tNoPart, rSlL, rPop, rAppend, capSt, List.map_cons, List.map_nil, Option.bind_none, Option.bind_some, Option.join_some, tSeq, tIfS, tAnd, tOr, tNot, tTest, tB, tOp, tUn, tBM0, tBM, tVar, tC, tCB, tRet, tAsg, gName, gSub, gTup, gCons, gNil, tCons, tNil, tPar, tTup, tLst, tIf, tAndV, tNotV, tDef, tCallX, tCallV, tDrop, tNext, tNever, tRaise, rI, rI0, rU, rBitLen, rIxL, rIxT, rSetL, rEq, rNe, rCount, rIndex, rSplit, rIsI, rCat, iRng1, iList, cxOf, cxR, cxX, Cx.nox, Cx.wish, Cx.body, Cx.suite, List.getElem?_cons_zero, List.getElem?_cons_succ, List.set_cons_zero, List.set_cons_succ, Option.some.injEq, V.int.injEq, V.bl.injEq, V.ref.injEq, V.str.injEq, exists_eq_left', exists_eq_left, exists_and_left, true_and, and_true, List.cons.injEq, reduceCtorEq, Bool.false_eq_true, if_false, if_true, exists_const, ↓reduceIte, tyV, List.length_cons, List.length_nil, exists_eq, List.append_nil, List.cons_append, List.nil_append, decide_eq_true_eq, not_true_eq_false, not_false_eq_true, Bool.not_eq_true', decide_eq_false_iff_not, Bool.not_true, Bool.not_false, and_assoc, false_and, false_or, or_false]
    rw [dg_in]
    refine CompN.mk hi e1 (by rw [List.length_map, l1]; exact Nat.lt_of_lt_of_le hi (Nat.le_trans h30 (by decide))) ⟨_, rfl, s1.over hD _, bs ++ [isDg c], by rw [List.map_append]; exact upd_same, by simp [l1], fun j hj => ?_⟩
    by_cases hji : j < i
    · rw [List.getElem?_append_left (by omega)]; exact b1 j hji
    · have : j = i := by omega
      subst this
      rw [List.getElem?_append_right (by omega), hc, l1, Nat.sub_self]; rfl
  · rintro σ H1 ⟨o, rfl, s1, bs, e1, l1, b1⟩
    refine hk H1 bs s1 e1 (all_pre fun j => ?_)
    by_cases hj : j < x.cps.size
    · exact b1 j hj
    · rw [List.getElem?_eq_none (by omega), Array.getElem?_eq_none (by omega)]; rfl
theorem figS_no {x : Str} (h : x.length = 0 ∨ 30 < x.length ∨ (sgn x).all isDg = false) : figS x = none := by unfold figS; rw [if_pos h]
theorem figS_yes {x : Str} (h0 : x.length ≠ 0) (h1 : x.length ≤ 30) (h2 : (sgn x).all isDg = true) : figS x = if (sgn x).head? = some 48 ∧ x.length ≠ 1 then none else some (NumText.digitsVal (sgn x)) := by
  unfold figS; rw [if_neg]; rw [h2]; simp; omega
theorem head_of {x : Str} (h0 : x.length ≠ 0) : ∃ c cs, sgn x = c :: cs ∧ atI x.cps.toList 0 = some c := by
  cases e : sgn x with
  | nil => have := sgn_len x; rw [e] at this; simp at this; omega
  | cons c cs => exact ⟨c, cs, rfl, by show atI (sgn x) 0 = _; rw [e]; unfold atI ixN; simp⟩
theorem lead48 {x : Str} {c : Nat} {cs : List Nat} (e : sgn x = c :: cs) : ((⟨#[c]⟩ : Str) = "0" ↔ (sgn x).head? = some 48) ∧ ((sgn x).head? = some 48 → (x = "0" ↔ x.length = 1)) := by
  have z : sgn ("0" : Str) = [48] := by decide +kernel
  refine ⟨⟨fun h => ?_, fun h => ?_⟩, fun h => ⟨fun h1 => ?_, fun h1 => ?_⟩⟩
  · have : sgn (⟨#[c]⟩ : Str) = sgn ("0" : Str) := by rw [h]
    rw [z] at this
    have c48 : c = 48 := by simpa [sgn] using this
    rw [e, c48]; rfl
  · rw [e] at h
    simp at h
    refine str_ext ?_
    rw [z, h]
  · rw [h1]; decide +kernel
  · rw [e] at h
    simp at h
    refine str_ext ?_
    have := sgn_len x
    rw [e, h1] at this
    simp at this
    rw [z, e, h, this]
section
variable {P : Program} {w : World} {K : PySem.W.Frag} {mg : Str → Option Value} {base : Heap}
abbrev s_whole_in : Stmt := top 38
theorem sc_whole_in : FnScope ["text"] ["text"] (defScope s_whole_in) := ⟨rfl, rfl, rfl, by decide +kernel, rfl, by decide +kernel, by decide +kernel⟩
set_option maxHeartbeats 0 in
theorem ok_whole_in {f : Addr} (d : Df K mg "whole_in" s_whole_in ["text"] f) (c_FIGURES : ∃ t, mg "FIGURES" = some (.int 30 t)) (n_len : mg "len" = none) (n_all : mg "all" = none) (n_int : mg "int" = none) : Def P w K mg base CX0 1 "whole_in" f ["text"] spFig := by
  obtain ⟨tF, c_FIGURES⟩ := c_FIGURES
  refine d.ok (N := ["text"]) sc_whole_in (by rintro vs H Q E ⟨x, h, _⟩; rw [h]; rfl) (fun cdv A outer s H vs Q E hr h => ?_)
  obtain ⟨x, rfl, hx, k⟩ := h
  refine ⟨_, (pss_cons (ps_if (PW.pt (pw_or (pt_not (pt_truth (pv 0) (fun _ => rfl))) (pw_or (pt_cmpR op_gt (pe_callB call_len_str rfl n_len (by decide +kernel) (pa_cons (pv 0) pa_nil)) (pe_glob (v := .int 30) rfl c_FIGURES ⟨_, rfl⟩) (nomark _)) (pw_or1 (pt_not (pt_val (pe_callB (call_all rfl) rfl n_all (by decide +kernel) (pa_cons (pe_comp (Nc := ["sign"]) (caps := [none]) rfl (Caps.of (osc := defScope s_whole_in) (N := ["text"]) (ks := []) rfl rfl rfl rfl sub_nil (by decide +kernel)) (pi_str (pv 0)) (fun C s₂ H₂ fp pins => (pg_name (i := 0) (show List.Nodup (["sign"] : List Str) by decide +kernel) rfl (Or.inl rfl) (Or.inr rfl))) (fun C s₂ H₂ fp pins => (pe_cmpR op_in_str (pv 0) pe_str rfl))) pa_nil)))))))) (pss_one (ps_ret pe_non)) pss_nil)
      (pss_one (ps_ret (pe_ifExp (PW.pt (pw_and (pt_cmpR op_eq (pe_ix ix_str (pv 0) pe_int (fun _ _ => rfl)) pe_str (nomark _)) (pw_and1 (pt_cmpR op_ne (pv 0) pe_str (nomark _))))) pe_non (pe_callTy call_intS rfl n_int (by decide +kernel) (pa_cons (pv 0) pa_nil)))))), ?_⟩
  rw [show start ["text"] [.str x] = [some (.str x)] from rfl]
  simp only [rLen, rLst, rSlS, rPartition, rStarts, iStr, rIntS, rJoin, rIxS, rSplitS, rInN, tComp_eq, tCompIf_eq, tSl, tSl3, tPart, tNoPart, rSlL, rPop, rAppend, capSt, List.map_cons, List.map_nil, Option.bind_none, Option.bind_some, Option.join_some, tSeq, tIfS, tAnd, tOr, tNot, tTest, tB, tOp, tUn, tBM0, tBM, tVar, tC, tCB, tRet, tAsg, gName, gSub, gTup, gCons, gNil, tCons, tNil, tPar, tTup, tLst, tIf, tAndV, tNotV, tDef, tCallX, tCallV, tDrop, tNext, tNever, tRaise, rI, rI0, rU, rBitLen, rIxL, rIxT, rSetL, rEq, rNe, rCount, rIndex, rSplit, rIsI, rCat, iRng1, iList, cxOf, cxR, cxX, Cx.nox, Cx.wish, Cx.body, Cx.suite, List.getElem?_cons_zero, List.getElem?_cons_succ, List.set_cons_zero, List.set_cons_succ, Option.some.injEq, V.int.injEq, V.bl.injEq, V.ref.injEq, V.str.injEq, exists_eq_left', exists_eq_left, exists_and_left, true_and, and_true, List.cons.injEq, reduceCtorEq, Bool.false_eq_true, if_false, if_true, exists_const, ↓reduceIte, tyV, List.length_cons, List.length_nil, exists_eq, List.append_nil, List.cons_append, List.nil_append, decide_eq_true_eq, not_true_eq_false, not_false_eq_true, Bool.not_eq_true', decide_eq_false_iff_not, Bool.not_true, Bool.not_false, and_assoc, false_and, false_or, or_false, TruV]
  have hxz := sz hx
  have no : figS x = none → ∀ H', Same H H' → Q .non H' := fun e H' s' => by have := k H' s'; rw [e] at this; exact this
  refine ⟨hxz, ite2 (fun h0 => no ?_ H (Same.refl _)) (fun h0 => ⟨hxz, ite2 (fun h1 => no ?_ H (Same.refl _)) (fun h1 => ?_)⟩)⟩
  · exact figS_no (.inl (by simpa using h0))
  · exact figS_no (.inr (.inl (by omega)))
  have hne : x.length ≠ 0 := by simpa using h0
  have h30 : x.length ≤ 30 := by omega
  refine fun D hD => comp_dg hD h30 fun H1 bs s1 e1 hall => ?_
  · refine ⟨_, rfl, bs, SqL.of e1, ?_⟩
    rw [hall]
    refine ite2 (fun h2 => no ?_ H1 s1) (fun h2 => ?_)
    · exact figS_no (.inr (.inr h2))
    have hd : (sgn x).all isDg = true := by simpa using h2
    obtain ⟨c, cs, ecs, hat⟩ := head_of hne
    obtain ⟨l1, l2⟩ := lead48 ecs
    have AD : NumText.AllDigits x.cps.toList := fun d hd' => of_decide_eq_true (List.all_eq_true.mp hd d hd')
    have hint : PySem.intText? x = some ((NumText.digitsVal (sgn x) : Nat) : Int) := PySem.intText_digits AD (by show sgn x ≠ []; rw [ecs]; simp) (by omega)
    have yes : ¬ ((sgn x).head? = some 48 ∧ x.length ≠ 1) → Q (.int ((NumText.digitsVal (sgn x) : Nat) : Int)) H1 := fun e => by
      have := k H1 s1
      rw [figS_yes hne h30 hd, if_neg e] at this
      exact this
    refine ⟨hxz, c, hat, rfl, ite2 (fun h3 => ⟨rfl, ite2 (fun h4 => no ?_ H1 s1) (fun h4 => ⟨by omega, _, hint, yes ?_⟩)⟩) (fun h3 => ⟨by omega, _, hint, yes ?_⟩)⟩
    · rw [figS_yes hne h30 hd, if_pos ⟨l1.mp h3, fun e => h4 ((l2 (l1.mp h3)).mpr e)⟩]
    · exact fun z => z.2 ((l2 z.1).mp (Classical.byContradiction h4))
    · exact fun z => h3 (l1.mpr z.1)
end
end R

set_option maxRecDepth 100000
namespace R
open PySem L2 PyProof.Rows
section
variable {P : Program} {w : World} {K : PySem.W.Frag} {mg : Str → Option Value} {base : Heap}
def spCD : Sp := fun vs H Q _ => ∃ a b : Int, vs = [.int a, .int b] ∧ (a.natAbs < 2 ^ 6000 ∨ b.natAbs < 2 ^ 6000) ∧ Q (.int (Int.gcd a b)) H
abbrev s_common_divisor : Stmt := top 24
theorem sc_common_divisor : FnScope ["one", "other"] ["one", "other"] (defScope s_common_divisor) := ⟨rfl, rfl, rfl, by decide +kernel, rfl, by decide +kernel, by decide +kernel⟩
theorem ok_common_divisor {f : Addr} (d : Df K mg "common_divisor" s_common_divisor ["one", "other"] f) (c_SHORT : ∃ t, mg "SHORT" = some (.int 6000 t)) (n_abs : mg "abs" = none) : Def P w K mg base CX0 1 "common_divisor" f ["one", "other"] spCD := by
  obtain ⟨tS, c_SHORT⟩ := c_SHORT
  refine d.ok (N := ["one", "other"]) sc_common_divisor (fun vs H Q E ⟨a, b, h, _⟩ => by rw [h]; rfl) (fun cdv A outer s H vs Q E hr h => ?_)
  obtain ⟨a, b, rfl, hab, q⟩ := h
  refine ⟨_, (pss_cons (ps_if (PW.pt (pw_and (pt_cmpR op_gt (pe_bm0 PySem.F.plainAttrs_int PySem.F.slot_int_bit_length PySem.F.type_int_bit_length mt_bitlen (pv 1)) (pe_glob (v := .int 6000) rfl c_SHORT ⟨_, rfl⟩) (nomark _)) (pw_and1 (pt_cmpR op_gt (pe_bm0 PySem.F.plainAttrs_int PySem.F.slot_int_bit_length PySem.F.type_int_bit_length mt_bitlen (pv 0)) (pe_glob (v := .int 6000) rfl c_SHORT ⟨_, rfl⟩) (nomark _))))) (pss_one ps_never) pss_nil)
      (pss_cons (ps_while PassesOwn.never (pt_truth (pv 1) (fun _ => rfl)) (pss_one (ps_par (i := 0) (j := 1) rfl sc_common_divisor.nd rfl rfl (by decide) rfl rfl (pa_cons (pv 1) (pa_cons (pe_op op_modN (pv 0) (pv 1)) pa_nil)) rfl)))
      (pss_one (ps_ret (pe_callB call_abs rfl n_abs (by decide +kernel) (pa_cons (pv 0) pa_nil)))))), ?_⟩
  rw [show start ["one", "other"] [.int a, .int b] = [some (.int a), some (.int b)] from rfl]
  have hno : ¬ ((6000 : Int) < Builtin.Int.intBits b ∧ (6000 : Int) < Builtin.Int.intBits a) := by
    rintro ⟨h1, h2⟩
    rcases hab with z | z
    · have := intBits_lt z; omega
    · have := intBits_lt z; omega
  have main : ∀ {D : Ends} , (∀ x : Int, ∀ y : Int, y = 0 → Int.gcd x y = Int.gcd a b → D.nx [some (.int x), some (.int y)] H) → tWhile (fun σ H_1 Q => tVar 1 σ H_1 fun x H' => ∃ k, TruV K x H' k ∧ Q k H')
      (tPar 0 1 (tCons (tVar 1) (tCons (tOp (rI (fun x j => j ≠ 0) fun i j => V.int (i.fmod j)) (tVar 0) (tVar 1)) tNil))) D [some (.int a), some (.int b)] H := by
    intro D hD
    refine while_by (fun σ H1 => H1 = H ∧ ∃ x y : Int, σ = [some (.int x), some (.int y)] ∧ Int.gcd x y = Int.gcd a b) (fun σ _ => match σ with | [_, some (.int y)] => y.natAbs | _ => 0) ⟨rfl, a, b, rfl, rfl⟩ ?_ ?_
    · rintro σ H1 ⟨rfl, x, y, rfl, hg⟩
      simp only [rLen, rLst, rSlS, rPartition, rStarts, iStr, rIntS, rJoin, rIxS, rSplitS, rInN, tComp_eq, tCompIf_eq, tSl, tSl3, tPart, tNoPart, rSlL, rPop, rAppend, capSt, List.map_cons, List.map_nil, Option.bind_none, Option.bind_some, Option.join_some, tSeq, tIfS, tAnd, tOr, tNot, tTest, tB, tOp, tUn, tBM0, tBM, tVar, tC, tCB, tRet, tAsg, gName, gSub, gTup, gCons, gNil, tCons, tNil, tPar, tTup, tLst, tIf, tAndV, tNotV, tDef, tCallX, tCallV, tDrop, tNext, tNever, tRaise, rI, rI0, rU, rBitLen, rIxL, rIxT, rSetL, rEq, rNe, rCount, rIndex, rSplit, rIsI, rCat, iRng1, iList, cxOf, cxR, cxX, Cx.nox, Cx.wish, Cx.body, Cx.suite, List.getElem?_cons_zero, List.getElem?_cons_succ, List.set_cons_zero, List.set_cons_succ, Option.some.injEq, V.int.injEq, V.bl.injEq, V.ref.injEq, V.str.injEq, exists_eq_left', exists_eq_left, exists_and_left, true_and, and_true, List.cons.injEq, reduceCtorEq, Bool.false_eq_true, if_false, if_true, exists_const, ↓reduceIte, tyV, List.length_cons, List.length_nil, exists_eq, List.append_nil, List.cons_append, List.nil_append, decide_eq_true_eq, not_true_eq_false, not_false_eq_true, Bool.not_eq_true', decide_eq_false_iff_not, Bool.not_true, Bool.not_false, and_assoc, false_and, false_or, or_false, TruV]
      split
      · rename_i hy
        have hy' : y ≠ 0 := by simpa using hy
        exact ⟨hy', by rw [gcd_fmod]; exact hg, natAbs_fmod_lt x hy'⟩
      · rename_i hy
        have hy' : y = 0 := by simpa using hy
        exact hD x y hy' hg
    · intro σ H1 Q Q' hQ h
      obtain ⟨v, e1, k, e2, e3⟩ := h
      exact ⟨v, e1, k, e2, hQ _ _ e3⟩
  have fin : ∀ x y : Int, y = 0 → Int.gcd x y = Int.gcd a b → Q (.int (if x < 0 then -x else x)) H := fun x y hy hg => by
    subst hy
    have e : (if x < 0 then -x else x) = (Int.gcd a b : Int) := by
      rw [← hg, Int.gcd_zero_right]
      split <;> omega
    rw [e]; exact q
  have nxt : ∀ x y : Int, y = 0 → Int.gcd x y = Int.gcd a b → (tRet (tCB (fun xs H Q => ∃ i, xs = [V.int i] ∧ Q (V.int (if i < 0 then -i else i)) H) (tCons (tVar 0) tNil)) { nx := fun x H' => Q V.non H', rt := Q }) [some (.int x), some (.int y)] H := fun x y hy hg => by
    simp only [rLen, rLst, rSlS, rPartition, rStarts, iStr, rIntS, rJoin, rIxS, rSplitS, rInN, tComp_eq, tCompIf_eq, tSl, tSl3, tPart, tNoPart, rSlL, rPop, rAppend, capSt, List.map_cons, List.map_nil, Option.bind_none, Option.bind_some, Option.join_some, tSeq, tIfS, tAnd, tOr, tNot, tTest, tB, tOp, tUn, tBM0, tBM, tVar, tC, tCB, tRet, tAsg, gName, gSub, gTup, gCons, gNil, tCons, tNil, tPar, tTup, tLst, tIf, tAndV, tNotV, tDef, tCallX, tCallV, tDrop, tNext, tNever, tRaise, rI, rI0, rU, rBitLen, rIxL, rIxT, rSetL, rEq, rNe, rCount, rIndex, rSplit, rIsI, rCat, iRng1, iList, cxOf, cxR, cxX, Cx.nox, Cx.wish, Cx.body, Cx.suite, List.getElem?_cons_zero, List.getElem?_cons_succ, List.set_cons_zero, List.set_cons_succ, Option.some.injEq, V.int.injEq, V.bl.injEq, V.ref.injEq, V.str.injEq, exists_eq_left', exists_eq_left, exists_and_left, true_and, and_true, List.cons.injEq, reduceCtorEq, Bool.false_eq_true, if_false, if_true, exists_const, ↓reduceIte, tyV, List.length_cons, List.length_nil, exists_eq, List.append_nil, List.cons_append, List.nil_append, decide_eq_true_eq, not_true_eq_false, not_false_eq_true, Bool.not_eq_true', decide_eq_false_iff_not, Bool.not_true, Bool.not_false, and_assoc, false_and, false_or, or_false]
    exact fin x y hy hg
  simp only [rLen, rLst, rSlS, rPartition, rStarts, iStr, rIntS, rJoin, rIxS, rSplitS, rInN, tComp_eq, tCompIf_eq, tSl, tSl3, tPart, tNoPart, rSlL, rPop, rAppend, capSt, List.map_cons, List.map_nil, Option.bind_none, Option.bind_some, Option.join_some, tSeq, tIfS, tAnd, tOr, tNot, tTest, tB, tOp, tUn, tBM0, tBM, tVar, tC, tCB, tRet, tAsg, gName, gSub, gTup, gCons, gNil, tCons, tNil, tPar, tTup, tLst, tIf, tAndV, tNotV, tDef, tCallX, tCallV, tDrop, tNext, tNever, tRaise, rI, rI0, rU, rBitLen, rIxL, rIxT, rSetL, rEq, rNe, rCount, rIndex, rSplit, rIsI, rCat, iRng1, iList, cxOf, cxR, cxX, Cx.nox, Cx.wish, Cx.body, Cx.suite, List.getElem?_cons_zero, List.getElem?_cons_succ, List.set_cons_zero, List.set_cons_succ, Option.some.injEq, V.int.injEq, V.bl.injEq, V.ref.injEq, V.str.injEq, exists_eq_left', exists_eq_left, exists_and_left, true_and, and_true, List.cons.injEq, reduceCtorEq, Bool.false_eq_true, if_false, if_true, exists_const, ↓reduceIte, tyV, List.length_cons, List.length_nil, exists_eq, List.append_nil, List.cons_append, List.nil_append, decide_eq_true_eq, not_true_eq_false, not_false_eq_true, Bool.not_eq_true', decide_eq_false_iff_not, Bool.not_true, Bool.not_false, and_assoc, false_and, false_or, or_false]
  split
  · split
    · exact hno ⟨‹_›, ‹_›⟩
    · exact main nxt
  · exact main nxt
end
end R

set_option maxRecDepth 100000
namespace R
open PySem L2 PyProof.Rows
section
variable {P : Program} {w : World} {K : PySem.W.Frag} {mg : Str → Option Value} {base : Heap}
def spWholeD (K : PySem.W.Frag) : Sp := fun vs H Q _ => ∃ v d, vs = [v] ∧ IsD K H v d ∧ Q (.bl (wholeD d)) H
abbrev s_is_whole : Stmt := top 25
theorem sc_is_whole : FnScope ["thing"] ["thing"] (defScope s_is_whole) := ⟨rfl, rfl, rfl, by decide +kernel, rfl, by decide +kernel, by decide +kernel⟩
theorem ok_is_whole {f : Addr} (d : Df K mg "is_whole" s_is_whole ["thing"] f) (n_isinstance : mg "isinstance" = none) (n_int : mg "int" = none) (n_bool : mg "bool" = none) : Def P w K mg base CX0 1 "is_whole" f ["thing"] (spWholeD K) := by
  refine d.ok (N := ["thing"]) sc_is_whole (by rintro vs H Q E ⟨a, b, h, _⟩; rw [h]; rfl) (fun cdv A outer s H vs Q E hr h => ?_)
  obtain ⟨v, dd, rfl, hd, k⟩ := h
  refine ⟨_, (pss_one (ps_ret (pe_and (pe_callB call_isinst rfl n_isinstance (by decide +kernel) (pa_cons (pv 0) (pa_cons (pe_bltn (v := .ty "int") rfl n_int (by decide +kernel) rfl) pa_nil))) (pe_one (pe_not (pe_callB call_isinst rfl n_isinstance (by decide +kernel) (pa_cons (pv 0) (pa_cons (pe_bltn (v := .ty "bool") rfl n_bool (by decide +kernel) rfl) pa_nil)))))))), ?_⟩
  rw [show start ["thing"] [v] = [some (v)] from rfl]
  simp only [rLen, rLst, rSlS, rPartition, rStarts, iStr, rIntS, rJoin, rIxS, rSplitS, rInN, tComp_eq, tCompIf_eq, tSl, tSl3, tPart, tNoPart, rSlL, rPop, rAppend, capSt, List.map_cons, List.map_nil, Option.bind_none, Option.bind_some, Option.join_some, tSeq, tIfS, tAnd, tOr, tNot, tTest, tB, tOp, tUn, tBM0, tBM, tVar, tC, tCB, tRet, tAsg, gName, gSub, gTup, gCons, gNil, tCons, tNil, tPar, tTup, tLst, tIf, tAndV, tNotV, tDef, tCallX, tCallV, tDrop, tNext, tNever, tRaise, rI, rI0, rU, rBitLen, rIxL, rIxT, rSetL, rEq, rNe, rCount, rIndex, rSplit, rIsI, rCat, iRng1, iList, cxOf, cxR, cxX, Cx.nox, Cx.wish, Cx.body, Cx.suite, List.getElem?_cons_zero, List.getElem?_cons_succ, List.set_cons_zero, List.set_cons_succ, Option.some.injEq, V.int.injEq, V.bl.injEq, V.ref.injEq, V.str.injEq, exists_eq_left', exists_eq_left, exists_and_left, true_and, and_true, List.cons.injEq, reduceCtorEq, Bool.false_eq_true, if_false, if_true, exists_const, ↓reduceIte, tyV, List.length_cons, List.length_nil, exists_eq, List.append_nil, List.cons_append, List.nil_append, decide_eq_true_eq, not_true_eq_false, not_false_eq_true, Bool.not_eq_true', decide_eq_false_iff_not, Bool.not_true, Bool.not_false, and_assoc, false_and, false_or, or_false]
  refine ⟨trivial, _, hd.ty, _, kit_D_int hd, ite2 (fun h => ⟨trivial, _, hd.ty, _, kit_D_bool hd, ?_⟩) (fun h => ?_)⟩
  · have e : (!isBlD dd) = wholeD dd := by
      cases dd with
      | v x => cases x <;> first | rfl | (exact absurd h (by simp [isIntD]))
      | tup l => exact absurd h (by simp [isIntD])
      | lst l => exact absurd h (by simp [isIntD])
    rw [e]; exact k
  · have e : wholeD dd = false := by
      cases dd with
      | v x => cases x <;> first | rfl | (exact absurd rfl h)
      | tup l => rfl
      | lst l => rfl
    rw [e] at k; exact k
def spIsNumD (K : PySem.W.Frag) : Sp := fun vs H Q _ => ∃ v d, vs = [v] ∧ IsD K H v d ∧ bitsD d ∧ Q (.bl (numD d)) H
abbrev s_is_number : Stmt := top 26
theorem sc_is_number : FnScope ["thing", "top", "bottom"] ["thing"] (defScope s_is_number) := ⟨rfl, rfl, rfl, by decide +kernel, rfl, by decide +kernel, by decide +kernel⟩
theorem ok_is_number {f f1 f2 : Addr} (d : Df K mg "is_number" s_is_number ["thing"] f) (G_is_whole : Def P w K mg base CX0 1 "is_whole" f1 ["thing"] (spWholeD K)) (G_common_divisor : Def P w K mg base CX0 1 "common_divisor" f2 ["one", "other"] spCD) (n_isinstance : mg "isinstance" = none) (n_tuple : mg "tuple" = none) (n_len : mg "len" = none) : Def P w K mg base CX0 2 "is_number" f ["thing"] (spIsNumD K) := by
  refine d.ok (N := ["thing", "top", "bottom"]) sc_is_number (by rintro vs H Q E ⟨a, b, h, _⟩; rw [h]; rfl) (fun cdv A outer s H vs Q E hr h => ?_)
  obtain ⟨v, dd, rfl, hd, hb, k⟩ := h
  refine ⟨_, (pss_cons (ps_if (PW.pt (pw_or (pt_not (pt_val (pe_callB call_isinst rfl n_isinstance (by decide +kernel) (pa_cons (pv 0) (pa_cons (pe_bltn (v := .ty "tuple") rfl n_tuple (by decide +kernel) rfl) pa_nil))))) (pw_or1 (pt_cmpR op_ne (pe_callB call_len_seq rfl n_len (by decide +kernel) (pa_cons (pv 0) pa_nil)) pe_int (nomark _))))) (pss_one (ps_ret pe_bl)) pss_nil)
      (pss_cons (ps_asg (pv 0) (show PG _ _ (gTup K 2 (gCons (gName 1) (gCons (gName 2) gNil))) from by (refine pg_tup (n := 2) ?_ ?_ ?_ ?_; rfl; (refine pgs_cons ?_ ?_ ?_; (exact (pg_name (i := 1) sc_is_number.nd rfl (Or.inl rfl))); (refine pgs_cons ?_ ?_ ?_; (exact (pg_name (i := 2) sc_is_number.nd rfl (Or.inl rfl))); (exact pgs_nil); rfl); rfl); rfl; rfl)))
      (pss_cons (ps_if (PW.pt (pw_or (pt_not (pt_val (pe_def G_is_whole hr (pa_cons (pv 1) pa_nil) pass0))) (pw_or (pt_not (pt_val (pe_def G_is_whole hr (pa_cons (pv 2) pa_nil) pass0))) (pw_or1 (pt_cmpR op_lt (pv 2) pe_int (nomark _)))))) (pss_one (ps_ret pe_bl)) pss_nil)
      (pss_one (ps_ret (pe_cmpR op_eq (pe_def G_common_divisor hr (pa_cons (pv 1) (pa_cons (pv 2) pa_nil)) pass0) pe_int (nomark _))))))), ?_⟩
  rw [show start ["thing", "top", "bottom"] [v] = [some (v), none, none] from rfl]
  simp only [rLen, rLst, rSlS, rPartition, rStarts, iStr, rIntS, rJoin, rIxS, rSplitS, rInN, tComp_eq, tCompIf_eq, tSl, tSl3, tPart, tNoPart, rSlL, rPop, rAppend, capSt, List.map_cons, List.map_nil, Option.bind_none, Option.bind_some, Option.join_some, tSeq, tIfS, tAnd, tOr, tNot, tTest, tB, tOp, tUn, tBM0, tBM, tVar, tC, tCB, tRet, tAsg, gName, gSub, gTup, gCons, gNil, tCons, tNil, tPar, tTup, tLst, tIf, tAndV, tNotV, tDef, tCallX, tCallV, tDrop, tNext, tNever, tRaise, rI, rI0, rU, rBitLen, rIxL, rIxT, rSetL, rEq, rNe, rCount, rIndex, rSplit, rIsI, rCat, iRng1, iList, cxOf, cxR, cxX, Cx.nox, Cx.wish, Cx.body, Cx.suite, List.getElem?_cons_zero, List.getElem?_cons_succ, List.set_cons_zero, List.set_cons_succ, Option.some.injEq, V.int.injEq, V.bl.injEq, V.ref.injEq, V.str.injEq, exists_eq_left', exists_eq_left, exists_and_left, true_and, and_true, List.cons.injEq, reduceCtorEq, Bool.false_eq_true, if_false, if_true, exists_const, ↓reduceIte, tyV, List.length_cons, List.length_nil, exists_eq, List.append_nil, List.cons_append, List.nil_append, decide_eq_true_eq, not_true_eq_false, not_false_eq_true, Bool.not_eq_true', decide_eq_false_iff_not, Bool.not_true, Bool.not_false, and_assoc, false_and, false_or, or_false, spWholeD]
  have no : numD dd = false → Q (.bl false) H := fun e => by rw [e] at k; exact k
  refine ⟨trivial, _, hd.ty, _, kit_D_tuple hd, ite2 (fun h => no ?_) (fun h => ?_)⟩
  · cases dd with
    | v x => rfl
    | tup l => cases h
    | lst l => rfl
  cases hd with
  | v f => exact absurd rfl h
  | lst hS ht => exact absurd rfl h
  | @tup p xs ds hS ht =>
    have hl := ht.length
    refine ⟨p, rfl, xs, .inr hS, rfl, ite2 (fun h2 => no ?_) (fun h2 => ?_)⟩
    · unfold numD
      split
      · rename_i e
        injection e with e
        rw [e] at hl
        exact absurd (by rw [hl]; rfl) h2
      · rfl
    have h2' : xs.length = 2 := by
      have : (xs.length : Int) = 2 := Classical.byContradiction fun z => h2 z
      omega
    cases ht with
    | nil => simp at h2'
    | @cons x xs d1 ds h1 ht =>
      cases ht with
      | nil => simp at h2'
      | @cons y ys d2 ds h3 ht =>
        cases ht with
        | cons _ _ => simp at h2'
        | nil =>
          refine ⟨p, rfl, _, hS, rfl, _, _, rfl, _, _, rfl, rfl, d1, h1, ite2 (fun hw => no ?_) (fun hw => ⟨d2, h3, ite2 (fun hw2 => no ?_) (fun hw2 => ?_)⟩)⟩
          · unfold numD
            split
            · rename_i e; injection e with e; injection e with e1 _; rw [e1] at hw; cases hw
            · rfl
          · unfold numD
            split
            · rename_i e; injection e with e; injection e with _ e2; injection e2 with e2 _; rw [e2] at hw2; cases hw2
            · rfl
          obtain ⟨t, rfl⟩ := wholeD_int (by simpa using hw)
          obtain ⟨b, rfl⟩ := wholeD_int (by simpa using hw2)
          cases h1
          cases h3
          refine ⟨b, rfl, ite2 (fun hb1 => no ?_) (fun hb1 => ?_)⟩
          · simp only [numD]
            rw [decide_eq_false (by omega)]; rfl
          · refine ⟨t, b, rfl, hb t b rfl, rfl, ?_⟩
            have e : numD (.tup [.v (.int t), .v (.int b)]) = decide (V.int ((Int.gcd t b : Nat) : Int) = V.int 1) := by
              simp only [numD]
              rw [decide_eq_true (show 1 ≤ b by omega), Bool.true_and, decide_eq_decide]
              constructor
              · intro z; rw [z]; rfl
              · intro z; injection z with z; omega
            rw [e] at k
            exact k
end
end R

set_option maxRecDepth 100000
namespace R
open PySem L2 PyProof.Rows
section
variable {P : Program} {w : World} {K : PySem.W.Frag} {mg : Str → Option Value} {base : Heap}
abbrev s__law_low : Stmt := top 48
theorem sc__law_low : FnScope ["_law_top", "_law_bottom", "_law_one", "_law_other_here"] ["_law_top", "_law_bottom"] (defScope s__law_low) := ⟨rfl, rfl, rfl, by decide +kernel, rfl, by decide +kernel, by decide +kernel⟩
theorem ok__law_low {f : Addr} (d : Df K mg "_law_low" s__law_low ["_law_top", "_law_bottom"] f) (n_abs : mg "abs" = none) : Def P w K mg base CX0 1 "_law_low" f ["_law_top", "_law_bottom"] spLow := by
  refine d.ok (N := ["_law_top", "_law_bottom", "_law_one", "_law_other_here"]) sc__law_low (fun vs H Q E ⟨a, b, h, _⟩ => by rw [h]; rfl) (fun cdv A outer s H vs Q E hr h => ?_)
  obtain ⟨t, b, rfl, hb0, hb, k⟩ := h
  refine ⟨_, (pss_cons (ps_set (i := 2) sc__law_low.nd rfl (Or.inl rfl) (pe_callB call_abs rfl n_abs (by decide +kernel) (pa_cons (pv 0) pa_nil)))
      (pss_cons (ps_set (i := 3) sc__law_low.nd rfl (Or.inl rfl) (pe_callB call_abs rfl n_abs (by decide +kernel) (pa_cons (pv 1) pa_nil)))
      (pss_cons (ps_while PassesOwn.never (pt_cmpR op_gt (pv 3) pe_int (nomark _)) (pss_one (ps_par (i := 2) (j := 3) rfl sc__law_low.nd rfl rfl (by decide) rfl rfl (pa_cons (pv 3) (pa_cons (pe_op op_modN (pv 2) (pv 3)) pa_nil)) rfl)))
      (pss_cons (ps_if (pt_cmpR op_lt (pv 1) pe_int (nomark _)) (pss_one (ps_set (i := 2) sc__law_low.nd rfl (Or.inl rfl) (pe_op op_sub pe_int (pv 2)))) pss_nil)
      (pss_one (ps_ret (pe_tup (pa_cons (pe_op op_fdivB (pv 0) (pv 2)) (pa_cons (pe_op op_fdivB (pv 1) (pv 2)) pa_nil))))))))), ?_⟩
  rw [show start ["_law_top", "_law_bottom", "_law_one", "_law_other_here"] [.int t, .int b] = [some (.int t), some (.int b), none, none] from rfl]
  simp only [rLen, rLst, rSlS, rPartition, rStarts, iStr, rIntS, rJoin, rIxS, rSplitS, rInN, tComp_eq, tCompIf_eq, tSl, tSl3, tPart, tNoPart, rSlL, rPop, rAppend, capSt, List.map_cons, List.map_nil, Option.bind_none, Option.bind_some, Option.join_some, tSeq, tIfS, tAnd, tOr, tNot, tTest, tB, tOp, tUn, tBM0, tBM, tVar, tC, tCB, tRet, tAsg, gName, gSub, gTup, gCons, gNil, tCons, tNil, tPar, tTup, tLst, tIf, tAndV, tNotV, tDef, tCallX, tCallV, tDrop, tNext, tNever, tRaise, rI, rI0, rU, rBitLen, rIxL, rIxT, rSetL, rEq, rNe, rCount, rIndex, rSplit, rIsI, rCat, iRng1, iList, cxOf, cxR, cxX, Cx.nox, Cx.wish, Cx.body, Cx.suite, List.getElem?_cons_zero, List.getElem?_cons_succ, List.set_cons_zero, List.set_cons_succ, Option.some.injEq, V.int.injEq, V.bl.injEq, V.ref.injEq, V.str.injEq, exists_eq_left', exists_eq_left, exists_and_left, true_and, and_true, List.cons.injEq, reduceCtorEq, Bool.false_eq_true, if_false, if_true, exists_const, ↓reduceIte, tyV, List.length_cons, List.length_nil, exists_eq, List.append_nil, List.cons_append, List.nil_append, decide_eq_true_eq, not_true_eq_false, not_false_eq_true, Bool.not_eq_true', decide_eq_false_iff_not, Bool.not_true, Bool.not_false, and_assoc, false_and, false_or, or_false]
  refine while_by (fun σ H1 => H1 = H ∧ ∃ x y : Int, σ = [some (.int t), some (.int b), some (.int x), some (.int y)] ∧ 0 ≤ x ∧ 0 ≤ y ∧ Int.gcd x y = Int.gcd t b) (fun σ _ => match σ with | [_, _, _, some (.int y)] => y.natAbs | _ => 0)
    ⟨rfl, _, _, rfl, by split <;> omega, by split <;> omega, ?_⟩ ?_ ?_
  · have e1 : (if t < 0 then -t else t) = (t.natAbs : Int) := by split <;> omega
    have e2 : (if b < 0 then -b else b) = (b.natAbs : Int) := by split <;> omega
    rw [e1, e2, Int.gcd_eq_natAbs_gcd_natAbs, Int.gcd_eq_natAbs_gcd_natAbs]; simp
  · rintro σ H1 ⟨rfl, x, y, rfl, hx, hy, hg⟩
    simp only [rLen, rLst, rSlS, rPartition, rStarts, iStr, rIntS, rJoin, rIxS, rSplitS, rInN, tComp_eq, tCompIf_eq, tSl, tSl3, tPart, tNoPart, rSlL, rPop, rAppend, capSt, List.map_cons, List.map_nil, Option.bind_none, Option.bind_some, Option.join_some, tSeq, tIfS, tAnd, tOr, tNot, tTest, tB, tOp, tUn, tBM0, tBM, tVar, tC, tCB, tRet, tAsg, gName, gSub, gTup, gCons, gNil, tCons, tNil, tPar, tTup, tLst, tIf, tAndV, tNotV, tDef, tCallX, tCallV, tDrop, tNext, tNever, tRaise, rI, rI0, rU, rBitLen, rIxL, rIxT, rSetL, rEq, rNe, rCount, rIndex, rSplit, rIsI, rCat, iRng1, iList, cxOf, cxR, cxX, Cx.nox, Cx.wish, Cx.body, Cx.suite, List.getElem?_cons_zero, List.getElem?_cons_succ, List.set_cons_zero, List.set_cons_succ, Option.some.injEq, V.int.injEq, V.bl.injEq, V.ref.injEq, V.str.injEq, exists_eq_left', exists_eq_left, exists_and_left, true_and, and_true, List.cons.injEq, reduceCtorEq, Bool.false_eq_true, if_false, if_true, exists_const, ↓reduceIte, tyV, List.length_cons, List.length_nil, exists_eq, List.append_nil, List.cons_append, List.nil_append, decide_eq_true_eq, not_true_eq_false, not_false_eq_true, Bool.not_eq_true', decide_eq_false_iff_not, Bool.not_true, Bool.not_false, and_assoc, false_and, false_or, or_false]
    split
    · rename_i hy0
      exact ⟨by omega, hy, Int.fmod_nonneg_of_pos x hy0, by rw [gcd_fmod]; exact hg, natAbs_fmod_lt x (by omega)⟩
    · rename_i hy0
      have hy' : y = 0 := by omega
      subst hy'
      have ex : x = (Int.gcd t b : Int) := by
        rw [Int.gcd_zero_right] at hg
        omega
      have gp := gcd_pos (t := t) hb0
      have gl := gcd_lt (a := t) hb0 hb
      by_cases hs : b < 0
      · rw [if_pos hs]
        obtain ⟨e1, e2⟩ := low_eq (t := t) (g := 0 - x) hb0 (by rw [if_pos hs, ex]; omega)
        have dv : ∀ i, CDivB i (0 - x) := fun i => divOk (by omega) (by rw [show 0 - x = -x by omega, Int.natAbs_neg, ex]; exact lt_up gl)
        refine ⟨dv _, dv _, small2, fun r hr' => ?_⟩
        exact k r _ (Same.new hr' _) (by rw [upd_same]; unfold numV; rw [e1, e2])
      · rw [if_neg hs]
        obtain ⟨e1, e2⟩ := low_eq (t := t) (g := x) hb0 (by rw [if_neg hs, ex])
        have dv : ∀ i, CDivB i x := fun i => divOk (by omega) (by rw [ex]; exact lt_up gl)
        refine ⟨dv _, dv _, small2, fun r hr' => ?_⟩
        exact k r _ (Same.new hr' _) (by rw [upd_same]; unfold numV; rw [e1, e2])
  · intro σ H1 Q1 Q2 hQ h
    simp only [rLen, rLst, rSlS, rPartition, rStarts, iStr, rIntS, rJoin, rIxS, rSplitS, rInN, tComp_eq, tCompIf_eq, tSl, tSl3, tPart, tNoPart, rSlL, rPop, rAppend, capSt, List.map_cons, List.map_nil, Option.bind_none, Option.bind_some, Option.join_some, tSeq, tIfS, tAnd, tOr, tNot, tTest, tB, tOp, tUn, tBM0, tBM, tVar, tC, tCB, tRet, tAsg, gName, gSub, gTup, gCons, gNil, tCons, tNil, tPar, tTup, tLst, tIf, tAndV, tNotV, tDef, tCallX, tCallV, tDrop, tNext, tNever, tRaise, rI, rI0, rU, rBitLen, rIxL, rIxT, rSetL, rEq, rNe, rCount, rIndex, rSplit, rIsI, rCat, iRng1, iList, cxOf, cxR, cxX, Cx.nox, Cx.wish, Cx.body, Cx.suite, List.getElem?_cons_zero, List.getElem?_cons_succ, List.set_cons_zero, List.set_cons_succ, Option.some.injEq, V.int.injEq, V.bl.injEq, V.ref.injEq, V.str.injEq, exists_eq_left', exists_eq_left, exists_and_left, true_and, and_true, List.cons.injEq, reduceCtorEq, Bool.false_eq_true, if_false, if_true, exists_const, ↓reduceIte, tyV, List.length_cons, List.length_nil, exists_eq, List.append_nil, List.cons_append, List.nil_append, decide_eq_true_eq, not_true_eq_false, not_false_eq_true, Bool.not_eq_true', decide_eq_false_iff_not, Bool.not_true, Bool.not_false, and_assoc, false_and, false_or, or_false] at h ⊢
    obtain ⟨v, e1, i, e2, e3⟩ := h
    exact ⟨v, e1, i, e2, hQ _ _ e3⟩
abbrev s__law_urn : Stmt := top 46
theorem sc__law_urn : FnScope ["_law_script", "_law_at", "_law_cell", "_law_prime", "_law_great"] ["_law_script", "_law_at"] (defScope s__law_urn) := ⟨rfl, rfl, rfl, by decide +kernel, rfl, by decide +kernel, by decide +kernel⟩
set_option maxHeartbeats 0 in
theorem ok__law_urn {f : Addr} (d : Df K mg "_law_urn" s__law_urn ["_law_script", "_law_at"] f) (n_len : mg "len" = none) (n_abs : mg "abs" = none) : Def P w K mg base CX0 1 "_law_urn" f ["_law_script", "_law_at"] (spUrn K) := by
  refine d.ok (N := ["_law_script", "_law_at", "_law_cell", "_law_prime", "_law_great"]) sc__law_urn (fun vs H Q E ⟨x, y, p, h, _⟩ => by rw [h]; rfl) (fun cdv A outer s H vs Q E hr h => ?_)
  obtain ⟨a, ns, i, rfl, hS, h0, h64, k⟩ := h
  refine ⟨_, (pss_cons (ps_set (i := 2) sc__law_urn.nd rfl (Or.inl rfl) pe_int)
      (pss_cons (ps_if (pt_cmpR op_lt (pv 1) (pe_callB call_len_seq rfl n_len (by decide +kernel) (pa_cons (pv 0) pa_nil)) (nomark _)) (pss_one (ps_set (i := 2) sc__law_urn.nd rfl (Or.inl rfl) (pe_ix ix_list (pv 0) (pv 1) (fun _ _ => rfl)))) pss_nil)
      (pss_cons (ps_set (i := 3) sc__law_urn.nd rfl (Or.inl rfl) (pe_ix ix_tup (pe_tup (pa_cons pe_int (pa_cons pe_int (pa_cons pe_int (pa_cons pe_int (pa_cons pe_int (pa_cons pe_int (pa_cons pe_int (pa_cons pe_int pa_nil))))))))) (pe_op op_modN (pv 1) pe_int) (fun _ _ => rfl)))
      (pss_cons (ps_set (i := 4) sc__law_urn.nd rfl (Or.inl rfl) pe_int)
      (pss_cons (ps_if (pt_cmpR op_ge (pe_callB call_abs rfl n_abs (by decide +kernel) (pa_cons (pv 2) pa_nil)) (pe_op op_pow pe_int pe_int) (nomark _)) (pss_one (ps_set (i := 4) sc__law_urn.nd rfl (Or.inl rfl) (pe_callB call_abs rfl n_abs (by decide +kernel) (pa_cons (pv 2) pa_nil)))) pss_nil)
      (pss_one (ps_ret (pe_lst (pa_cons (pv 4) (pa_cons (pe_op op_modN (pe_op op_pow (pe_op op_add (pe_op op_add (pe_op op_modN (pv 2) (pv 3)) (pe_op op_mulB pe_int (pv 1))) pe_int) pe_int) (pv 3)) (pa_cons (pv 3) pa_nil))))))))))), ?_⟩
  rw [show start ["_law_script", "_law_at", "_law_cell", "_law_prime", "_law_great"] [.ref a, .int i] = [some (.ref a), some (.int i), none, none, none] from rfl]
  refine seq_cut (fun σ H1 => H1 = H ∧ σ = [some (.ref a), some (.int i), some (.int 0), none, none]) (fun N hN => ?_) ?_
  · simp only [rLen, rLst, rSlS, rPartition, rStarts, iStr, rIntS, rJoin, rIxS, rSplitS, rInN, tComp_eq, tCompIf_eq, tSl, tSl3, tPart, tNoPart, rSlL, rPop, rAppend, capSt, List.map_cons, List.map_nil, Option.bind_none, Option.bind_some, Option.join_some, tSeq, tIfS, tAnd, tOr, tNot, tTest, tB, tOp, tUn, tBM0, tBM, tVar, tC, tCB, tRet, tAsg, gName, gSub, gTup, gCons, gNil, tCons, tNil, tPar, tTup, tLst, tIf, tAndV, tNotV, tDef, tCallX, tCallV, tDrop, tNext, tNever, tRaise, rI, rI0, rU, rBitLen, rIxL, rIxT, rSetL, rEq, rNe, rCount, rIndex, rSplit, rIsI, rCat, iRng1, iList, cxOf, cxR, cxX, Cx.nox, Cx.wish, Cx.body, Cx.suite, List.getElem?_cons_zero, List.getElem?_cons_succ, List.set_cons_zero, List.set_cons_succ, Option.some.injEq, V.int.injEq, V.bl.injEq, V.ref.injEq, V.str.injEq, exists_eq_left', exists_eq_left, exists_and_left, true_and, and_true, List.cons.injEq, reduceCtorEq, Bool.false_eq_true, if_false, if_true, exists_const, ↓reduceIte, tyV, List.length_cons, List.length_nil, exists_eq, List.append_nil, List.cons_append, List.nil_append, decide_eq_true_eq, not_true_eq_false, not_false_eq_true, Bool.not_eq_true', decide_eq_false_iff_not, Bool.not_true, Bool.not_false, and_assoc, false_and, false_or, or_false]
    exact hN _ _ ⟨rfl, rfl⟩
  rintro σ H1 ⟨rfl, rfl⟩
  refine seq_cut (fun σ H2 => H2 = H1 ∧ ∃ c : Int, σ = [some (.ref a), some (.int i), some (.int c), none, none]) (fun N hN => ?_) ?_
  · simp only [rLen, rLst, rSlS, rPartition, rStarts, iStr, rIntS, rJoin, rIxS, rSplitS, rInN, tComp_eq, tCompIf_eq, tSl, tSl3, tPart, tNoPart, rSlL, rPop, rAppend, capSt, List.map_cons, List.map_nil, Option.bind_none, Option.bind_some, Option.join_some, tSeq, tIfS, tAnd, tOr, tNot, tTest, tB, tOp, tUn, tBM0, tBM, tVar, tC, tCB, tRet, tAsg, gName, gSub, gTup, gCons, gNil, tCons, tNil, tPar, tTup, tLst, tIf, tAndV, tNotV, tDef, tCallX, tCallV, tDrop, tNext, tNever, tRaise, rI, rI0, rU, rBitLen, rIxL, rIxT, rSetL, rEq, rNe, rCount, rIndex, rSplit, rIsI, rCat, iRng1, iList, cxOf, cxR, cxX, Cx.nox, Cx.wish, Cx.body, Cx.suite, List.getElem?_cons_zero, List.getElem?_cons_succ, List.set_cons_zero, List.set_cons_succ, Option.some.injEq, V.int.injEq, V.bl.injEq, V.ref.injEq, V.str.injEq, exists_eq_left', exists_eq_left, exists_and_left, true_and, and_true, List.cons.injEq, reduceCtorEq, Bool.false_eq_true, if_false, if_true, exists_const, ↓reduceIte, tyV, List.length_cons, List.length_nil, exists_eq, List.append_nil, List.cons_append, List.nil_append, decide_eq_true_eq, not_true_eq_false, not_false_eq_true, Bool.not_eq_true', decide_eq_false_iff_not, Bool.not_true, Bool.not_false, and_assoc, false_and, false_or, or_false]
    refine ⟨_, .inl hS, ite2 (fun hl => ?_) (fun _ => hN _ _ ⟨rfl, _, rfl⟩)⟩
    obtain ⟨c, hc⟩ := at_script (ns := ns) h0 (by simpa using hl)
    exact ⟨_, hS, _, hc, hN _ _ ⟨rfl, c, rfl⟩⟩
  rintro σ H2 ⟨rfl, c, rfl⟩
  obtain ⟨pr, hpr, p1, p2⟩ := prime_at h0
  refine seq_cut (fun σ H3 => Same H2 H3 ∧ σ = [some (.ref a), some (.int i), some (.int c), some (.int pr), none]) (fun N hN => ?_) ?_
  · simp only [rLen, rLst, rSlS, rPartition, rStarts, iStr, rIntS, rJoin, rIxS, rSplitS, rInN, tComp_eq, tCompIf_eq, tSl, tSl3, tPart, tNoPart, rSlL, rPop, rAppend, capSt, List.map_cons, List.map_nil, Option.bind_none, Option.bind_some, Option.join_some, tSeq, tIfS, tAnd, tOr, tNot, tTest, tB, tOp, tUn, tBM0, tBM, tVar, tC, tCB, tRet, tAsg, gName, gSub, gTup, gCons, gNil, tCons, tNil, tPar, tTup, tLst, tIf, tAndV, tNotV, tDef, tCallX, tCallV, tDrop, tNext, tNever, tRaise, rI, rI0, rU, rBitLen, rIxL, rIxT, rSetL, rEq, rNe, rCount, rIndex, rSplit, rIsI, rCat, iRng1, iList, cxOf, cxR, cxX, Cx.nox, Cx.wish, Cx.body, Cx.suite, List.getElem?_cons_zero, List.getElem?_cons_succ, List.set_cons_zero, List.set_cons_succ, Option.some.injEq, V.int.injEq, V.bl.injEq, V.ref.injEq, V.str.injEq, exists_eq_left', exists_eq_left, exists_and_left, true_and, and_true, List.cons.injEq, reduceCtorEq, Bool.false_eq_true, if_false, if_true, exists_const, ↓reduceIte, tyV, List.length_cons, List.length_nil, exists_eq, List.append_nil, List.cons_append, List.nil_append, decide_eq_true_eq, not_true_eq_false, not_false_eq_true, Bool.not_eq_true', decide_eq_false_iff_not, Bool.not_true, Bool.not_false, and_assoc, false_and, false_or, or_false]
    exact ⟨by decide, fun p hp => ⟨by decide, _, SqT.of upd_same, _, hpr, hN _ _ ⟨Same.new hp _, rfl⟩⟩⟩
  rintro σ H3 ⟨s1, rfl⟩
  refine seq_cut (fun σ H4 => H4 = H3 ∧ σ = [some (.ref a), some (.int i), some (.int c), some (.int pr), some (.int 0)]) (fun N hN => ?_) ?_
  · simp only [rLen, rLst, rSlS, rPartition, rStarts, iStr, rIntS, rJoin, rIxS, rSplitS, rInN, tComp_eq, tCompIf_eq, tSl, tSl3, tPart, tNoPart, rSlL, rPop, rAppend, capSt, List.map_cons, List.map_nil, Option.bind_none, Option.bind_some, Option.join_some, tSeq, tIfS, tAnd, tOr, tNot, tTest, tB, tOp, tUn, tBM0, tBM, tVar, tC, tCB, tRet, tAsg, gName, gSub, gTup, gCons, gNil, tCons, tNil, tPar, tTup, tLst, tIf, tAndV, tNotV, tDef, tCallX, tCallV, tDrop, tNext, tNever, tRaise, rI, rI0, rU, rBitLen, rIxL, rIxT, rSetL, rEq, rNe, rCount, rIndex, rSplit, rIsI, rCat, iRng1, iList, cxOf, cxR, cxX, Cx.nox, Cx.wish, Cx.body, Cx.suite, List.getElem?_cons_zero, List.getElem?_cons_succ, List.set_cons_zero, List.set_cons_succ, Option.some.injEq, V.int.injEq, V.bl.injEq, V.ref.injEq, V.str.injEq, exists_eq_left', exists_eq_left, exists_and_left, true_and, and_true, List.cons.injEq, reduceCtorEq, Bool.false_eq_true, if_false, if_true, exists_const, ↓reduceIte, tyV, List.length_cons, List.length_nil, exists_eq, List.append_nil, List.cons_append, List.nil_append, decide_eq_true_eq, not_true_eq_false, not_false_eq_true, Bool.not_eq_true', decide_eq_false_iff_not, Bool.not_true, Bool.not_false, and_assoc, false_and, false_or, or_false]
    exact hN _ _ ⟨rfl, rfl⟩
  rintro σ H4 ⟨rfl, rfl⟩
  refine seq_cut (fun σ H5 => H5 = H4 ∧ ∃ g : Int, 0 ≤ g ∧ σ = [some (.ref a), some (.int i), some (.int c), some (.int pr), some (.int g)]) (fun N hN => ?_) ?_
  · simp only [rLen, rLst, rSlS, rPartition, rStarts, iStr, rIntS, rJoin, rIxS, rSplitS, rInN, tComp_eq, tCompIf_eq, tSl, tSl3, tPart, tNoPart, rSlL, rPop, rAppend, capSt, List.map_cons, List.map_nil, Option.bind_none, Option.bind_some, Option.join_some, tSeq, tIfS, tAnd, tOr, tNot, tTest, tB, tOp, tUn, tBM0, tBM, tVar, tC, tCB, tRet, tAsg, gName, gSub, gTup, gCons, gNil, tCons, tNil, tPar, tTup, tLst, tIf, tAndV, tNotV, tDef, tCallX, tCallV, tDrop, tNext, tNever, tRaise, rI, rI0, rU, rBitLen, rIxL, rIxT, rSetL, rEq, rNe, rCount, rIndex, rSplit, rIsI, rCat, iRng1, iList, cxOf, cxR, cxX, Cx.nox, Cx.wish, Cx.body, Cx.suite, List.getElem?_cons_zero, List.getElem?_cons_succ, List.set_cons_zero, List.set_cons_succ, Option.some.injEq, V.int.injEq, V.bl.injEq, V.ref.injEq, V.str.injEq, exists_eq_left', exists_eq_left, exists_and_left, true_and, and_true, List.cons.injEq, reduceCtorEq, Bool.false_eq_true, if_false, if_true, exists_const, ↓reduceIte, tyV, List.length_cons, List.length_nil, exists_eq, List.append_nil, List.cons_append, List.nil_append, decide_eq_true_eq, not_true_eq_false, not_false_eq_true, Bool.not_eq_true', decide_eq_false_iff_not, Bool.not_true, Bool.not_false, and_assoc, false_and, false_or, or_false]
    exact ⟨⟨by decide, by decide, by decide⟩, ite2 (fun _ => hN _ _ ⟨rfl, _, by split <;> omega, rfl⟩) (fun _ => hN _ _ ⟨rfl, _, Int.le_refl _, rfl⟩)⟩
  rintro σ H5 ⟨rfl, g, hg, rfl⟩
  simp only [rLen, rLst, rSlS, rPartition, rStarts, iStr, rIntS, rJoin, rIxS, rSplitS, rInN, tComp_eq, tCompIf_eq, tSl, tSl3, tPart, tNoPart, rSlL, rPop, rAppend, capSt, List.map_cons, List.map_nil, Option.bind_none, Option.bind_some, Option.join_some, tSeq, tIfS, tAnd, tOr, tNot, tTest, tB, tOp, tUn, tBM0, tBM, tVar, tC, tCB, tRet, tAsg, gName, gSub, gTup, gCons, gNil, tCons, tNil, tPar, tTup, tLst, tIf, tAndV, tNotV, tDef, tCallX, tCallV, tDrop, tNext, tNever, tRaise, rI, rI0, rU, rBitLen, rIxL, rIxT, rSetL, rEq, rNe, rCount, rIndex, rSplit, rIsI, rCat, iRng1, iList, cxOf, cxR, cxX, Cx.nox, Cx.wish, Cx.body, Cx.suite, List.getElem?_cons_zero, List.getElem?_cons_succ, List.set_cons_zero, List.set_cons_succ, Option.some.injEq, V.int.injEq, V.bl.injEq, V.ref.injEq, V.str.injEq, exists_eq_left', exists_eq_left, exists_and_left, true_and, and_true, List.cons.injEq, reduceCtorEq, Bool.false_eq_true, if_false, if_true, exists_const, ↓reduceIte, tyV, List.length_cons, List.length_nil, exists_eq, List.append_nil, List.cons_append, List.nil_append, decide_eq_true_eq, not_true_eq_false, not_false_eq_true, Bool.not_eq_true', decide_eq_false_iff_not, Bool.not_true, Bool.not_false, and_assoc, false_and, false_or, or_false]
  have m0 := Int.fmod_nonneg_of_pos c (show 0 < pr by omega)
  have m1 := Int.fmod_lt_of_pos c (show 0 < pr by omega)
  refine ⟨by omega, mulS (by decide), ⟨by decide, by decide, by omega⟩, by omega, by decide, fun r hr' => ?_⟩
  refine k r _ (s1.trans (Same.new hr' _)) (s1.free hr') ⟨g, _, pr, upd_same, hg, Int.fmod_nonneg_of_pos _ (by omega), ?_, by omega, by omega⟩
  have := Int.fmod_lt_of_pos ((c.fmod pr + 65537 * i + 101) ^ (3 : Int).toNat) (show 0 < pr by omega)
  omega
abbrev s__law_draw : Stmt := top 47
theorem sc__law_draw : FnScope ["_law_urn_here", "_law_many", "_law_drawn"] ["_law_urn_here", "_law_many"] (defScope s__law_draw) := ⟨rfl, rfl, rfl, by decide +kernel, rfl, by decide +kernel, by decide +kernel⟩
set_option maxHeartbeats 0 in
theorem ok__law_draw {f : Addr} (d : Df K mg "_law_draw" s__law_draw ["_law_urn_here", "_law_many"] f) : Def P w K mg base CX0 1 "_law_draw" f ["_law_urn_here", "_law_many"] spDraw := by
  refine d.ok (N := ["_law_urn_here", "_law_many", "_law_drawn"]) sc__law_draw (fun vs H Q E ⟨x, y, h, _⟩ => by rw [h]; rfl) (fun cdv A outer s H vs Q E hr h => ?_)
  obtain ⟨u, n, rfl, ⟨g, m, p, hu, g0, m0, m1, p0, p1⟩, n0, n1, k⟩ := h
  refine ⟨_, (pss_cons (ps_if (pt_cmpR op_gt (pe_ix ix_list (pv 0) pe_int (fun _ _ => rfl)) pe_int (nomark _)) (pss_cons (ps_set (i := 2) sc__law_draw.nd rfl (Or.inl rfl) (pe_op op_modN (pe_ix ix_list (pv 0) pe_int (fun _ _ => rfl)) (pv 1)))
      (pss_cons (ps_asg (pe_op op_fdivB (pe_ix ix_list (pv 0) pe_int (fun _ _ => rfl)) (pv 1)) (pg_sub (pv 0) pe_int set_list))
      (pss_one (ps_ret (pv 2))))) pss_nil)
      (pss_cons (ps_asg (pe_op op_modN (pe_op op_add (pe_op op_mulB (pe_ix ix_list (pv 0) pe_int (fun _ _ => rfl)) pe_int) pe_int) (pe_ix ix_list (pv 0) pe_int (fun _ _ => rfl))) (pg_sub (pv 0) pe_int set_list))
      (pss_one (ps_ret (pe_op op_modN (pe_op op_fdivB (pe_op op_modN (pe_op op_pow (pe_op op_fdivB (pe_ix ix_list (pv 0) pe_int (fun _ _ => rfl)) pe_int) pe_int) pe_int) pe_int) (pv 1)))))), ?_⟩
  rw [show start ["_law_urn_here", "_law_many", "_law_drawn"] [.ref u, .int n] = [some (.ref u), some (.int n), none] from rfl]
  have L1 : SqL K H u [.int g, .int m, .int p] := SqL.of hu
  have x0 : ∀ g m p : Int, atI [V.int g, .int m, .int p] 0 = some (.int g) := fun _ _ _ => rfl
  have x1 : ∀ g m p : Int, atI [V.int g, .int m, .int p] 1 = some (.int m) := fun _ _ _ => rfl
  have x2 : ∀ g m p : Int, atI [V.int g, .int m, .int p] 2 = some (.int p) := fun _ _ _ => rfl
  simp only [rLen, rLst, rSlS, rPartition, rStarts, iStr, rIntS, rJoin, rIxS, rSplitS, rInN, tComp_eq, tCompIf_eq, tSl, tSl3, tPart, tNoPart, rSlL, rPop, rAppend, capSt, List.map_cons, List.map_nil, Option.bind_none, Option.bind_some, Option.join_some, tSeq, tIfS, tAnd, tOr, tNot, tTest, tB, tOp, tUn, tBM0, tBM, tVar, tC, tCB, tRet, tAsg, gName, gSub, gTup, gCons, gNil, tCons, tNil, tPar, tTup, tLst, tIf, tAndV, tNotV, tDef, tCallX, tCallV, tDrop, tNext, tNever, tRaise, rI, rI0, rU, rBitLen, rIxL, rIxT, rSetL, rEq, rNe, rCount, rIndex, rSplit, rIsI, rCat, iRng1, iList, cxOf, cxR, cxX, Cx.nox, Cx.wish, Cx.body, Cx.suite, List.getElem?_cons_zero, List.getElem?_cons_succ, List.set_cons_zero, List.set_cons_succ, Option.some.injEq, V.int.injEq, V.bl.injEq, V.ref.injEq, V.str.injEq, exists_eq_left', exists_eq_left, exists_and_left, true_and, and_true, List.cons.injEq, reduceCtorEq, Bool.false_eq_true, if_false, if_true, exists_const, ↓reduceIte, tyV, List.length_cons, List.length_nil, exists_eq, List.append_nil, List.cons_append, List.nil_append, decide_eq_true_eq, not_true_eq_false, not_false_eq_true, Bool.not_eq_true', decide_eq_false_iff_not, Bool.not_true, Bool.not_false, and_assoc, false_and, false_or, or_false]
  have dn : ∀ i, CDivB i n := fun i => divOk (by omega) (Nat.lt_of_lt_of_le (show n.natAbs < 2 ^ 40 by omega) (pow_le_pow2 (by decide)))
  refine ⟨_, L1, _, x0 g m p, _, rfl, ite2 (fun hg => ?_) (fun hg => ?_)⟩
  · refine ⟨_, L1, _, x0 g m p, _, rfl, by omega, _, L1, _, x0 g m p, _, rfl, dn _, _, hu, 0, rfl, ?_⟩
    exact k _ _ (Int.fmod_nonneg_of_pos _ n0) (Int.fmod_lt_of_pos _ n0) (SameX.upd _ _ _) ⟨g.fdiv n, m, p, upd_same, Int.fdiv_nonneg g0 (by omega), m0, m1, p0, p1⟩
  · have q0 := Int.fmod_nonneg_of_pos (m * 60013 + 12289) p0
    have q1 := Int.fmod_lt_of_pos (m * 60013 + 12289) p0
    have z : SqL K (upd H u (.lst [.int g, .int ((m * 60013 + 12289).fmod p), .int p])) u [.int g, .int ((m * 60013 + 12289).fmod p), .int p] := SqL.of upd_same
    have d16 : 0 ≤ ((m * 60013 + 12289).fmod p).fdiv 16 ∧ ((m * 60013 + 12289).fmod p).fdiv 16 < 2 ^ 40 := by
      rw [Int.fdiv_eq_ediv_of_nonneg _ (by decide)]
      omega
    refine ⟨_, L1, _, x1 g m p, _, rfl, mulS' (by decide), _, L1, _, x2 g m p, _, rfl, by omega, _, hu, 1, rfl, _, z, _, x1 _ _ _, _, rfl, divOk (by decide) (Nat.lt_of_lt_of_le (show (16 : Int).natAbs < 2 ^ 40 by decide) (pow_le_pow2 (by decide))), ⟨by decide, by decide, by omega⟩, by decide, divOk (by decide) (Nat.lt_of_lt_of_le (show (8 : Int).natAbs < 2 ^ 40 by decide) (pow_le_pow2 (by decide))), by omega, ?_⟩
    exact k _ _ (Int.fmod_nonneg_of_pos _ n0) (Int.fmod_lt_of_pos _ n0) (SameX.upd _ _ _) ⟨g, _, p, upd_same, g0, q0, by omega, p0, p1⟩
abbrev s__law_kind : Stmt := top 49
theorem sc__law_kind : FnScope ["_law_urn_here"] ["_law_urn_here"] (defScope s__law_kind) := ⟨rfl, rfl, rfl, by decide +kernel, rfl, by decide +kernel, by decide +kernel⟩
set_option maxHeartbeats 0 in
theorem ok__law_kind {f fd : Addr} (d : Df K mg "_law_kind" s__law_kind ["_law_urn_here"] f) (G__law_draw : Def P w K mg base CX0 1 "_law_draw" fd ["_law_urn_here", "_law_many"] spDraw) : Def P w K mg base CX0 2 "_law_kind" f ["_law_urn_here"] spKind := by
  refine d.ok (N := ["_law_urn_here"]) sc__law_kind (fun vs H Q E ⟨u, h, _⟩ => by rw [h]; rfl) (fun cdv A outer s H vs Q E hr h => ?_)
  obtain ⟨u, rfl, hu, k⟩ := h
  refine ⟨_, (pss_one (ps_ret (pe_ix ix_list (pe_lst (pa_cons pe_int (pa_cons pe_int (pa_cons pe_int (pa_cons pe_int (pa_cons pe_int (pa_cons pe_int (pa_cons pe_int (pa_cons pe_int pa_nil))))))))) (pe_def G__law_draw hr (pa_cons (pv 0) (pa_cons pe_int pa_nil)) pass0) (fun _ _ => rfl)))), ?_⟩
  rw [show start ["_law_urn_here"] [.ref u] = [some (.ref u)] from rfl]
  simp only [rLen, rLst, rSlS, rPartition, rStarts, iStr, rIntS, rJoin, rIxS, rSplitS, rInN, tComp_eq, tCompIf_eq, tSl, tSl3, tPart, tNoPart, rSlL, rPop, rAppend, capSt, List.map_cons, List.map_nil, Option.bind_none, Option.bind_some, Option.join_some, tSeq, tIfS, tAnd, tOr, tNot, tTest, tB, tOp, tUn, tBM0, tBM, tVar, tC, tCB, tRet, tAsg, gName, gSub, gTup, gCons, gNil, tCons, tNil, tPar, tTup, tLst, tIf, tAndV, tNotV, tDef, tCallX, tCallV, tDrop, tNext, tNever, tRaise, rI, rI0, rU, rBitLen, rIxL, rIxT, rSetL, rEq, rNe, rCount, rIndex, rSplit, rIsI, rCat, iRng1, iList, cxOf, cxR, cxX, Cx.nox, Cx.wish, Cx.body, Cx.suite, List.getElem?_cons_zero, List.getElem?_cons_succ, List.set_cons_zero, List.set_cons_succ, Option.some.injEq, V.int.injEq, V.bl.injEq, V.ref.injEq, V.str.injEq, exists_eq_left', exists_eq_left, exists_and_left, true_and, and_true, List.cons.injEq, reduceCtorEq, Bool.false_eq_true, if_false, if_true, exists_const, ↓reduceIte, tyV, List.length_cons, List.length_nil, exists_eq, List.append_nil, List.cons_append, List.nil_append, decide_eq_true_eq, not_true_eq_false, not_false_eq_true, Bool.not_eq_true', decide_eq_false_iff_not, Bool.not_true, Bool.not_false, and_assoc, false_and, false_or, or_false, spDraw]
  refine ⟨by decide, fun l hl => ⟨urn_new hu hl, by decide, by decide, fun r H' r0 r1 sx hu' => ?_⟩⟩
  have e := sx l _ upd_same (urn_ne hu hl)
  have sx' : SameX u H H' := SameX.trans (Same.x (Same.new hl _) u) sx
  have h3 : r = 0 ∨ r = 1 ∨ r = 2 ∨ r = 3 ∨ r = 4 ∨ r = 5 ∨ r = 6 ∨ r = 7 := by omega
  rcases h3 with h | h | h | h | h | h | h | h <;> subst h <;> exact ⟨_, SqL.of e, _, rfl, k _ H' (by decide) sx' hu'⟩
abbrev s__law_number : Stmt := top 50
theorem sc__law_number : FnScope ["_law_urn_here", "_law_kind_here", "_law_top"] ["_law_urn_here", "_law_kind_here"] (defScope s__law_number) := ⟨rfl, rfl, rfl, by decide +kernel, rfl, by decide +kernel, by decide +kernel⟩
set_option maxHeartbeats 0 in
theorem ok__law_number {f fd fl : Addr} (d : Df K mg "_law_number" s__law_number ["_law_urn_here", "_law_kind_here"] f) (G__law_draw : Def P w K mg base CX0 1 "_law_draw" fd ["_law_urn_here", "_law_many"] spDraw) (G__law_low : Def P w K mg base CX0 1 "_law_low" fl ["_law_top", "_law_bottom"] spLow) (n_int : mg "int" = none) : Def P w K mg base CX0 2 "_law_number" f ["_law_urn_here", "_law_kind_here"] spNumber := by
  refine d.ok (N := ["_law_urn_here", "_law_kind_here", "_law_top"]) sc__law_number (fun vs H Q E ⟨u, kd, h, _⟩ => by rw [h]; rfl) (fun cdv A outer s H vs Q E hr h => ?_)
  obtain ⟨u, kd, rfl, hu, k⟩ := h
  refine ⟨_, (pss_cons (ps_if (pt_cmpR op_eq (pv 1) pe_int (nomark _)) (pss_cons (ps_set (i := 2) sc__law_number.nd rfl (Or.inl rfl) (pe_op op_add (pe_op op_mulB (pe_def G__law_draw hr (pa_cons (pv 0) (pa_cons (pe_op op_pow pe_int pe_int) pa_nil)) pass0) (pe_op op_pow pe_int pe_int)) (pe_def G__law_draw hr (pa_cons (pv 0) (pa_cons (pe_op op_pow pe_int pe_int) pa_nil)) pass0)))
      (pss_one (ps_ret (pe_def G__law_low hr (pa_cons (pe_op op_mulB (pv 2) (pe_ix ix_list (pe_lst (pa_cons pe_int (pa_cons (pe_un un_neg pe_int) pa_nil))) (pe_def G__law_draw hr (pa_cons (pv 0) (pa_cons pe_int pa_nil)) pass0) (fun _ _ => rfl))) (pa_cons (pe_op op_add pe_int (pe_op op_mulB (pe_def G__law_draw hr (pa_cons (pv 0) (pa_cons (pe_op op_pow pe_int pe_int) pa_nil)) pass0) (pe_op op_pow pe_int pe_int))) pa_nil)) pass0)))) pss_nil)
      (pss_one (ps_ret (pe_def G__law_low hr (pa_cons (pe_op op_sub (pe_def G__law_draw hr (pa_cons (pv 0) (pa_cons pe_int pa_nil)) pass0) pe_int) (pa_cons (pe_op op_add pe_int (pe_op op_mulB (pe_def G__law_draw hr (pa_cons (pv 0) (pa_cons pe_int pa_nil)) pass0) (pe_callTy call_int1 rfl n_int (by decide +kernel) (pa_cons (pe_cmpR op_eq (pv 1) pe_int (nomark _)) pa_nil)))) pa_nil)) pass0)))), ?_⟩
  rw [show start ["_law_urn_here", "_law_kind_here", "_law_top"] [.ref u, .int kd] = [some (.ref u), some (.int kd), none] from rfl]
  have e10 : (10 : Int) ^ Int.toNat 6 = 1000000 := by decide
  simp only [rLen, rLst, rSlS, rPartition, rStarts, iStr, rIntS, rJoin, rIxS, rSplitS, rInN, tComp_eq, tCompIf_eq, tSl, tSl3, tPart, tNoPart, rSlL, rPop, rAppend, capSt, List.map_cons, List.map_nil, Option.bind_none, Option.bind_some, Option.join_some, tSeq, tIfS, tAnd, tOr, tNot, tTest, tB, tOp, tUn, tBM0, tBM, tVar, tC, tCB, tRet, tAsg, gName, gSub, gTup, gCons, gNil, tCons, tNil, tPar, tTup, tLst, tIf, tAndV, tNotV, tDef, tCallX, tCallV, tDrop, tNext, tNever, tRaise, rI, rI0, rU, rBitLen, rIxL, rIxT, rSetL, rEq, rNe, rCount, rIndex, rSplit, rIsI, rCat, iRng1, iList, cxOf, cxR, cxX, Cx.nox, Cx.wish, Cx.body, Cx.suite, List.getElem?_cons_zero, List.getElem?_cons_succ, List.set_cons_zero, List.set_cons_succ, Option.some.injEq, V.int.injEq, V.bl.injEq, V.ref.injEq, V.str.injEq, exists_eq_left', exists_eq_left, exists_and_left, true_and, and_true, List.cons.injEq, reduceCtorEq, Bool.false_eq_true, if_false, if_true, exists_const, ↓reduceIte, tyV, List.length_cons, List.length_nil, exists_eq, List.append_nil, List.cons_append, List.nil_append, decide_eq_true_eq, not_true_eq_false, not_false_eq_true, Bool.not_eq_true', decide_eq_false_iff_not, Bool.not_true, Bool.not_false, and_assoc, false_and, false_or, or_false, spDraw, scal]
  refine ite2 (fun _ => ?_) (fun _ => ?_)
  · refine ⟨⟨by decide, by decide, by decide⟩, hu, by decide, by decide, fun r2 H2 a2 b2 s2 u2 => ?_⟩
    refine ⟨⟨by decide, by decide, by decide⟩, mulS' (by decide), ⟨by decide, by decide, by decide⟩, u2, by decide, by decide, fun r3 H3 a3 b3 s3 u3 => ?_⟩
    refine ⟨by decide, fun l hl => ⟨urn_new u3 hl, by decide, by decide, fun r4 H4 a4 b4 s4 u4 => ?_⟩⟩
    have e := s4 l _ upd_same (urn_ne u3 hl)
    have b2' : r2 < 1000000 := b2
    have b3' : r3 < 1000000 := b3
    have sx : SameX u H H4 := s2.trans (s3.trans (SameX.trans (Same.x (Same.new hl _) u) s4))
    have fin : ∀ sg : Int, sg = 1 ∨ sg = -1 → (CPow 10 6 ∧ UrnAt H4 u ∧ 0 < (10 : Int) ^ Int.toNat 6 ∧ (10 : Int) ^ Int.toNat 6 < 2 ^ 40 ∧ ∀ (r : Int) (H' : Hp), 0 ≤ r → r < 10 ^ Int.toNat 6 → SameX u H4 H' → UrnAt H' u →
        CPow 10 6 ∧ IntMulOk r (10 ^ Int.toNat 6) ∧ spLow [V.int ((r2 * 10 ^ Int.toNat 6 + r3) * sg), V.int (1 + r * 10 ^ Int.toNat 6)] H' Q E0) := by
      intro sg hsg
      refine ⟨⟨by decide, by decide, by decide⟩, u4, by decide, by decide, fun r5 H5 a5 b5 s5 u5 => ⟨⟨by decide, by decide, by decide⟩, mulS' (by decide), ?_⟩⟩
      rw [e10] at b5 ⊢
      refine ⟨_, _, rfl, by omega, Nat.lt_of_lt_of_le (show (1 + r5 * 1000000).natAbs < 2 ^ 64 by omega) (pow_le_pow2 (by decide)), fun r H' sm hr' => ?_⟩
      refine k r _ H' (sm_of (by omega) ?_ (by omega)) (sx.trans (s5.trans (Same.x sm u))) (Same.urn sm u5) hr'
      rcases hsg with h | h <;> subst h <;> omega
    have h3 : r4 = 0 ∨ r4 = 1 := by omega
    rcases h3 with h | h <;> subst h
    · exact ⟨_, SqL.of e, _, rfl, _, rfl, mulS' (by decide), fin 1 (.inl rfl)⟩
    · exact ⟨_, SqL.of e, _, rfl, _, rfl, mulS' (by decide), fin (-1) (.inr rfl)⟩
  · refine ⟨hu, by decide, by decide, fun r2 H2 a2 b2 s2 u2 => ⟨u2, by decide, by decide, fun r3 H3 a3 b3 s3 u3 => ⟨mulS (by omega), ?_⟩⟩⟩
    have hz : ∃ z : Int, z = r3 * (if kd = 0 then 1 else 0) ∧ 0 ≤ z ∧ z ≤ 6 := by
      refine ⟨_, rfl, ?_, ?_⟩ <;> split <;> omega
    obtain ⟨z, ez, z0, z6⟩ := hz
    rw [← ez]
    refine ⟨_, _, rfl, by omega, Nat.lt_of_lt_of_le (show (1 + z).natAbs < 2 ^ 64 by omega) (pow_le_pow2 (by decide)), fun r H' sm hr' => ?_⟩
    exact k r _ H' (sm_of (by omega) (by omega) (by omega)) (s2.trans (s3.trans (Same.x sm u))) (Same.urn sm u3) hr'
abbrev s__law_whole : Stmt := top 54
theorem sc__law_whole : FnScope ["_law_thing"] ["_law_thing"] (defScope s__law_whole) := ⟨rfl, rfl, rfl, by decide +kernel, rfl, by decide +kernel, by decide +kernel⟩
theorem ok__law_whole {f : Addr} (d : Df K mg "_law_whole" s__law_whole ["_law_thing"] f) (n_isinstance : mg "isinstance" = none) (n_int : mg "int" = none) (n_bool : mg "bool" = none) : Def P w K mg base CX0 1 "_law_whole" f ["_law_thing"] spWhole := by
  refine d.ok (N := ["_law_thing"]) sc__law_whole (fun vs H Q E ⟨u, h, _⟩ => by rw [h]; rfl) (fun cdv A outer s H vs Q E hr h => ?_)
  obtain ⟨i, rfl, k⟩ := h
  refine ⟨_, (pss_one (ps_ret (pe_and (pe_callB call_isinst rfl n_isinstance (by decide +kernel) (pa_cons (pv 0) (pa_cons (pe_bltn (v := .ty "int") rfl n_int (by decide +kernel) rfl) pa_nil))) (pe_one (pe_not (pe_callB call_isinst rfl n_isinstance (by decide +kernel) (pa_cons (pv 0) (pa_cons (pe_bltn (v := .ty "bool") rfl n_bool (by decide +kernel) rfl) pa_nil)))))))), ?_⟩
  rw [show start ["_law_thing"] [.int i] = [some (.int i)] from rfl]
  simp only [rLen, rLst, rSlS, rPartition, rStarts, iStr, rIntS, rJoin, rIxS, rSplitS, rInN, tComp_eq, tCompIf_eq, tSl, tSl3, tPart, tNoPart, rSlL, rPop, rAppend, capSt, List.map_cons, List.map_nil, Option.bind_none, Option.bind_some, Option.join_some, tSeq, tIfS, tAnd, tOr, tNot, tTest, tB, tOp, tUn, tBM0, tBM, tVar, tC, tCB, tRet, tAsg, gName, gSub, gTup, gCons, gNil, tCons, tNil, tPar, tTup, tLst, tIf, tAndV, tNotV, tDef, tCallX, tCallV, tDrop, tNext, tNever, tRaise, rI, rI0, rU, rBitLen, rIxL, rIxT, rSetL, rEq, rNe, rCount, rIndex, rSplit, rIsI, rCat, iRng1, iList, cxOf, cxR, cxX, Cx.nox, Cx.wish, Cx.body, Cx.suite, List.getElem?_cons_zero, List.getElem?_cons_succ, List.set_cons_zero, List.set_cons_succ, Option.some.injEq, V.int.injEq, V.bl.injEq, V.ref.injEq, V.str.injEq, exists_eq_left', exists_eq_left, exists_and_left, true_and, and_true, List.cons.injEq, reduceCtorEq, Bool.false_eq_true, if_false, if_true, exists_const, ↓reduceIte, tyV, List.length_cons, List.length_nil, exists_eq, List.append_nil, List.cons_append, List.nil_append, decide_eq_true_eq, not_true_eq_false, not_false_eq_true, Bool.not_eq_true', decide_eq_false_iff_not, Bool.not_true, Bool.not_false, and_assoc, false_and, false_or, or_false]
  exact ⟨trivial, _, .of (.int i), _, kit_int_int, iteT ⟨trivial, _, .of (.int i), _, kit_int_bool, k⟩⟩
abbrev s__law_is_number : Stmt := top 55
theorem sc__law_is_number : FnScope ["_law_thing"] ["_law_thing"] (defScope s__law_is_number) := ⟨rfl, rfl, rfl, by decide +kernel, rfl, by decide +kernel, by decide +kernel⟩
set_option maxHeartbeats 0 in
theorem ok__law_is_number {f fw fl : Addr} (d : Df K mg "_law_is_number" s__law_is_number ["_law_thing"] f) (G__law_whole : Def P w K mg base CX0 1 "_law_whole" fw ["_law_thing"] spWhole) (G__law_low : Def P w K mg base CX0 1 "_law_low" fl ["_law_top", "_law_bottom"] spLow) (n_isinstance : mg "isinstance" = none) (n_tuple : mg "tuple" = none) (n_len : mg "len" = none) :
    Def P w K mg base CX0 2 "_law_is_number" f ["_law_thing"] (spIsNum K) := by
  refine d.ok (N := ["_law_thing"]) sc__law_is_number (fun vs H Q E ⟨u, q, h, _⟩ => by rw [h]; rfl) (fun cdv A outer s H vs Q E hr h => ?_)
  obtain ⟨x, q, rfl, ⟨ap, rfl, hS⟩, hd, k⟩ := h
  have hu := hr.units
  refine ⟨_, (pss_cons (ps_if (PW.pt (pw_or (pt_not (pt_val (pe_callB call_isinst rfl n_isinstance (by decide +kernel) (pa_cons (pv 0) (pa_cons (pe_bltn (v := .ty "tuple") rfl n_tuple (by decide +kernel) rfl) pa_nil))))) (pw_or (pt_cmpR op_ne (pe_callB call_len_seq rfl n_len (by decide +kernel) (pa_cons (pv 0) pa_nil)) pe_int (nomark _)) (pw_or (pt_not (pt_val (pe_def G__law_whole hr (pa_cons (pe_ix ix_tup (pv 0) pe_int (fun _ _ => rfl)) pa_nil) pass0))) (pw_or1 (pt_not (pt_val (pe_def G__law_whole hr (pa_cons (pe_ix ix_tup (pv 0) pe_int (fun _ _ => rfl)) pa_nil) pass0)))))))) (pss_one (ps_ret pe_bl)) pss_nil)
      (pss_one (ps_ret (pe_and (pe_cmpR op_gt (pe_ix ix_tup (pv 0) pe_int (fun _ _ => rfl)) pe_int (nomark _)) (pe_one (pe_cmpR (op_eqD hu) (pe_def G__law_low hr (pa_cons (pe_ix ix_tup (pv 0) pe_int (fun _ _ => rfl)) (pa_cons (pe_ix ix_tup (pv 0) pe_int (fun _ _ => rfl)) pa_nil)) pass0) (pv 0) (nomark _))))))), ?_⟩
  rw [show start ["_law_thing"] [.ref ap] = [some (.ref ap)] from rfl]
  have dq := rat_den_pos q
  simp only [rLen, rLst, rSlS, rPartition, rStarts, iStr, rIntS, rJoin, rIxS, rSplitS, rInN, tComp_eq, tCompIf_eq, tSl, tSl3, tPart, tNoPart, rSlL, rPop, rAppend, capSt, List.map_cons, List.map_nil, Option.bind_none, Option.bind_some, Option.join_some, tSeq, tIfS, tAnd, tOr, tNot, tTest, tB, tOp, tUn, tBM0, tBM, tVar, tC, tCB, tRet, tAsg, gName, gSub, gTup, gCons, gNil, tCons, tNil, tPar, tTup, tLst, tIf, tAndV, tNotV, tDef, tCallX, tCallV, tDrop, tNext, tNever, tRaise, rI, rI0, rU, rBitLen, rIxL, rIxT, rSetL, rEq, rNe, rCount, rIndex, rSplit, rIsI, rCat, iRng1, iList, cxOf, cxR, cxX, Cx.nox, Cx.wish, Cx.body, Cx.suite, List.getElem?_cons_zero, List.getElem?_cons_succ, List.set_cons_zero, List.set_cons_succ, Option.some.injEq, V.int.injEq, V.bl.injEq, V.ref.injEq, V.str.injEq, exists_eq_left', exists_eq_left, exists_and_left, true_and, and_true, List.cons.injEq, reduceCtorEq, Bool.false_eq_true, if_false, if_true, exists_const, ↓reduceIte, tyV, List.length_cons, List.length_nil, exists_eq, List.append_nil, List.cons_append, List.nil_append, decide_eq_true_eq, not_true_eq_false, not_false_eq_true, Bool.not_eq_true', decide_eq_false_iff_not, Bool.not_true, Bool.not_false, and_assoc, false_and, false_or, or_false, spWhole, scal]
  refine ⟨trivial, _, .sqt hS, _, kit_tup_tup, ?_⟩
  simp only [rLen, rLst, rSlS, rPartition, rStarts, iStr, rIntS, rJoin, rIxS, rSplitS, rInN, tComp_eq, tCompIf_eq, tSl, tSl3, tPart, tNoPart, rSlL, rPop, rAppend, capSt, List.map_cons, List.map_nil, Option.bind_none, Option.bind_some, Option.join_some, tSeq, tIfS, tAnd, tOr, tNot, tTest, tB, tOp, tUn, tBM0, tBM, tVar, tC, tCB, tRet, tAsg, gName, gSub, gTup, gCons, gNil, tCons, tNil, tPar, tTup, tLst, tIf, tAndV, tNotV, tDef, tCallX, tCallV, tDrop, tNext, tNever, tRaise, rI, rI0, rU, rBitLen, rIxL, rIxT, rSetL, rEq, rNe, rCount, rIndex, rSplit, rIsI, rCat, iRng1, iList, cxOf, cxR, cxX, Cx.nox, Cx.wish, Cx.body, Cx.suite, List.getElem?_cons_zero, List.getElem?_cons_succ, List.set_cons_zero, List.set_cons_succ, Option.some.injEq, V.int.injEq, V.bl.injEq, V.ref.injEq, V.str.injEq, exists_eq_left', exists_eq_left, exists_and_left, true_and, and_true, List.cons.injEq, reduceCtorEq, Bool.false_eq_true, if_false, if_true, exists_const, ↓reduceIte, tyV, List.length_cons, List.length_nil, exists_eq, List.append_nil, List.cons_append, List.nil_append, decide_eq_true_eq, not_true_eq_false, not_false_eq_true, Bool.not_eq_true', decide_eq_false_iff_not, Bool.not_true, Bool.not_false, and_assoc, false_and, false_or, or_false, spWhole, scal]
  refine ⟨_, .inr hS, ?_⟩
  simp only [rLen, rLst, rSlS, rPartition, rStarts, iStr, rIntS, rJoin, rIxS, rSplitS, rInN, tComp_eq, tCompIf_eq, tSl, tSl3, tPart, tNoPart, rSlL, rPop, rAppend, capSt, List.map_cons, List.map_nil, Option.bind_none, Option.bind_some, Option.join_some, tSeq, tIfS, tAnd, tOr, tNot, tTest, tB, tOp, tUn, tBM0, tBM, tVar, tC, tCB, tRet, tAsg, gName, gSub, gTup, gCons, gNil, tCons, tNil, tPar, tTup, tLst, tIf, tAndV, tNotV, tDef, tCallX, tCallV, tDrop, tNext, tNever, tRaise, rI, rI0, rU, rBitLen, rIxL, rIxT, rSetL, rEq, rNe, rCount, rIndex, rSplit, rIsI, rCat, iRng1, iList, cxOf, cxR, cxX, Cx.nox, Cx.wish, Cx.body, Cx.suite, List.getElem?_cons_zero, List.getElem?_cons_succ, List.set_cons_zero, List.set_cons_succ, Option.some.injEq, V.int.injEq, V.bl.injEq, V.ref.injEq, V.str.injEq, exists_eq_left', exists_eq_left, exists_and_left, true_and, and_true, List.cons.injEq, reduceCtorEq, Bool.false_eq_true, if_false, if_true, exists_const, ↓reduceIte, tyV, List.length_cons, List.length_nil, exists_eq, List.append_nil, List.cons_append, List.nil_append, decide_eq_true_eq, not_true_eq_false, not_false_eq_true, Bool.not_eq_true', decide_eq_false_iff_not, Bool.not_true, Bool.not_false, and_assoc, false_and, false_or, or_false, spWhole, scal, numV]
  refine ite2 (fun hh => absurd rfl hh) (fun _ => ?_)
  refine ⟨_, hS, _, at0 q, _, rfl, _, hS, _, at1 q, _, rfl, _, hS, _, at1 q, _, rfl, ?_⟩
  rw [if_pos dq]
  refine ⟨_, hS, _, at0 q, _, hS, _, at1 q, _, _, rfl, by omega, hd, fun r H' sm hr' => ?_⟩
  rw [Rat.num_divInt_den] at hr'
  refine ⟨dNum q, dNum q, rfl, isD_num (SqT.of hr'), isD_num (sm.tup hS), okD_num q q, dp_num q, ?_⟩
  rw [eqD_num]; exact k H' sm
end
end R

set_option maxRecDepth 100000
namespace R
open PySem L2 PyProof.Rows
section
variable {P : Program} {w : World} {K : PySem.W.Frag} {mg : Str → Option Value} {base : Heap}
def told4 (j i : Nat) : List V := [V.bl (decide (j = i)), V.bl (decide (j = i + 1)), V.bl (decide (j = i + 2)), V.bl (decide (j = i + 3))]
abbrev s__law_which : Stmt := top 58
theorem sc__law_which : FnScope ["_law_e", "_law_told", "_law_names"] ["_law_e"] (defScope s__law_which) := ⟨rfl, rfl, rfl, by decide +kernel, rfl, by decide +kernel, by decide +kernel⟩
set_option maxHeartbeats 0 in
theorem ok__law_which {a : CAd} {f : Addr} (d : Df K mg "_law_which" s__law_which ["_law_e"] f) (X : XTx K mg a) (n_isinstance : mg "isinstance" = none) (n_ValueError : mg "ValueError" = none) : DefX P w K mg base 1 "_law_which" f ["_law_e"] (spWhich K a) := by
  obtain ⟨x_NoFraction, x_NoPolynomial, x_NoStretch, x_NoRow, x_NoPair, x_NoBack, x_NoForm, x_NoParts, x_NoDegree, x_NoSteps, x_NoBox, x_NoGain, x_NoText, x_NoLine, x_NoName, x_NoDeed⟩ := X
  refine d.okX (N := ["_law_e", "_law_told", "_law_names"]) sc__law_which (fun vs H Q E ⟨u, q, j, h, _⟩ => by rw [h]; rfl) (fun cdv A outer s H vs Q E hr h => ?_)
  obtain ⟨e, C, j, rfl, kt, hj, he, k⟩ := h
  refine ⟨_, (pss_cons (ps_set (i := 1) sc__law_which.nd rfl (Or.inl rfl) (pe_lst (pa_cons (pe_callB call_isinst rfl n_isinstance (by decide +kernel) (pa_cons (pv 0) (pa_cons (pe_glob (v := .ref _) rfl x_NoFraction.m rfl) pa_nil))) (pa_cons (pe_callB call_isinst rfl n_isinstance (by decide +kernel) (pa_cons (pv 0) (pa_cons (pe_glob (v := .ref _) rfl x_NoPolynomial.m rfl) pa_nil))) (pa_cons (pe_callB call_isinst rfl n_isinstance (by decide +kernel) (pa_cons (pv 0) (pa_cons (pe_glob (v := .ref _) rfl x_NoStretch.m rfl) pa_nil))) (pa_cons (pe_callB call_isinst rfl n_isinstance (by decide +kernel) (pa_cons (pv 0) (pa_cons (pe_glob (v := .ref _) rfl x_NoRow.m rfl) pa_nil))) pa_nil))))))
      (pss_cons (ps_set (i := 1) sc__law_which.nd rfl (Or.inl rfl) (pe_op op_cat (pv 1) (pe_lst (pa_cons (pe_callB call_isinst rfl n_isinstance (by decide +kernel) (pa_cons (pv 0) (pa_cons (pe_glob (v := .ref _) rfl x_NoPair.m rfl) pa_nil))) (pa_cons (pe_callB call_isinst rfl n_isinstance (by decide +kernel) (pa_cons (pv 0) (pa_cons (pe_glob (v := .ref _) rfl x_NoBack.m rfl) pa_nil))) (pa_cons (pe_callB call_isinst rfl n_isinstance (by decide +kernel) (pa_cons (pv 0) (pa_cons (pe_glob (v := .ref _) rfl x_NoForm.m rfl) pa_nil))) (pa_cons (pe_callB call_isinst rfl n_isinstance (by decide +kernel) (pa_cons (pv 0) (pa_cons (pe_glob (v := .ref _) rfl x_NoParts.m rfl) pa_nil))) pa_nil)))))))
      (pss_cons (ps_set (i := 1) sc__law_which.nd rfl (Or.inl rfl) (pe_op op_cat (pv 1) (pe_lst (pa_cons (pe_callB call_isinst rfl n_isinstance (by decide +kernel) (pa_cons (pv 0) (pa_cons (pe_glob (v := .ref _) rfl x_NoDegree.m rfl) pa_nil))) (pa_cons (pe_callB call_isinst rfl n_isinstance (by decide +kernel) (pa_cons (pv 0) (pa_cons (pe_glob (v := .ref _) rfl x_NoSteps.m rfl) pa_nil))) (pa_cons (pe_callB call_isinst rfl n_isinstance (by decide +kernel) (pa_cons (pv 0) (pa_cons (pe_glob (v := .ref _) rfl x_NoBox.m rfl) pa_nil))) (pa_cons (pe_callB call_isinst rfl n_isinstance (by decide +kernel) (pa_cons (pv 0) (pa_cons (pe_glob (v := .ref _) rfl x_NoGain.m rfl) pa_nil))) pa_nil)))))))
      (pss_cons (ps_set (i := 1) sc__law_which.nd rfl (Or.inl rfl) (pe_op op_cat (pv 1) (pe_lst (pa_cons (pe_callB call_isinst rfl n_isinstance (by decide +kernel) (pa_cons (pv 0) (pa_cons (pe_glob (v := .ref _) rfl x_NoText.m rfl) pa_nil))) (pa_cons (pe_callB call_isinst rfl n_isinstance (by decide +kernel) (pa_cons (pv 0) (pa_cons (pe_glob (v := .ref _) rfl x_NoLine.m rfl) pa_nil))) (pa_cons (pe_callB call_isinst rfl n_isinstance (by decide +kernel) (pa_cons (pv 0) (pa_cons (pe_glob (v := .ref _) rfl x_NoName.m rfl) pa_nil))) (pa_cons (pe_callB call_isinst rfl n_isinstance (by decide +kernel) (pa_cons (pv 0) (pa_cons (pe_glob (v := .ref _) rfl x_NoDeed.m rfl) pa_nil))) pa_nil)))))))
      (pss_cons (ps_set (i := 2) sc__law_which.nd rfl (Or.inl rfl) pe_str)
      (pss_cons (ps_if (PW.pt (pw_or (pt_cmpR op_ne (pe_bm PySem.F.plainAttrs_list PySem.F.slot_list_count PySem.F.type_list_count mt_count (pv 1) (pa_cons pe_bl pa_nil)) pe_int (nomark _)) (pw_or1 (pt_not (pt_val (pe_callB call_isinst rfl n_isinstance (by decide +kernel) (pa_cons (pv 0) (pa_cons (pe_bltn (v := .ty "ValueError") rfl n_ValueError (by decide +kernel) rfl) pa_nil)))))))) (pss_one (ps_ret pe_str)) pss_nil)
      (pss_one (ps_ret (pe_ix ix_list (pe_bm PySem.F.plainAttrs_str PySem.F.slot_str_split PySem.F.type_str_split mt_split (pv 2) (pa_cons pe_str pa_nil)) (pe_bm PySem.F.plainAttrs_list PySem.F.slot_list_index PySem.F.type_list_index mt_index (pv 1) (pa_cons pe_bl pa_nil)) (fun _ _ => rfl)))))))))), ?_⟩
  rw [show start ["_law_e", "_law_told", "_law_names"] [.ref e] = [some (.ref e), none, none] from rfl]
  have ty : ∀ {H' : Hp}, Same H H' → TyX K H' (.ref e) (.ref C) := fun sm => .exc (sm _ _ he) kt.ec
  refine seq_cut (fun σ H1 => ∃ l, σ = [some (.ref e), some (.ref l), none] ∧ Same H H1 ∧ H1 l = some (.lst (told4 j 0))) (fun N hN => ?_) ?_
  · simp only [rLen, rLst, rSlS, rPartition, rStarts, iStr, rIntS, rJoin, rIxS, rSplitS, rInN, tComp_eq, tCompIf_eq, tSl, tSl3, tPart, tNoPart, rSlL, rPop, rAppend, capSt, List.map_cons, List.map_nil, Option.bind_none, Option.bind_some, Option.join_some, tSeq, tIfS, tAnd, tOr, tNot, tTest, tB, tOp, tUn, tBM0, tBM, tVar, tC, tCB, tRet, tAsg, gName, gSub, gTup, gCons, gNil, tCons, tNil, tPar, tTup, tLst, tIf, tAndV, tNotV, tDef, tCallX, tCallV, tDrop, tNext, tNever, tRaise, rI, rI0, rU, rBitLen, rIxL, rIxT, rSetL, rEq, rNe, rCount, rIndex, rSplit, rIsI, rCat, iRng1, iList, cxOf, cxR, cxX, Cx.nox, Cx.wish, Cx.body, Cx.suite, List.getElem?_cons_zero, List.getElem?_cons_succ, List.set_cons_zero, List.set_cons_succ, Option.some.injEq, V.int.injEq, V.bl.injEq, V.ref.injEq, V.str.injEq, exists_eq_left', exists_eq_left, exists_and_left, true_and, and_true, List.cons.injEq, reduceCtorEq, Bool.false_eq_true, if_false, if_true, exists_const, ↓reduceIte, tyV, List.length_cons, List.length_nil, exists_eq, List.append_nil, List.cons_append, List.nil_append, decide_eq_true_eq, not_true_eq_false, not_false_eq_true, Bool.not_eq_true', decide_eq_false_iff_not, Bool.not_true, Bool.not_false, and_assoc, false_and, false_or, or_false]
    exact ⟨trivial, _, ty (Same.refl _), _, kt.k_NoFraction, trivial, _, ty (Same.refl _), _, kt.k_NoPolynomial, trivial, _, ty (Same.refl _), _, kt.k_NoStretch, trivial, _, ty (Same.refl _), _, kt.k_NoRow, by decide, fun l h => hN _ _ ⟨l, rfl, Same.new h _, upd_same⟩⟩
  rintro σ H1 ⟨l1, rfl, sA1, eA1⟩
  refine seq_cut (fun σ H2 => ∃ l, σ = [some (.ref e), some (.ref l), none] ∧ Same H H2 ∧ H2 l = some (.lst (told4 j 0 ++ told4 j 4))) (fun N hN => ?_) ?_
  · simp only [rLen, rLst, rSlS, rPartition, rStarts, iStr, rIntS, rJoin, rIxS, rSplitS, rInN, tComp_eq, tCompIf_eq, tSl, tSl3, tPart, tNoPart, rSlL, rPop, rAppend, capSt, List.map_cons, List.map_nil, Option.bind_none, Option.bind_some, Option.join_some, tSeq, tIfS, tAnd, tOr, tNot, tTest, tB, tOp, tUn, tBM0, tBM, tVar, tC, tCB, tRet, tAsg, gName, gSub, gTup, gCons, gNil, tCons, tNil, tPar, tTup, tLst, tIf, tAndV, tNotV, tDef, tCallX, tCallV, tDrop, tNext, tNever, tRaise, rI, rI0, rU, rBitLen, rIxL, rIxT, rSetL, rEq, rNe, rCount, rIndex, rSplit, rIsI, rCat, iRng1, iList, cxOf, cxR, cxX, Cx.nox, Cx.wish, Cx.body, Cx.suite, List.getElem?_cons_zero, List.getElem?_cons_succ, List.set_cons_zero, List.set_cons_succ, Option.some.injEq, V.int.injEq, V.bl.injEq, V.ref.injEq, V.str.injEq, exists_eq_left', exists_eq_left, exists_and_left, true_and, and_true, List.cons.injEq, reduceCtorEq, Bool.false_eq_true, if_false, if_true, exists_const, ↓reduceIte, tyV, List.length_cons, List.length_nil, exists_eq, List.append_nil, List.cons_append, List.nil_append, decide_eq_true_eq, not_true_eq_false, not_false_eq_true, Bool.not_eq_true', decide_eq_false_iff_not, Bool.not_true, Bool.not_false, and_assoc, false_and, false_or, or_false]
    exact ⟨trivial, _, ty sA1, _, kt.k_NoPair, trivial, _, ty sA1, _, kt.k_NoBack, trivial, _, ty sA1, _, kt.k_NoForm, trivial, _, ty sA1, _, kt.k_NoParts, by decide, fun p hp => ⟨_, (upd_ne (ne_of_none eA1 hp)).trans eA1, _, upd_same, (show (8 : Nat) ≤ sizeLine from by decide), fun l h => hN _ _ ⟨l, rfl, (sA1.trans (Same.new hp _)).trans (Same.new h _), upd_same⟩⟩⟩
  rintro σ H2 ⟨l2, rfl, sA2, eA2⟩
  refine seq_cut (fun σ H2 => ∃ l, σ = [some (.ref e), some (.ref l), none] ∧ Same H H2 ∧ H2 l = some (.lst (told4 j 0 ++ told4 j 4 ++ told4 j 8))) (fun N hN => ?_) ?_
  · simp only [rLen, rLst, rSlS, rPartition, rStarts, iStr, rIntS, rJoin, rIxS, rSplitS, rInN, tComp_eq, tCompIf_eq, tSl, tSl3, tPart, tNoPart, rSlL, rPop, rAppend, capSt, List.map_cons, List.map_nil, Option.bind_none, Option.bind_some, Option.join_some, tSeq, tIfS, tAnd, tOr, tNot, tTest, tB, tOp, tUn, tBM0, tBM, tVar, tC, tCB, tRet, tAsg, gName, gSub, gTup, gCons, gNil, tCons, tNil, tPar, tTup, tLst, tIf, tAndV, tNotV, tDef, tCallX, tCallV, tDrop, tNext, tNever, tRaise, rI, rI0, rU, rBitLen, rIxL, rIxT, rSetL, rEq, rNe, rCount, rIndex, rSplit, rIsI, rCat, iRng1, iList, cxOf, cxR, cxX, Cx.nox, Cx.wish, Cx.body, Cx.suite, List.getElem?_cons_zero, List.getElem?_cons_succ, List.set_cons_zero, List.set_cons_succ, Option.some.injEq, V.int.injEq, V.bl.injEq, V.ref.injEq, V.str.injEq, exists_eq_left', exists_eq_left, exists_and_left, true_and, and_true, List.cons.injEq, reduceCtorEq, Bool.false_eq_true, if_false, if_true, exists_const, ↓reduceIte, tyV, List.length_cons, List.length_nil, exists_eq, List.append_nil, List.cons_append, List.nil_append, decide_eq_true_eq, not_true_eq_false, not_false_eq_true, Bool.not_eq_true', decide_eq_false_iff_not, Bool.not_true, Bool.not_false, and_assoc, false_and, false_or, or_false]
    exact ⟨trivial, _, ty sA2, _, kt.k_NoDegree, trivial, _, ty sA2, _, kt.k_NoSteps, trivial, _, ty sA2, _, kt.k_NoBox, trivial, _, ty sA2, _, kt.k_NoGain, by decide, fun p hp => ⟨_, (upd_ne (ne_of_none eA2 hp)).trans eA2, _, upd_same, (show (12 : Nat) ≤ sizeLine from by decide), fun l h => hN _ _ ⟨l, rfl, (sA2.trans (Same.new hp _)).trans (Same.new h _), upd_same⟩⟩⟩
  rintro σ H3 ⟨l3, rfl, sA3, eA3⟩
  refine seq_cut (fun σ H2 => ∃ l, σ = [some (.ref e), some (.ref l), none] ∧ Same H H2 ∧ H2 l = some (.lst (told4 j 0 ++ told4 j 4 ++ told4 j 8 ++ told4 j 12))) (fun N hN => ?_) ?_
  · simp only [rLen, rLst, rSlS, rPartition, rStarts, iStr, rIntS, rJoin, rIxS, rSplitS, rInN, tComp_eq, tCompIf_eq, tSl, tSl3, tPart, tNoPart, rSlL, rPop, rAppend, capSt, List.map_cons, List.map_nil, Option.bind_none, Option.bind_some, Option.join_some, tSeq, tIfS, tAnd, tOr, tNot, tTest, tB, tOp, tUn, tBM0, tBM, tVar, tC, tCB, tRet, tAsg, gName, gSub, gTup, gCons, gNil, tCons, tNil, tPar, tTup, tLst, tIf, tAndV, tNotV, tDef, tCallX, tCallV, tDrop, tNext, tNever, tRaise, rI, rI0, rU, rBitLen, rIxL, rIxT, rSetL, rEq, rNe, rCount, rIndex, rSplit, rIsI, rCat, iRng1, iList, cxOf, cxR, cxX, Cx.nox, Cx.wish, Cx.body, Cx.suite, List.getElem?_cons_zero, List.getElem?_cons_succ, List.set_cons_zero, List.set_cons_succ, Option.some.injEq, V.int.injEq, V.bl.injEq, V.ref.injEq, V.str.injEq, exists_eq_left', exists_eq_left, exists_and_left, true_and, and_true, List.cons.injEq, reduceCtorEq, Bool.false_eq_true, if_false, if_true, exists_const, ↓reduceIte, tyV, List.length_cons, List.length_nil, exists_eq, List.append_nil, List.cons_append, List.nil_append, decide_eq_true_eq, not_true_eq_false, not_false_eq_true, Bool.not_eq_true', decide_eq_false_iff_not, Bool.not_true, Bool.not_false, and_assoc, false_and, false_or, or_false]
    exact ⟨trivial, _, ty sA3, _, kt.k_NoText, trivial, _, ty sA3, _, kt.k_NoLine, trivial, _, ty sA3, _, kt.k_NoName, trivial, _, ty sA3, _, kt.k_NoDeed, by decide, fun p hp => ⟨_, (upd_ne (ne_of_none eA3 hp)).trans eA3, _, upd_same, (show (16 : Nat) ≤ sizeLine from by decide), fun l h => hN _ _ ⟨l, rfl, (sA3.trans (Same.new hp _)).trans (Same.new h _), upd_same⟩⟩⟩
  rintro σ H4 ⟨l4, rfl, sA4, eA4⟩
  have eT : H4 l4 = some (.lst (told j)) := eA4
  clear eA4
  simp only [rLen, rLst, rSlS, rPartition, rStarts, iStr, rIntS, rJoin, rIxS, rSplitS, rInN, tComp_eq, tCompIf_eq, tSl, tSl3, tPart, tNoPart, rSlL, rPop, rAppend, capSt, List.map_cons, List.map_nil, Option.bind_none, Option.bind_some, Option.join_some, tSeq, tIfS, tAnd, tOr, tNot, tTest, tB, tOp, tUn, tBM0, tBM, tVar, tC, tCB, tRet, tAsg, gName, gSub, gTup, gCons, gNil, tCons, tNil, tPar, tTup, tLst, tIf, tAndV, tNotV, tDef, tCallX, tCallV, tDrop, tNext, tNever, tRaise, rI, rI0, rU, rBitLen, rIxL, rIxT, rSetL, rEq, rNe, rCount, rIndex, rSplit, rIsI, rCat, iRng1, iList, cxOf, cxR, cxX, Cx.nox, Cx.wish, Cx.body, Cx.suite, List.getElem?_cons_zero, List.getElem?_cons_succ, List.set_cons_zero, List.set_cons_succ, Option.some.injEq, V.int.injEq, V.bl.injEq, V.ref.injEq, V.str.injEq, exists_eq_left', exists_eq_left, exists_and_left, true_and, and_true, List.cons.injEq, reduceCtorEq, Bool.false_eq_true, if_false, if_true, exists_const, ↓reduceIte, tyV, List.length_cons, List.length_nil, exists_eq, List.append_nil, List.cons_append, List.nil_append, decide_eq_true_eq, not_true_eq_false, not_false_eq_true, Bool.not_eq_true', decide_eq_false_iff_not, Bool.not_true, Bool.not_false, and_assoc, false_and, false_or, or_false]
  refine ⟨.inl ⟨_, SqL.of eT⟩, _, eT, rfl, told_flat j hj, rfl, ?_⟩
  rw [told_count j hj]
  refine ite2 (fun hh => absurd rfl hh) (fun _ => ?_)
  refine ⟨trivial, _, ty sA4, _, kt.kV, ?_⟩
  refine ite2 (fun hh => absurd hh (by decide)) (fun _ => ?_)
  refine ⟨by decide +kernel, by decide +kernel, by decide +kernel, by decide +kernel, by rw [parts_names]; decide, fun l hl => ?_⟩
  have eT' : (upd H4 l (.lst ((partsOf "fraction polynomial stretch row pair back form parts degree steps box gain text line name deed" " ").map V.str))) l4 = some (.lst (told j)) := (upd_ne (ne_of_none eT hl)).trans eT
  refine ⟨.inl ⟨_, SqL.of eT'⟩, _, eT', rfl, told_flat j hj, _, told_idx j hj, _, SqL.of upd_same, _, name_at hj, ?_⟩
  exact k _ (sA4.trans (Same.new hl _))
end
end R

set_option maxRecDepth 100000
namespace R
open PySem L2 PyProof.Rows
def spReadS : Sp := fun vs H Q _ => ∃ x, vs = [.str x] ∧ x.length ≤ 5000 ∧ ∀ v H', Same H H' → OptN H' v (readS x) → Q v H'
theorem pM_tru (x : Str) : (((pM x).length : Int) != 0) = decide (pM x ≠ Str.empty) := by
  rcases pM_two x with h | h <;> rw [h] <;> decide +kernel
theorem pM_len (x : Str) : (pM x).length ≤ sizeLine := by
  rcases pM_two x with h | h <;> rw [h] <;> decide +kernel
theorem readS_no {x : Str} (h : topS x = none ∨ botS x = none) : readS x = none := by
  unfold readS
  rcases h with h | h
  · rw [h]
  · rw [h]; cases topS x <;> rfl
theorem readS_some {x : Str} {t b : Nat} (h : topS x = some t) (h' : botS x = some b) : readS x = if b = 0 ∨ (isMn (pA x) = true ∧ t = 0) ∨ (pM x ≠ Str.empty ∧ b = 1) ∨ Int.gcd t b ≠ 1 then none else some (Rat.divInt (if isMn (pA x) = true then -(t : Int) else t) b) := by
  unfold readS; rw [h, h']
section
variable {P : Program} {w : World} {K : PySem.W.Frag} {mg : Str → Option Value} {base : Heap}
abbrev s_number_in : Stmt := top 39
theorem sc_number_in : FnScope ["text", "minus", "top", "bottom", "number", "top_text", "slash", "bottom_text"] ["text"] (defScope s_number_in) := ⟨rfl, rfl, rfl, by decide +kernel, rfl, by decide +kernel, by decide +kernel⟩
set_option maxHeartbeats 0 in
theorem ok_number_in {f f1 f2 : Addr} (d : Df K mg "number_in" s_number_in ["text"] f) (G_whole_in : Def P w K mg base CX0 1 "whole_in" f1 ["text"] spFig) (G_is_number : Def P w K mg base CX0 2 "is_number" f2 ["thing"] (spIsNumD K)) : Def P w K mg base CX0 3 "number_in" f ["text"] spReadS := by
  refine d.ok (N := ["text", "minus", "top", "bottom", "number", "top_text", "slash", "bottom_text"]) sc_number_in (by rintro vs H Q E ⟨x, h, _⟩; rw [h]; rfl) (fun cdv A outer s H vs Q E hr h => ?_)
  obtain ⟨x, rfl, hx, k⟩ := h
  refine ⟨_, (pss_cons (ps_asg (pe_bm PySem.F.plainAttrs_str PySem.F.slot_str_partition PySem.F.type_str_partition mt_partition (pv 0) (pa_cons pe_str pa_nil)) (show PG _ _ (gTup K 3 (gCons (gName 5) (gCons (gName 6) (gCons (gName 7) gNil)))) from by (refine pg_tup (n := 3) ?_ ?_ ?_ ?_; rfl; (refine pgs_cons ?_ ?_ ?_; (exact (pg_name (i := 5) sc_number_in.nd rfl (Or.inl rfl))); (refine pgs_cons ?_ ?_ ?_; (exact (pg_name (i := 6) sc_number_in.nd rfl (Or.inl rfl))); (refine pgs_cons ?_ ?_ ?_; (exact (pg_name (i := 7) sc_number_in.nd rfl (Or.inl rfl))); (exact pgs_nil); rfl); rfl); rfl); rfl; rfl)))
      (pss_cons (ps_set (i := 1) sc_number_in.nd rfl (Or.inl rfl) (pe_bm PySem.F.plainAttrs_str PySem.F.slot_str_startswith PySem.F.type_str_startswith mt_starts (pv 5) (pa_cons pe_str pa_nil)))
      (pss_cons (ps_set (i := 2) sc_number_in.nd rfl (Or.inl rfl) (pe_def G_whole_in hr (pa_cons (pe_ifExp (pt_val (pv 1)) (pe_slice sl_str (pv 5) (po_some pe_int) po_none) (pv 5)) pa_nil) pass0))
      (pss_cons (ps_set (i := 3) sc_number_in.nd rfl (Or.inl rfl) (pe_ifExp (pt_truth (pv 6) (fun _ => rfl)) (pe_def G_whole_in hr (pa_cons (pv 7) pa_nil) pass0) pe_int))
      (pss_cons (ps_if (PW.pt (pw_or (pt_cmpR op_isN (pv 2) pe_non (nomark _)) (pw_or (pt_cmpR op_isN (pv 3) pe_non (nomark _)) (pw_or (PW.pt (pw_and (pt_val (pv 1)) (pw_and1 (pt_cmpR op_eq (pv 2) pe_int (nomark _))))) (pw_or1 (PW.pt (pw_and (pt_truth (pv 6) (fun _ => rfl)) (pw_and1 (pt_cmpR op_eq (pv 3) pe_int (nomark _)))))))))) (pss_one (ps_ret pe_non)) pss_nil)
      (pss_cons (ps_set (i := 4) sc_number_in.nd rfl (Or.inl rfl) (pe_tup (pa_cons (pe_ifExp (pt_val (pv 1)) (pe_un un_neg (pv 2)) (pv 2)) (pa_cons (pv 3) pa_nil))))
      (pss_one (ps_ret (pe_ifExp (pt_val (pe_def G_is_number hr (pa_cons (pv 4) pa_nil) pass0)) (pv 4) pe_non))))))))), ?_⟩
  rw [show start ["text", "minus", "top", "bottom", "number", "top_text", "slash", "bottom_text"] [.str x] = [some (.str x), none, none, none, none, none, none, none] from rfl]
  have lA := Nat.le_trans (pA_len x) hx
  have lB := Nat.le_trans (pB_len x) hx
  refine seq_cut (fun σ H1 => Same H H1 ∧ σ = [some (.str x), none, none, none, none, some (.str (pA x)), some (.str (pM x)), some (.str (pB x))]) (fun N hN => ?_) ?_
  · simp only [rLen, rLst, rSlS, rPartition, rStarts, iStr, rIntS, rJoin, rIxS, rSplitS, rInN, tComp_eq, tCompIf_eq, tSl, tSl3, tPart, tNoPart, rSlL, rPop, rAppend, capSt, List.map_cons, List.map_nil, Option.bind_none, Option.bind_some, Option.join_some, tSeq, tIfS, tAnd, tOr, tNot, tTest, tB, tOp, tUn, tBM0, tBM, tVar, tC, tCB, tRet, tAsg, gName, gSub, gTup, gCons, gNil, tCons, tNil, tPar, tTup, tLst, tIf, tAndV, tNotV, tDef, tCallX, tCallV, tDrop, tNext, tNever, tRaise, rI, rI0, rU, rBitLen, rIxL, rIxT, rSetL, rEq, rNe, rCount, rIndex, rSplit, rIsI, rCat, iRng1, iList, cxOf, cxR, cxX, Cx.nox, Cx.wish, Cx.body, Cx.suite, List.getElem?_cons_zero, List.getElem?_cons_succ, List.set_cons_zero, List.set_cons_succ, Option.some.injEq, V.int.injEq, V.bl.injEq, V.ref.injEq, V.str.injEq, exists_eq_left', exists_eq_left, exists_and_left, true_and, and_true, List.cons.injEq, reduceCtorEq, Bool.false_eq_true, if_false, if_true, exists_const, ↓reduceIte, tyV, List.length_cons, List.length_nil, exists_eq, List.append_nil, List.cons_append, List.nil_append, decide_eq_true_eq, not_true_eq_false, not_false_eq_true, Bool.not_eq_true', decide_eq_false_iff_not, Bool.not_true, Bool.not_false, and_assoc, false_and, false_or, or_false]
    refine ⟨by decide +kernel, sz hx, fun p hp => ⟨_, SqT.of upd_same, ?_⟩⟩
    rw [part_eq]
    exact ⟨rfl, _, _, rfl, _, _, rfl, _, _, rfl, rfl, hN _ _ ⟨Same.new hp _, rfl⟩⟩
  rintro σ H1 ⟨s1, rfl⟩
  refine seq_cut (fun σ H2 => H2 = H1 ∧ σ = [some (.str x), some (.bl (isMn (pA x))), none, none, none, some (.str (pA x)), some (.str (pM x)), some (.str (pB x))]) (fun N hN => ?_) ?_
  · simp only [rLen, rLst, rSlS, rPartition, rStarts, iStr, rIntS, rJoin, rIxS, rSplitS, rInN, tComp_eq, tCompIf_eq, tSl, tSl3, tPart, tNoPart, rSlL, rPop, rAppend, capSt, List.map_cons, List.map_nil, Option.bind_none, Option.bind_some, Option.join_some, tSeq, tIfS, tAnd, tOr, tNot, tTest, tB, tOp, tUn, tBM0, tBM, tVar, tC, tCB, tRet, tAsg, gName, gSub, gTup, gCons, gNil, tCons, tNil, tPar, tTup, tLst, tIf, tAndV, tNotV, tDef, tCallX, tCallV, tDrop, tNext, tNever, tRaise, rI, rI0, rU, rBitLen, rIxL, rIxT, rSetL, rEq, rNe, rCount, rIndex, rSplit, rIsI, rCat, iRng1, iList, cxOf, cxR, cxX, Cx.nox, Cx.wish, Cx.body, Cx.suite, List.getElem?_cons_zero, List.getElem?_cons_succ, List.set_cons_zero, List.set_cons_succ, Option.some.injEq, V.int.injEq, V.bl.injEq, V.ref.injEq, V.str.injEq, exists_eq_left', exists_eq_left, exists_and_left, true_and, and_true, List.cons.injEq, reduceCtorEq, Bool.false_eq_true, if_false, if_true, exists_const, ↓reduceIte, tyV, List.length_cons, List.length_nil, exists_eq, List.append_nil, List.cons_append, List.nil_append, decide_eq_true_eq, not_true_eq_false, not_false_eq_true, Bool.not_eq_true', decide_eq_false_iff_not, Bool.not_true, Bool.not_false, and_assoc, false_and, false_or, or_false]
    exact hN _ _ ⟨rfl, rfl⟩
  rintro σ H2 ⟨rfl, rfl⟩
  refine seq_cut (fun σ H3 => Same H2 H3 ∧ σ = [some (.str x), some (.bl (isMn (pA x))), some (optI (topS x)), none, none, some (.str (pA x)), some (.str (pM x)), some (.str (pB x))]) (fun N hN => ?_) ?_
  · simp only [rLen, rLst, rSlS, rPartition, rStarts, iStr, rIntS, rJoin, rIxS, rSplitS, rInN, tComp_eq, tCompIf_eq, tSl, tSl3, tPart, tNoPart, rSlL, rPop, rAppend, capSt, List.map_cons, List.map_nil, Option.bind_none, Option.bind_some, Option.join_some, tSeq, tIfS, tAnd, tOr, tNot, tTest, tB, tOp, tUn, tBM0, tBM, tVar, tC, tCB, tRet, tAsg, gName, gSub, gTup, gCons, gNil, tCons, tNil, tPar, tTup, tLst, tIf, tAndV, tNotV, tDef, tCallX, tCallV, tDrop, tNext, tNever, tRaise, rI, rI0, rU, rBitLen, rIxL, rIxT, rSetL, rEq, rNe, rCount, rIndex, rSplit, rIsI, rCat, iRng1, iList, cxOf, cxR, cxX, Cx.nox, Cx.wish, Cx.body, Cx.suite, List.getElem?_cons_zero, List.getElem?_cons_succ, List.set_cons_zero, List.set_cons_succ, Option.some.injEq, V.int.injEq, V.bl.injEq, V.ref.injEq, V.str.injEq, exists_eq_left', exists_eq_left, exists_and_left, true_and, and_true, List.cons.injEq, reduceCtorEq, Bool.false_eq_true, if_false, if_true, exists_const, ↓reduceIte, tyV, List.length_cons, List.length_nil, exists_eq, List.append_nil, List.cons_append, List.nil_append, decide_eq_true_eq, not_true_eq_false, not_false_eq_true, Bool.not_eq_true', decide_eq_false_iff_not, Bool.not_true, Bool.not_false, and_assoc, false_and, false_or, or_false]
    refine ite2 (fun hm => ⟨sz lA, _, rfl, Nat.le_trans (Txt.slice_le _ _ _) lA, fun H3 s3 => ?_⟩) (fun hm => ⟨_, rfl, lA, fun H3 s3 => ?_⟩)
    · have e : topS x = figS (Txt.slice (pA x) (some 1) none) := by unfold topS; rw [if_pos hm]
      rw [← e]; exact hN _ _ ⟨s3, rfl⟩
    · have e : topS x = figS (pA x) := by unfold topS; rw [if_neg hm]
      rw [← e]; exact hN _ _ ⟨s3, rfl⟩
  rintro σ H3 ⟨s3, rfl⟩
  refine seq_cut (fun σ H4 => Same H3 H4 ∧ σ = [some (.str x), some (.bl (isMn (pA x))), some (optI (topS x)), some (optI (botS x)), none, some (.str (pA x)), some (.str (pM x)), some (.str (pB x))]) (fun N hN => ?_) ?_
  · simp only [rLen, rLst, rSlS, rPartition, rStarts, iStr, rIntS, rJoin, rIxS, rSplitS, rInN, tComp_eq, tCompIf_eq, tSl, tSl3, tPart, tNoPart, rSlL, rPop, rAppend, capSt, List.map_cons, List.map_nil, Option.bind_none, Option.bind_some, Option.join_some, tSeq, tIfS, tAnd, tOr, tNot, tTest, tB, tOp, tUn, tBM0, tBM, tVar, tC, tCB, tRet, tAsg, gName, gSub, gTup, gCons, gNil, tCons, tNil, tPar, tTup, tLst, tIf, tAndV, tNotV, tDef, tCallX, tCallV, tDrop, tNext, tNever, tRaise, rI, rI0, rU, rBitLen, rIxL, rIxT, rSetL, rEq, rNe, rCount, rIndex, rSplit, rIsI, rCat, iRng1, iList, cxOf, cxR, cxX, Cx.nox, Cx.wish, Cx.body, Cx.suite, List.getElem?_cons_zero, List.getElem?_cons_succ, List.set_cons_zero, List.set_cons_succ, Option.some.injEq, V.int.injEq, V.bl.injEq, V.ref.injEq, V.str.injEq, exists_eq_left', exists_eq_left, exists_and_left, true_and, and_true, List.cons.injEq, reduceCtorEq, Bool.false_eq_true, if_false, if_true, exists_const, ↓reduceIte, tyV, List.length_cons, List.length_nil, exists_eq, List.append_nil, List.cons_append, List.nil_append, decide_eq_true_eq, not_true_eq_false, not_false_eq_true, Bool.not_eq_true', decide_eq_false_iff_not, Bool.not_true, Bool.not_false, and_assoc, false_and, false_or, or_false, TruV]
    refine ⟨pM_len x, ?_⟩
    rw [pM_tru]
    refine ite2 (fun hm => ⟨_, rfl, lB, fun H4 s4 => ?_⟩) (fun hm => ?_)
    · have e : botS x = figS (pB x) := by unfold botS; rw [if_neg (of_decide_eq_true hm)]
      rw [← e]; exact hN _ _ ⟨s4, rfl⟩
    · have e : botS x = some 1 := by unfold botS; rw [if_pos (Classical.byContradiction fun z => hm (decide_eq_true z))]
      rw [e] at hN
      exact hN _ _ ⟨Same.refl _, rfl⟩
  rintro σ H4 ⟨s4, rfl⟩
  have S := s1.trans (s3.trans s4)
  have no : readS x = none → Q .non H4 := fun e => by have := k .non H4 S; rw [e] at this; exact this rfl
  cases et : topS x with
  | none =>
    simp only [rLen, rLst, rSlS, rPartition, rStarts, iStr, rIntS, rJoin, rIxS, rSplitS, rInN, tComp_eq, tCompIf_eq, tSl, tSl3, tPart, tNoPart, rSlL, rPop, rAppend, capSt, List.map_cons, List.map_nil, Option.bind_none, Option.bind_some, Option.join_some, tSeq, tIfS, tAnd, tOr, tNot, tTest, tB, tOp, tUn, tBM0, tBM, tVar, tC, tCB, tRet, tAsg, gName, gSub, gTup, gCons, gNil, tCons, tNil, tPar, tTup, tLst, tIf, tAndV, tNotV, tDef, tCallX, tCallV, tDrop, tNext, tNever, tRaise, rI, rI0, rU, rBitLen, rIxL, rIxT, rSetL, rEq, rNe, rCount, rIndex, rSplit, rIsI, rCat, iRng1, iList, cxOf, cxR, cxX, Cx.nox, Cx.wish, Cx.body, Cx.suite, List.getElem?_cons_zero, List.getElem?_cons_succ, List.set_cons_zero, List.set_cons_succ, Option.some.injEq, V.int.injEq, V.bl.injEq, V.ref.injEq, V.str.injEq, exists_eq_left', exists_eq_left, exists_and_left, true_and, and_true, List.cons.injEq, reduceCtorEq, Bool.false_eq_true, if_false, if_true, exists_const, ↓reduceIte, tyV, List.length_cons, List.length_nil, exists_eq, List.append_nil, List.cons_append, List.nil_append, decide_eq_true_eq, not_true_eq_false, not_false_eq_true, Bool.not_eq_true', decide_eq_false_iff_not, Bool.not_true, Bool.not_false, and_assoc, false_and, false_or, or_false, TruV, optI]
    exact no (readS_no (.inl et))
  | some t =>
  cases eb : botS x with
  | none =>
    simp only [rLen, rLst, rSlS, rPartition, rStarts, iStr, rIntS, rJoin, rIxS, rSplitS, rInN, tComp_eq, tCompIf_eq, tSl, tSl3, tPart, tNoPart, rSlL, rPop, rAppend, capSt, List.map_cons, List.map_nil, Option.bind_none, Option.bind_some, Option.join_some, tSeq, tIfS, tAnd, tOr, tNot, tTest, tB, tOp, tUn, tBM0, tBM, tVar, tC, tCB, tRet, tAsg, gName, gSub, gTup, gCons, gNil, tCons, tNil, tPar, tTup, tLst, tIf, tAndV, tNotV, tDef, tCallX, tCallV, tDrop, tNext, tNever, tRaise, rI, rI0, rU, rBitLen, rIxL, rIxT, rSetL, rEq, rNe, rCount, rIndex, rSplit, rIsI, rCat, iRng1, iList, cxOf, cxR, cxX, Cx.nox, Cx.wish, Cx.body, Cx.suite, List.getElem?_cons_zero, List.getElem?_cons_succ, List.set_cons_zero, List.set_cons_succ, Option.some.injEq, V.int.injEq, V.bl.injEq, V.ref.injEq, V.str.injEq, exists_eq_left', exists_eq_left, exists_and_left, true_and, and_true, List.cons.injEq, reduceCtorEq, Bool.false_eq_true, if_false, if_true, exists_const, ↓reduceIte, tyV, List.length_cons, List.length_nil, exists_eq, List.append_nil, List.cons_append, List.nil_append, decide_eq_true_eq, not_true_eq_false, not_false_eq_true, Bool.not_eq_true', decide_eq_false_iff_not, Bool.not_true, Bool.not_false, and_assoc, false_and, false_or, or_false, TruV, optI]
    exact no (readS_no (.inr eb))
  | some b =>
  have rs := readS_some et eb
  have fin : ¬ (isMn (pA x) = true ∧ t = 0) → ¬ (pM x ≠ Str.empty ∧ b = 1) → ∀ tt : Int, tt = (if isMn (pA x) = true then -(t : Int) else t) → (0 + 1 + 1 ≤ sizeLine ∧ ∀ p, H4 p = none → spIsNumD K [V.ref p] (upd H4 p (.tup [.int tt, .int (b : Nat)])) (fun x H1 => ∃ c, x = .bl c ∧ if c = true then Q (.ref p) H1 else Q .non H1) E0) := by
    intro c1 c2 tt ett
    have hg : Int.gcd tt b = Int.gcd t b := by
      rw [ett]; split
      · rw [Int.neg_gcd]
      · rfl
    refine ⟨small2, fun p hp => ⟨_, .tup [.v (.int tt), .v (.int b)], rfl, .tup (SqT.of upd_same) (.cons (.v rfl) (.cons (.v rfl) .nil)), ?_, _, rfl, ?_⟩⟩
    · intro t1 b1 e
      injection e with e; injection e with _ e; injection e with e _; injection e with e; injection e with e
      subst e
      right
      have := botS_lt eb
      rw [Int.natAbs_natCast]
      exact Nat.lt_of_lt_of_le this (Nat.le_trans (show 10 ^ 30 ≤ 2 ^ 100 by decide) (pow_le_pow2 (by decide)))
    · have s5 := Same.new hp (.tup [.int tt, .int (b : Nat)])
      refine ite2 (fun h => ?_) (fun h => ?_)
      · simp only [numD, Bool.and_eq_true, decide_eq_true_eq] at h
        have hb0 : (0 : Int) < b := by omega
        have hh : ¬ (b = 0 ∨ (isMn (pA x) = true ∧ t = 0) ∨ (pM x ≠ Str.empty ∧ b = 1) ∨ Int.gcd t b ≠ 1) := by
          rintro (z | z | z | z)
          · omega
          · exact c1 z
          · exact c2 z
          · exact z (by rw [← hg]; exact h.2)
        rw [if_neg hh, ← ett] at rs
        obtain ⟨n1, n2⟩ := num_den_of hb0 h.2
        refine k _ _ (S.trans s5) ?_
        rw [rs]
        refine ⟨p, rfl, ?_⟩
        unfold numV
        rw [n1, n2]; exact upd_same
      · simp only [numD, Bool.and_eq_true, decide_eq_true_eq] at h
        have hh : b = 0 ∨ (isMn (pA x) = true ∧ t = 0) ∨ (pM x ≠ Str.empty ∧ b = 1) ∨ Int.gcd t b ≠ 1 := by
          by_cases hb0 : b = 0
          · exact .inl hb0
          · refine .inr (.inr (.inr fun z => h ⟨by omega, by rw [hg]; exact z⟩))
        rw [if_pos hh] at rs
        have := k .non _ (S.trans s5)
        rw [rs] at this
        exact this rfl
  simp only [rLen, rLst, rSlS, rPartition, rStarts, iStr, rIntS, rJoin, rIxS, rSplitS, rInN, tComp_eq, tCompIf_eq, tSl, tSl3, tPart, tNoPart, rSlL, rPop, rAppend, capSt, List.map_cons, List.map_nil, Option.bind_none, Option.bind_some, Option.join_some, tSeq, tIfS, tAnd, tOr, tNot, tTest, tB, tOp, tUn, tBM0, tBM, tVar, tC, tCB, tRet, tAsg, gName, gSub, gTup, gCons, gNil, tCons, tNil, tPar, tTup, tLst, tIf, tAndV, tNotV, tDef, tCallX, tCallV, tDrop, tNext, tNever, tRaise, rI, rI0, rU, rBitLen, rIxL, rIxT, rSetL, rEq, rNe, rCount, rIndex, rSplit, rIsI, rCat, iRng1, iList, cxOf, cxR, cxX, Cx.nox, Cx.wish, Cx.body, Cx.suite, List.getElem?_cons_zero, List.getElem?_cons_succ, List.set_cons_zero, List.set_cons_succ, Option.some.injEq, V.int.injEq, V.bl.injEq, V.ref.injEq, V.str.injEq, exists_eq_left', exists_eq_left, exists_and_left, true_and, and_true, List.cons.injEq, reduceCtorEq, Bool.false_eq_true, if_false, if_true, exists_const, ↓reduceIte, tyV, List.length_cons, List.length_nil, exists_eq, List.append_nil, List.cons_append, List.nil_append, decide_eq_true_eq, not_true_eq_false, not_false_eq_true, Bool.not_eq_true', decide_eq_false_iff_not, Bool.not_true, Bool.not_false, and_assoc, false_and, false_or, or_false, TruV, optI, scal]
  have e1 : ((t : Nat) : Int) = 0 ↔ t = 0 := by omega
  have e2 : ((b : Nat) : Int) = 1 ↔ b = 1 := by omega
  simp only [pM_tru, e1, e2]
  have tail : ¬ (isMn (pA x) = true ∧ t = 0) → (pM x).length ≤ sizeLine ∧ if decide (pM x ≠ Str.empty) = true then if b = 1 then Q V.non H4 else
            if isMn (pA x) = true then 0 + 1 + 1 ≤ sizeLine ∧ ∀ (p : Addr), H4 p = none → spIsNumD K [V.ref p] (upd H4 p (HO.tup [V.int (-(t : Int)), V.int (b : Int)])) (fun x H1 => ∃ c, x = V.bl c ∧ if c = true then Q (V.ref p) H1 else Q V.non H1) E0
            else 0 + 1 + 1 ≤ sizeLine ∧ ∀ (p : Addr), H4 p = none → spIsNumD K [V.ref p] (upd H4 p (HO.tup [V.int (t : Int), V.int (b : Int)])) (fun x H1 => ∃ c, x = V.bl c ∧ if c = true then Q (V.ref p) H1 else Q V.non H1) E0
        else if isMn (pA x) = true then 0 + 1 + 1 ≤ sizeLine ∧ ∀ (p : Addr), H4 p = none → spIsNumD K [V.ref p] (upd H4 p (HO.tup [V.int (-(t : Int)), V.int (b : Int)])) (fun x H1 => ∃ c, x = V.bl c ∧ if c = true then Q (V.ref p) H1 else Q V.non H1) E0
            else 0 + 1 + 1 ≤ sizeLine ∧ ∀ (p : Addr), H4 p = none → spIsNumD K [V.ref p] (upd H4 p (HO.tup [V.int (t : Int), V.int (b : Int)])) (fun x H1 => ∃ c, x = V.bl c ∧ if c = true then Q (V.ref p) H1 else Q V.non H1) E0 := by
    intro c1
    refine ⟨pM_len x, ite2 (fun h1 => ite2 (fun h2 => no ?_) (fun h2 => ite2 (fun hm => fin c1 (fun z => h2 z.2) _ (by rw [if_pos hm])) (fun hm => fin c1 (fun z => h2 z.2) _ (by rw [if_neg hm])))) (fun h1 => ite2 (fun hm => fin c1 (fun z => h1 (decide_eq_true z.1)) _ (by rw [if_pos hm])) (fun hm => fin c1 (fun z => h1 (decide_eq_true z.1)) _ (by rw [if_neg hm])))⟩
    rw [rs, if_pos (.inr (.inr (.inl ⟨of_decide_eq_true h1, h2⟩)))]
  refine ite2 (fun hm => ite2 (fun h0 => no ?_) (fun h0 => tail fun z => h0 z.2)) (fun hm => tail fun z => hm z.1)
  rw [rs, if_pos (.inr (.inl ⟨hm, h0⟩))]
end
end R

set_option maxRecDepth 100000
namespace R
open PySem L2 PyProof.Rows
def lenD (d : D) : Prop := ∀ x, d = .v (.str x) → x.length ≤ 5000
section
variable {P : Program} {w : World} {K : PySem.W.Frag} {mg : Str → Option Value} {base : Heap}
def spCheckTx (K : PySem.W.Frag) (C : Addr) : Sp := fun vs H Q E => ∃ v d, vs = [v] ∧ IsD K H v d ∧ (isStrD d = true → Q .non H) ∧ (isStrD d = false → E (.ref C) none H)
abbrev s_check_text : Stmt := top 42
theorem sc_check_text : FnScope ["thing"] ["thing"] (defScope s_check_text) := ⟨rfl, rfl, rfl, by decide +kernel, rfl, by decide +kernel, by decide +kernel⟩
theorem ok_check_text {f C : Addr} (d : Df K mg "check_text" s_check_text ["thing"] f) (x_NoText : ExT K mg "NoText" C) (n_isinstance : mg "isinstance" = none) (n_str : mg "str" = none) : Def P w K mg base (CXR P w) 1 "check_text" f ["thing"] (spCheckTx K C) := by
  refine d.okR (N := ["thing"]) sc_check_text (by rintro vs H Q E ⟨a, b, h, _⟩; rw [h]; rfl) (fun cdv A outer s H vs Q E hr h => ?_)
  obtain ⟨v, dd, rfl, hd, k1, k2⟩ := h
  refine ⟨_, (pss_one (ps_if (pt_not (pt_val (pe_callB call_isinst rfl n_isinstance (by decide +kernel) (pa_cons (pv 0) (pa_cons (pe_bltn (v := .ty "str") rfl n_str (by decide +kernel) rfl) pa_nil))))) (pss_one (ps_raise x_NoText.ox PySem.F.excBase_ValueError rfl rfl x_NoText.m raises_cx (pa_cons pe_str pa_nil))) pss_nil)), ?_⟩
  rw [show start ["thing"] [v] = [some (v)] from rfl]
  simp only [rLen, rLst, rSlS, rPartition, rStarts, iStr, rIntS, rJoin, rIxS, rSplitS, rInN, tComp_eq, tCompIf_eq, tSl, tSl3, tPart, tNoPart, rSlL, rPop, rAppend, capSt, List.map_cons, List.map_nil, Option.bind_none, Option.bind_some, Option.join_some, tSeq, tIfS, tAnd, tOr, tNot, tTest, tB, tOp, tUn, tBM0, tBM, tVar, tC, tCB, tRet, tAsg, gName, gSub, gTup, gCons, gNil, tCons, tNil, tPar, tTup, tLst, tIf, tAndV, tNotV, tDef, tCallX, tCallV, tDrop, tNext, tNever, tRaise, rI, rI0, rU, rBitLen, rIxL, rIxT, rSetL, rEq, rNe, rCount, rIndex, rSplit, rIsI, rCat, iRng1, iList, cxOf, cxR, cxX, Cx.nox, Cx.wish, Cx.body, Cx.suite, List.getElem?_cons_zero, List.getElem?_cons_succ, List.set_cons_zero, List.set_cons_succ, Option.some.injEq, V.int.injEq, V.bl.injEq, V.ref.injEq, V.str.injEq, exists_eq_left', exists_eq_left, exists_and_left, true_and, and_true, List.cons.injEq, reduceCtorEq, Bool.false_eq_true, if_false, if_true, exists_const, ↓reduceIte, tyV, List.length_cons, List.length_nil, exists_eq, List.append_nil, List.cons_append, List.nil_append, decide_eq_true_eq, not_true_eq_false, not_false_eq_true, Bool.not_eq_true', decide_eq_false_iff_not, Bool.not_true, Bool.not_false, and_assoc, false_and, false_or, or_false]
  exact ⟨trivial, _, hd.ty, _, kit_D_str hd, ite2 (fun h => ⟨by decide, k2 h⟩) (fun h => k1 (by simpa using h))⟩
end
end R

set_option maxRecDepth 100000
namespace R
open PySem L2 PyProof.Rows
/-- None, or a list of numbers that stands in the heap -/
def OptH (H : Hp) (v : V) : Option (List Rat) → Prop
  | none => v = .non
  | some qs => ∃ l xs, v = .ref l ∧ H l = some (.lst xs) ∧ Nums H xs qs
inductive OptLs (H : Hp) : List V → List (Option (List Rat)) → Prop where
  | nil : OptLs H [] []
  | cons {v : V} {vs : List V} {o : Option (List Rat)} {os : List (Option (List Rat))} (h : OptH H v o) (t : OptLs H vs os) : OptLs H (v :: vs) (o :: os)
def rfA : V → Option Addr
  | .ref a => some a
  | _ => none
theorem OptH.same {H H' : Hp} (s : Same H H') {v : V} {o : Option (List Rat)} (h : OptH H v o) : OptH H' v o := by
  cases o with
  | none => exact h
  | some q => obtain ⟨l, xs, rfl, hl, hn⟩ := h; exact ⟨l, xs, rfl, s _ _ hl, hn.mono s.tups⟩
theorem OptLs.same {H H' : Hp} (s : Same H H') {vs : List V} {os : List (Option (List Rat))} (h : OptLs H vs os) : OptLs H' vs os := by
  induction h with
  | nil => exact .nil
  | cons h t ih => exact .cons (h.same s) ih
theorem OptH.over {H : Hp} {D : Addr} {ys : List V} {o' : HO} (e : H D = some (.lst ys)) {v : V} {o : Option (List Rat)} (hv : rfA v ≠ some D) (h : OptH H v o) : OptH (upd H D o') v o := by
  cases o with
  | none => exact h
  | some q =>
    obtain ⟨l, xs, rfl, hl, hn⟩ := h
    have : l ≠ D := fun z => hv (by rw [z]; rfl)
    exact ⟨l, xs, rfl, by rw [upd_ne this]; exact hl, hn.mono (TupS.lst e)⟩
theorem OptLs.over {H : Hp} {D : Addr} {ys : List V} {o' : HO} (e : H D = some (.lst ys)) {vs : List V} {os : List (Option (List Rat))} (hv : ∀ v ∈ vs, rfA v ≠ some D) (h : OptLs H vs os) : OptLs (upd H D o') vs os := by
  induction h with
  | nil => exact .nil
  | cons h t ih => exact .cons (h.over e (hv _ (by simp))) (ih fun v hv' => hv v (by simp [hv']))
theorem OptLs.append {H : Hp} {vs ws : List V} {os ps : List (Option (List Rat))} (h : OptLs H vs os) (q : OptLs H ws ps) : OptLs H (vs ++ ws) (os ++ ps) := by
  induction h with
  | nil => exact q
  | cons h t ih => exact .cons h ih
theorem OptLs.length {H : Hp} {vs : List V} {os : List (Option (List Rat))} (h : OptLs H vs os) : vs.length = os.length := by
  induction h with
  | nil => rfl
  | cons h t ih => simp [ih]
theorem OptLs.seqish {K : PySem.W.Frag} {H : Hp} {vs : List V} {os : List (Option (List Rat))} (h : OptLs H vs os) : ∀ v ∈ vs, Seqish K H v := by
  induction h with
  | nil => intro v hv; cases hv
  | @cons v vs o os h t ih =>
    intro w hw
    rcases List.mem_cons.mp hw with rfl | hw
    · cases o with
      | none => exact .inl h
      | some q => obtain ⟨p, xs, rfl, hp, _⟩ := h; exact .inr ⟨p, rfl, .inr ⟨_, SqL.of hp⟩⟩
    · exact ih w hw
theorem OptLs.any {H : Hp} {vs : List V} {os : List (Option (List Rat))} (h : OptLs H vs os) : vs.any isNonV = os.any Option.isNone := by
  induction h with
  | nil => rfl
  | @cons v vs o os h t ih =>
    rw [List.any_cons, List.any_cons, ih]
    cases o with
    | none => cases h; rfl
    | some q => obtain ⟨p, xs, rfl, hp, _⟩ := h; rfl
theorem OptLs.rows {H : Hp} : ∀ {vs : List V} {M : List (List Rat)}, OptLs H vs (M.map some) → ∃ ts : List Addr, vs = ts.map V.ref ∧ Rws H ts M
  | _, [], .nil => ⟨[], rfl, .nil⟩
  | _, L :: M, .cons h t => by
    obtain ⟨l, xs, rfl, hl, hn⟩ := h
    obtain ⟨ts, rfl, R⟩ := OptLs.rows t
    exact ⟨l :: ts, rfl, .cons hl hn R⟩
theorem OptLs.getV {H : Hp} {vs : List V} {os : List (Option (List Rat))} (h : OptLs H vs os) : ∀ {i : Nat} {v : V}, vs[i]? = some v → ∃ o, os[i]? = some o ∧ OptH H v o := by
  induction h with
  | nil => intro i v e; simp at e
  | cons h t ih =>
    intro i v e
    cases i with
    | zero => cases e; exact ⟨_, rfl, h⟩
    | succ i => exact ih e
theorem refs_filter (ts : List Addr) : (ts.map V.ref).filterMap rfA = ts := by
  induction ts with
  | nil => rfl
  | cons t ts ih => simp [rfA] at ih ⊢; exact ih
end R

set_option maxRecDepth 100000
namespace R
open PySem L2 PyProof.Rows
/-- None, or a list of numbers -/
def OptL (H H' : Hp) (v : V) : Option (List Rat) → Prop
  | none => v = .non
  | some qs => ∃ l xs, v = .ref l ∧ H l = none ∧ H' l = some (.lst xs) ∧ Nums H' xs qs
theorem OptL.now {H H' : Hp} {v : V} {o : Option (List Rat)} (h : OptL H H' v o) : OptH H' v o := by
  cases o with
  | none => exact h
  | some qs => obtain ⟨l, xs, rfl, _, e, n⟩ := h; exact ⟨l, xs, rfl, e, n⟩
def sqO (os : List (Option (List Rat))) : Bool := decide (os.length ≤ 7) && !(os.any Option.isNone) && os.all fun o => decide ((o.getD []).length = os.length)
def polyT : D → Option (List Rat)
  | .v (.str x) => polyS x
  | _ => none
def tabT : D → Option (List (List Rat))
  | .v (.str x) => tabS x
  | _ => none
def spReadP (K : PySem.W.Frag) (C : Addr) : Sp := fun vs H Q E => ∃ v d, vs = [v] ∧ IsD K H v d ∧ lenD d ∧ (polyT d = none → ∀ H', Same H H' → E (.ref C) none H') ∧ (∀ qs, polyT d = some qs → ∀ l xs H', Same H H' → H l = none → H' l = some (.lst xs) → Nums H' xs qs → Q (.ref l) H')
def spReadTb (K : PySem.W.Frag) (C : Addr) : Sp := fun vs H Q E => ∃ v d, vs = [v] ∧ IsD K H v d ∧ lenD d ∧ (tabT d = none → ∀ H', Same H H' → E (.ref C) none H') ∧ (∀ M, tabT d = some M → TabRes H Q M)
def spNumsIn : Sp := fun vs H Q _ => ∃ x, vs = [.str x] ∧ x.length ≤ 5000 ∧ ∀ v H', Same H H' → OptL H H' v (numsS x) → Q v H'
section
variable {P : Program} {w : World} {K : PySem.W.Frag} {mg : Str → Option Value} {base : Heap}
abbrev s_numbers_in : Stmt := top 40
theorem sc_numbers_in : FnScope ["text", "numbers"] ["text"] (defScope s_numbers_in) := ⟨rfl, rfl, rfl, by decide +kernel, rfl, by decide +kernel, by decide +kernel⟩
set_option maxHeartbeats 0 in
theorem ok_numbers_in {f f1 : Addr} (d : Df K mg "numbers_in" s_numbers_in ["text"] f) (G_number_in : Def P w K mg base CX0 3 "number_in" f1 ["text"] spReadS) : Def P w K mg base CX0 4 "numbers_in" f ["text"] spNumsIn := by
  refine d.ok (N := ["text", "numbers"]) sc_numbers_in (by rintro vs H Q E ⟨x, h, _⟩; rw [h]; rfl) (fun cdv A outer s H vs Q E hr h => ?_)
  obtain ⟨x, rfl, hx, k⟩ := h
  have hu := hr.units
  refine ⟨_, (pss_cons (ps_setComp (i₀ := 1) sc_numbers_in.nd rfl (Or.inl rfl) (Nc := ["word"]) (caps := [none]) rfl (Caps.of (osc := defScope s_numbers_in) (N := ["text", "numbers"]) (ks := []) rfl rfl rfl rfl sub_nil (by decide +kernel)) (pi_list (pe_bm PySem.F.plainAttrs_str PySem.F.slot_str_split PySem.F.type_str_split mt_splitS (pv 0) (pa_cons pe_str pa_nil))) (fun C s₂ H₂ fp pins => (pg_name (i := 0) (show List.Nodup (["word"] : List Str) by decide +kernel) rfl (Or.inl rfl) (Or.inr rfl))) (fun C s₂ H₂ fp pins => (pe_def G_number_in hr (pa_cons (pv 0) pa_nil) pass0)))
      (pss_one (ps_ret (pe_ifExp (pt_cmpR (op_inN hu) pe_non (pv 1) rfl) pe_non (pv 1))))), ?_⟩
  rw [show start ["text", "numbers"] [.str x] = [some (.str x), none] from rfl]
  simp only [rLen, rLst, rSlS, rPartition, rStarts, iStr, rIntS, rJoin, rIxS, rSplitS, rInN, tComp_eq, tCompIf_eq, tSl, tSl3, tPart, tNoPart, rSlL, rPop, rAppend, capSt, List.map_cons, List.map_nil, Option.bind_none, Option.bind_some, Option.join_some, tSeq, tIfS, tAnd, tOr, tNot, tTest, tB, tOp, tUn, tBM0, tBM, tVar, tC, tCB, tRet, tAsg, gName, gSub, gTup, gCons, gNil, tCons, tNil, tPar, tTup, tLst, tIf, tAndV, tNotV, tDef, tCallX, tCallV, tDrop, tNext, tNever, tRaise, rI, rI0, rU, rBitLen, rIxL, rIxT, rSetL, rEq, rNe, rCount, rIndex, rSplit, rIsI, rCat, iRng1, iList, cxOf, cxR, cxX, Cx.nox, Cx.wish, Cx.body, Cx.suite, List.getElem?_cons_zero, List.getElem?_cons_succ, List.set_cons_zero, List.set_cons_succ, Option.some.injEq, V.int.injEq, V.bl.injEq, V.ref.injEq, V.str.injEq, exists_eq_left', exists_eq_left, exists_and_left, true_and, and_true, List.cons.injEq, reduceCtorEq, Bool.false_eq_true, if_false, if_true, exists_const, ↓reduceIte, tyV, List.length_cons, List.length_nil, exists_eq, List.append_nil, List.cons_append, List.nil_append, decide_eq_true_eq, not_true_eq_false, not_false_eq_true, Bool.not_eq_true', decide_eq_false_iff_not, Bool.not_true, Bool.not_false, and_assoc, false_and, false_or, or_false]
  refine ⟨by decide +kernel, by omega, fun l hl => ?_⟩
  have Sl := Same.new hl (.lst ((wds x).map V.str))
  have el : upd H l (.lst ((wds x).map V.str)) l = some (.lst ((wds x).map V.str)) := upd_same
  change (∃ xs, SqL K (upd H l (.lst ((wds x).map V.str))) l xs) ∧ ∀ D, upd H l (.lst ((wds x).map V.str)) D = none → CompW (Itl K l) D [none] (upd (upd H l (.lst ((wds x).map V.str))) D (HO.lst [])) _ _ _
  generalize upd H l (.lst ((wds x).map V.str)) = H1 at *
  refine ⟨⟨_, SqL.of el⟩, fun D hD => ?_⟩
  refine cw_list ((wds x).map V.str) (fun i σ H2 => ∃ o, σ = [o] ∧ Same H1 H2 ∧ ∃ ys, H2 D = some (.lst ys) ∧ OptNs H2 ys (((wds x).map readS).take i) ∧ ys.length = i) ⟨_, rfl, Same.new hD _, [], upd_same, .nil, rfl⟩ (by rintro i σ H2 _ ⟨_, _, s2, _⟩; exact SqL.of (s2 _ _ el)) ?_ ?_
  · rintro m y σ H2 hy ⟨o, rfl, s2, ys, e2, n2, l2⟩
    have hm := (List.getElem?_eq_some_iff.mp hy).1
    have hmw : (wds x).length ≤ 5002 := Nat.le_trans (parts_many x " ") (by omega)
    rw [List.length_map] at hm
    rw [List.getElem?_map] at hy
    obtain ⟨z, hz, rfl⟩ := Option.map_eq_some_iff.mp hy
    simp only [rLen, rLst, rSlS, rPartition, rStarts, iStr, rIntS, rJoin, rIxS, rSplitS, rInN, tComp_eq, tCompIf_eq, tSl, tSl3, tPart, tNoPart, rSlL, rPop, rAppend, capSt, List.map_cons, List.map_nil, Option.bind_none, Option.bind_some, Option.join_some, tSeq, tIfS, tAnd, tOr, tNot, tTest, tB, tOp, tUn, tBM0, tBM, tVar, tC, tCB, tRet, tAsg, gName, gSub, gTup, gCons, gNil, tCons, tNil, tPar, tTup, tLst, tIf, tAndV, tNotV, tDef, tCallX, tCallV, tDrop, tNext, tNever, tRaise, rI, rI0, rU, rBitLen, rIxL, rIxT, rSetL, rEq, rNe, rCount, rIndex, rSplit, rIsI, rCat, iRng1, iList, cxOf, cxR, cxX, Cx.nox, Cx.wish, Cx.body, Cx.suite, List.getElem?_cons_zero, List.getElem?_cons_succ, List.set_cons_zero, List.set_cons_succ, Option.some.injEq, V.int.injEq, V.bl.injEq, V.ref.injEq, V.str.injEq, exists_eq_left', exists_eq_left, exists_and_left, true_and, and_true, List.cons.injEq, reduceCtorEq, Bool.false_eq_true, if_false, if_true, exists_const, ↓reduceIte, tyV, List.length_cons, List.length_nil, exists_eq, List.append_nil, List.cons_append, List.nil_append, decide_eq_true_eq, not_true_eq_false, not_false_eq_true, Bool.not_eq_true', decide_eq_false_iff_not, Bool.not_true, Bool.not_false, and_assoc, false_and, false_or, or_false]
    refine ⟨z, rfl, Nat.le_trans (part_len (List.mem_of_getElem? hz)) hx, fun v H3 s3 ho => ?_⟩
    refine CompN.mk (by rw [List.length_map]; exact hm) (s3 _ _ e2) (by rw [l2]; exact Nat.lt_of_lt_of_le (show m < 5002 by omega) (by decide)) ⟨_, rfl, (s2.trans s3).over hD _, ys ++ [v], upd_same, ?_, by simp [l2]⟩
    rw [List.take_succ, List.getElem?_map, hz]
    exact ((n2.mono s3.tups).append (.cons ho .nil)).mono (TupS.lst (s3 _ _ e2))
  · rintro σ H2 ⟨o, rfl, s2, ys, e2, n2, l2⟩
    rw [List.length_map, List.take_of_length_le (by rw [List.length_map]; exact Nat.le_refl _)] at n2
    refine ⟨D, rfl, ys, SqL.of e2, n2.seqish, ?_⟩
    rw [n2.any]
    refine ite2 (fun h => ?_) (fun h => ?_)
    · have e : numsS x = none := allO_none.mpr h
      have := k .non H2 (Sl.trans s2)
      rw [e] at this
      exact this rfl
    · cases e : numsS x with
      | none => exact absurd (allO_none.mp e) h
      | some qs =>
        have := k (.ref D) H2 (Sl.trans s2)
        rw [e] at this
        rw [allO_some e] at n2
        exact this ⟨D, ys, rfl, Sl.free hD, e2, n2.nums⟩
def spSquare (K : PySem.W.Frag) : Sp := fun vs H Q _ => ∃ a xs os, vs = [.ref a] ∧ H a = some (.lst xs) ∧ OptLs H xs os ∧ xs.length ≤ 5010 ∧ ∀ H', Same H H' → Q (.bl (sqO os)) H'
abbrev s_is_square : Stmt := top 41
theorem sc_is_square : FnScope ["rows"] ["rows"] (defScope s_is_square) := ⟨rfl, rfl, rfl, by decide +kernel, rfl, by decide +kernel, by decide +kernel⟩
set_option maxHeartbeats 0 in
theorem ok_is_square {f : Addr} (d : Df K mg "is_square" s_is_square ["rows"] f) (c_ROWS : ∃ t, mg "ROWS" = some (.int 7 t)) (n_len : mg "len" = none) (n_all : mg "all" = none) : Def P w K mg base CX0 1 "is_square" f ["rows"] (spSquare K) := by
  obtain ⟨tR, c_ROWS⟩ := c_ROWS
  refine d.ok (N := ["rows"]) sc_is_square (by rintro vs H Q E ⟨_, _, _, h, _⟩; rw [h]; rfl) (fun cdv A outer s H vs Q E hr h => ?_)
  obtain ⟨a, xs, os, rfl, ha, ho, hl, k⟩ := h
  have hu := hr.units
  refine ⟨_, (pss_cons (ps_if (PW.pt (pw_or (pt_cmpR op_gt (pe_callB call_len_seq rfl n_len (by decide +kernel) (pa_cons (pv 0) pa_nil)) (pe_glob (v := .int 7) rfl c_ROWS ⟨_, rfl⟩) (nomark _)) (pw_or1 (pt_cmpR (op_inN hu) pe_non (pv 0) rfl)))) (pss_one (ps_ret pe_bl)) pss_nil)
      (pss_one (ps_ret (pe_callB (call_all rfl) rfl n_all (by decide +kernel) (pa_cons (pe_comp (Nc := ["rows", "row"]) (caps := [some 0, none]) rfl (Caps.of (osc := defScope s_is_square) (N := ["rows"]) (ks := ["rows"]) rfl rfl rfl rfl (sub_cons rfl sub_nil) (by decide +kernel)) (pi_list (pv 0)) (fun C s₂ H₂ fp pins => (pg_name (i := 1) (show List.Nodup (["rows", "row"] : List Str) by decide +kernel) rfl (Or.inl rfl) (Or.inr rfl))) (fun C s₂ H₂ fp pins => (pe_cmpR op_eq (pe_callB (by exact call_len_seq : CallR _ (.builtin "len") (rLen K)) rfl n_len (by decide +kernel) (pa_cons (pv 1) pa_nil)) (pe_callB (by exact call_len_seq : CallR _ (.builtin "len") (rLen K)) rfl n_len (by decide +kernel) (pa_cons (pv 0) pa_nil)) (nomark _)))) pa_nil))))), ?_⟩
  rw [show start ["rows"] [.ref a] = [some (.ref a)] from rfl]
  simp only [rLen, rLst, rSlS, rPartition, rStarts, iStr, rIntS, rJoin, rIxS, rSplitS, rInN, tComp_eq, tCompIf_eq, tSl, tSl3, tPart, tNoPart, rSlL, rPop, rAppend, capSt, List.map_cons, List.map_nil, Option.bind_none, Option.bind_some, Option.join_some, tSeq, tIfS, tAnd, tOr, tNot, tTest, tB, tOp, tUn, tBM0, tBM, tVar, tC, tCB, tRet, tAsg, gName, gSub, gTup, gCons, gNil, tCons, tNil, tPar, tTup, tLst, tIf, tAndV, tNotV, tDef, tCallX, tCallV, tDrop, tNext, tNever, tRaise, rI, rI0, rU, rBitLen, rIxL, rIxT, rSetL, rEq, rNe, rCount, rIndex, rSplit, rIsI, rCat, iRng1, iList, cxOf, cxR, cxX, Cx.nox, Cx.wish, Cx.body, Cx.suite, List.getElem?_cons_zero, List.getElem?_cons_succ, List.set_cons_zero, List.set_cons_succ, Option.some.injEq, V.int.injEq, V.bl.injEq, V.ref.injEq, V.str.injEq, exists_eq_left', exists_eq_left, exists_and_left, true_and, and_true, List.cons.injEq, reduceCtorEq, Bool.false_eq_true, if_false, if_true, exists_const, ↓reduceIte, tyV, List.length_cons, List.length_nil, exists_eq, List.append_nil, List.cons_append, List.nil_append, decide_eq_true_eq, not_true_eq_false, not_false_eq_true, Bool.not_eq_true', decide_eq_false_iff_not, Bool.not_true, Bool.not_false, and_assoc, false_and, false_or, or_false]
  have hlo := ho.length
  have no : sqO os = false → Q (.bl false) H := fun e => by have := k H (Same.refl _); rw [e] at this; exact this
  refine ⟨xs, .inl (SqL.of ha), ite2 (fun h => no ?_) (fun h => ⟨xs, SqL.of ha, ho.seqish, ?_⟩)⟩
  · unfold sqO; rw [decide_eq_false (by omega)]; rfl
  rw [ho.any]
  refine ite2 (fun h2 => no ?_) (fun h2 => ⟨⟨_, SqL.of ha⟩, fun D hD => ?_⟩)
  · unfold sqO; rw [h2]; simp
  refine cw_list xs (fun i σ H2 => ∃ o, σ = [some (.ref a), o] ∧ Same H H2 ∧ H2 D = some (.lst (((os.take i).map fun o => decide ((o.getD []).length = os.length)).map V.bl))) ⟨_, rfl, Same.new hD _, upd_same⟩ (by rintro i σ H2 _ ⟨_, _, s2, _⟩; exact SqL.of (s2 _ _ ha)) ?_ ?_
  · rintro m y σ H2 hy ⟨o, rfl, s2, e2⟩
    have hm := (List.getElem?_eq_some_iff.mp hy).1
    obtain ⟨ov, eo, hv⟩ := ho.getV hy
    cases ov with
    | none => exact absurd (List.any_eq_true.mpr ⟨none, List.mem_of_getElem? eo, rfl⟩) h2
    | some qs =>
      obtain ⟨l, ys, rfl, hl', hn⟩ := hv
      simp only [rLen, rLst, rSlS, rPartition, rStarts, iStr, rIntS, rJoin, rIxS, rSplitS, rInN, tComp_eq, tCompIf_eq, tSl, tSl3, tPart, tNoPart, rSlL, rPop, rAppend, capSt, List.map_cons, List.map_nil, Option.bind_none, Option.bind_some, Option.join_some, tSeq, tIfS, tAnd, tOr, tNot, tTest, tB, tOp, tUn, tBM0, tBM, tVar, tC, tCB, tRet, tAsg, gName, gSub, gTup, gCons, gNil, tCons, tNil, tPar, tTup, tLst, tIf, tAndV, tNotV, tDef, tCallX, tCallV, tDrop, tNext, tNever, tRaise, rI, rI0, rU, rBitLen, rIxL, rIxT, rSetL, rEq, rNe, rCount, rIndex, rSplit, rIsI, rCat, iRng1, iList, cxOf, cxR, cxX, Cx.nox, Cx.wish, Cx.body, Cx.suite, List.getElem?_cons_zero, List.getElem?_cons_succ, List.set_cons_zero, List.set_cons_succ, Option.some.injEq, V.int.injEq, V.bl.injEq, V.ref.injEq, V.str.injEq, exists_eq_left', exists_eq_left, exists_and_left, true_and, and_true, List.cons.injEq, reduceCtorEq, Bool.false_eq_true, if_false, if_true, exists_const, ↓reduceIte, tyV, List.length_cons, List.length_nil, exists_eq, List.append_nil, List.cons_append, List.nil_append, decide_eq_true_eq, not_true_eq_false, not_false_eq_true, Bool.not_eq_true', decide_eq_false_iff_not, Bool.not_true, Bool.not_false, and_assoc, false_and, false_or, or_false]
      refine ⟨ys, .inl (SqL.of (s2 _ _ hl')), xs, .inl (SqL.of (s2 _ _ ha)), rfl, ?_⟩
      refine CompN.mk hm e2 (by rw [List.length_map, List.length_map, List.length_take]; exact Nat.lt_of_le_of_lt (Nat.min_le_left _ _) (Nat.lt_of_lt_of_le (show m < 5010 by omega) (by decide))) ⟨_, rfl, s2.over hD _, ?_⟩
      have ed : decide ((ys.length : Int) = (xs.length : Int)) = decide (((some qs : Option (List Rat)).getD []).length = os.length) := by
        rw [decide_eq_decide, hn.length, hlo]
        show _ ↔ qs.length = _
        omega
      rw [ed, List.take_succ, eo, List.map_append, List.map_append, upd_same]; rfl
  · rintro σ H2 ⟨o, rfl, s2, e2⟩
    refine ⟨D, rfl, _, SqL.of e2, ?_⟩
    have := k H2 s2
    have hw : sqO os = (((os.take xs.length).map fun o => decide ((o.getD []).length = os.length)).all id) := by
      unfold sqO
      rw [decide_eq_true (by omega), Bool.eq_false_iff.mpr h2, List.take_of_length_le (by omega), List.all_map]; rfl
    rw [hw] at this
    exact this
abbrev s_read_poly : Stmt := top 43
theorem sc_read_poly : FnScope ["text", "numbers"] ["text"] (defScope s_read_poly) := ⟨rfl, rfl, rfl, by decide +kernel, rfl, by decide +kernel, by decide +kernel⟩
set_option maxHeartbeats 0 in
theorem ok_read_poly {f f1 f2 C aN : Addr} (d : Df K mg "read_poly" s_read_poly ["text"] f) (G_check_text : Def P w K mg base (CXR P w) 1 "check_text" f1 ["thing"] (spCheckTx K C)) (G_numbers_in : Def P w K mg base CX0 4 "numbers_in" f2 ["text"] spNumsIn) (x_NoText : ExT K mg "NoText" C) (c_NONE : ∃ t, mg "NONE" = some (.str "-" t)) (c_NUMBERS : ∃ t, mg "NUMBERS" = some (.int 15 t)) (n_len : mg "len" = none) (c_NOUGHT : mg "NOUGHT" = some (.ref aN)) (tN : ∀ H : Hp, SqT K H aN [.int 0, .int 1]) : Def P w K mg base (CXR P w) 5 "read_poly" f ["text"] (spReadP K C) := by
  obtain ⟨t1, c_NONE⟩ := c_NONE
  obtain ⟨t2, c_NUMBERS⟩ := c_NUMBERS
  refine d.okR (N := ["text", "numbers"]) sc_read_poly (by rintro vs H Q E ⟨a, b, h, _⟩; rw [h]; rfl) (fun cdv A outer s H vs Q E hr h => ?_)
  obtain ⟨v, dd, rfl, hd, hl, k2, k1⟩ := h
  have hu := hr.units
  refine ⟨_, (pss_cons (ps_expr (pe_def G_check_text hr (pa_cons (pv 0) pa_nil) (passes_cx fun _ _ h => h)))
      (pss_cons (ps_if (pt_cmpR op_eq (pv 0) (pe_glob (v := .str "-") rfl c_NONE ⟨_, rfl⟩) (nomark _)) (pss_one (ps_ret (pe_lst pa_nil))) pss_nil)
      (pss_cons (ps_set (i := 1) sc_read_poly.nd rfl (Or.inl rfl) (pe_def G_numbers_in hr (pa_cons (pv 0) pa_nil) pass0))
      (pss_cons (ps_if (PW.pt (pw_or (pt_cmpR op_isN (pv 1) pe_non (nomark _)) (pw_or (pt_cmpR op_gt (pe_callB call_len_seq rfl n_len (by decide +kernel) (pa_cons (pv 1) pa_nil)) (pe_glob (v := .int 15) rfl c_NUMBERS ⟨_, rfl⟩) (nomark _)) (pw_or1 (pt_cmpR (op_eqD hu) (pe_ix ix_list (pv 1) (pe_un un_neg pe_int) (fun _ _ => rfl)) (pe_glob (v := .ref _) rfl c_NOUGHT rfl) (nomark _)))))) (pss_one (ps_raise x_NoText.ox PySem.F.excBase_ValueError rfl rfl x_NoText.m raises_cx (pa_cons pe_str pa_nil))) pss_nil)
      (pss_one (ps_ret (pv 1))))))), ?_⟩
  rw [show start ["text", "numbers"] [v] = [some (v), none] from rfl]
  simp only [rLen, rLst, rSlS, rPartition, rStarts, iStr, rIntS, rJoin, rIxS, rSplitS, rInN, tComp_eq, tCompIf_eq, tSl, tSl3, tPart, tNoPart, rSlL, rPop, rAppend, capSt, List.map_cons, List.map_nil, Option.bind_none, Option.bind_some, Option.join_some, tSeq, tIfS, tAnd, tOr, tNot, tTest, tB, tOp, tUn, tBM0, tBM, tVar, tC, tCB, tRet, tAsg, gName, gSub, gTup, gCons, gNil, tCons, tNil, tPar, tTup, tLst, tIf, tAndV, tNotV, tDef, tCallX, tCallV, tDrop, tNext, tNever, tRaise, rI, rI0, rU, rBitLen, rIxL, rIxT, rSetL, rEq, rNe, rCount, rIndex, rSplit, rIsI, rCat, iRng1, iList, cxOf, cxR, cxX, Cx.nox, Cx.wish, Cx.body, Cx.suite, List.getElem?_cons_zero, List.getElem?_cons_succ, List.set_cons_zero, List.set_cons_succ, Option.some.injEq, V.int.injEq, V.bl.injEq, V.ref.injEq, V.str.injEq, exists_eq_left', exists_eq_left, exists_and_left, true_and, and_true, List.cons.injEq, reduceCtorEq, Bool.false_eq_true, if_false, if_true, exists_const, ↓reduceIte, tyV, List.length_cons, List.length_nil, exists_eq, List.append_nil, List.cons_append, List.nil_append, decide_eq_true_eq, not_true_eq_false, not_false_eq_true, Bool.not_eq_true', decide_eq_false_iff_not, Bool.not_true, Bool.not_false, and_assoc, false_and, false_or, or_false]
  refine ⟨v, dd, rfl, hd, fun hs => ?_, fun hs => k2 ?_ H (Same.refl _)⟩
  · obtain ⟨x, rfl⟩ : ∃ x, dd = .v (.str x) := by
      cases dd with
      | v y => cases y <;> first | exact ⟨_, rfl⟩ | cases hs
      | tup l => cases hs
      | lst l => cases hs
    cases hd
    have e0 : polyT (.v (.str x)) = polyS x := rfl
    rw [e0] at k1 k2
    refine ⟨rfl, ite2 (fun h => ⟨Nat.zero_le _, fun p hp => k1 [] ?_ p [] _ (Same.new hp _) hp upd_same .nil⟩) (fun h => ⟨x, rfl, hl x rfl, fun v H1 s1 ho => ?_⟩)⟩
    · injection h with h
      unfold polyS
      rw [if_pos h]
    have hx : x ≠ "-" := fun z => h (by rw [z])
    cases en : numsS x with
    | none =>
      rw [en] at ho
      cases ho
      exact ite2 (fun _ => ⟨by decide, k2 (by unfold polyS; rw [if_neg hx, en]) H1 s1⟩) (fun z => absurd rfl z)
    | some qs =>
      rw [en] at ho
      obtain ⟨l, xs, rfl, fl, e1, n1⟩ := ho
      have hlen := n1.length
      have pe : polyS x = if 15 < qs.length ∨ qs.getLast? = some 0 then none else some qs := by unfold polyS; rw [if_neg hx, en]
      refine ite2 (fun z => by cases z) (fun _ => ⟨l, rfl, xs, .inl (SqL.of e1), ite2 (fun h15 => ⟨by decide, k2 ?_ H1 s1⟩) (fun h15 => ⟨l, rfl, xs, SqL.of e1, ?_⟩)⟩)
      · rw [pe, if_pos (.inl (by omega))]
      have hq : qs ≠ [] := fun z => by
        have := allO_some en
        rw [z] at this
        exact wds_ne x (List.map_eq_nil_iff.mp this)
      obtain ⟨qi, ql, rfl⟩ : ∃ qi ql, qs = qi ++ [ql] := ⟨qs.dropLast, qs.getLast hq, (List.dropLast_concat_getLast hq).symm⟩
      obtain ⟨p, ep, eq⟩ := n1.get (i := qi.length) (q := ql) (by simp)
      have hlx : xs.length = qi.length + 1 := by rw [hlen]; simp
      refine ⟨.ref p, ?_, dNum ql, dNum 0, rfl, isD_num (SqT.of eq), isD_num (tN H1), okD_num _ _, dp_num _, _, rfl, ?_⟩
      · unfold atI ixN
        rw [if_neg (by decide), if_pos (by omega)]
        have : ((-1 : Int) + (xs.length : Int)).toNat = qi.length := by omega
        simp only [Option.bind_some, this]
        exact ep
      · rw [eqD_nums]
        refine ite2 (fun z => ⟨by decide, k2 ?_ H1 s1⟩) (fun z => k1 _ ?_ l xs H1 s1 fl e1 n1)
        · rw [pe, if_pos (.inr (by simp; exact of_decide_eq_true z))]
        · rw [pe, if_neg]
          intro y
          rcases y with y | y
          · omega
          · simp at y; exact z (decide_eq_true y)
  · cases dd with
    | v y => cases y <;> first | rfl | cases hs
    | tup l => rfl
    | lst l => rfl
abbrev s_read_table : Stmt := top 44
theorem sc_read_table : FnScope ["text", "rows"] ["text"] (defScope s_read_table) := ⟨rfl, rfl, rfl, by decide +kernel, rfl, by decide +kernel, by decide +kernel⟩
set_option maxHeartbeats 0 in
theorem ok_read_table {f f1 f2 f3 C : Addr} (d : Df K mg "read_table" s_read_table ["text"] f) (G_check_text : Def P w K mg base (CXR P w) 1 "check_text" f1 ["thing"] (spCheckTx K C)) (G_numbers_in : Def P w K mg base CX0 4 "numbers_in" f2 ["text"] spNumsIn) (G_is_square : Def P w K mg base CX0 1 "is_square" f3 ["rows"] (spSquare K)) (x_NoText : ExT K mg "NoText" C) : Def P w K mg base (CXR P w) 5 "read_table" f ["text"] (spReadTb K C) := by
  refine d.okR (N := ["text", "rows"]) sc_read_table (by rintro vs H Q E ⟨a, b, h, _⟩; rw [h]; rfl) (fun cdv A outer s H vs Q E hr h => ?_)
  obtain ⟨v, dd, rfl, hd, hl, k2, k1⟩ := h
  have hu := hr.units
  refine ⟨_, (pss_cons (ps_expr (pe_def G_check_text hr (pa_cons (pv 0) pa_nil) (passes_cx fun _ _ h => h)))
      (pss_cons (ps_setComp (i₀ := 1) sc_read_table.nd rfl (Or.inl rfl) (Nc := ["row"]) (caps := [none]) rfl (Caps.of (osc := defScope s_read_table) (N := ["text", "rows"]) (ks := []) rfl rfl rfl rfl sub_nil (by decide +kernel)) (pi_list (pe_bm PySem.F.plainAttrs_str PySem.F.slot_str_split PySem.F.type_str_split mt_splitS (pv 0) (pa_cons pe_str pa_nil))) (fun C s₂ H₂ fp pins => (pg_name (i := 0) (show List.Nodup (["row"] : List Str) by decide +kernel) rfl (Or.inl rfl) (Or.inr rfl))) (fun C s₂ H₂ fp pins => (pe_def G_numbers_in hr (pa_cons (pv 0) pa_nil) pass0)))
      (pss_cons (ps_if (pt_not (pt_val (pe_def G_is_square hr (pa_cons (pv 1) pa_nil) pass0))) (pss_one (ps_raise x_NoText.ox PySem.F.excBase_ValueError rfl rfl x_NoText.m raises_cx (pa_cons pe_str pa_nil))) pss_nil)
      (pss_one (ps_ret (pv 1)))))), ?_⟩
  rw [show start ["text", "rows"] [v] = [some (v), none] from rfl]
  simp only [rLen, rLst, rSlS, rPartition, rStarts, iStr, rIntS, rJoin, rIxS, rSplitS, rInN, tComp_eq, tCompIf_eq, tSl, tSl3, tPart, tNoPart, rSlL, rPop, rAppend, capSt, List.map_cons, List.map_nil, Option.bind_none, Option.bind_some, Option.join_some, tSeq, tIfS, tAnd, tOr, tNot, tTest, tB, tOp, tUn, tBM0, tBM, tVar, tC, tCB, tRet, tAsg, gName, gSub, gTup, gCons, gNil, tCons, tNil, tPar, tTup, tLst, tIf, tAndV, tNotV, tDef, tCallX, tCallV, tDrop, tNext, tNever, tRaise, rI, rI0, rU, rBitLen, rIxL, rIxT, rSetL, rEq, rNe, rCount, rIndex, rSplit, rIsI, rCat, iRng1, iList, cxOf, cxR, cxX, Cx.nox, Cx.wish, Cx.body, Cx.suite, List.getElem?_cons_zero, List.getElem?_cons_succ, List.set_cons_zero, List.set_cons_succ, Option.some.injEq, V.int.injEq, V.bl.injEq, V.ref.injEq, V.str.injEq, exists_eq_left', exists_eq_left, exists_and_left, true_and, and_true, List.cons.injEq, reduceCtorEq, Bool.false_eq_true, if_false, if_true, exists_const, ↓reduceIte, tyV, List.length_cons, List.length_nil, exists_eq, List.append_nil, List.cons_append, List.nil_append, decide_eq_true_eq, not_true_eq_false, not_false_eq_true, Bool.not_eq_true', decide_eq_false_iff_not, Bool.not_true, Bool.not_false, and_assoc, false_and, false_or, or_false]
  refine ⟨v, dd, rfl, hd, fun hs => ?_, fun hs => k2 ?_ H (Same.refl _)⟩
  · obtain ⟨x, rfl⟩ : ∃ x, dd = .v (.str x) := by
      cases dd with
      | v y => cases y <;> first | exact ⟨_, rfl⟩ | cases hs
      | tup l => cases hs
      | lst l => cases hs
    cases hd
    have e0 : tabT (.v (.str x)) = tabS x := rfl
    rw [e0] at k1 k2
    have hx := hl x rfl
    refine ⟨trivial, x, rfl, by decide +kernel, by omega, fun l fl => ?_⟩
    have Sl := Same.new fl (.lst ((rwsS x).map V.str))
    have el : upd H l (.lst ((rwsS x).map V.str)) l = some (.lst ((rwsS x).map V.str)) := upd_same
    change (∃ xs, SqL K (upd H l (.lst ((rwsS x).map V.str))) l xs) ∧ ∀ D, upd H l (.lst ((rwsS x).map V.str)) D = none → CompW (Itl K l) D [none] (upd (upd H l (.lst ((rwsS x).map V.str))) D (HO.lst [])) _ _ _
    generalize upd H l (.lst ((rwsS x).map V.str)) = H1 at *
    refine ⟨⟨_, SqL.of el⟩, fun D hD => ?_⟩
    have hmw : (rwsS x).length ≤ 5002 := Nat.le_trans (parts_many x "; ") (by omega)
    refine cw_list ((rwsS x).map V.str) (fun i σ H2 => ∃ o, σ = [o] ∧ Same H1 H2 ∧ ∃ ys, H2 D = some (.lst ys) ∧ OptLs H2 ys (((rwsS x).map numsS).take i) ∧ ys.length = i ∧ (∀ v ∈ ys, ∀ t, v = .ref t → H1 t = none ∧ t ≠ D) ∧ (ys.filterMap rfA).Nodup) ⟨_, rfl, Same.new hD _, [], upd_same, .nil, rfl, by simp, by simp⟩ (by rintro i σ H2 _ ⟨_, _, s2, _⟩; exact SqL.of (s2 _ _ el)) ?_ ?_
    · rintro m y σ H2 hy ⟨o, rfl, s2, ys, e2, n2, l2, f2, nd⟩
      have hm := (List.getElem?_eq_some_iff.mp hy).1
      rw [List.length_map] at hm
      rw [List.getElem?_map] at hy
      obtain ⟨z, hz, rfl⟩ := Option.map_eq_some_iff.mp hy
      simp only [rLen, rLst, rSlS, rPartition, rStarts, iStr, rIntS, rJoin, rIxS, rSplitS, rInN, tComp_eq, tCompIf_eq, tSl, tSl3, tPart, tNoPart, rSlL, rPop, rAppend, capSt, List.map_cons, List.map_nil, Option.bind_none, Option.bind_some, Option.join_some, tSeq, tIfS, tAnd, tOr, tNot, tTest, tB, tOp, tUn, tBM0, tBM, tVar, tC, tCB, tRet, tAsg, gName, gSub, gTup, gCons, gNil, tCons, tNil, tPar, tTup, tLst, tIf, tAndV, tNotV, tDef, tCallX, tCallV, tDrop, tNext, tNever, tRaise, rI, rI0, rU, rBitLen, rIxL, rIxT, rSetL, rEq, rNe, rCount, rIndex, rSplit, rIsI, rCat, iRng1, iList, cxOf, cxR, cxX, Cx.nox, Cx.wish, Cx.body, Cx.suite, List.getElem?_cons_zero, List.getElem?_cons_succ, List.set_cons_zero, List.set_cons_succ, Option.some.injEq, V.int.injEq, V.bl.injEq, V.ref.injEq, V.str.injEq, exists_eq_left', exists_eq_left, exists_and_left, true_and, and_true, List.cons.injEq, reduceCtorEq, Bool.false_eq_true, if_false, if_true, exists_const, ↓reduceIte, tyV, List.length_cons, List.length_nil, exists_eq, List.append_nil, List.cons_append, List.nil_append, decide_eq_true_eq, not_true_eq_false, not_false_eq_true, Bool.not_eq_true', decide_eq_false_iff_not, Bool.not_true, Bool.not_false, and_assoc, false_and, false_or, or_false]
      refine ⟨z, rfl, Nat.le_trans (part_len (List.mem_of_getElem? hz)) hx, fun v H3 s3 ho => ?_⟩
      have fv : ∀ t, v = .ref t → H2 t = none := fun t e => by
        cases en : numsS z with
        | none => rw [en] at ho; rw [e] at ho; cases ho
        | some qs =>
          rw [en] at ho
          obtain ⟨l', xs, rfl, ft, _⟩ := ho
          cases e; exact ft
      refine CompN.mk (by rw [List.length_map]; exact hm) (s3 _ _ e2) (by rw [l2]; exact Nat.lt_of_lt_of_le (show m < 5002 by omega) (by decide)) ⟨_, rfl, (s2.trans s3).over hD _, ys ++ [v], upd_same, ?_, by simp [l2], ?_, ?_⟩
      · rw [List.take_succ, List.getElem?_map, hz]
        refine ((n2.same s3).append (.cons ho.now .nil)).over (s3 _ _ e2) fun w hw => ?_
        rcases List.mem_append.mp hw with h | h
        · cases w with
          | ref t => intro z; cases z; exact (f2 _ h _ rfl).2 rfl
          | _ => intro z; cases z
        · rw [List.mem_singleton.mp h]
          intro z
          cases v with
          | ref t => cases z; have := fv _ rfl; rw [e2] at this; cases this
          | _ => cases z
      · intro w hw t e
        rcases List.mem_append.mp hw with h | h
        · exact f2 w h t e
        · rw [List.mem_singleton.mp h] at e
          have := fv t e
          exact ⟨s2.free this, fun z => by rw [z, e2] at this; cases this⟩
      · rw [List.filterMap_append, List.nodup_append]
        refine ⟨nd, ?_, ?_⟩
        · cases v <;> first | exact List.nodup_nil | exact List.nodup_cons.mpr ⟨by simp, List.nodup_nil⟩
        · intro b hb c hc
          cases v with
          | ref t =>
            simp [rfA] at hc
            subst hc
            rintro rfl
            obtain ⟨w, hw, ew⟩ := List.mem_filterMap.mp hb
            cases w with
            | ref t' =>
              cases ew
              obtain ⟨i, hi⟩ := List.getElem?_of_mem hw
              obtain ⟨o', _, ho'⟩ := n2.getV hi
              have := fv _ rfl
              cases o' with
              | none => cases ho'
              | some qs => obtain ⟨l', xs, e', hl', _⟩ := ho'; cases e'; rw [hl'] at this; cases this
            | _ => cases ew
          | _ => change _ ∈ ([] : List Addr) at hc; cases hc
    · rintro σ H2 ⟨o, rfl, s2, ys, e2, n2, l2, f2, nd⟩
      rw [List.length_map, List.take_of_length_le (by rw [List.length_map]; exact Nat.le_refl _)] at n2
      rw [List.length_map] at l2
      refine ⟨D, ys, _, rfl, e2, n2, by omega, fun H3 s3 => ⟨_, rfl, ite2 (fun h => ⟨by decide, k2 ?_ H3 (Sl.trans (s2.trans s3))⟩) (fun h => ?_)⟩⟩
      · unfold tabS
        cases ea : allO ((rwsS x).map numsS) with
        | none => rfl
        | some M =>
          have em := allO_some ea
          rw [em] at h
          show (if _ then none else some M) = none
          rw [if_pos]
          unfold sqO at h
          rw [List.length_map, List.any_map, List.all_map] at h
          by_cases h7 : M.length ≤ 7
          · right
            rw [decide_eq_true h7, show M.any (Option.isNone ∘ some) = false by simp] at h
            simp only [Bool.true_and, Bool.not_false] at h
            rw [List.all_eq_false] at h
            obtain ⟨L, hL, hn⟩ := h
            exact List.any_eq_true.mpr ⟨L, hL, by simpa using hn⟩
          · left; omega
      · have h : sqO ((rwsS x).map numsS) = true := by simpa using h
        cases ea : allO ((rwsS x).map numsS) with
        | none =>
          have := allO_none.mp ea
          unfold sqO at h
          rw [this] at h
          simp at h
        | some M =>
          have em := allO_some ea
          rw [em] at h n2
          obtain ⟨ts, rfl, R2⟩ := n2.rows
          rw [refs_filter] at nd
          have et : tabS x = some M := by
            unfold tabS
            rw [ea]
            show (if _ then none else some M) = some M
            rw [if_neg]
            unfold sqO at h
            rw [List.length_map, List.all_map, Bool.and_eq_true, Bool.and_eq_true, decide_eq_true_eq] at h
            rintro (z | z)
            · omega
            · obtain ⟨L, hL, hn⟩ := List.any_eq_true.mp z
              have := List.all_eq_true.mp h.2 L hL
              have h3 : L.length = M.length := by simpa using this
              exact of_decide_eq_true hn h3
          exact k1 M et D ts H3 (Sl.trans (s2.trans s3)) (Sl.free hD) (fun t ht => by have := f2 (.ref t) (List.mem_map.mpr ⟨t, ht, rfl⟩) t rfl; exact ⟨Sl.free this.1, this.2⟩) nd (s3 _ _ e2) (R2.same s3)
  · cases dd with
    | v y => cases y <;> first | rfl | cases hs
    | tup l => rfl
    | lst l => rfl
end
end R

set_option maxRecDepth 100000
namespace R
open PySem L2 PyProof.Rows
/-- lists of None and numbers in the heap -/
inductive ORws (H : Hp) : List Addr → List (List (Option Rat)) → Prop where
  | nil : ORws H [] []
  | cons {t : Addr} {ts : List Addr} {ys : List V} {os : List (Option Rat)} {O : List (List (Option Rat))} (h : H t = some (.lst ys)) (n : OptNs H ys os) (r : ORws H ts O) : ORws H (t :: ts) (os :: O)
/-- lists of texts in the heap -/
inductive TRws (H : Hp) : List Addr → List (List Str) → Prop where
  | nil : TRws H [] []
  | cons {t : Addr} {ts : List Addr} {ws : List Str} {W : List (List Str)} (h : H t = some (.lst (ws.map V.str))) (r : TRws H ts W) : TRws H (t :: ts) (ws :: W)
end R

set_option maxRecDepth 100000
namespace R
open PySem L2 PyProof.Rows
section
variable {P : Program} {w : World} {K : PySem.W.Frag} {mg : Str → Option Value} {base : Heap}
end
end R

set_option maxRecDepth 100000
namespace R
open PySem L2 PyProof.Rows
section
variable {P : Program} {w : World} {K : PySem.W.Frag} {mg : Str → Option Value} {base : Heap}
def spShowW0 : Sp := fun vs H Q _ => ∃ n : Nat, vs = [.int n] ∧ n < 10 ^ 60 ∧ ∀ H', Same H H' → Q (.str (Str.ofString (toString (n : Int)))) H'
def spShowW : Sp := fun vs H Q _ => ∃ i : Int, vs = [.int i] ∧ i.natAbs < 10 ^ 60 ∧ ∀ H', Same H H' → Q (.str (Str.ofString (toString i))) H'
theorem bits60 {i : Int} (h : i.natAbs < 10 ^ 60) : i.natAbs.log2 < 1920 := by
  by_cases h0 : i.natAbs = 0
  · rw [h0]; decide
  · exact (Nat.log2_lt h0).mpr (Nat.lt_of_lt_of_le h (Nat.le_trans (show 10 ^ 60 ≤ 2 ^ 200 by decide) (pow_le_pow2 (by decide))))
theorem app_emp (x : Str) : x ++ Txt.join "" [] = x := by
  refine str_ext ?_
  rw [sgn_app, show sgn (Txt.join "" []) = [] by decide +kernel, List.append_nil]
theorem show_tail {n : Nat} {Q : VK} {H : Hp} (hn : n < 10 ^ 60) (k : ∀ H', Same H H' → Q (.str (Str.ofString (toString (n : Int)))) H') : CPow 10 60 ∧ 0 ≤ sizeLine ∧ ∀ (p : Addr), H p = none →
    tWhile (tTest (tOp (rI0 fun i j => V.bl (decide (j ≤ i))) (tVar 0) (tVar 1))) (tSeq tNever tNever)
      { nx := tRet (tOp (fun x y H Q => ∃ i, x = V.str i ∧ ∃ x, y = V.str x ∧ i.length + x.length ≤ sizeLine ∧ Q (V.str (i ++ x)) H)
            (tCB (fun xs H Q => ∃ i, xs = [V.int i] ∧ i.natAbs.log2 < 1920 ∧ Q (V.str (Str.ofString (toString i))) H) (tCons (tVar 0) tNil))
            (tBM K "str" (rJoin K) (tC (V.str "")) (tCons (tSl3 K (tVar 2) tNoPart tNoPart (tPart (tUn (rU fun i => V.int (-i)) (tC (V.int 1))))) tNil)))
          { nx := fun x H' => Q V.non H', rt := Q }, rt := Q }
      [some (V.int (n : Int)), some (V.int (10 ^ Int.toNat 60)), some (V.ref p), none] (upd H p (HO.lst [])) := by
  refine ⟨⟨by decide, by decide, by decide⟩, Nat.zero_le _, fun p hp => ?_⟩
  refine while_to (fun σ H1 => H1 = upd H p (HO.lst []) ∧ σ = [some (V.int (n : Int)), some (V.int (10 ^ Int.toNat 60)), some (V.ref p), none]) (fun _ _ => 0) ⟨rfl, rfl⟩ ?_
  rintro σ H1 ⟨rfl, rfl⟩
  simp only [rLen, rLst, rSlS, rPartition, rStarts, iStr, rIntS, rJoin, rIxS, rSplitS, rInN, tComp_eq, tCompIf_eq, tSl, tSl3, tPart, tNoPart, rSlL, rPop, rAppend, capSt, List.map_cons, List.map_nil, Option.bind_none, Option.bind_some, Option.join_some, tSeq, tIfS, tAnd, tOr, tNot, tTest, tB, tOp, tUn, tBM0, tBM, tVar, tC, tCB, tRet, tAsg, gName, gSub, gTup, gCons, gNil, tCons, tNil, tPar, tTup, tLst, tIf, tAndV, tNotV, tDef, tCallX, tCallV, tDrop, tNext, tNever, tRaise, rI, rI0, rU, rBitLen, rIxL, rIxT, rSetL, rEq, rNe, rCount, rIndex, rSplit, rIsI, rCat, iRng1, iList, cxOf, cxR, cxX, Cx.nox, Cx.wish, Cx.body, Cx.suite, List.getElem?_cons_zero, List.getElem?_cons_succ, List.set_cons_zero, List.set_cons_succ, Option.some.injEq, V.int.injEq, V.bl.injEq, V.ref.injEq, V.str.injEq, exists_eq_left', exists_eq_left, exists_and_left, true_and, and_true, List.cons.injEq, reduceCtorEq, Bool.false_eq_true, if_false, if_true, exists_const, ↓reduceIte, tyV, List.length_cons, List.length_nil, exists_eq, List.append_nil, List.cons_append, List.nil_append, decide_eq_true_eq, not_true_eq_false, not_false_eq_true, Bool.not_eq_true', decide_eq_false_iff_not, Bool.not_true, Bool.not_false, and_assoc, false_and, false_or, or_false]
  refine ite2 (fun h => ?_) (fun h => ?_)
  · have e : (10 : Int) ^ Int.toNat 60 = ((10 ^ 60 : Nat) : Int) := by decide
    rw [e] at h
    omega
  have l := text_len_nat (n := n) (by decide) hn
  refine ⟨bits60 (by rw [Int.natAbs_natCast]; exact hn), _, SqL.of upd_same, by decide, fun p1 hp1 => ⟨[], SqL.of upd_same, by decide, ?_, ?_⟩⟩
  · rw [show (Txt.join "" []).length = 0 by decide +kernel]
    exact sz (by omega)
  · rw [app_emp]
    exact k _ ((Same.new hp _).trans (Same.new hp1 _))
def spShowN (K : PySem.W.Frag) : Sp := fun vs H Q _ => ∃ v q, vs = [v] ∧ Num K H v q ∧ q.num.natAbs < 10 ^ 60 ∧ q.den < 10 ^ 60 ∧ ∀ H', Same H H' → Q (.str (showS q)) H'
abbrev s_show_whole : Stmt := top 33
theorem sc_show_whole : FnScope ["whole", "size", "pieces", "rest"] ["whole"] (defScope s_show_whole) := ⟨rfl, rfl, rfl, by decide +kernel, rfl, by decide +kernel, by decide +kernel⟩
set_option maxHeartbeats 0 in
theorem okD_show_whole {f : Addr} (d : Df K mg "show_whole" s_show_whole ["whole"] f) (n_str : mg "str" = none) : Def P w K mg base CX0 1 "show_whole" f ["whole"] spShowW0 := by
  refine d.ok (N := ["whole", "size", "pieces", "rest"]) sc_show_whole (by rintro vs H Q E ⟨a, h, _⟩; rw [h]; rfl) (fun cdv A outer s H vs Q E hr h => ?_)
  obtain ⟨n, rfl, hn, k⟩ := h
  refine ⟨_, (pss_cons (ps_if (pt_cmpR op_lt (pv 0) pe_int (nomark _)) (pss_one ps_never) pss_nil)
      (pss_cons (ps_set (i := 1) sc_show_whole.nd rfl (Or.inl rfl) (pe_op op_pow pe_int pe_int))
      (pss_cons (ps_set (i := 2) sc_show_whole.nd rfl (Or.inl rfl) (pe_lst pa_nil))
      (pss_cons (ps_while PassesOwn.never (pt_cmpR op_ge (pv 0) (pv 1) (nomark _)) (pss_cons ps_never
      (pss_one ps_never)))
      (pss_one (ps_ret (pe_op op_add_str (pe_callTy call_str_int rfl n_str (by decide +kernel) (pa_cons (pv 0) pa_nil)) (pe_bm PySem.F.plainAttrs_str PySem.F.slot_str_join PySem.F.type_str_join mt_join pe_str (pa_cons (pe_slice3 (pv 2) po_none po_none (po_some (pe_un un_neg pe_int))) pa_nil))))))))), ?_⟩
  rw [show start ["whole", "size", "pieces", "rest"] [.int n] = [some (.int n), none, none, none] from rfl]
  simp only [rLen, rLst, rSlS, rPartition, rStarts, iStr, rIntS, rJoin, rIxS, rSplitS, rInN, tComp_eq, tCompIf_eq, tSl, tSl3, tPart, tNoPart, rSlL, rPop, rAppend, capSt, List.map_cons, List.map_nil, Option.bind_none, Option.bind_some, Option.join_some, tSeq, tIfS, tAnd, tOr, tNot, tTest, tB, tOp, tUn, tBM0, tBM, tVar, tC, tCB, tRet, tAsg, gName, gSub, gTup, gCons, gNil, tCons, tNil, tPar, tTup, tLst, tIf, tAndV, tNotV, tDef, tCallX, tCallV, tDrop, tNext, tNever, tRaise, rI, rI0, rU, rBitLen, rIxL, rIxT, rSetL, rEq, rNe, rCount, rIndex, rSplit, rIsI, rCat, iRng1, iList, cxOf, cxR, cxX, Cx.nox, Cx.wish, Cx.body, Cx.suite, List.getElem?_cons_zero, List.getElem?_cons_succ, List.set_cons_zero, List.set_cons_succ, Option.some.injEq, V.int.injEq, V.bl.injEq, V.ref.injEq, V.str.injEq, exists_eq_left', exists_eq_left, exists_and_left, true_and, and_true, List.cons.injEq, reduceCtorEq, Bool.false_eq_true, if_false, if_true, exists_const, ↓reduceIte, tyV, List.length_cons, List.length_nil, exists_eq, List.append_nil, List.cons_append, List.nil_append, decide_eq_true_eq, not_true_eq_false, not_false_eq_true, Bool.not_eq_true', decide_eq_false_iff_not, Bool.not_true, Bool.not_false, and_assoc, false_and, false_or, or_false]
  exact ite2 (fun z => by omega) (fun _ => show_tail hn k)
abbrev s_show_number : Stmt := top 34
theorem sc_show_number : FnScope ["number", "top", "bottom"] ["number"] (defScope s_show_number) := ⟨rfl, rfl, rfl, by decide +kernel, rfl, by decide +kernel, by decide +kernel⟩
set_option maxHeartbeats 0 in
theorem ok_show_whole {f f1 : Addr} (d : Df K mg "show_whole" s_show_whole ["whole"] f) (GD_show_whole : Def P w K mg base CX0 1 "show_whole" f1 ["whole"] spShowW0) (n_str : mg "str" = none) : Def P w K mg base CX0 2 "show_whole" f ["whole"] spShowW := by
  refine d.ok (N := ["whole", "size", "pieces", "rest"]) sc_show_whole (by rintro vs H Q E ⟨a, h, _⟩; rw [h]; rfl) (fun cdv A outer s H vs Q E hr h => ?_)
  obtain ⟨i, rfl, hn, k⟩ := h
  refine ⟨_, (pss_cons (ps_if (pt_cmpR op_lt (pv 0) pe_int (nomark _)) (pss_one (ps_ret (pe_op op_add_str pe_str (pe_def GD_show_whole hr (pa_cons (pe_un un_neg (pv 0)) pa_nil) pass0)))) pss_nil)
      (pss_cons (ps_set (i := 1) sc_show_whole.nd rfl (Or.inl rfl) (pe_op op_pow pe_int pe_int))
      (pss_cons (ps_set (i := 2) sc_show_whole.nd rfl (Or.inl rfl) (pe_lst pa_nil))
      (pss_cons (ps_while PassesOwn.never (pt_cmpR op_ge (pv 0) (pv 1) (nomark _)) (pss_cons ps_never
      (pss_one ps_never)))
      (pss_one (ps_ret (pe_op op_add_str (pe_callTy call_str_int rfl n_str (by decide +kernel) (pa_cons (pv 0) pa_nil)) (pe_bm PySem.F.plainAttrs_str PySem.F.slot_str_join PySem.F.type_str_join mt_join pe_str (pa_cons (pe_slice3 (pv 2) po_none po_none (po_some (pe_un un_neg pe_int))) pa_nil))))))))), ?_⟩
  rw [show start ["whole", "size", "pieces", "rest"] [.int i] = [some (.int i), none, none, none] from rfl]
  simp only [rLen, rLst, rSlS, rPartition, rStarts, iStr, rIntS, rJoin, rIxS, rSplitS, rInN, tComp_eq, tCompIf_eq, tSl, tSl3, tPart, tNoPart, rSlL, rPop, rAppend, capSt, List.map_cons, List.map_nil, Option.bind_none, Option.bind_some, Option.join_some, tSeq, tIfS, tAnd, tOr, tNot, tTest, tB, tOp, tUn, tBM0, tBM, tVar, tC, tCB, tRet, tAsg, gName, gSub, gTup, gCons, gNil, tCons, tNil, tPar, tTup, tLst, tIf, tAndV, tNotV, tDef, tCallX, tCallV, tDrop, tNext, tNever, tRaise, rI, rI0, rU, rBitLen, rIxL, rIxT, rSetL, rEq, rNe, rCount, rIndex, rSplit, rIsI, rCat, iRng1, iList, cxOf, cxR, cxX, Cx.nox, Cx.wish, Cx.body, Cx.suite, List.getElem?_cons_zero, List.getElem?_cons_succ, List.set_cons_zero, List.set_cons_succ, Option.some.injEq, V.int.injEq, V.bl.injEq, V.ref.injEq, V.str.injEq, exists_eq_left', exists_eq_left, exists_and_left, true_and, and_true, List.cons.injEq, reduceCtorEq, Bool.false_eq_true, if_false, if_true, exists_const, ↓reduceIte, tyV, List.length_cons, List.length_nil, exists_eq, List.append_nil, List.cons_append, List.nil_append, decide_eq_true_eq, not_true_eq_false, not_false_eq_true, Bool.not_eq_true', decide_eq_false_iff_not, Bool.not_true, Bool.not_false, and_assoc, false_and, false_or, or_false]
  refine ite2 (fun z => ?_) (fun z => ?_)
  · obtain ⟨n, rfl⟩ : ∃ n : Nat, i = -(n : Int) := ⟨i.natAbs, by omega⟩
    rw [Int.natAbs_neg, Int.natAbs_natCast] at hn
    have l := text_len_nat (n := n) (by decide) hn
    refine ⟨n, by rw [Int.neg_neg], hn, fun H1 s1 => ⟨_, rfl, ?_, ?_⟩⟩
    · have : Str.length "-" = 1 := by decide +kernel
      exact sz (by omega)
    · rw [← text_neg n (by omega)]
      exact k H1 s1
  · obtain ⟨n, rfl⟩ : ∃ n : Nat, i = (n : Int) := ⟨i.toNat, by omega⟩
    exact show_tail (by rw [Int.natAbs_natCast] at hn; exact hn) k
theorem ok_show_number {f f1 : Addr} (d : Df K mg "show_number" s_show_number ["number"] f) (G_show_whole : Def P w K mg base CX0 2 "show_whole" f1 ["whole"] spShowW) : Def P w K mg base CX0 3 "show_number" f ["number"] (spShowN K) := by
  refine d.ok (N := ["number", "top", "bottom"]) sc_show_number (by rintro vs H Q E ⟨a, b, h, _⟩; rw [h]; rfl) (fun cdv A outer s H vs Q E hr h => ?_)
  obtain ⟨v, q, rfl, ⟨p, rfl, hp⟩, h1, h2, k⟩ := h
  refine ⟨_, (pss_cons (ps_asg (pv 0) (show PG _ _ (gTup K 2 (gCons (gName 1) (gCons (gName 2) gNil))) from by (refine pg_tup (n := 2) ?_ ?_ ?_ ?_; rfl; (refine pgs_cons ?_ ?_ ?_; (exact (pg_name (i := 1) sc_show_number.nd rfl (Or.inl rfl))); (refine pgs_cons ?_ ?_ ?_; (exact (pg_name (i := 2) sc_show_number.nd rfl (Or.inl rfl))); (exact pgs_nil); rfl); rfl); rfl; rfl)))
      (pss_one (ps_ret (pe_ifExp (pt_cmpR op_eq (pv 2) pe_int (nomark _)) (pe_def G_show_whole hr (pa_cons (pv 1) pa_nil) pass0) (pe_op op_add_str (pe_op op_add_str (pe_def G_show_whole hr (pa_cons (pv 1) pa_nil) pass0) pe_str) (pe_def G_show_whole hr (pa_cons (pv 2) pa_nil) pass0)))))), ?_⟩
  rw [show start ["number", "top", "bottom"] [.ref p] = [some (.ref p), none, none] from rfl]
  simp only [rLen, rLst, rSlS, rPartition, rStarts, iStr, rIntS, rJoin, rIxS, rSplitS, rInN, tComp_eq, tCompIf_eq, tSl, tSl3, tPart, tNoPart, rSlL, rPop, rAppend, capSt, List.map_cons, List.map_nil, Option.bind_none, Option.bind_some, Option.join_some, tSeq, tIfS, tAnd, tOr, tNot, tTest, tB, tOp, tUn, tBM0, tBM, tVar, tC, tCB, tRet, tAsg, gName, gSub, gTup, gCons, gNil, tCons, tNil, tPar, tTup, tLst, tIf, tAndV, tNotV, tDef, tCallX, tCallV, tDrop, tNext, tNever, tRaise, rI, rI0, rU, rBitLen, rIxL, rIxT, rSetL, rEq, rNe, rCount, rIndex, rSplit, rIsI, rCat, iRng1, iList, cxOf, cxR, cxX, Cx.nox, Cx.wish, Cx.body, Cx.suite, List.getElem?_cons_zero, List.getElem?_cons_succ, List.set_cons_zero, List.set_cons_succ, Option.some.injEq, V.int.injEq, V.bl.injEq, V.ref.injEq, V.str.injEq, exists_eq_left', exists_eq_left, exists_and_left, true_and, and_true, List.cons.injEq, reduceCtorEq, Bool.false_eq_true, if_false, if_true, exists_const, ↓reduceIte, tyV, List.length_cons, List.length_nil, exists_eq, List.append_nil, List.cons_append, List.nil_append, decide_eq_true_eq, not_true_eq_false, not_false_eq_true, Bool.not_eq_true', decide_eq_false_iff_not, Bool.not_true, Bool.not_false, and_assoc, false_and, false_or, or_false]
  have l1 := text_len (i := q.num) (by decide) h1
  have l2 := text_len_nat (n := q.den) (by decide) h2
  have ls : Str.length "/" = 1 := by decide +kernel
  refine ⟨_, hp, rfl, _, _, rfl, _, _, rfl, rfl, rfl, ite2 (fun h => ⟨_, rfl, h1, fun H1 s1 => ?_⟩) (fun h => ⟨_, rfl, h1, fun H1 s1 => ⟨_, rfl, sz (by omega), _, rfl, by rw [Int.natAbs_natCast]; exact h2, fun H2 s2 => ⟨_, rfl, ?_, ?_⟩⟩⟩)⟩
  · have e : q.den = 1 := by injection h with h; omega
    have := k H1 s1
    unfold showS at this
    rw [if_pos e] at this
    exact this
  · rw [← sgn_len, sgn_app, List.length_append, sgn_len, sgn_len]
    exact sz (by omega)
  · have e : q.den ≠ 1 := fun z => h (by rw [z]; rfl)
    have := k H2 (s1.trans s2)
    unfold showS at this
    rw [if_neg e] at this
    exact this
abbrev s__law_show_number : Stmt := top 59
theorem sc__law_show_number : FnScope ["_law_number_here"] ["_law_number_here"] (defScope s__law_show_number) := ⟨rfl, rfl, rfl, by decide +kernel, rfl, by decide +kernel, by decide +kernel⟩
theorem ok__law_show_number {f : Addr} (d : Df K mg "_law_show_number" s__law_show_number ["_law_number_here"] f) (n_str : mg "str" = none) (n_int : mg "int" = none) : Def P w K mg base CX0 1 "_law_show_number" f ["_law_number_here"] (spShowN K) := by
  refine d.ok (N := ["_law_number_here"]) sc__law_show_number (by rintro vs H Q E ⟨a, b, h, _⟩; rw [h]; rfl) (fun cdv A outer s H vs Q E hr h => ?_)
  obtain ⟨v, q, rfl, ⟨p, rfl, hp⟩, h1, h2, k⟩ := h
  refine ⟨_, (pss_one (ps_ret (pe_op op_add_str (pe_callTy call_str_int rfl n_str (by decide +kernel) (pa_cons (pe_ix ix_tup (pv 0) pe_int (fun _ _ => rfl)) pa_nil)) (pe_ix ix_list (pe_lst (pa_cons (pe_op op_add_str pe_str (pe_callTy call_str_int rfl n_str (by decide +kernel) (pa_cons (pe_ix ix_tup (pv 0) pe_int (fun _ _ => rfl)) pa_nil))) (pa_cons pe_str pa_nil))) (pe_callTy call_int1 rfl n_int (by decide +kernel) (pa_cons (pe_cmpR op_eq (pe_ix ix_tup (pv 0) pe_int (fun _ _ => rfl)) pe_int (nomark _)) pa_nil)) (fun _ _ => rfl))))), ?_⟩
  rw [show start ["_law_number_here"] [.ref p] = [some (.ref p)] from rfl]
  simp only [rLen, rLst, rSlS, rPartition, rStarts, iStr, rIntS, rJoin, rIxS, rSplitS, rInN, tComp_eq, tCompIf_eq, tSl, tSl3, tPart, tNoPart, rSlL, rPop, rAppend, capSt, List.map_cons, List.map_nil, Option.bind_none, Option.bind_some, Option.join_some, tSeq, tIfS, tAnd, tOr, tNot, tTest, tB, tOp, tUn, tBM0, tBM, tVar, tC, tCB, tRet, tAsg, gName, gSub, gTup, gCons, gNil, tCons, tNil, tPar, tTup, tLst, tIf, tAndV, tNotV, tDef, tCallX, tCallV, tDrop, tNext, tNever, tRaise, rI, rI0, rU, rBitLen, rIxL, rIxT, rSetL, rEq, rNe, rCount, rIndex, rSplit, rIsI, rCat, iRng1, iList, cxOf, cxR, cxX, Cx.nox, Cx.wish, Cx.body, Cx.suite, List.getElem?_cons_zero, List.getElem?_cons_succ, List.set_cons_zero, List.set_cons_succ, Option.some.injEq, V.int.injEq, V.bl.injEq, V.ref.injEq, V.str.injEq, exists_eq_left', exists_eq_left, exists_and_left, true_and, and_true, List.cons.injEq, reduceCtorEq, Bool.false_eq_true, if_false, if_true, exists_const, ↓reduceIte, tyV, List.length_cons, List.length_nil, exists_eq, List.append_nil, List.cons_append, List.nil_append, decide_eq_true_eq, not_true_eq_false, not_false_eq_true, Bool.not_eq_true', decide_eq_false_iff_not, Bool.not_true, Bool.not_false, and_assoc, false_and, false_or, or_false]
  have l1 := text_len (i := q.num) (by decide) h1
  have l2 := text_len_nat (n := q.den) (by decide) h2
  have ls : Str.length "/" = 1 := by decide +kernel
  refine ⟨_, hp, _, at0 q, _, rfl, bits60 h1, _, hp, _, at1 q, _, rfl, bits60 (by rw [Int.natAbs_natCast]; exact h2), sz (by omega), small2, fun p1 hp1 => ?_⟩
  have s1 := Same.new hp1 (.lst [V.str ("/" ++ Str.ofString (toString (q.den : Int))), V.str ""])
  refine ⟨_, s1.tup hp, _, at1 q, rfl, _, SqL.of upd_same, .str (if q.den = 1 then "" else "/" ++ Str.ofString (toString (q.den : Int))), ?_, _, rfl, ?_, ?_⟩
  · by_cases e : q.den = 1
    · rw [if_pos (by rw [e]; rfl), if_pos e]; rfl
    · rw [if_neg (fun z => e (by injection z with z; omega)), if_neg e]; rfl
  · split
    · have : Str.length "" = 0 := by decide +kernel
      exact sz (by omega)
    · rw [← sgn_len ("/" ++ _), sgn_app, List.length_append, sgn_len, sgn_len]
      exact sz (by omega)
  · have := k _ s1
    unfold showS at this
    by_cases e : q.den = 1
    · rw [if_pos e] at this
      rw [if_pos e, show Str.ofString (toString q.num) ++ (Str.ofString "") = Str.ofString (toString q.num) from str_ext (by rw [sgn_app, show sgn (Str.ofString "") = [] by decide +kernel, List.append_nil])]
      exact this
    · rw [if_neg e] at this
      rw [if_neg e, ← Str.append_assoc]
      exact this
end
end R

set_option maxRecDepth 100000
namespace R
open PySem L2 PyProof.Rows
/-- numbers with blanks, rows with a sign and a blank -/
def showL (qs : List Rat) : Str := Txt.join " " (qs.map showS)
def showP (qs : List Rat) : Str := if qs = [] then "-" else showL qs
def showT (M : List (List Rat)) : Str := Txt.join "; " (M.map showL)
/-- numbers whose texts are short -/
def ShN (q : Rat) : Prop := q.num.natAbs < 10 ^ 60 ∧ q.den < 10 ^ 60
def lenS (y : Str) (ws : List Str) : Nat := (ws.map (·.length)).sum + ws.length * y.length
def spShowL (K : PySem.W.Frag) : Sp := fun vs H Q _ => ∃ a xs qs, vs = [.ref a] ∧ SqL K H a xs ∧ NumsC K H xs qs ∧ (∀ q ∈ qs, ShN q) ∧ qs.length ≤ 100 ∧ ∀ H', Same H H' → Q (.str (showL qs)) H'
def spShowP (K : PySem.W.Frag) : Sp := fun vs H Q _ => ∃ a xs qs, vs = [.ref a] ∧ SqL K H a xs ∧ NumsC K H xs qs ∧ (∀ q ∈ qs, ShN q) ∧ qs.length ≤ 100 ∧ ∀ H', Same H H' → Q (.str (showP qs)) H'
def spShowT (K : PySem.W.Frag) : Sp := fun vs H Q _ => ∃ a ts M, vs = [.ref a] ∧ H a = some (.lst (ts.map V.ref)) ∧ RwsC K H ts M ∧ (∀ L ∈ M, L.length ≤ 100 ∧ ∀ q ∈ L, ShN q) ∧ M.length ≤ 100 ∧ ∀ H', Same H H' → Q (.str (showT M)) H'
theorem sum_le {ws : List Str} {m : Nat} (h : ∀ w ∈ ws, w.length ≤ m) : (ws.map (·.length)).sum ≤ ws.length * m := by
  induction ws with
  | nil => simp
  | cons w ws ih =>
    have := ih fun v hv => h v (by simp [hv])
    have := h w (by simp)
    rw [List.map_cons, List.sum_cons, List.length_cons, Nat.succ_mul]; omega
theorem join_len (y : Str) (ws : List Str) : (Txt.join y ws).length ≤ lenS y ws := by rw [join_eq]; exact StrLaws.join_length_le y ws
theorem showS_len {q : Rat} (h : ShN q) : (showS q).length ≤ 122 := show_len (k := 60) (by decide) h.1 h.2
theorem lenS_num {qs : List Rat} (h : ∀ q ∈ qs, ShN q) (hl : qs.length ≤ 100) : lenS " " (qs.map showS) ≤ 12300 := by
  unfold lenS
  have := sum_le (ws := qs.map showS) (m := 122) fun w hw => by obtain ⟨q, hq, rfl⟩ := List.mem_map.mp hw; exact showS_len (h q hq)
  rw [show Str.length " " = 1 by decide +kernel]
  rw [List.length_map] at *
  omega
theorem showL_len {qs : List Rat} (h : ∀ q ∈ qs, ShN q) (hl : qs.length ≤ 100) : (showL qs).length ≤ 12300 := Nat.le_trans (join_len _ _) (lenS_num h hl)
theorem lenS_tab {M : List (List Rat)} (h : ∀ L ∈ M, L.length ≤ 100 ∧ ∀ q ∈ L, ShN q) (hl : M.length ≤ 100) : lenS "; " (M.map showL) ≤ 1230200 := by
  unfold lenS
  have := sum_le (ws := M.map showL) (m := 12300) fun w hw => by obtain ⟨L, hL, rfl⟩ := List.mem_map.mp hw; exact showL_len (h L hL).2 (h L hL).1
  rw [show Str.length "; " = 2 by decide +kernel]
  rw [List.length_map] at *
  omega
theorem comp_show {K : PySem.W.Frag} {a D : Addr} {H : Hp} {Qv : VK} (xs : List V) (qs : List Rat) (ha : SqL K H a xs) (n : NumsC K H xs qs) (hq : ∀ q ∈ qs, ShN q) (hl : qs.length ≤ 100) (hD : H D = none) (k : ∀ H2, Same H H2 → H2 D = some (.lst ((qs.map showS).map V.str)) → Qv (.ref D) H2) :
    CompW (Itl K a) D [none] (upd H D (HO.lst [])) (gName 0) (tDef (spShowN K) E0 (tCons (tVar 0) tNil)) Qv := by
  have hlen := n.length
  refine cw_list xs (fun i σ H2 => ∃ o, σ = [o] ∧ Same H H2 ∧ H2 D = some (.lst (((qs.map showS).take i).map V.str))) ⟨_, rfl, Same.new hD _, upd_same⟩ (by rintro i σ H2 _ ⟨_, _, s2, _⟩; exact s2.seq ha) ?_ ?_
  · rintro m y σ H2 hy ⟨o, rfl, s2, e2⟩
    have hm := (List.getElem?_eq_some_iff.mp hy).1
    obtain ⟨p, q, rfl, eq, hp⟩ := n.getV hy
    have hb := hq q (List.mem_of_getElem? eq)
    simp only [rLen, rLst, rSlS, rPartition, rStarts, iStr, rIntS, rJoin, rIxS, rSplitS, rInN, tComp_eq, tCompIf_eq, tSl, tSl3, tPart, tNoPart, rSlL, rPop, rAppend, capSt, List.map_cons, List.map_nil, Option.bind_none, Option.bind_some, Option.join_some, tSeq, tIfS, tAnd, tOr, tNot, tTest, tB, tOp, tUn, tBM0, tBM, tVar, tC, tCB, tRet, tAsg, gName, gSub, gTup, gCons, gNil, tCons, tNil, tPar, tTup, tLst, tIf, tAndV, tNotV, tDef, tCallX, tCallV, tDrop, tNext, tNever, tRaise, rI, rI0, rU, rBitLen, rIxL, rIxT, rSetL, rEq, rNe, rCount, rIndex, rSplit, rIsI, rCat, iRng1, iList, cxOf, cxR, cxX, Cx.nox, Cx.wish, Cx.body, Cx.suite, List.getElem?_cons_zero, List.getElem?_cons_succ, List.set_cons_zero, List.set_cons_succ, Option.some.injEq, V.int.injEq, V.bl.injEq, V.ref.injEq, V.str.injEq, exists_eq_left', exists_eq_left, exists_and_left, true_and, and_true, List.cons.injEq, reduceCtorEq, Bool.false_eq_true, if_false, if_true, exists_const, ↓reduceIte, tyV, List.length_cons, List.length_nil, exists_eq, List.append_nil, List.cons_append, List.nil_append, decide_eq_true_eq, not_true_eq_false, not_false_eq_true, Bool.not_eq_true', decide_eq_false_iff_not, Bool.not_true, Bool.not_false, and_assoc, false_and, false_or, or_false]
    refine ⟨_, q, rfl, ⟨p, rfl, (hp.mono s2.tups).sqt⟩, hb.1, hb.2, fun H3 s3 => ?_⟩
    refine CompN.mk hm (s3 _ _ e2) (by rw [List.length_map, List.length_take]; exact Nat.lt_of_le_of_lt (Nat.min_le_left _ _) (Nat.lt_of_lt_of_le (show m < 101 by omega) (by decide))) ⟨_, rfl, (s2.trans s3).over hD _, ?_⟩
    rw [List.take_succ, List.getElem?_map, eq, List.map_append]
    exact upd_same
  · rintro σ H2 ⟨o, rfl, s2, e2⟩
    rw [List.take_of_length_le (by rw [List.length_map]; omega)] at e2
    exact k H2 s2 e2
theorem comp_rows {K : PySem.W.Frag} {a D : Addr} {H : Hp} {Qv : VK} {te : TE} (hte : ∀ (t : Addr) (xs : List V) (L : List Rat) (H1 : Hp) (Q' : VK), H1 t = some (.lst xs) → NumsC K H1 xs L → (∀ q ∈ L, ShN q) → L.length ≤ 100 → (∀ H', Same H1 H' → Q' (.str (showL L)) H') → te [some (.ref t)] H1 Q')
    (ts : List Addr) (M : List (List Rat)) (ha : H a = some (.lst (ts.map V.ref))) (R : RwsC K H ts M) (hq : ∀ L ∈ M, L.length ≤ 100 ∧ ∀ q ∈ L, ShN q) (hl : M.length ≤ 100) (hD : H D = none) (k : ∀ H2, Same H H2 → H2 D = some (.lst ((M.map showL).map V.str)) → Qv (.ref D) H2) :
    CompW (Itl K a) D [none] (upd H D (HO.lst [])) (gName 0) te Qv := by
  have hlen := R.length
  refine cw_list (ts.map V.ref) (fun i σ H2 => ∃ o, σ = [o] ∧ Same H H2 ∧ H2 D = some (.lst (((M.map showL).take i).map V.str))) ⟨_, rfl, Same.new hD _, upd_same⟩ (by rintro i σ H2 _ ⟨_, _, s2, _⟩; exact SqL.of (s2 _ _ ha)) ?_ ?_
  · rintro m y σ H2 hy ⟨o, rfl, s2, e2⟩
    have hm := (List.getElem?_eq_some_iff.mp hy).1
    have hm2 : m < M.length := by rw [List.length_map] at hm; omega
    rw [List.getElem?_map] at hy
    obtain ⟨t, ht, rfl⟩ := Option.map_eq_some_iff.mp hy
    obtain ⟨xs, L, eL, et, nt⟩ := R.get ht
    have hb := hq L (List.mem_of_getElem? eL)
    refine hte t xs L H2 _ (s2 _ _ et) (nt.mono s2.tups) hb.2 hb.1 fun H3 s3 => ?_
    refine CompN.mk hm (s3 _ _ e2) (by rw [List.length_map, List.length_take]; exact Nat.lt_of_le_of_lt (Nat.min_le_left _ _) (Nat.lt_of_lt_of_le (show m < 101 by omega) (by decide))) ⟨_, rfl, (s2.trans s3).over hD _, ?_⟩
    rw [List.take_succ, List.getElem?_map, eL, List.map_append]
    exact upd_same
  · rintro σ H2 ⟨o, rfl, s2, e2⟩
    rw [List.take_of_length_le (by rw [List.length_map, List.length_map]; omega)] at e2
    exact k H2 s2 e2
section
variable {P : Program} {w : World} {K : PySem.W.Frag} {mg : Str → Option Value} {base : Heap}
abbrev s_show_numbers : Stmt := top 35
theorem sc_show_numbers : FnScope ["numbers"] ["numbers"] (defScope s_show_numbers) := ⟨rfl, rfl, rfl, by decide +kernel, rfl, by decide +kernel, by decide +kernel⟩
set_option maxHeartbeats 0 in
theorem ok_show_numbers {f f1 : Addr} (d : Df K mg "show_numbers" s_show_numbers ["numbers"] f) (G_show_number : Def P w K mg base CX0 3 "show_number" f1 ["number"] (spShowN K)) : Def P w K mg base CX0 4 "show_numbers" f ["numbers"] (spShowL K) := by
  refine d.ok (N := ["numbers"]) sc_show_numbers (by rintro vs H Q E ⟨_, _, _, h, _⟩; rw [h]; rfl) (fun cdv A outer s H vs Q E hr h => ?_)
  obtain ⟨a, xs, qs, rfl, ha, n, hq, hl, k⟩ := h
  refine ⟨_, (pss_one (ps_ret (pe_bm PySem.F.plainAttrs_str PySem.F.slot_str_join PySem.F.type_str_join mt_join pe_str (pa_cons (pe_comp (Nc := ["number"]) (caps := [none]) rfl (Caps.of (osc := defScope s_show_numbers) (N := ["numbers"]) (ks := []) rfl rfl rfl rfl sub_nil (by decide +kernel)) (pi_list (pv 0)) (fun C s₂ H₂ fp pins => (pg_name (i := 0) (show List.Nodup (["number"] : List Str) by decide +kernel) rfl (Or.inl rfl) (Or.inr rfl))) (fun C s₂ H₂ fp pins => (pe_def G_show_number hr (pa_cons (pv 0) pa_nil) pass0))) pa_nil)))), ?_⟩
  rw [show start ["numbers"] [.ref a] = [some (.ref a)] from rfl]
  simp only [rLen, rLst, rSlS, rPartition, rStarts, iStr, rIntS, rJoin, rIxS, rSplitS, rInN, tComp_eq, tCompIf_eq, tSl, tSl3, tPart, tNoPart, rSlL, rPop, rAppend, capSt, List.map_cons, List.map_nil, Option.bind_none, Option.bind_some, Option.join_some, tSeq, tIfS, tAnd, tOr, tNot, tTest, tB, tOp, tUn, tBM0, tBM, tVar, tC, tCB, tRet, tAsg, gName, gSub, gTup, gCons, gNil, tCons, tNil, tPar, tTup, tLst, tIf, tAndV, tNotV, tDef, tCallX, tCallV, tDrop, tNext, tNever, tRaise, rI, rI0, rU, rBitLen, rIxL, rIxT, rSetL, rEq, rNe, rCount, rIndex, rSplit, rIsI, rCat, iRng1, iList, cxOf, cxR, cxX, Cx.nox, Cx.wish, Cx.body, Cx.suite, List.getElem?_cons_zero, List.getElem?_cons_succ, List.set_cons_zero, List.set_cons_succ, Option.some.injEq, V.int.injEq, V.bl.injEq, V.ref.injEq, V.str.injEq, exists_eq_left', exists_eq_left, exists_and_left, true_and, and_true, List.cons.injEq, reduceCtorEq, Bool.false_eq_true, if_false, if_true, exists_const, ↓reduceIte, tyV, List.length_cons, List.length_nil, exists_eq, List.append_nil, List.cons_append, List.nil_append, decide_eq_true_eq, not_true_eq_false, not_false_eq_true, Bool.not_eq_true', decide_eq_false_iff_not, Bool.not_true, Bool.not_false, and_assoc, false_and, false_or, or_false]
  refine ⟨⟨_, ha⟩, fun D hD => comp_show xs qs ha n hq hl hD fun H2 s2 e2 => ⟨D, rfl, qs.map showS, SqL.of e2, Nat.le_trans (lenS_num hq hl) (by decide), k H2 s2⟩⟩
abbrev s_show_poly : Stmt := top 36
theorem sc_show_poly : FnScope ["p"] ["p"] (defScope s_show_poly) := ⟨rfl, rfl, rfl, by decide +kernel, rfl, by decide +kernel, by decide +kernel⟩
set_option maxHeartbeats 0 in
theorem ok_show_poly {f f1 : Addr} (d : Df K mg "show_poly" s_show_poly ["p"] f) (G_show_numbers : Def P w K mg base CX0 4 "show_numbers" f1 ["numbers"] (spShowL K)) (c_NONE : ∃ t, mg "NONE" = some (.str "-" t)) : Def P w K mg base CX0 5 "show_poly" f ["p"] (spShowP K) := by
  obtain ⟨t1, c_NONE⟩ := c_NONE
  refine d.ok (N := ["p"]) sc_show_poly (by rintro vs H Q E ⟨_, _, _, h, _⟩; rw [h]; rfl) (fun cdv A outer s H vs Q E hr h => ?_)
  obtain ⟨a, xs, qs, rfl, ha, n, hq, hl, k⟩ := h
  refine ⟨_, (pss_one (ps_ret (pe_ifExp (pt_truth (pv 0) (fun _ => rfl)) (pe_def G_show_numbers hr (pa_cons (pv 0) pa_nil) pass0) (pe_glob (v := .str "-") rfl c_NONE ⟨_, rfl⟩)))), ?_⟩
  rw [show start ["p"] [.ref a] = [some (.ref a)] from rfl]
  simp only [rLen, rLst, rSlS, rPartition, rStarts, iStr, rIntS, rJoin, rIxS, rSplitS, rInN, tComp_eq, tCompIf_eq, tSl, tSl3, tPart, tNoPart, rSlL, rPop, rAppend, capSt, List.map_cons, List.map_nil, Option.bind_none, Option.bind_some, Option.join_some, tSeq, tIfS, tAnd, tOr, tNot, tTest, tB, tOp, tUn, tBM0, tBM, tVar, tC, tCB, tRet, tAsg, gName, gSub, gTup, gCons, gNil, tCons, tNil, tPar, tTup, tLst, tIf, tAndV, tNotV, tDef, tCallX, tCallV, tDrop, tNext, tNever, tRaise, rI, rI0, rU, rBitLen, rIxL, rIxT, rSetL, rEq, rNe, rCount, rIndex, rSplit, rIsI, rCat, iRng1, iList, cxOf, cxR, cxX, Cx.nox, Cx.wish, Cx.body, Cx.suite, List.getElem?_cons_zero, List.getElem?_cons_succ, List.set_cons_zero, List.set_cons_succ, Option.some.injEq, V.int.injEq, V.bl.injEq, V.ref.injEq, V.str.injEq, exists_eq_left', exists_eq_left, exists_and_left, true_and, and_true, List.cons.injEq, reduceCtorEq, Bool.false_eq_true, if_false, if_true, exists_const, ↓reduceIte, tyV, List.length_cons, List.length_nil, exists_eq, List.append_nil, List.cons_append, List.nil_append, decide_eq_true_eq, not_true_eq_false, not_false_eq_true, Bool.not_eq_true', decide_eq_false_iff_not, Bool.not_true, Bool.not_false, and_assoc, false_and, false_or, or_false, TruV]
  have hlen := n.length
  refine ⟨_, .inl ⟨xs, ha, rfl⟩, ite2 (fun h => ⟨a, xs, qs, rfl, ha, n, hq, hl, fun H1 s1 => ?_⟩) (fun h => ?_)⟩
  · have := k H1 s1
    unfold showP at this
    rw [if_neg] at this
    · exact this
    · rintro rfl
      cases xs with
      | nil => cases h
      | cons x xs => simp at hlen
  · have := k H (Same.refl _)
    unfold showP at this
    rw [if_pos] at this
    · exact this
    · cases xs with
      | nil => exact List.eq_nil_of_length_eq_zero hlen.symm
      | cons x xs => exact absurd rfl h
abbrev s_show_table : Stmt := top 37
theorem sc_show_table : FnScope ["table"] ["table"] (defScope s_show_table) := ⟨rfl, rfl, rfl, by decide +kernel, rfl, by decide +kernel, by decide +kernel⟩
set_option maxHeartbeats 0 in
theorem ok_show_table {f f1 : Addr} (d : Df K mg "show_table" s_show_table ["table"] f) (G_show_numbers : Def P w K mg base CX0 4 "show_numbers" f1 ["numbers"] (spShowL K)) : Def P w K mg base CX0 5 "show_table" f ["table"] (spShowT K) := by
  refine d.ok (N := ["table"]) sc_show_table (by rintro vs H Q E ⟨_, _, _, h, _⟩; rw [h]; rfl) (fun cdv A outer s H vs Q E hr h => ?_)
  obtain ⟨a, ts, M, rfl, ha, R, hq, hl, k⟩ := h
  refine ⟨_, (pss_one (ps_ret (pe_bm PySem.F.plainAttrs_str PySem.F.slot_str_join PySem.F.type_str_join mt_join pe_str (pa_cons (pe_comp (Nc := ["row"]) (caps := [none]) rfl (Caps.of (osc := defScope s_show_table) (N := ["table"]) (ks := []) rfl rfl rfl rfl sub_nil (by decide +kernel)) (pi_list (pv 0)) (fun C s₂ H₂ fp pins => (pg_name (i := 0) (show List.Nodup (["row"] : List Str) by decide +kernel) rfl (Or.inl rfl) (Or.inr rfl))) (fun C s₂ H₂ fp pins => (pe_def G_show_numbers hr (pa_cons (pv 0) pa_nil) pass0))) pa_nil)))), ?_⟩
  rw [show start ["table"] [.ref a] = [some (.ref a)] from rfl]
  simp only [rLen, rLst, rSlS, rPartition, rStarts, iStr, rIntS, rJoin, rIxS, rSplitS, rInN, tComp_eq, tCompIf_eq, tSl, tSl3, tPart, tNoPart, rSlL, rPop, rAppend, capSt, List.map_cons, List.map_nil, Option.bind_none, Option.bind_some, Option.join_some, tSeq, tIfS, tAnd, tOr, tNot, tTest, tB, tOp, tUn, tBM0, tBM, tVar, tC, tCB, tRet, tAsg, gName, gSub, gTup, gCons, gNil, tCons, tNil, tPar, tTup, tLst, tIf, tAndV, tNotV, tDef, tCallX, tCallV, tDrop, tNext, tNever, tRaise, rI, rI0, rU, rBitLen, rIxL, rIxT, rSetL, rEq, rNe, rCount, rIndex, rSplit, rIsI, rCat, iRng1, iList, cxOf, cxR, cxX, Cx.nox, Cx.wish, Cx.body, Cx.suite, List.getElem?_cons_zero, List.getElem?_cons_succ, List.set_cons_zero, List.set_cons_succ, Option.some.injEq, V.int.injEq, V.bl.injEq, V.ref.injEq, V.str.injEq, exists_eq_left', exists_eq_left, exists_and_left, true_and, and_true, List.cons.injEq, reduceCtorEq, Bool.false_eq_true, if_false, if_true, exists_const, ↓reduceIte, tyV, List.length_cons, List.length_nil, exists_eq, List.append_nil, List.cons_append, List.nil_append, decide_eq_true_eq, not_true_eq_false, not_false_eq_true, Bool.not_eq_true', decide_eq_false_iff_not, Bool.not_true, Bool.not_false, and_assoc, false_and, false_or, or_false]
  refine ⟨⟨_, SqL.of ha⟩, fun D hD => comp_rows (fun t xs L H1 Q' et nt hb hl' k' => ⟨_, rfl, t, xs, L, rfl, SqL.of et, nt, hb, hl', k'⟩) ts M ha R hq hl hD fun H2 s2 e2 => ⟨D, rfl, M.map showL, SqL.of e2, Nat.le_trans (lenS_tab hq hl) (by decide), k H2 s2⟩⟩
abbrev s__law_show_poly : Stmt := top 60
theorem sc__law_show_poly : FnScope ["_law_p"] ["_law_p"] (defScope s__law_show_poly) := ⟨rfl, rfl, rfl, by decide +kernel, rfl, by decide +kernel, by decide +kernel⟩
set_option maxHeartbeats 0 in
theorem ok__law_show_poly {f f1 : Addr} (d : Df K mg "_law_show_poly" s__law_show_poly ["_law_p"] f) (G__law_show_number : Def P w K mg base CX0 1 "_law_show_number" f1 ["_law_number_here"] (spShowN K)) : Def P w K mg base CX0 2 "_law_show_poly" f ["_law_p"] (spShowP K) := by
  refine d.ok (N := ["_law_p"]) sc__law_show_poly (by rintro vs H Q E ⟨_, _, _, h, _⟩; rw [h]; rfl) (fun cdv A outer s H vs Q E hr h => ?_)
  obtain ⟨a, xs, qs, rfl, ha, n, hq, hl, k⟩ := h
  have hu := hr.units
  refine ⟨_, (pss_one (ps_ret (pe_ifExp (pt_cmpR (op_neD hu) (pv 0) (pe_lst pa_nil) (nomark _)) (pe_bm PySem.F.plainAttrs_str PySem.F.slot_str_join PySem.F.type_str_join mt_join pe_str (pa_cons (pe_comp (Nc := ["_law_number_here"]) (caps := [none]) rfl (Caps.of (osc := defScope s__law_show_poly) (N := ["_law_p"]) (ks := []) rfl rfl rfl rfl sub_nil (by decide +kernel)) (pi_list (pv 0)) (fun C s₂ H₂ fp pins => (pg_name (i := 0) (show List.Nodup (["_law_number_here"] : List Str) by decide +kernel) rfl (Or.inl rfl) (Or.inr rfl))) (fun C s₂ H₂ fp pins => (pe_def G__law_show_number hr (pa_cons (pv 0) pa_nil) pass0))) pa_nil)) pe_str))), ?_⟩
  rw [show start ["_law_p"] [.ref a] = [some (.ref a)] from rfl]
  simp only [rLen, rLst, rSlS, rPartition, rStarts, iStr, rIntS, rJoin, rIxS, rSplitS, rInN, tComp_eq, tCompIf_eq, tSl, tSl3, tPart, tNoPart, rSlL, rPop, rAppend, capSt, List.map_cons, List.map_nil, Option.bind_none, Option.bind_some, Option.join_some, tSeq, tIfS, tAnd, tOr, tNot, tTest, tB, tOp, tUn, tBM0, tBM, tVar, tC, tCB, tRet, tAsg, gName, gSub, gTup, gCons, gNil, tCons, tNil, tPar, tTup, tLst, tIf, tAndV, tNotV, tDef, tCallX, tCallV, tDrop, tNext, tNever, tRaise, rI, rI0, rU, rBitLen, rIxL, rIxT, rSetL, rEq, rNe, rCount, rIndex, rSplit, rIsI, rCat, iRng1, iList, cxOf, cxR, cxX, Cx.nox, Cx.wish, Cx.body, Cx.suite, List.getElem?_cons_zero, List.getElem?_cons_succ, List.set_cons_zero, List.set_cons_succ, Option.some.injEq, V.int.injEq, V.bl.injEq, V.ref.injEq, V.str.injEq, exists_eq_left', exists_eq_left, exists_and_left, true_and, and_true, List.cons.injEq, reduceCtorEq, Bool.false_eq_true, if_false, if_true, exists_const, ↓reduceIte, tyV, List.length_cons, List.length_nil, exists_eq, List.append_nil, List.cons_append, List.nil_append, decide_eq_true_eq, not_true_eq_false, not_false_eq_true, Bool.not_eq_true', decide_eq_false_iff_not, Bool.not_true, Bool.not_false, and_assoc, false_and, false_or, or_false]
  have hlen := n.length
  refine ⟨Nat.zero_le _, fun p hp => ?_⟩
  have S1 := Same.new hp (.lst [])
  refine ⟨dList qs, dList [], rfl, .lst (S1.seq ha) (n.mono S1.tups).isDs, .lst (SqL.of upd_same) .nil, okD_list _ _, Nat.le_trans (dp_list _) (by decide), ?_⟩
  rw [eqD_list]
  refine ⟨_, rfl, ite2 (fun h => ⟨⟨_, S1.seq ha⟩, fun D hD => comp_show xs qs (S1.seq ha) (n.mono S1.tups) hq hl hD fun H2 s2 e2 => ⟨D, rfl, qs.map showS, SqL.of e2, Nat.le_trans (lenS_num hq hl) (by decide), ?_⟩⟩) (fun h => ?_)⟩
  · have := k H2 (S1.trans s2)
    unfold showP at this
    rw [if_neg (fun z => by rw [z] at h; simp at h)] at this
    exact this
  · have := k _ S1
    unfold showP at this
    rw [if_pos (by simpa using h)] at this
    exact this
abbrev s__law_show_table : Stmt := top 61
theorem sc__law_show_table : FnScope ["_law_table"] ["_law_table"] (defScope s__law_show_table) := ⟨rfl, rfl, rfl, by decide +kernel, rfl, by decide +kernel, by decide +kernel⟩
set_option maxHeartbeats 0 in
theorem ok__law_show_table {f f1 : Addr} (d : Df K mg "_law_show_table" s__law_show_table ["_law_table"] f) (G__law_show_number : Def P w K mg base CX0 1 "_law_show_number" f1 ["_law_number_here"] (spShowN K)) : Def P w K mg base CX0 2 "_law_show_table" f ["_law_table"] (spShowT K) := by
  refine d.ok (N := ["_law_table"]) sc__law_show_table (by rintro vs H Q E ⟨_, _, _, h, _⟩; rw [h]; rfl) (fun cdv A outer s H vs Q E hr h => ?_)
  obtain ⟨a, ts, M, rfl, ha, R, hq, hl, k⟩ := h
  refine ⟨_, (pss_one (ps_ret (pe_bm PySem.F.plainAttrs_str PySem.F.slot_str_join PySem.F.type_str_join mt_join pe_str (pa_cons (pe_comp (Nc := ["_law_row"]) (caps := [none]) rfl (Caps.of (osc := defScope s__law_show_table) (N := ["_law_table"]) (ks := []) rfl rfl rfl rfl sub_nil (by decide +kernel)) (pi_list (pv 0)) (fun C s₂ H₂ fp pins => (pg_name (i := 0) (show List.Nodup (["_law_row"] : List Str) by decide +kernel) rfl (Or.inl rfl) (Or.inr rfl))) (fun C s₂ H₂ fp pins => (show PE _ _ (tBM K "str" _ _ _) from by exact (pe_bm PySem.F.plainAttrs_str PySem.F.slot_str_join PySem.F.type_str_join (by exact mt_join : MtR _ "str.join" (rJoin K)) pe_str (pa_cons (pe_comp (Nc := ["_law_number_here"]) (caps := [none]) rfl (Caps.of (osc := _) (N := ["_law_row"]) (ks := []) rfl rfl rfl rfl sub_nil (by kernel_rfl)) (show PI _ _ _ (iList K _) from by exact (pi_list (pv 0))) (fun C s₂ H₂ fp pins => (pg_name (i := 0) (show List.Nodup (["_law_number_here"] : List Str) by decide +kernel) rfl (Or.inl rfl) (Or.inr rfl))) (fun C s₂ H₂ fp pins => (pe_def G__law_show_number hr (pa_cons (pv 0) pa_nil) pass0))) pa_nil))))) pa_nil)))), ?_⟩
  rw [show start ["_law_table"] [.ref a] = [some (.ref a)] from rfl]
  simp only [rLen, rLst, rSlS, rPartition, rStarts, iStr, rIntS, rJoin, rIxS, rSplitS, rInN, tComp_eq, tCompIf_eq, tSl, tSl3, tPart, tNoPart, rSlL, rPop, rAppend, capSt, List.map_cons, List.map_nil, Option.bind_none, Option.bind_some, Option.join_some, tSeq, tIfS, tAnd, tOr, tNot, tTest, tB, tOp, tUn, tBM0, tBM, tVar, tC, tCB, tRet, tAsg, gName, gSub, gTup, gCons, gNil, tCons, tNil, tPar, tTup, tLst, tIf, tAndV, tNotV, tDef, tCallX, tCallV, tDrop, tNext, tNever, tRaise, rI, rI0, rU, rBitLen, rIxL, rIxT, rSetL, rEq, rNe, rCount, rIndex, rSplit, rIsI, rCat, iRng1, iList, cxOf, cxR, cxX, Cx.nox, Cx.wish, Cx.body, Cx.suite, List.getElem?_cons_zero, List.getElem?_cons_succ, List.set_cons_zero, List.set_cons_succ, Option.some.injEq, V.int.injEq, V.bl.injEq, V.ref.injEq, V.str.injEq, exists_eq_left', exists_eq_left, exists_and_left, true_and, and_true, List.cons.injEq, reduceCtorEq, Bool.false_eq_true, if_false, if_true, exists_const, ↓reduceIte, tyV, List.length_cons, List.length_nil, exists_eq, List.append_nil, List.cons_append, List.nil_append, decide_eq_true_eq, not_true_eq_false, not_false_eq_true, Bool.not_eq_true', decide_eq_false_iff_not, Bool.not_true, Bool.not_false, and_assoc, false_and, false_or, or_false]
  refine ⟨⟨_, SqL.of ha⟩, fun D hD => comp_rows (fun t xs L H1 Q' et nt hb hl' k' => ?_) ts M ha R hq hl hD fun H2 s2 e2 => ⟨D, rfl, M.map showL, SqL.of e2, Nat.le_trans (lenS_tab hq hl) (by decide), k H2 s2⟩⟩
  simp only [rLen, rLst, rSlS, rPartition, rStarts, iStr, rIntS, rJoin, rIxS, rSplitS, rInN, tComp_eq, tCompIf_eq, tSl, tSl3, tPart, tNoPart, rSlL, rPop, rAppend, capSt, List.map_cons, List.map_nil, Option.bind_none, Option.bind_some, Option.join_some, tSeq, tIfS, tAnd, tOr, tNot, tTest, tB, tOp, tUn, tBM0, tBM, tVar, tC, tCB, tRet, tAsg, gName, gSub, gTup, gCons, gNil, tCons, tNil, tPar, tTup, tLst, tIf, tAndV, tNotV, tDef, tCallX, tCallV, tDrop, tNext, tNever, tRaise, rI, rI0, rU, rBitLen, rIxL, rIxT, rSetL, rEq, rNe, rCount, rIndex, rSplit, rIsI, rCat, iRng1, iList, cxOf, cxR, cxX, Cx.nox, Cx.wish, Cx.body, Cx.suite, List.getElem?_cons_zero, List.getElem?_cons_succ, List.set_cons_zero, List.set_cons_succ, Option.some.injEq, V.int.injEq, V.bl.injEq, V.ref.injEq, V.str.injEq, exists_eq_left', exists_eq_left, exists_and_left, true_and, and_true, List.cons.injEq, reduceCtorEq, Bool.false_eq_true, if_false, if_true, exists_const, ↓reduceIte, tyV, List.length_cons, List.length_nil, exists_eq, List.append_nil, List.cons_append, List.nil_append, decide_eq_true_eq, not_true_eq_false, not_false_eq_true, Bool.not_eq_true', decide_eq_false_iff_not, Bool.not_true, Bool.not_false, and_assoc, false_and, false_or, or_false]
  exact ⟨⟨_, SqL.of et⟩, fun D2 hD2 => comp_show xs L (SqL.of et) nt hb hl' hD2 fun H2 s2 e2 => ⟨D2, rfl, L.map showS, SqL.of e2, Nat.le_trans (lenS_num hb hl') (by decide), k' H2 s2⟩⟩
end
end R

set_option maxRecDepth 100000
namespace R
open PySem L2 PyProof.Rows
section
variable {P : Program} {w : World} {K : PySem.W.Frag} {mg : Str → Option Value} {base : Heap}
def spOther : Sp := fun vs H Q _ => ∃ u kd, vs = [.ref u, .int kd] ∧ UrnAt H u ∧ ∀ r q H', Sm q → q ≠ 0 → SameX u H H' → UrnAt H' u → H' r = some (.tup (numV q)) → Q (.ref r) H'
abbrev s__law_other : Stmt := top 51
theorem sc__law_other : FnScope ["_law_urn_here", "_law_kind_here", "_law_found"] ["_law_urn_here", "_law_kind_here"] (defScope s__law_other) := ⟨rfl, rfl, rfl, by decide +kernel, rfl, by decide +kernel, by decide +kernel⟩
set_option maxHeartbeats 0 in
theorem ok__law_other {f fd fl : Addr} (d : Df K mg "_law_other" s__law_other ["_law_urn_here", "_law_kind_here"] f) (G__law_draw : Def P w K mg base CX0 1 "_law_draw" fd ["_law_urn_here", "_law_many"] spDraw) (G__law_number : Def P w K mg base CX0 2 "_law_number" fl ["_law_urn_here", "_law_kind_here"] spNumber) : Def P w K mg base CX0 3 "_law_other" f ["_law_urn_here", "_law_kind_here"] spOther := by
  refine d.ok (N := ["_law_urn_here", "_law_kind_here", "_law_found"]) sc__law_other (fun vs H Q E ⟨u, kd, h, _⟩ => by rw [h]; rfl) (fun cdv A outer s H vs Q E hr h => ?_)
  obtain ⟨u, kd, rfl, hu, k⟩ := h
  refine ⟨_, (pss_cons (ps_set (i := 2) sc__law_other.nd rfl (Or.inl rfl) (pe_def G__law_number hr (pa_cons (pv 0) (pa_cons (pv 1) pa_nil)) pass0))
      (pss_cons (ps_if (pt_cmpR op_eq (pe_ix ix_tup (pv 2) pe_int (fun _ _ => rfl)) pe_int (nomark _)) (pss_one (ps_ret (pe_tup (pa_cons (pe_op op_add pe_int (pe_def G__law_draw hr (pa_cons (pv 0) (pa_cons pe_int pa_nil)) pass0)) (pa_cons pe_int pa_nil))))) pss_nil)
      (pss_one (ps_ret (pv 2))))), ?_⟩
  rw [show start ["_law_urn_here", "_law_kind_here", "_law_found"] [.ref u, .int kd] = [some (.ref u), some (.int kd), none] from rfl]
  simp only [rLen, rLst, rSlS, rPartition, rStarts, iStr, rIntS, rJoin, rIxS, rSplitS, rInN, tComp_eq, tCompIf_eq, tSl, tSl3, tPart, tNoPart, rSlL, rPop, rAppend, capSt, List.map_cons, List.map_nil, Option.bind_none, Option.bind_some, Option.join_some, tSeq, tIfS, tAnd, tOr, tNot, tTest, tB, tOp, tUn, tBM0, tBM, tVar, tC, tCB, tRet, tAsg, gName, gSub, gTup, gCons, gNil, tCons, tNil, tPar, tTup, tLst, tIf, tAndV, tNotV, tDef, tCallX, tCallV, tDrop, tNext, tNever, tRaise, rI, rI0, rU, rBitLen, rIxL, rIxT, rSetL, rEq, rNe, rCount, rIndex, rSplit, rIsI, rCat, iRng1, iList, cxOf, cxR, cxX, Cx.nox, Cx.wish, Cx.body, Cx.suite, List.getElem?_cons_zero, List.getElem?_cons_succ, List.set_cons_zero, List.set_cons_succ, Option.some.injEq, V.int.injEq, V.bl.injEq, V.ref.injEq, V.str.injEq, exists_eq_left', exists_eq_left, exists_and_left, true_and, and_true, List.cons.injEq, reduceCtorEq, Bool.false_eq_true, if_false, if_true, exists_const, ↓reduceIte, tyV, List.length_cons, List.length_nil, exists_eq, List.append_nil, List.cons_append, List.nil_append, decide_eq_true_eq, not_true_eq_false, not_false_eq_true, Bool.not_eq_true', decide_eq_false_iff_not, Bool.not_true, Bool.not_false, and_assoc, false_and, false_or, or_false, spDraw]
  refine ⟨u, kd, rfl, hu, fun r q H1 sm s1 u1 e1 => ?_⟩
  refine ⟨r, rfl, _, SqT.of e1, _, at0 q, rfl, ite2 (fun _ => ?_) (fun hn => ?_)⟩
  · refine ⟨u1, by decide, by decide, fun r2 H2 a2 b2 s2 u2 => ⟨small2, fun l hl => ?_⟩⟩
    have hd := num_den_of (n := 1 + r2) (d := 1) (by decide) (by simp)
    refine k l (Rat.divInt (1 + r2) 1) _ (sm_of (by decide) (by omega) (by decide)) ?_ (s1.trans (s2.trans (Same.x (Same.new hl _) u))) (urn_new u2 hl) ?_
    · intro z
      rw [z] at hd
      have : (0 : Rat).num = 0 := rfl
      omega
    · rw [upd_same]
      unfold numV
      rw [hd.1, hd.2]
  · refine k r q H1 sm (fun z => hn ?_) s1 u1 e1
    rw [z]; rfl
def spTrim (K : PySem.W.Frag) : Sp := fun vs H Q _ => ∃ a xs qs, vs = [.ref a] ∧ SqL K H a xs ∧ Nums H xs qs ∧ ∀ m r H', IsTl qs m → Same H H' → H r = none → H' r = some (.lst (xs.take m)) → Q (.ref r) H'
abbrev s__law_trim : Stmt := top 52
theorem sc__law_trim : FnScope ["_law_numbers", "_law_found"] ["_law_numbers"] (defScope s__law_trim) := ⟨rfl, rfl, rfl, by decide +kernel, rfl, by decide +kernel, by decide +kernel⟩
theorem last_at {α : Type} {xs : List α} {x : α} (h : xs[xs.length - 1]? = some x) : atI xs (-1) = some x := by
  have hp : xs.length - 1 < xs.length := (List.getElem?_eq_some_iff.mp h).1
  have e : ixN xs.length (-1) = some (xs.length - 1) := by
    unfold ixN
    rw [if_neg (by decide)]
    rw [if_pos (by omega)]
    congr 1
    omega
  unfold atI
  rw [e]
  exact h
set_option maxHeartbeats 0 in
theorem ok__law_trim {f : Addr} (d : Df K mg "_law_trim" s__law_trim ["_law_numbers"] f) (n_list : mg "list" = none) : Def P w K mg base CX0 1 "_law_trim" f ["_law_numbers"] (spTrim K) := by
  refine d.ok (N := ["_law_numbers", "_law_found"]) sc__law_trim (fun vs H Q E ⟨a, xs, qs, h, _⟩ => by rw [h]; rfl) (fun cdv A outer s H vs Q E hr h => ?_)
  obtain ⟨a, xs, qs, rfl, hS, hN, k⟩ := h
  have hu := hr.units
  refine ⟨_, (pss_cons (ps_set (i := 1) sc__law_trim.nd rfl (Or.inl rfl) (pe_callTy call_list_of rfl n_list (by decide +kernel) (pa_cons (pv 0) pa_nil)))
      (pss_cons (ps_while PassesOwn.never (PW.pt (pw_and (pt_cmpR (op_neD hu) (pv 1) (pe_lst pa_nil) (nomark _)) (pw_and1 (pt_cmpR op_eq (pe_ix ix_tup (pe_ix ix_list (pv 1) (pe_un un_neg pe_int) (fun _ _ => rfl)) pe_int (fun _ _ => rfl)) pe_int (nomark _))))) (pss_one (ps_expr (pe_bm0 PySem.F.plainAttrs_list PySem.F.slot_list_pop PySem.F.type_list_pop mt_pop (pv 1)))))
      (pss_one (ps_ret (pv 1))))), ?_⟩
  rw [show start ["_law_numbers", "_law_found"] [.ref a] = [some (.ref a), none] from rfl]
  simp only [rLen, rLst, rSlS, rPartition, rStarts, iStr, rIntS, rJoin, rIxS, rSplitS, rInN, tComp_eq, tCompIf_eq, tSl, tSl3, tPart, tNoPart, rSlL, rPop, rAppend, capSt, List.map_cons, List.map_nil, Option.bind_none, Option.bind_some, Option.join_some, tSeq, tIfS, tAnd, tOr, tNot, tTest, tB, tOp, tUn, tBM0, tBM, tVar, tC, tCB, tRet, tAsg, gName, gSub, gTup, gCons, gNil, tCons, tNil, tPar, tTup, tLst, tIf, tAndV, tNotV, tDef, tCallX, tCallV, tDrop, tNext, tNever, tRaise, rI, rI0, rU, rBitLen, rIxL, rIxT, rSetL, rEq, rNe, rCount, rIndex, rSplit, rIsI, rCat, iRng1, iList, cxOf, cxR, cxX, Cx.nox, Cx.wish, Cx.body, Cx.suite, List.getElem?_cons_zero, List.getElem?_cons_succ, List.set_cons_zero, List.set_cons_succ, Option.some.injEq, V.int.injEq, V.bl.injEq, V.ref.injEq, V.str.injEq, exists_eq_left', exists_eq_left, exists_and_left, true_and, and_true, List.cons.injEq, reduceCtorEq, Bool.false_eq_true, if_false, if_true, exists_const, ↓reduceIte, tyV, List.length_cons, List.length_nil, exists_eq, List.append_nil, List.cons_append, List.nil_append, decide_eq_true_eq, not_true_eq_false, not_false_eq_true, Bool.not_eq_true', decide_eq_false_iff_not, Bool.not_true, Bool.not_false, and_assoc, false_and, false_or, or_false]
  refine ⟨_, .inl hS, fun l hl => ?_⟩
  refine while_to (fun σ H1 => σ = [some (.ref a), some (.ref l)] ∧ ∃ m, m ≤ qs.length ∧ (∀ (i : Nat) (q : Rat), m ≤ i → qs[i]? = some q → q = 0) ∧ Same H H1 ∧ H1 l = some (.lst (xs.take m))) (fun σ H1 => match H1 l with | some (.lst ys) => ys.length | _ => 0)
    ⟨rfl, qs.length, Nat.le_refl _, fun i q hi e => ?_, Same.new hl _, ?_⟩ ?_
  · rw [List.getElem?_eq_none hi] at e; cases e
  · rw [upd_same, ← hN.length, List.take_length]
  · rintro σ H1 ⟨rfl, m, hm, hz, sm, e1⟩
    have hml : (xs.take m).length = m := by rw [List.length_take, hN.length]; omega
    simp only [rLen, rLst, rSlS, rPartition, rStarts, iStr, rIntS, rJoin, rIxS, rSplitS, rInN, tComp_eq, tCompIf_eq, tSl, tSl3, tPart, tNoPart, rSlL, rPop, rAppend, capSt, List.map_cons, List.map_nil, Option.bind_none, Option.bind_some, Option.join_some, tSeq, tIfS, tAnd, tOr, tNot, tTest, tB, tOp, tUn, tBM0, tBM, tVar, tC, tCB, tRet, tAsg, gName, gSub, gTup, gCons, gNil, tCons, tNil, tPar, tTup, tLst, tIf, tAndV, tNotV, tDef, tCallX, tCallV, tDrop, tNext, tNever, tRaise, rI, rI0, rU, rBitLen, rIxL, rIxT, rSetL, rEq, rNe, rCount, rIndex, rSplit, rIsI, rCat, iRng1, iList, cxOf, cxR, cxX, Cx.nox, Cx.wish, Cx.body, Cx.suite, List.getElem?_cons_zero, List.getElem?_cons_succ, List.set_cons_zero, List.set_cons_succ, Option.some.injEq, V.int.injEq, V.bl.injEq, V.ref.injEq, V.str.injEq, exists_eq_left', exists_eq_left, exists_and_left, true_and, and_true, List.cons.injEq, reduceCtorEq, Bool.false_eq_true, if_false, if_true, exists_const, ↓reduceIte, tyV, List.length_cons, List.length_nil, exists_eq, List.append_nil, List.cons_append, List.nil_append, decide_eq_true_eq, not_true_eq_false, not_false_eq_true, Bool.not_eq_true', decide_eq_false_iff_not, Bool.not_true, Bool.not_false, and_assoc, false_and, false_or, or_false]
    refine ⟨by decide, fun p hp => ?_⟩
    have n1 : Nums H1 (xs.take m) (qs.take m) := (hN.mono sm.tups).take m
    have pl : p ≠ l := (ne_of_none e1 hp).symm
    have e2 : upd H1 p (.lst []) l = some (.lst (xs.take m)) := by rw [upd_ne pl.symm]; exact e1
    have n2 : Nums (upd H1 p (.lst [])) (xs.take m) (qs.take m) := n1.mono (TupS.new hp)
    refine ⟨dList (qs.take m), dList [], rfl, isD_list (SqL.of e2) n2, isD_list (SqL.of upd_same) .nil, okD_list _ _, Nat.le_trans (dp_list _) (by decide), ?_⟩
    rw [eqD_list]
    by_cases h0 : m = 0
    · subst h0
      simp only [List.take_zero, decide_true, Bool.not_true, Bool.false_eq_true, if_false]
      refine ⟨false, rfl, ite2 (fun h => absurd h (by decide)) fun _ => k 0 l _ ⟨Nat.zero_le _, hz, fun h => absurd rfl h⟩ (sm.trans (Same.new hp _)) hl ?_⟩
      rw [e2]
    · have hlt : m - 1 < qs.length := by omega
      have hne : qs.take m ≠ [] := fun z => by
        have := congrArg List.length z
        rw [List.length_take, List.length_nil] at this
        omega
      simp only [hne, decide_false, Bool.not_false]
      obtain ⟨pv, hv, hpv⟩ := n2.get (i := m - 1) (q := qs[m - 1]) (by rw [List.getElem?_take_of_lt (by omega)]; exact List.getElem?_eq_getElem hlt)
      refine ⟨true, rfl, ite2 (fun _ => ?_) (fun h => absurd rfl h)⟩
      refine ⟨_, SqL.of e2, _, last_at (by rw [hml]; exact hv), _, rfl, _, SqT.of hpv, _, at0 _, rfl, ?_⟩
      refine ite2 (fun hn => ?_) (fun hn => ?_)
      · have hn' : qs[m - 1].num = 0 := V.int.inj hn
        refine WhB.mk ?_
        simp only [rLen, rLst, rSlS, rPartition, rStarts, iStr, rIntS, rJoin, rIxS, rSplitS, rInN, tComp_eq, tCompIf_eq, tSl, tSl3, tPart, tNoPart, rSlL, rPop, rAppend, capSt, List.map_cons, List.map_nil, Option.bind_none, Option.bind_some, Option.join_some, tSeq, tIfS, tAnd, tOr, tNot, tTest, tB, tOp, tUn, tBM0, tBM, tVar, tC, tCB, tRet, tAsg, gName, gSub, gTup, gCons, gNil, tCons, tNil, tPar, tTup, tLst, tIf, tAndV, tNotV, tDef, tCallX, tCallV, tDrop, tNext, tNever, tRaise, rI, rI0, rU, rBitLen, rIxL, rIxT, rSetL, rEq, rNe, rCount, rIndex, rSplit, rIsI, rCat, iRng1, iList, cxOf, cxR, cxX, Cx.nox, Cx.wish, Cx.body, Cx.suite, List.getElem?_cons_zero, List.getElem?_cons_succ, List.set_cons_zero, List.set_cons_succ, Option.some.injEq, V.int.injEq, V.bl.injEq, V.ref.injEq, V.str.injEq, exists_eq_left', exists_eq_left, exists_and_left, true_and, and_true, List.cons.injEq, reduceCtorEq, Bool.false_eq_true, if_false, if_true, exists_const, ↓reduceIte, tyV, List.length_cons, List.length_nil, exists_eq, List.append_nil, List.cons_append, List.nil_append, decide_eq_true_eq, not_true_eq_false, not_false_eq_true, Bool.not_eq_true', decide_eq_false_iff_not, Bool.not_true, Bool.not_false, and_assoc, false_and, false_or, or_false]
        refine ⟨.inl ⟨_, SqL.of e2⟩, _, e2, _, by rw [hml]; exact hv, WhN.mk ⟨rfl, m - 1, by omega, fun i q hi e => ?_, (sm.trans (Same.new hp _)).over hl _, ?_⟩ ?_⟩
        · by_cases hi' : i = m - 1
          · subst hi'
            rw [List.getElem?_eq_getElem hlt] at e
            cases e
            exact num_zero.mp hn'
          · exact hz i q (by omega) e
        · rw [upd_same, List.dropLast_eq_take, hml, List.take_take, Nat.min_eq_left (by omega)]
        · rw [upd_same]
          simp only [e1, List.length_dropLast]
          omega
      · have hn' : qs[m - 1] ≠ 0 := fun z => hn (by rw [z]; rfl)
        exact k m l _ ⟨hm, hz, fun _ q e => by rw [List.getElem?_eq_getElem hlt] at e; cases e; exact hn'⟩ (sm.trans (Same.new hp _)) hl e2
end
end R

set_option maxRecDepth 100000
namespace R
open PySem L2 PyProof.Rows
section
variable {P : Program} {w : World} {K : PySem.W.Frag} {mg : Str → Option Value} {base : Heap}
def spDrawnPoly : Sp := fun vs H Q _ => ∃ u kd most, vs = [.ref u, .int kd, .int most] ∧ UrnAt H u ∧ 0 ≤ most ∧ most < 1000 ∧ ∀ r xs qs q H', SameX u H H' → UrnAt H' u → H r = none → H' r = some (.lst xs) → Nums H' xs (qs ++ [q]) → (∀ p ∈ qs, Sm p) → Sm q → q ≠ 0 → (qs.length : Int) ≤ most → Q (.ref r) H'
abbrev s__law_drawn_poly : Stmt := top 53
theorem sc__law_drawn_poly : FnScope ["_law_urn_here", "_law_kind_here", "_law_most"] ["_law_urn_here", "_law_kind_here", "_law_most"] (defScope s__law_drawn_poly) := ⟨rfl, rfl, rfl, by decide +kernel, rfl, by decide +kernel, by decide +kernel⟩
set_option maxHeartbeats 0 in
theorem ok__law_drawn_poly {f fd fn fo : Addr} (d : Df K mg "_law_drawn_poly" s__law_drawn_poly ["_law_urn_here", "_law_kind_here", "_law_most"] f) (G__law_draw : Def P w K mg base CX0 1 "_law_draw" fd ["_law_urn_here", "_law_many"] spDraw) (G__law_number : Def P w K mg base CX0 2 "_law_number" fn ["_law_urn_here", "_law_kind_here"] spNumber) (G__law_other : Def P w K mg base CX0 3 "_law_other" fo ["_law_urn_here", "_law_kind_here"] spOther)
    (n_range : mg "range" = none) : Def P w K mg base CX0 4 "_law_drawn_poly" f ["_law_urn_here", "_law_kind_here", "_law_most"] spDrawnPoly := by
  refine d.ok (N := ["_law_urn_here", "_law_kind_here", "_law_most"]) sc__law_drawn_poly (fun vs H Q E ⟨u, kd, mo, h, _⟩ => by rw [h]; rfl) (fun cdv A outer s H vs Q E hr h => ?_)
  obtain ⟨u, kd, most, rfl, hu, m0, m1, k⟩ := h
  refine ⟨_, (pss_one (ps_ret (pe_op op_cat (pe_comp (Nc := ["_law_urn_here", "_law_kind_here", "_law_i"]) (caps := [some 0, some 1, none]) rfl (Caps.of (osc := defScope s__law_drawn_poly) (N := ["_law_urn_here", "_law_kind_here", "_law_most"]) (ks := ["_law_urn_here", "_law_kind_here"]) rfl rfl rfl rfl (sub_cons rfl (sub_cons rfl sub_nil)) (by decide +kernel)) (pi_range1 rfl n_range (pa_cons (pe_def G__law_draw hr (pa_cons (pv 0) (pa_cons (pe_op op_add (pv 2) pe_int) pa_nil)) pass0) pa_nil)) (fun C s₂ H₂ fp pins => (pg_name (i := 2) (show List.Nodup (["_law_urn_here", "_law_kind_here", "_law_i"] : List Str) by decide +kernel) rfl (Or.inl rfl) (Or.inr rfl))) (fun C s₂ H₂ fp pins => (pe_def G__law_number hr (pa_cons (pv 0) (pa_cons (pv 1) pa_nil)) pass0))) (pe_lst (pa_cons (pe_def G__law_other hr (pa_cons (pv 0) (pa_cons (pv 1) pa_nil)) pass0) pa_nil))))), ?_⟩
  rw [show start ["_law_urn_here", "_law_kind_here", "_law_most"] [.ref u, .int kd, .int most] = [some (.ref u), some (.int kd), some (.int most)] from rfl]
  simp only [rLen, rLst, rSlS, rPartition, rStarts, iStr, rIntS, rJoin, rIxS, rSplitS, rInN, tComp_eq, tCompIf_eq, tSl, tSl3, tPart, tNoPart, rSlL, rPop, rAppend, capSt, List.map_cons, List.map_nil, Option.bind_none, Option.bind_some, Option.join_some, tSeq, tIfS, tAnd, tOr, tNot, tTest, tB, tOp, tUn, tBM0, tBM, tVar, tC, tCB, tRet, tAsg, gName, gSub, gTup, gCons, gNil, tCons, tNil, tPar, tTup, tLst, tIf, tAndV, tNotV, tDef, tCallX, tCallV, tDrop, tNext, tNever, tRaise, rI, rI0, rU, rBitLen, rIxL, rIxT, rSetL, rEq, rNe, rCount, rIndex, rSplit, rIsI, rCat, iRng1, iList, cxOf, cxR, cxX, Cx.nox, Cx.wish, Cx.body, Cx.suite, List.getElem?_cons_zero, List.getElem?_cons_succ, List.set_cons_zero, List.set_cons_succ, Option.some.injEq, V.int.injEq, V.bl.injEq, V.ref.injEq, V.str.injEq, exists_eq_left', exists_eq_left, exists_and_left, true_and, and_true, List.cons.injEq, reduceCtorEq, Bool.false_eq_true, if_false, if_true, exists_const, ↓reduceIte, tyV, List.length_cons, List.length_nil, exists_eq, List.append_nil, List.cons_append, List.nil_append, decide_eq_true_eq, not_true_eq_false, not_false_eq_true, Bool.not_eq_true', decide_eq_false_iff_not, Bool.not_true, Bool.not_false, and_assoc, false_and, false_or, or_false, spDraw]
  refine ⟨hu, by omega, by omega, fun r1 H1 a1 b1 s1 u1 => ⟨by omega, by omega, fun D hD => ?_⟩⟩
  have hDu : D ≠ u := urn_ne u1 hD
  refine cw_range (fun i σ H2 => ∃ o, σ = [some (.ref u), some (.int kd), o] ∧ SameX u H1 H2 ∧ UrnAt H2 u ∧ ∃ xs qs, H2 D = some (.lst xs) ∧ Nums H2 xs qs ∧ qs.length = i ∧ ∀ p ∈ qs, Sm p)
    ⟨_, rfl, Same.x (Same.new hD _) u, urn_new u1 hD, [], [], upd_same, .nil, rfl, by simp⟩ ?_ ?_
  · rintro i σ H2 hi ⟨o, rfl, s2, u2, xs, qs, e, n, hl, hs⟩
    simp only [rLen, rLst, rSlS, rPartition, rStarts, iStr, rIntS, rJoin, rIxS, rSplitS, rInN, tComp_eq, tCompIf_eq, tSl, tSl3, tPart, tNoPart, rSlL, rPop, rAppend, capSt, List.map_cons, List.map_nil, Option.bind_none, Option.bind_some, Option.join_some, tSeq, tIfS, tAnd, tOr, tNot, tTest, tB, tOp, tUn, tBM0, tBM, tVar, tC, tCB, tRet, tAsg, gName, gSub, gTup, gCons, gNil, tCons, tNil, tPar, tTup, tLst, tIf, tAndV, tNotV, tDef, tCallX, tCallV, tDrop, tNext, tNever, tRaise, rI, rI0, rU, rBitLen, rIxL, rIxT, rSetL, rEq, rNe, rCount, rIndex, rSplit, rIsI, rCat, iRng1, iList, cxOf, cxR, cxX, Cx.nox, Cx.wish, Cx.body, Cx.suite, List.getElem?_cons_zero, List.getElem?_cons_succ, List.set_cons_zero, List.set_cons_succ, Option.some.injEq, V.int.injEq, V.bl.injEq, V.ref.injEq, V.str.injEq, exists_eq_left', exists_eq_left, exists_and_left, true_and, and_true, List.cons.injEq, reduceCtorEq, Bool.false_eq_true, if_false, if_true, exists_const, ↓reduceIte, tyV, List.length_cons, List.length_nil, exists_eq, List.append_nil, List.cons_append, List.nil_append, decide_eq_true_eq, not_true_eq_false, not_false_eq_true, Bool.not_eq_true', decide_eq_false_iff_not, Bool.not_true, Bool.not_false, and_assoc, false_and, false_or, or_false]
    refine ⟨u, kd, rfl, u2, fun rn q H3 sq s3 u3 e3 => ?_⟩
    have e4 := s3 D _ e hDu
    refine CompN.mk hi e4 (by rw [n.length, hl]; exact Nat.lt_of_lt_of_le (show i < 1000 by omega) (by decide)) ?_
    refine ⟨_, rfl, (s2.trans s3).over hD _, u3.other hDu, _, upd_same, qs ++ [q], ((n.mono (s3.tups u2)).append (.cons e3 .nil)).mono (TupS.lst e4), by simp [hl], fun p hp => ?_⟩
    rcases List.mem_append.mp hp with z | z
    · exact hs p z
    · rw [List.mem_singleton.mp z]; exact sq
  · rintro σ H2 ⟨o, rfl, s2, u2, xs, qs, e, n, hl, hs⟩
    simp only [rLen, rLst, rSlS, rPartition, rStarts, iStr, rIntS, rJoin, rIxS, rSplitS, rInN, tComp_eq, tCompIf_eq, tSl, tSl3, tPart, tNoPart, rSlL, rPop, rAppend, capSt, List.map_cons, List.map_nil, Option.bind_none, Option.bind_some, Option.join_some, tSeq, tIfS, tAnd, tOr, tNot, tTest, tB, tOp, tUn, tBM0, tBM, tVar, tC, tCB, tRet, tAsg, gName, gSub, gTup, gCons, gNil, tCons, tNil, tPar, tTup, tLst, tIf, tAndV, tNotV, tDef, tCallX, tCallV, tDrop, tNext, tNever, tRaise, rI, rI0, rU, rBitLen, rIxL, rIxT, rSetL, rEq, rNe, rCount, rIndex, rSplit, rIsI, rCat, iRng1, iList, cxOf, cxR, cxX, Cx.nox, Cx.wish, Cx.body, Cx.suite, List.getElem?_cons_zero, List.getElem?_cons_succ, List.set_cons_zero, List.set_cons_succ, Option.some.injEq, V.int.injEq, V.bl.injEq, V.ref.injEq, V.str.injEq, exists_eq_left', exists_eq_left, exists_and_left, true_and, and_true, List.cons.injEq, reduceCtorEq, Bool.false_eq_true, if_false, if_true, exists_const, ↓reduceIte, tyV, List.length_cons, List.length_nil, exists_eq, List.append_nil, List.cons_append, List.nil_append, decide_eq_true_eq, not_true_eq_false, not_false_eq_true, Bool.not_eq_true', decide_eq_false_iff_not, Bool.not_true, Bool.not_false, and_assoc, false_and, false_or, or_false]
    refine ⟨u, kd, rfl, u2, fun ro q H3 sq q0 s3 u3 e3 => ⟨by decide, fun p hp => ?_⟩⟩
    have e4 := s3 D _ e hDu
    have pD : D ≠ p := ne_of_none e4 hp
    refine ⟨_, (by rw [upd_ne pD]; exact e4), _, upd_same, ?_, fun p2 hp2 => ?_⟩
    · rw [n.length, hl]
      exact Nat.le_trans (show r1.toNat + 1 ≤ 1001 by omega) (by decide)
    · have hp3 := new_free hp2
      have sx : SameX u H H3 := s1.trans (s2.trans s3)
      refine k p2 _ qs q _ ((sx.trans (Same.x (Same.new hp _) u)).trans (Same.x (Same.new hp2 _) u)) (urn_new (urn_new u3 hp) hp2) (sx.free u3 hp3) upd_same ?_ hs sq q0 (by omega)
      exact (((n.mono (s3.tups u2)).append (.cons e3 .nil)).mono (TupS.new hp)).mono (TupS.new hp2)
def spIsPoly (K : PySem.W.Frag) : Sp := fun vs H Q _ => ∃ a xs qs, vs = [.ref a] ∧ H a = some (.lst xs) ∧ Nums H xs qs ∧ (∀ p ∈ qs, p.den < 2 ^ 6000) ∧ xs.length < 1000 ∧ IsTl qs qs.length ∧ ∀ H', Same H H' → Q (.bl true) H'
abbrev s__law_is_poly : Stmt := top 56
theorem sc__law_is_poly : FnScope ["_law_thing"] ["_law_thing"] (defScope s__law_is_poly) := ⟨rfl, rfl, rfl, by decide +kernel, rfl, by decide +kernel, by decide +kernel⟩
set_option maxHeartbeats 0 in
theorem ok__law_is_poly {f fd fn : Addr} (d : Df K mg "_law_is_poly" s__law_is_poly ["_law_thing"] f) (G__law_is_number : Def P w K mg base CX0 2 "_law_is_number" fd ["_law_thing"] (spIsNum K)) (G__law_trim : Def P w K mg base CX0 1 "_law_trim" fn ["_law_numbers"] (spTrim K))
    (n_isinstance : mg "isinstance" = none) (n_list : mg "list" = none) (n_all : mg "all" = none) : Def P w K mg base CX0 3 "_law_is_poly" f ["_law_thing"] (spIsPoly K) := by
  refine d.ok (N := ["_law_thing"]) sc__law_is_poly (fun vs H Q E ⟨u, kd, mo, h, _⟩ => by rw [h]; rfl) (fun cdv A outer s H vs Q E hr h => ?_)
  obtain ⟨a, xs, qs, rfl, ha, hN, hs, hl, ht, k⟩ := h
  have hu := hr.units
  refine ⟨_, (pss_one (ps_ret (pe_and (pe_callB call_isinst rfl n_isinstance (by decide +kernel) (pa_cons (pv 0) (pa_cons (pe_bltn (v := .ty "list") rfl n_list (by decide +kernel) rfl) pa_nil))) (pe_and (pe_callB (call_all rfl) rfl n_all (by decide +kernel) (pa_cons (pe_comp (Nc := ["_law_one"]) (caps := [none]) rfl (Caps.of (osc := defScope s__law_is_poly) (N := ["_law_thing"]) (ks := []) rfl rfl rfl rfl sub_nil (by decide +kernel)) (pi_list (pv 0)) (fun C s₂ H₂ fp pins => (pg_name (i := 0) (show List.Nodup (["_law_one"] : List Str) by decide +kernel) rfl (Or.inl rfl) (Or.inr rfl))) (fun C s₂ H₂ fp pins => (pe_def G__law_is_number hr (pa_cons (pv 0) pa_nil) pass0))) pa_nil)) (pe_one (pe_cmpR (op_eqD hu) (pe_def G__law_trim hr (pa_cons (pv 0) pa_nil) pass0) (pv 0) (nomark _))))))), ?_⟩
  rw [show start ["_law_thing"] [.ref a] = [some (.ref a)] from rfl]
  simp only [rLen, rLst, rSlS, rPartition, rStarts, iStr, rIntS, rJoin, rIxS, rSplitS, rInN, tComp_eq, tCompIf_eq, tSl, tSl3, tPart, tNoPart, rSlL, rPop, rAppend, capSt, List.map_cons, List.map_nil, Option.bind_none, Option.bind_some, Option.join_some, tSeq, tIfS, tAnd, tOr, tNot, tTest, tB, tOp, tUn, tBM0, tBM, tVar, tC, tCB, tRet, tAsg, gName, gSub, gTup, gCons, gNil, tCons, tNil, tPar, tTup, tLst, tIf, tAndV, tNotV, tDef, tCallX, tCallV, tDrop, tNext, tNever, tRaise, rI, rI0, rU, rBitLen, rIxL, rIxT, rSetL, rEq, rNe, rCount, rIndex, rSplit, rIsI, rCat, iRng1, iList, cxOf, cxR, cxX, Cx.nox, Cx.wish, Cx.body, Cx.suite, List.getElem?_cons_zero, List.getElem?_cons_succ, List.set_cons_zero, List.set_cons_succ, Option.some.injEq, V.int.injEq, V.bl.injEq, V.ref.injEq, V.str.injEq, exists_eq_left', exists_eq_left, exists_and_left, true_and, and_true, List.cons.injEq, reduceCtorEq, Bool.false_eq_true, if_false, if_true, exists_const, ↓reduceIte, tyV, List.length_cons, List.length_nil, exists_eq, List.append_nil, List.cons_append, List.nil_append, decide_eq_true_eq, not_true_eq_false, not_false_eq_true, Bool.not_eq_true', decide_eq_false_iff_not, Bool.not_true, Bool.not_false, and_assoc, false_and, false_or, or_false]
  refine ⟨trivial, _, .of (.lst ha), _, kit_list_list, ite2 (fun _ => ?_) (fun h => absurd rfl h)⟩
  refine ⟨⟨_, SqL.of ha⟩, fun D hD => ?_⟩
  have hDa : a ≠ D := ne_of_none ha hD
  refine cw_list xs (fun i σ H2 => ∃ o, σ = [o] ∧ Same H H2 ∧ H2 D = some (.lst ((List.replicate i true).map V.bl))) ⟨_, rfl, Same.new hD _, upd_same⟩ (fun i σ H2 _ ⟨o, _, s2, _⟩ => SqL.of (s2 _ _ ha)) ?_ ?_
  · rintro i x σ H2 hx ⟨o, rfl, s2, e2⟩
    have hi : i < xs.length := (List.getElem?_eq_some_iff.mp hx).1
    obtain ⟨p, q, rfl, hq, hp⟩ := hN.getV hx
    simp only [rLen, rLst, rSlS, rPartition, rStarts, iStr, rIntS, rJoin, rIxS, rSplitS, rInN, tComp_eq, tCompIf_eq, tSl, tSl3, tPart, tNoPart, rSlL, rPop, rAppend, capSt, List.map_cons, List.map_nil, Option.bind_none, Option.bind_some, Option.join_some, tSeq, tIfS, tAnd, tOr, tNot, tTest, tB, tOp, tUn, tBM0, tBM, tVar, tC, tCB, tRet, tAsg, gName, gSub, gTup, gCons, gNil, tCons, tNil, tPar, tTup, tLst, tIf, tAndV, tNotV, tDef, tCallX, tCallV, tDrop, tNext, tNever, tRaise, rI, rI0, rU, rBitLen, rIxL, rIxT, rSetL, rEq, rNe, rCount, rIndex, rSplit, rIsI, rCat, iRng1, iList, cxOf, cxR, cxX, Cx.nox, Cx.wish, Cx.body, Cx.suite, List.getElem?_cons_zero, List.getElem?_cons_succ, List.set_cons_zero, List.set_cons_succ, Option.some.injEq, V.int.injEq, V.bl.injEq, V.ref.injEq, V.str.injEq, exists_eq_left', exists_eq_left, exists_and_left, true_and, and_true, List.cons.injEq, reduceCtorEq, Bool.false_eq_true, if_false, if_true, exists_const, ↓reduceIte, tyV, List.length_cons, List.length_nil, exists_eq, List.append_nil, List.cons_append, List.nil_append, decide_eq_true_eq, not_true_eq_false, not_false_eq_true, Bool.not_eq_true', decide_eq_false_iff_not, Bool.not_true, Bool.not_false, and_assoc, false_and, false_or, or_false]
    have sq := hs q (List.mem_of_getElem? hq)
    refine ⟨_, q, rfl, ⟨p, rfl, SqT.of (s2 _ _ hp)⟩, ?_, fun H3 s3 => ?_⟩
    · rw [Int.natAbs_natCast]
      exact sq
    · refine CompN.mk hi (s3 _ _ e2) (by simp; exact Nat.lt_of_lt_of_le (show i < 1000 by omega) (by decide)) ⟨_, rfl, (s2.trans s3).over hD _, ?_⟩
      rw [upd_same, List.replicate_succ', List.map_append]
      rfl
  · rintro σ H2 ⟨o, rfl, s2, e2⟩
    simp only [rLen, rLst, rSlS, rPartition, rStarts, iStr, rIntS, rJoin, rIxS, rSplitS, rInN, tComp_eq, tCompIf_eq, tSl, tSl3, tPart, tNoPart, rSlL, rPop, rAppend, capSt, List.map_cons, List.map_nil, Option.bind_none, Option.bind_some, Option.join_some, tSeq, tIfS, tAnd, tOr, tNot, tTest, tB, tOp, tUn, tBM0, tBM, tVar, tC, tCB, tRet, tAsg, gName, gSub, gTup, gCons, gNil, tCons, tNil, tPar, tTup, tLst, tIf, tAndV, tNotV, tDef, tCallX, tCallV, tDrop, tNext, tNever, tRaise, rI, rI0, rU, rBitLen, rIxL, rIxT, rSetL, rEq, rNe, rCount, rIndex, rSplit, rIsI, rCat, iRng1, iList, cxOf, cxR, cxX, Cx.nox, Cx.wish, Cx.body, Cx.suite, List.getElem?_cons_zero, List.getElem?_cons_succ, List.set_cons_zero, List.set_cons_succ, Option.some.injEq, V.int.injEq, V.bl.injEq, V.ref.injEq, V.str.injEq, exists_eq_left', exists_eq_left, exists_and_left, true_and, and_true, List.cons.injEq, reduceCtorEq, Bool.false_eq_true, if_false, if_true, exists_const, ↓reduceIte, tyV, List.length_cons, List.length_nil, exists_eq, List.append_nil, List.cons_append, List.nil_append, decide_eq_true_eq, not_true_eq_false, not_false_eq_true, Bool.not_eq_true', decide_eq_false_iff_not, Bool.not_true, Bool.not_false, and_assoc, false_and, false_or, or_false]
    refine ⟨_, SqL.of e2, ite2 (fun _ => ?_) (fun h => absurd (by simp) h)⟩
    have n2 := hN.mono s2.tups
    refine ⟨a, xs, qs, rfl, SqL.of (s2 _ _ ha), n2, fun m r H3 tl s3 hr' e3 => ?_⟩
    have em := tl.uniq ht
    subst em
    have et : xs.take qs.length = xs := by rw [← hN.length, List.take_length]
    rw [et] at e3
    refine ⟨dList qs, dList qs, rfl, isD_list (SqL.of e3) (n2.mono s3.tups), isD_list (SqL.of (s3 _ _ (s2 _ _ ha))) (n2.mono s3.tups), okD_list _ _, Nat.le_trans (dp_list _) (by decide), ?_⟩
    rw [eqD_list]
    simp only [decide_true]
    exact k H3 (s2.trans s3)
end
end R

set_option maxRecDepth 100000
namespace R
open PySem L2 PyProof.Rows
section
variable {P : Program} {w : World} {K : PySem.W.Frag} {mg : Str → Option Value} {base : Heap}
def spIsTab (K : PySem.W.Frag) : Sp := fun vs H Q _ => ∃ (a : Addr) (ts : List Addr) (M : List (List Rat)), vs = [.ref a, .int M.length] ∧ H a = some (.lst (ts.map V.ref)) ∧ RwsC K H ts M ∧ M.length ≤ 7 ∧ (∀ L ∈ M, L.length = M.length ∧ ∀ q ∈ L, BdN 6000 q) ∧ ∀ H', Same H H' → Q (.bl true) H'
abbrev s__law_is_table : Stmt := top 57
theorem sc__law_is_table : FnScope ["_law_thing", "_law_n", "_law_row"] ["_law_thing", "_law_n"] (defScope s__law_is_table) := ⟨rfl, rfl, rfl, by decide +kernel, rfl, by decide +kernel, by decide +kernel⟩
set_option maxHeartbeats 0 in
theorem ok__law_is_table {f fd : Addr} (d : Df K mg "_law_is_table" s__law_is_table ["_law_thing", "_law_n"] f) (G__law_is_number : Def P w K mg base CX0 2 "_law_is_number" fd ["_law_thing"] (spIsNum K)) (n_isinstance : mg "isinstance" = none) (n_list : mg "list" = none) (n_len : mg "len" = none) (n_all : mg "all" = none) : Def P w K mg base CX0 3 "_law_is_table" f ["_law_thing", "_law_n"] (spIsTab K) := by
  refine d.ok (N := ["_law_thing", "_law_n", "_law_row"]) sc__law_is_table (by rintro vs H Q E ⟨_, _, _, h, _⟩; rw [h]; rfl) (fun cdv A outer s H vs Q E hr h => ?_)
  obtain ⟨a, ts, M, rfl, ha, hR, hM, hL, k⟩ := h
  have hu := hr.units
  refine ⟨_, (pss_cons (ps_if (PW.pt (pw_or (pt_not (pt_val (pe_callB call_isinst rfl n_isinstance (by decide +kernel) (pa_cons (pv 0) (pa_cons (pe_bltn (v := .ty "list") rfl n_list (by decide +kernel) rfl) pa_nil))))) (pw_or1 (pt_cmpR op_ne (pe_callB call_len_seq rfl n_len (by decide +kernel) (pa_cons (pv 0) pa_nil)) (pv 1) (nomark _))))) (pss_one (ps_ret pe_bl)) pss_nil)
      (pss_cons (ps_for PassesOwn.never rfl (pi_list (pv 0)) (pg_name (i := 2) sc__law_is_table.nd rfl (Or.inl rfl)) (pss_one (ps_if (PW.pt (pw_or (pt_not (pt_val (pe_callB call_isinst rfl n_isinstance (by decide +kernel) (pa_cons (pv 2) (pa_cons (pe_bltn (v := .ty "list") rfl n_list (by decide +kernel) rfl) pa_nil))))) (pw_or (pt_cmpR op_ne (pe_callB call_len_seq rfl n_len (by decide +kernel) (pa_cons (pv 2) pa_nil)) (pv 1) (nomark _)) (pw_or1 (pt_not (pt_val (pe_callB (call_all rfl) rfl n_all (by decide +kernel) (pa_cons (pe_comp (Nc := ["_law_one"]) (caps := [none]) rfl (Caps.of (osc := defScope s__law_is_table) (N := ["_law_thing", "_law_n", "_law_row"]) (ks := []) rfl rfl rfl rfl sub_nil (by decide +kernel)) (pi_list (pv 2)) (fun C s₂ H₂ fp pins => (pg_name (i := 0) (show List.Nodup (["_law_one"] : List Str) by decide +kernel) rfl (Or.inl rfl) (Or.inr rfl))) (fun C s₂ H₂ fp pins => (pe_def G__law_is_number hr (pa_cons (pv 0) pa_nil) pass0))) pa_nil)))))))) (pss_one (ps_ret pe_bl)) pss_nil)))
      (pss_one (ps_ret pe_bl)))), ?_⟩
  rw [show start ["_law_thing", "_law_n", "_law_row"] [.ref a, .int M.length] = [some (.ref a), some (.int M.length), none] from rfl]
  simp only [rLen, rLst, rSlS, rPartition, rStarts, iStr, rIntS, rJoin, rIxS, rSplitS, rInN, tComp_eq, tCompIf_eq, tSl, tSl3, tPart, tNoPart, rSlL, rPop, rAppend, capSt, List.map_cons, List.map_nil, Option.bind_none, Option.bind_some, Option.join_some, tSeq, tIfS, tAnd, tOr, tNot, tTest, tB, tOp, tUn, tBM0, tBM, tVar, tC, tCB, tRet, tAsg, gName, gSub, gTup, gCons, gNil, tCons, tNil, tPar, tTup, tLst, tIf, tAndV, tNotV, tDef, tCallX, tCallV, tDrop, tNext, tNever, tRaise, rI, rI0, rU, rBitLen, rIxL, rIxT, rSetL, rEq, rNe, rCount, rIndex, rSplit, rIsI, rCat, iRng1, iList, cxOf, cxR, cxX, Cx.nox, Cx.wish, Cx.body, Cx.suite, List.getElem?_cons_zero, List.getElem?_cons_succ, List.set_cons_zero, List.set_cons_succ, Option.some.injEq, V.int.injEq, V.bl.injEq, V.ref.injEq, V.str.injEq, exists_eq_left', exists_eq_left, exists_and_left, true_and, and_true, List.cons.injEq, reduceCtorEq, Bool.false_eq_true, if_false, if_true, exists_const, ↓reduceIte, tyV, List.length_cons, List.length_nil, exists_eq, List.append_nil, List.cons_append, List.nil_append, decide_eq_true_eq, not_true_eq_false, not_false_eq_true, Bool.not_eq_true', decide_eq_false_iff_not, Bool.not_true, Bool.not_false, and_assoc, false_and, false_or, or_false]
  have hRl := hR.length
  refine ⟨trivial, _, .of (.lst ha), _, kit_list_list, ite2 (fun z => by cases z) (fun _ => ?_)⟩
  refine ⟨_, .inl (SqL.of ha), rfl, ite2 (fun z => absurd (by rw [List.length_map, hRl]) z) (fun _ => ?_)⟩
  refine ⟨_, rfl, a, rfl, ⟨_, SqL.of ha⟩, for_list (xs := ts.map V.ref) (fun i σ H2 => ∃ o, σ = [some (.ref a), some (.int M.length), o] ∧ Same H H2) ⟨_, rfl, Same.refl _⟩ (fun i σ H2 _ ⟨_, _, s2⟩ => SqL.of (s2 _ _ ha)) ?_ ?_⟩
  · rintro i x σ H2 hx ⟨o, rfl, s2⟩
    obtain ⟨t, ht, rfl⟩ := refs_get hx
    obtain ⟨xs, L, hL', et, nt⟩ := hR.get ht
    have hLm := hL L (List.mem_of_getElem? hL')
    have lx := nt.length
    have l7 := hLm.1
    have et2 := s2 _ _ et
    simp only [rLen, rLst, rSlS, rPartition, rStarts, iStr, rIntS, rJoin, rIxS, rSplitS, rInN, tComp_eq, tCompIf_eq, tSl, tSl3, tPart, tNoPart, rSlL, rPop, rAppend, capSt, List.map_cons, List.map_nil, Option.bind_none, Option.bind_some, Option.join_some, tSeq, tIfS, tAnd, tOr, tNot, tTest, tB, tOp, tUn, tBM0, tBM, tVar, tC, tCB, tRet, tAsg, gName, gSub, gTup, gCons, gNil, tCons, tNil, tPar, tTup, tLst, tIf, tAndV, tNotV, tDef, tCallX, tCallV, tDrop, tNext, tNever, tRaise, rI, rI0, rU, rBitLen, rIxL, rIxT, rSetL, rEq, rNe, rCount, rIndex, rSplit, rIsI, rCat, iRng1, iList, cxOf, cxR, cxX, Cx.nox, Cx.wish, Cx.body, Cx.suite, List.getElem?_cons_zero, List.getElem?_cons_succ, List.set_cons_zero, List.set_cons_succ, Option.some.injEq, V.int.injEq, V.bl.injEq, V.ref.injEq, V.str.injEq, exists_eq_left', exists_eq_left, exists_and_left, true_and, and_true, List.cons.injEq, reduceCtorEq, Bool.false_eq_true, if_false, if_true, exists_const, ↓reduceIte, tyV, List.length_cons, List.length_nil, exists_eq, List.append_nil, List.cons_append, List.nil_append, decide_eq_true_eq, not_true_eq_false, not_false_eq_true, Bool.not_eq_true', decide_eq_false_iff_not, Bool.not_true, Bool.not_false, and_assoc, false_and, false_or, or_false]
    refine ⟨trivial, _, .of (.lst et2), _, kit_list_list, ite2 (fun z => by cases z) (fun _ => ?_)⟩
    refine ⟨_, .inl (SqL.of et2), rfl, ite2 (fun z => absurd (by rw [lx, l7]) z) (fun _ => ?_)⟩
    refine ⟨⟨_, SqL.of et2⟩, fun D hD => ?_⟩
    refine cw_list xs (fun j σ H3 => ∃ o, σ = [o] ∧ Same H2 H3 ∧ H3 D = some (.lst ((List.replicate j true).map V.bl))) ⟨_, rfl, Same.new hD _, upd_same⟩ (fun j σ H3 _ ⟨o, _, s3, _⟩ => SqL.of (s3 _ _ et2)) ?_ ?_
    · rintro j x σ H3 hx2 ⟨o, rfl, s3, e3⟩
      have hj : j < xs.length := (List.getElem?_eq_some_iff.mp hx2).1
      obtain ⟨p, q, rfl, hq, hp⟩ := nt.getV hx2
      simp only [rLen, rLst, rSlS, rPartition, rStarts, iStr, rIntS, rJoin, rIxS, rSplitS, rInN, tComp_eq, tCompIf_eq, tSl, tSl3, tPart, tNoPart, rSlL, rPop, rAppend, capSt, List.map_cons, List.map_nil, Option.bind_none, Option.bind_some, Option.join_some, tSeq, tIfS, tAnd, tOr, tNot, tTest, tB, tOp, tUn, tBM0, tBM, tVar, tC, tCB, tRet, tAsg, gName, gSub, gTup, gCons, gNil, tCons, tNil, tPar, tTup, tLst, tIf, tAndV, tNotV, tDef, tCallX, tCallV, tDrop, tNext, tNever, tRaise, rI, rI0, rU, rBitLen, rIxL, rIxT, rSetL, rEq, rNe, rCount, rIndex, rSplit, rIsI, rCat, iRng1, iList, cxOf, cxR, cxX, Cx.nox, Cx.wish, Cx.body, Cx.suite, List.getElem?_cons_zero, List.getElem?_cons_succ, List.set_cons_zero, List.set_cons_succ, Option.some.injEq, V.int.injEq, V.bl.injEq, V.ref.injEq, V.str.injEq, exists_eq_left', exists_eq_left, exists_and_left, true_and, and_true, List.cons.injEq, reduceCtorEq, Bool.false_eq_true, if_false, if_true, exists_const, ↓reduceIte, tyV, List.length_cons, List.length_nil, exists_eq, List.append_nil, List.cons_append, List.nil_append, decide_eq_true_eq, not_true_eq_false, not_false_eq_true, Bool.not_eq_true', decide_eq_false_iff_not, Bool.not_true, Bool.not_false, and_assoc, false_and, false_or, or_false]
      have sq := (hLm.2 q (List.mem_of_getElem? hq)).bd6 (by decide)
      refine ⟨_, q, rfl, ⟨p, rfl, (hp.mono (s2.trans s3).tups).sqt⟩, ?_, fun H4 s4 => ?_⟩
      · rw [Int.natAbs_natCast]
        exact sq.d
      · refine CompN.mk hj (s4 _ _ e3) (by simp; exact Nat.lt_of_lt_of_le (show j < 1000 by omega) (by decide)) ⟨_, rfl, (s3.trans s4).over hD _, ?_⟩
        rw [upd_same, List.replicate_succ', List.map_append]
        rfl
    · rintro σ H3 ⟨o, rfl, s3, e3⟩
      refine ⟨D, rfl, _, SqL.of e3, ite2 (fun z => by simp at z) (fun _ => s2.trans s3)⟩
  · rintro σ H2 ⟨o, rfl, s2⟩
    simp only [rLen, rLst, rSlS, rPartition, rStarts, iStr, rIntS, rJoin, rIxS, rSplitS, rInN, tComp_eq, tCompIf_eq, tSl, tSl3, tPart, tNoPart, rSlL, rPop, rAppend, capSt, List.map_cons, List.map_nil, Option.bind_none, Option.bind_some, Option.join_some, tSeq, tIfS, tAnd, tOr, tNot, tTest, tB, tOp, tUn, tBM0, tBM, tVar, tC, tCB, tRet, tAsg, gName, gSub, gTup, gCons, gNil, tCons, tNil, tPar, tTup, tLst, tIf, tAndV, tNotV, tDef, tCallX, tCallV, tDrop, tNext, tNever, tRaise, rI, rI0, rU, rBitLen, rIxL, rIxT, rSetL, rEq, rNe, rCount, rIndex, rSplit, rIsI, rCat, iRng1, iList, cxOf, cxR, cxX, Cx.nox, Cx.wish, Cx.body, Cx.suite, List.getElem?_cons_zero, List.getElem?_cons_succ, List.set_cons_zero, List.set_cons_succ, Option.some.injEq, V.int.injEq, V.bl.injEq, V.ref.injEq, V.str.injEq, exists_eq_left', exists_eq_left, exists_and_left, true_and, and_true, List.cons.injEq, reduceCtorEq, Bool.false_eq_true, if_false, if_true, exists_const, ↓reduceIte, tyV, List.length_cons, List.length_nil, exists_eq, List.append_nil, List.cons_append, List.nil_append, decide_eq_true_eq, not_true_eq_false, not_false_eq_true, Bool.not_eq_true', decide_eq_false_iff_not, Bool.not_true, Bool.not_false, and_assoc, false_and, false_or, or_false]
    exact k H2 s2
end
end R

set_option maxRecDepth 100000
namespace R
open PySem L2 PyProof.Rows
def dRef : D := .tup [.v (.str "refused"), .v (.str "text")]
theorem isD_ref {K : PySem.W.Frag} {H : Hp} {r : Addr} (h : H r = some (.tup [.str "refused", .str "text"])) : IsD K H (.ref r) dRef := .tup (SqT.of h) (.cons (.v rfl) (.cons (.v rfl) .nil))
theorem ne_ref {K : PySem.W.Frag} {H : Hp} {r p : Addr} {Q : VK} (hr : H r = some (.tup [.str "refused", .str "text"])) (hp : H p = some (.tup [.str "refused", .str "text"])) (q : Q (.bl false) H) : rNeD K (.ref r) (.ref p) H Q :=
  ⟨dRef, dRef, rfl, isD_ref hr, isD_ref hp, by simp [dRef, okD, okDs], by simp [dRef, dpD, dpDs], by rw [show eqD dRef dRef = true by simp [dRef, eqD, eqDs, eqV]]; exact q⟩
/-- what is said of a text -/
theorem eqD_tabs (M : List (List Rat)) : eqD (.lst (M.map dList)) (.lst (M.map dList)) = true ∧ okD (.lst (M.map dList)) (.lst (M.map dList)) = true ∧ dpD (.lst (M.map dList)) ≤ 5 := by
  rw [eqD, okD, dpD]
  induction M with
  | nil => exact ⟨rfl, rfl, by simp [dpDs]⟩
  | cons L M ih =>
    refine ⟨?_, ?_, ?_⟩
    · rw [List.map_cons, eqDs, ih.1, eqD_list]; simp
    · rw [List.map_cons, okDs, ih.2.1, okD_list]; rfl
    · rw [List.map_cons, dpDs]
      have := dp_list L
      have := ih.2.2
      omega
section
variable {P : Program} {w : World} {K : PySem.W.Frag} {mg : Str → Option Value} {base : Heap}
def spSaidT (P : Program) (w : World) (K : PySem.W.Frag) (mg : Str → Option Value) (base : Heap) (a : CAd) : Sp := fun vs H Q _ => ∃ f x sp, vs = [.ref f, x] ∧ FnV P w K mg base 5 f sp ∧
  ((∃ T : V → Hp → Prop, (∀ (Q' : VK) (E' : XK), (∀ v H', Same H H' → T v H' → Q' v H') → sp [x] H Q' E') ∧ ∀ v H1 r, Same H H1 → T v H1 → H1 r = none → Q (.ref r) (upd H1 r (.tup [.str "told", v]))) ∨
   ((∀ (Q' : VK) (E' : XK), (∀ H', Same H H' → E' (.ref a.c_NoText) none H') → sp [x] H Q' E') ∧ ∀ r H', Same H H' → H' r = some (.tup [.str "refused", .str "text"]) → Q (.ref r) H'))
abbrev s__law_said : Stmt := top 63
theorem sc__law_said : FnScope ["_law_deed", "_law_thing", "_law_e", "_law_found"] ["_law_deed", "_law_thing"] (defScope s__law_said) := ⟨rfl, rfl, rfl, by decide +kernel, rfl, by decide +kernel, by decide +kernel⟩
set_option maxHeartbeats 0 in
theorem ok__law_said {a : CAd} {f fw : Addr} (d : Df K mg "_law_said" s__law_said ["_law_deed", "_law_thing"] f) (G__law_which : DefX P w K mg base 1 "_law_which" fw ["_law_e"] (spWhich K a)) (x_RestError : ExT K mg "RestError" a.c_RestError) (kt : Kits K a a.c_NoText 12) :
    Def P w K mg base CX0 6 "_law_said" f ["_law_deed", "_law_thing"] (spSaidT P w K mg base a) := by
  refine d.ok (N := ["_law_deed", "_law_thing", "_law_e", "_law_found"]) sc__law_said (fun vs H Q E ⟨f, x, sp, h, _⟩ => by rw [h]; rfl) (fun cdv A outer s H vs Q E hr h => ?_)
  obtain ⟨f', x, sp, rfl, fv, h⟩ := h
  refine ⟨_, (pss_cons (ps_try (i := 2) (C := a.c_RestError) rfl rfl rfl sc__law_said.nd rfl rfl rfl x_RestError.m (fun E xe pn hx => (pss_one (ps_set (i := 3) sc__law_said.nd rfl (Or.inl rfl) (pe_callW (P := P) (w := w) (K := K) (mg := mg) (base := base) (i := 0) hr rfl (Or.inl rfl) hx (pa_cons (pv 1) pa_nil))))) (fun b => (pss_one (ps_ret (pe_tup (pa_cons pe_str (pa_cons (pe_defX G__law_which (hr.toX.mark _) (pa_cons (pv 2) pa_nil)) pa_nil)))))))
      (pss_one (ps_ret (pe_tup (pa_cons pe_str (pa_cons (pv 3) pa_nil)))))), ?_⟩
  rw [show start ["_law_deed", "_law_thing", "_law_e", "_law_found"] [.ref f', x] = [some (.ref f'), some (x), none, none] from rfl]
  simp only [rLen, rLst, rSlS, rPartition, rStarts, iStr, rIntS, rJoin, rIxS, rSplitS, rInN, tComp_eq, tCompIf_eq, tSl, tSl3, tPart, tNoPart, rSlL, rPop, rAppend, capSt, List.map_cons, List.map_nil, Option.bind_none, Option.bind_some, Option.join_some, tSeq, tIfS, tAnd, tOr, tNot, tTest, tB, tOp, tUn, tBM0, tBM, tVar, tC, tCB, tRet, tAsg, gName, gSub, gTup, gCons, gNil, tCons, tNil, tPar, tTup, tLst, tIf, tAndV, tNotV, tDef, tCallX, tCallV, tDrop, tNext, tNever, tRaise, rI, rI0, rU, rBitLen, rIxL, rIxT, rSetL, rEq, rNe, rCount, rIndex, rSplit, rIsI, rCat, iRng1, iList, cxOf, cxR, cxX, Cx.nox, Cx.wish, Cx.body, Cx.suite, List.getElem?_cons_zero, List.getElem?_cons_succ, List.set_cons_zero, List.set_cons_succ, Option.some.injEq, V.int.injEq, V.bl.injEq, V.ref.injEq, V.str.injEq, exists_eq_left', exists_eq_left, exists_and_left, true_and, and_true, List.cons.injEq, reduceCtorEq, Bool.false_eq_true, if_false, if_true, exists_const, ↓reduceIte, tyV, List.length_cons, List.length_nil, exists_eq, List.append_nil, List.cons_append, List.nil_append, decide_eq_true_eq, not_true_eq_false, not_false_eq_true, Bool.not_eq_true', decide_eq_false_iff_not, Bool.not_true, Bool.not_false, and_assoc, false_and, false_or, or_false, tTry, spWhich]
  rcases h with ⟨T, hs, k⟩ | ⟨hs, k⟩
  · exact ⟨sp, fv, hs _ _ fun v H1 s1 ht => ⟨small2, fun p hp => k v H1 p s1 ht hp⟩⟩
  · exact ⟨sp, fv, hs _ _ fun H1 s1 => ⟨kt.ex, fun e he => ⟨_, rfl, e, rfl, _, 12, kt, by decide, upd_same, fun H2 s2 => ⟨small2, fun p hp => k p _ (s1.trans (((Same.new he _).trans s2).trans (Same.new hp _))) upd_same⟩⟩⟩⟩
/-- what is told of a text, as a polynomial and as a table -/
theorem said_poly {a : CAd} {H : Hp} {Q : VK} {E : XK} {fr : Addr} {x : Str} (G : Def P w K mg base (CXR P w) 5 "read_poly" fr ["text"] (spReadP K a.c_NoText)) (hx : x.length ≤ 5000)
    (k2 : polyS x = none → ∀ r H', Same H H' → H' r = some (.tup [.str "refused", .str "text"]) → Q (.ref r) H') (k1 : ∀ qs, polyS x = some qs → ∀ l xs r H', Same H H' → H l = none → l ≠ r → H' l = some (.lst xs) → Nums H' xs qs → H' r = some (.tup [.str "told", .ref l]) → Q (.ref r) H') : spSaidT P w K mg base a [.ref fr, .str x] H Q E := by
  have hD : IsD K H (.str x) (.v (.str x)) := .v rfl
  have hl : lenD (.v (.str x)) := fun y e => by injection e with e; injection e with e; subst e; exact hx
  refine ⟨fr, .str x, _, rfl, G.val, ?_⟩
  cases e : polyS x with
  | none => exact .inr ⟨fun Q' E' hE => ⟨_, _, rfl, hD, hl, fun _ H' s' => hE H' s', fun qs eq => by rw [show polyT (.v (.str x)) = polyS x from rfl, e] at eq; cases eq⟩, k2 e⟩
  | some qs =>
    refine .inl ⟨fun v H' => ∃ l xs, v = .ref l ∧ H l = none ∧ H' l = some (.lst xs) ∧ Nums H' xs qs, fun Q' E' hQ => ⟨_, _, rfl, hD, hl, (fun en => by rw [show polyT (.v (.str x)) = polyS x from rfl, e] at en; cases en), fun qs' eq l xs H' s' fl el nl => ?_⟩, ?_⟩
    · rw [show polyT (.v (.str x)) = polyS x from rfl, e] at eq
      cases eq
      exact hQ _ _ s' ⟨l, xs, rfl, fl, el, nl⟩
    · rintro v H1 r s1 ⟨l, xs, rfl, fl, el, nl⟩ hr
      have sn := Same.new hr (.tup [.str "told", .ref l])
      exact k1 qs e l xs r _ (s1.trans sn) fl (ne_of_none el hr) (sn _ _ el) (nl.mono sn.tups) upd_same
theorem said_tab {a : CAd} {H : Hp} {Q : VK} {E : XK} {fr : Addr} {x : Str} (G : Def P w K mg base (CXR P w) 5 "read_table" fr ["text"] (spReadTb K a.c_NoText)) (hx : x.length ≤ 5000)
    (k2 : tabS x = none → ∀ r H', Same H H' → H' r = some (.tup [.str "refused", .str "text"]) → Q (.ref r) H') (k1 : ∀ M, tabS x = some M → ∀ l ts r H', Same H H' → H l = none → (∀ t ∈ ts, H t = none ∧ t ≠ l ∧ t ≠ r) → ts.Nodup → l ≠ r → H' l = some (.lst (ts.map V.ref)) → Rws H' ts M → H' r = some (.tup [.str "told", .ref l]) → Q (.ref r) H') : spSaidT P w K mg base a [.ref fr, .str x] H Q E := by
  have hD : IsD K H (.str x) (.v (.str x)) := .v rfl
  have hl : lenD (.v (.str x)) := fun y e => by injection e with e; injection e with e; subst e; exact hx
  refine ⟨fr, .str x, _, rfl, G.val, ?_⟩
  cases e : tabS x with
  | none => exact .inr ⟨fun Q' E' hE => ⟨_, _, rfl, hD, hl, fun _ H' s' => hE H' s', fun qs eq => by rw [show tabT (.v (.str x)) = tabS x from rfl, e] at eq; cases eq⟩, k2 e⟩
  | some M =>
    refine .inl ⟨fun v H' => ∃ l ts, v = .ref l ∧ H l = none ∧ (∀ t ∈ ts, H t = none ∧ t ≠ l) ∧ ts.Nodup ∧ H' l = some (.lst (ts.map V.ref)) ∧ Rws H' ts M, fun Q' E' hQ => ⟨_, _, rfl, hD, hl, (fun en => by rw [show tabT (.v (.str x)) = tabS x from rfl, e] at en; cases en), fun M' eq l ts H' s' fl ft nd el nl => ?_⟩, ?_⟩
    · rw [show tabT (.v (.str x)) = tabS x from rfl, e] at eq
      cases eq
      exact hQ _ _ s' ⟨l, ts, rfl, fl, ft, nd, el, nl⟩
    · rintro v H1 r s1 ⟨l, ts, rfl, fl, ft, nd, el, nl⟩ hr
      have sn := Same.new hr (.tup [.str "told", .ref l])
      refine k1 M e l ts r _ (s1.trans sn) fl (fun t ht => ⟨(ft t ht).1, (ft t ht).2, ?_⟩) nd (ne_of_none el hr) (sn _ _ el) (nl.same sn) upd_same
      obtain ⟨i, hi⟩ := List.getElem?_of_mem ht
      obtain ⟨xs, L, _, et, _⟩ := nl.get hi
      exact ne_of_none et hr
end
end R

set_option maxRecDepth 100000
namespace R
open PySem L2 PyProof.Rows
theorem sz2 {n : Nat} (h : n ≤ 2000) : n ≤ sizeLine := Nat.le_trans h (by decide)
section
variable {P : Program} {w : World} {K : PySem.W.Frag} {mg : Str → Option Value} {base : Heap}
def spFar : Sp := fun vs H Q _ => ∃ u, vs = [.ref u] ∧ UrnAt H u ∧ ∀ r q H', q.num.natAbs < 10 ^ 30 → q.den < 10 ^ 30 → SameX u H H' → UrnAt H' u → H' r = some (.tup (numV q)) → Q (.ref r) H'
abbrev s__law_far_number : Stmt := top 62
theorem sc__law_far_number : FnScope ["_law_urn_here", "_law_turn", "_law_top", "_law_bottom"] ["_law_urn_here"] (defScope s__law_far_number) := ⟨rfl, rfl, rfl, by decide +kernel, rfl, by decide +kernel, by decide +kernel⟩
set_option maxHeartbeats 0 in
theorem ok__law_far_number {f f1 f2 : Addr} (d : Df K mg "_law_far_number" s__law_far_number ["_law_urn_here"] f) (G__law_draw : Def P w K mg base CX0 1 "_law_draw" f1 ["_law_urn_here", "_law_many"] spDraw) (G__law_low : Def P w K mg base CX0 1 "_law_low" f2 ["_law_top", "_law_bottom"] spLow) (n_range : mg "range" = none) (n_max : mg "max" = none) : Def P w K mg base CX0 2 "_law_far_number" f ["_law_urn_here"] spFar := by
  refine d.ok (N := ["_law_urn_here", "_law_turn", "_law_top", "_law_bottom"]) sc__law_far_number (by rintro vs H Q E ⟨_, h, _⟩; rw [h]; rfl) (fun cdv A outer s H vs Q E hr h => ?_)
  obtain ⟨u, rfl, hu, k⟩ := h
  refine ⟨_, (pss_cons (ps_asg (pe_tup (pa_cons pe_int (pa_cons pe_int pa_nil))) (show PG _ _ (gTup K 2 (gCons (gName 2) (gCons (gName 3) gNil))) from by (refine pg_tup (n := 2) ?_ ?_ ?_ ?_; rfl; (refine pgs_cons ?_ ?_ ?_; (exact (pg_name (i := 2) sc__law_far_number.nd rfl (Or.inl rfl))); (refine pgs_cons ?_ ?_ ?_; (exact (pg_name (i := 3) sc__law_far_number.nd rfl (Or.inl rfl))); (exact pgs_nil); rfl); rfl); rfl; rfl)))
      (pss_cons (ps_for PassesOwn.never rfl (pi_range1 rfl n_range (pa_cons (pe_def G__law_draw hr (pa_cons (pv 0) (pa_cons pe_int pa_nil)) pass0) pa_nil)) (pg_name (i := 1) sc__law_far_number.nd rfl (Or.inl rfl)) (pss_one (ps_set (i := 2) sc__law_far_number.nd rfl (Or.inl rfl) (pe_op op_add (pe_op op_mulB (pv 2) (pe_op op_pow pe_int pe_int)) (pe_def G__law_draw hr (pa_cons (pv 0) (pa_cons (pe_op op_pow pe_int pe_int) pa_nil)) pass0)))))
      (pss_cons (ps_for PassesOwn.never rfl (pi_range1 rfl n_range (pa_cons (pe_def G__law_draw hr (pa_cons (pv 0) (pa_cons pe_int pa_nil)) pass0) pa_nil)) (pg_name (i := 1) sc__law_far_number.nd rfl (Or.inl rfl)) (pss_one (ps_set (i := 3) sc__law_far_number.nd rfl (Or.inl rfl) (pe_op op_add (pe_op op_mulB (pv 3) (pe_op op_pow pe_int pe_int)) (pe_def G__law_draw hr (pa_cons (pv 0) (pa_cons (pe_op op_pow pe_int pe_int) pa_nil)) pass0)))))
      (pss_one (ps_ret (pe_def G__law_low hr (pa_cons (pe_op op_mulB (pv 2) (pe_ix ix_list (pe_lst (pa_cons pe_int (pa_cons (pe_un un_neg pe_int) pa_nil))) (pe_def G__law_draw hr (pa_cons (pv 0) (pa_cons pe_int pa_nil)) pass0) (fun _ _ => rfl))) (pa_cons (pe_callB (call_max2 rfl) rfl n_max (by decide +kernel) (pa_cons pe_int (pa_cons (pv 3) pa_nil))) pa_nil)) pass0)))))), ?_⟩
  rw [show start ["_law_urn_here", "_law_turn", "_law_top", "_law_bottom"] [.ref u] = [some (.ref u), none, none, none] from rfl]
  refine seq_cut (fun σ H1 => Same H H1 ∧ σ = [some (.ref u), none, some (.int 0), some (.int 0)]) (fun N hN => ?_) ?_
  · simp only [rLen, rLst, rSlS, rPartition, rStarts, iStr, rIntS, rJoin, rIxS, rSplitS, rInN, tComp_eq, tCompIf_eq, tSl, tSl3, tPart, tNoPart, rSlL, rPop, rAppend, capSt, List.map_cons, List.map_nil, Option.bind_none, Option.bind_some, Option.join_some, tSeq, tIfS, tAnd, tOr, tNot, tTest, tB, tOp, tUn, tBM0, tBM, tVar, tC, tCB, tRet, tAsg, gName, gSub, gTup, gCons, gNil, tCons, tNil, tPar, tTup, tLst, tIf, tAndV, tNotV, tDef, tCallX, tCallV, tDrop, tNext, tNever, tRaise, rI, rI0, rU, rBitLen, rIxL, rIxT, rSetL, rEq, rNe, rCount, rIndex, rSplit, rIsI, rCat, iRng1, iList, cxOf, cxR, cxX, Cx.nox, Cx.wish, Cx.body, Cx.suite, List.getElem?_cons_zero, List.getElem?_cons_succ, List.set_cons_zero, List.set_cons_succ, Option.some.injEq, V.int.injEq, V.bl.injEq, V.ref.injEq, V.str.injEq, exists_eq_left', exists_eq_left, exists_and_left, true_and, and_true, List.cons.injEq, reduceCtorEq, Bool.false_eq_true, if_false, if_true, exists_const, ↓reduceIte, tyV, List.length_cons, List.length_nil, exists_eq, List.append_nil, List.cons_append, List.nil_append, decide_eq_true_eq, not_true_eq_false, not_false_eq_true, Bool.not_eq_true', decide_eq_false_iff_not, Bool.not_true, Bool.not_false, and_assoc, false_and, false_or, or_false]
    exact ⟨small2, fun p hp => ⟨_, SqT.of upd_same, rfl, _, _, rfl, _, _, rfl, rfl, hN _ _ ⟨Same.new hp _, rfl⟩⟩⟩
  rintro σ H1 ⟨s1, rfl⟩
  have e10 : (10 : Int) ^ Int.toNat 6 = 1000000 := by decide
  have grow : ∀ (j : Nat) (tp r : Int), 0 ≤ tp → tp < ((10 ^ (6 * j) : Nat) : Int) → 0 ≤ r → r < 1000000 → 0 ≤ tp * 1000000 + r ∧ tp * 1000000 + r < ((10 ^ (6 * (j + 1)) : Nat) : Int) := by
    intro j tp r t0 t1 r0 r1
    have : (10 : Nat) ^ (6 * (j + 1)) = 10 ^ (6 * j) * 1000000 := by rw [Nat.mul_add, Nat.pow_add]
    rw [this]
    constructor <;> omega
  have up : ∀ {j : Nat} {tp : Int}, j ≤ 5 → tp < ((10 ^ (6 * j) : Nat) : Int) → tp < 10 ^ 30 := by
    intro j tp hj h
    have : (10 : Nat) ^ (6 * j) ≤ 10 ^ 30 := Nat.pow_le_pow_right (by decide) (by omega)
    omega
  refine seq_cut (fun σ H2 => ∃ (tp : Int) (o1 : Option V), σ = [some (.ref u), o1, some (.int tp), some (.int 0)] ∧ 0 ≤ tp ∧ tp < 10 ^ 30 ∧ SameX u H H2 ∧ UrnAt H2 u) (fun N hN => ?_) ?_
  · obtain ⟨I, hI⟩ : ∃ I : Nat → L2.St → Hp → Prop, ∀ i σ H2, I i σ H2 ↔ ∃ (tp : Int) (o1 : Option V), σ = [some (.ref u), o1, some (.int tp), some (.int 0)] ∧ 0 ≤ tp ∧ tp < ((10 ^ (6 * i) : Nat) : Int) ∧ SameX u H H2 ∧ UrnAt H2 u := ⟨_, fun _ _ _ => Iff.rfl⟩
    refine ⟨_, rfl, u, 6, rfl, Same.urn s1 hu, by decide, by decide, fun r H2 r0 r1 s2 u2 => ⟨r, rfl, by omega, by omega, for_range I ((hI _ _ _).mpr ⟨0, _, rfl, by decide, by decide, (Same.x s1 u).trans s2, u2⟩) ?_ ?_⟩⟩
    · intro i σ H3 hi hI3
      obtain ⟨tp, o1, rfl, t0, t1, s3, u3⟩ := (hI _ _ _).mp hI3
      simp only [rLen, rLst, rSlS, rPartition, rStarts, iStr, rIntS, rJoin, rIxS, rSplitS, rInN, tComp_eq, tCompIf_eq, tSl, tSl3, tPart, tNoPart, rSlL, rPop, rAppend, capSt, List.map_cons, List.map_nil, Option.bind_none, Option.bind_some, Option.join_some, tSeq, tIfS, tAnd, tOr, tNot, tTest, tB, tOp, tUn, tBM0, tBM, tVar, tC, tCB, tRet, tAsg, gName, gSub, gTup, gCons, gNil, tCons, tNil, tPar, tTup, tLst, tIf, tAndV, tNotV, tDef, tCallX, tCallV, tDrop, tNext, tNever, tRaise, rI, rI0, rU, rBitLen, rIxL, rIxT, rSetL, rEq, rNe, rCount, rIndex, rSplit, rIsI, rCat, iRng1, iList, cxOf, cxR, cxX, Cx.nox, Cx.wish, Cx.body, Cx.suite, List.getElem?_cons_zero, List.getElem?_cons_succ, List.set_cons_zero, List.set_cons_succ, Option.some.injEq, V.int.injEq, V.bl.injEq, V.ref.injEq, V.str.injEq, exists_eq_left', exists_eq_left, exists_and_left, true_and, and_true, List.cons.injEq, reduceCtorEq, Bool.false_eq_true, if_false, if_true, exists_const, ↓reduceIte, tyV, List.length_cons, List.length_nil, exists_eq, List.append_nil, List.cons_append, List.nil_append, decide_eq_true_eq, not_true_eq_false, not_false_eq_true, Bool.not_eq_true', decide_eq_false_iff_not, Bool.not_true, Bool.not_false, and_assoc, false_and, false_or, or_false, spDraw, e10]
      refine ⟨⟨by decide, by decide, by decide⟩, mulS' (by decide), ⟨by decide, by decide, by decide⟩, u3, by decide, by decide, fun r H4 r0 r1 s4 u4 => ?_⟩
      obtain ⟨g0, g1⟩ := grow i tp r t0 t1 r0 r1
      exact (hI _ _ _).mpr ⟨_, _, rfl, g0, g1, s3.trans s4, u4⟩
    · intro σ H3 hI3
      obtain ⟨tp, o1, rfl, t0, t1, s3, u3⟩ := (hI _ _ _).mp hI3
      exact hN _ _ ⟨tp, _, rfl, t0, up (by omega) t1, s3, u3⟩
  clear s1
  rintro σ H2 ⟨tp, o1, rfl, tp0, tp1, s2, u2⟩
  refine seq_cut (fun σ H3 => ∃ (bt : Int) (o1 : Option V), σ = [some (.ref u), o1, some (.int tp), some (.int bt)] ∧ 0 ≤ bt ∧ bt < 10 ^ 30 ∧ SameX u H H3 ∧ UrnAt H3 u) (fun N hN => ?_) ?_
  · obtain ⟨I, hI⟩ : ∃ I : Nat → L2.St → Hp → Prop, ∀ i σ H3, I i σ H3 ↔ ∃ (bt : Int) (o1 : Option V), σ = [some (.ref u), o1, some (.int tp), some (.int bt)] ∧ 0 ≤ bt ∧ bt < ((10 ^ (6 * i) : Nat) : Int) ∧ SameX u H H3 ∧ UrnAt H3 u := ⟨_, fun _ _ _ => Iff.rfl⟩
    refine ⟨_, rfl, u, 6, rfl, u2, by decide, by decide, fun r H3 r0 r1 s3 u3 => ⟨r, rfl, by omega, by omega, for_range I ((hI _ _ _).mpr ⟨0, _, rfl, by decide, by decide, s2.trans s3, u3⟩) ?_ ?_⟩⟩
    · intro i σ H4 hi hI4
      obtain ⟨bt, o1, rfl, t0, t1, s4, u4⟩ := (hI _ _ _).mp hI4
      simp only [rLen, rLst, rSlS, rPartition, rStarts, iStr, rIntS, rJoin, rIxS, rSplitS, rInN, tComp_eq, tCompIf_eq, tSl, tSl3, tPart, tNoPart, rSlL, rPop, rAppend, capSt, List.map_cons, List.map_nil, Option.bind_none, Option.bind_some, Option.join_some, tSeq, tIfS, tAnd, tOr, tNot, tTest, tB, tOp, tUn, tBM0, tBM, tVar, tC, tCB, tRet, tAsg, gName, gSub, gTup, gCons, gNil, tCons, tNil, tPar, tTup, tLst, tIf, tAndV, tNotV, tDef, tCallX, tCallV, tDrop, tNext, tNever, tRaise, rI, rI0, rU, rBitLen, rIxL, rIxT, rSetL, rEq, rNe, rCount, rIndex, rSplit, rIsI, rCat, iRng1, iList, cxOf, cxR, cxX, Cx.nox, Cx.wish, Cx.body, Cx.suite, List.getElem?_cons_zero, List.getElem?_cons_succ, List.set_cons_zero, List.set_cons_succ, Option.some.injEq, V.int.injEq, V.bl.injEq, V.ref.injEq, V.str.injEq, exists_eq_left', exists_eq_left, exists_and_left, true_and, and_true, List.cons.injEq, reduceCtorEq, Bool.false_eq_true, if_false, if_true, exists_const, ↓reduceIte, tyV, List.length_cons, List.length_nil, exists_eq, List.append_nil, List.cons_append, List.nil_append, decide_eq_true_eq, not_true_eq_false, not_false_eq_true, Bool.not_eq_true', decide_eq_false_iff_not, Bool.not_true, Bool.not_false, and_assoc, false_and, false_or, or_false, spDraw, e10]
      refine ⟨⟨by decide, by decide, by decide⟩, mulS' (by decide), ⟨by decide, by decide, by decide⟩, u4, by decide, by decide, fun r H5 r0 r1 s5 u5 => ?_⟩
      obtain ⟨g0, g1⟩ := grow i bt r t0 t1 r0 r1
      exact (hI _ _ _).mpr ⟨_, _, rfl, g0, g1, s4.trans s5, u5⟩
    · intro σ H4 hI4
      obtain ⟨bt, o1, rfl, t0, t1, s4, u4⟩ := (hI _ _ _).mp hI4
      exact hN _ _ ⟨bt, _, rfl, t0, up (by omega) t1, s4, u4⟩
  clear s2 u2
  rintro σ H3 ⟨bt, o1, rfl, bt0, bt1, s3, u3⟩
  simp only [rLen, rLst, rSlS, rPartition, rStarts, iStr, rIntS, rJoin, rIxS, rSplitS, rInN, tComp_eq, tCompIf_eq, tSl, tSl3, tPart, tNoPart, rSlL, rPop, rAppend, capSt, List.map_cons, List.map_nil, Option.bind_none, Option.bind_some, Option.join_some, tSeq, tIfS, tAnd, tOr, tNot, tTest, tB, tOp, tUn, tBM0, tBM, tVar, tC, tCB, tRet, tAsg, gName, gSub, gTup, gCons, gNil, tCons, tNil, tPar, tTup, tLst, tIf, tAndV, tNotV, tDef, tCallX, tCallV, tDrop, tNext, tNever, tRaise, rI, rI0, rU, rBitLen, rIxL, rIxT, rSetL, rEq, rNe, rCount, rIndex, rSplit, rIsI, rCat, iRng1, iList, cxOf, cxR, cxX, Cx.nox, Cx.wish, Cx.body, Cx.suite, List.getElem?_cons_zero, List.getElem?_cons_succ, List.set_cons_zero, List.set_cons_succ, Option.some.injEq, V.int.injEq, V.bl.injEq, V.ref.injEq, V.str.injEq, exists_eq_left', exists_eq_left, exists_and_left, true_and, and_true, List.cons.injEq, reduceCtorEq, Bool.false_eq_true, if_false, if_true, exists_const, ↓reduceIte, tyV, List.length_cons, List.length_nil, exists_eq, List.append_nil, List.cons_append, List.nil_append, decide_eq_true_eq, not_true_eq_false, not_false_eq_true, Bool.not_eq_true', decide_eq_false_iff_not, Bool.not_true, Bool.not_false, and_assoc, false_and, false_or, or_false, spDraw]
  refine ⟨small2, fun l hl => ⟨urn_new u3 hl, by decide, by decide, fun r H4 r0 r1 s4 u4 => ?_⟩⟩
  have e := s4 l _ upd_same (urn_ne u3 hl)
  have sx : SameX u H H4 := s3.trans (SameX.trans (Same.x (Same.new hl _) u) s4)
  have fin : ∀ sg : Int, sg = 1 ∨ sg = -1 → spLow [V.int (tp * sg), V.int (if bt > 1 then bt else 1)] H4 Q E0 := by
    intro sg hsg
    have hb : 0 < (if bt > 1 then bt else 1) ∧ (if bt > 1 then bt else 1) < 10 ^ 30 := by split <;> omega
    have ht : (tp * sg).natAbs < 10 ^ 30 := by rcases hsg with h | h <;> subst h <;> omega
    obtain ⟨b, eb⟩ : ∃ b, b = (if bt > 1 then bt else 1) := ⟨_, rfl⟩
    rw [← eb] at hb ⊢
    have dl := divInt_le (t := tp * sg) (b := b) (by omega)
    refine ⟨_, _, rfl, by omega, Nat.lt_of_lt_of_le (show b.natAbs < 10 ^ 30 by omega) (Nat.le_trans (show 10 ^ 30 ≤ 2 ^ 100 by decide) (pow_le_pow2 (by decide))), fun r H' sm hr' => ?_⟩
    exact k r _ H' (by omega) (by omega) (sx.trans (Same.x sm u)) (Same.urn sm u4) hr'
  have h3 : r = 0 ∨ r = 1 := by omega
  rcases h3 with h | h <;> subst h
  · exact ⟨_, SqL.of e, _, rfl, _, rfl, mulS' (by decide), fin 1 (.inl rfl)⟩
  · exact ⟨_, SqL.of e, _, rfl, _, rfl, mulS' (by decide), fin (-1) (.inr rfl)⟩
end
end R

set_option maxRecDepth 100000
namespace R
open PySem L2 PyProof.Rows
section
variable {P : Program} {w : World} {K : PySem.W.Frag} {mg : Str → Option Value} {base : Heap}
theorem comp_dtab {K : PySem.W.Frag} {u D : Addr} {kd : Int} {n : Nat} {H : Hp} {Qv : VK} (hU : UrnAt H u) (hn : n ≤ 100) (hD : H D = none)
    (k : ∀ (ts : List Addr) (M : List (List Rat)) H2, SameX u H H2 → UrnAt H2 u → H2 D = some (.lst (ts.map V.ref)) → (∀ t ∈ ts, H t = none ∧ t ≠ u ∧ t ≠ D) → ts.Nodup → Rws H2 ts M → M.length = n → (∀ L ∈ M, L.length = n ∧ ∀ q ∈ L, Sm q) → Qv (.ref D) H2) :
    CompW (Itr 0 (n : Int).toNat) D [some (V.ref u), some (V.int (n : Int)), some (V.int kd), none] (upd H D (HO.lst [])) (gName 3)
      (fun σ H Q => ∃ v, σ[1]? = some (some v) ∧ ∃ j, v = V.int j ∧ -2 ^ 62 ≤ j ∧ j < 2 ^ 62 ∧ ∀ (D : Addr), H D = none → CompW (Itr 0 j.toNat) D [σ[0]?.join, σ[2]?.join, none] (upd H D (HO.lst [])) (gName 2) (tDef spNumber E0 (tCons (tVar 0) (tCons (tVar 1) tNil))) Q) Qv := by
  rw [Int.toNat_natCast]
  have hDu : D ≠ u := urn_ne hU hD
  refine cw_range (fun i σ H2 => ∃ o, σ = [some (.ref u), some (.int (n : Int)), some (.int kd), o] ∧ SameX u H H2 ∧ UrnAt H2 u ∧ ∃ ts M, H2 D = some (.lst (ts.map V.ref)) ∧ (∀ t ∈ ts, H t = none ∧ t ≠ u ∧ t ≠ D) ∧ ts.Nodup ∧ Rws H2 ts M ∧ M.length = i ∧ ∀ L ∈ M, L.length = n ∧ ∀ q ∈ L, Sm q)
    ⟨_, rfl, Same.x (Same.new hD _) u, urn_new hU hD, [], [], upd_same, by simp, by simp, .nil, rfl, by simp⟩ ?_ ?_
  · rintro i σ H2 hi ⟨o, rfl, s2, u2, ts, M, eD, hts, nd, hR, hM, hL⟩
    refine ⟨_, rfl, _, rfl, by omega, by omega, fun D2 hD2 => ?_⟩
    have hD2u : D2 ≠ u := urn_ne u2 hD2
    have hD2D : D2 ≠ D := (ne_of_none eD hD2).symm
    rw [Int.toNat_natCast]
    refine cw_range (fun j σ H3 => ∃ o, σ = [some (.ref u), some (.int kd), o] ∧ SameX u H2 H3 ∧ UrnAt H3 u ∧ ∃ xs, H3 D2 = some (.lst xs) ∧ ∃ qs, Nums H3 xs qs ∧ qs.length = j ∧ ∀ q ∈ qs, Sm q)
      ⟨_, rfl, Same.x (Same.new hD2 _) u, urn_new u2 hD2, [], upd_same, [], .nil, rfl, by simp⟩ ?_ ?_
    · rintro j σ H3 hj ⟨o, rfl, s3, u3, xs, e3, qs, n3, hl, hs⟩
      simp only [rLen, rLst, rSlS, rPartition, rStarts, iStr, rIntS, rJoin, rIxS, rSplitS, rInN, tComp_eq, tCompIf_eq, tSl, tSl3, tPart, tNoPart, rSlL, rPop, rAppend, capSt, List.map_cons, List.map_nil, Option.bind_none, Option.bind_some, Option.join_some, tSeq, tIfS, tAnd, tOr, tNot, tTest, tB, tOp, tUn, tBM0, tBM, tVar, tC, tCB, tRet, tAsg, gName, gSub, gTup, gCons, gNil, tCons, tNil, tPar, tTup, tLst, tIf, tAndV, tNotV, tDef, tCallX, tCallV, tDrop, tNext, tNever, tRaise, rI, rI0, rU, rBitLen, rIxL, rIxT, rSetL, rEq, rNe, rCount, rIndex, rSplit, rIsI, rCat, iRng1, iList, cxOf, cxR, cxX, Cx.nox, Cx.wish, Cx.body, Cx.suite, List.getElem?_cons_zero, List.getElem?_cons_succ, List.set_cons_zero, List.set_cons_succ, Option.some.injEq, V.int.injEq, V.bl.injEq, V.ref.injEq, V.str.injEq, exists_eq_left', exists_eq_left, exists_and_left, true_and, and_true, List.cons.injEq, reduceCtorEq, Bool.false_eq_true, if_false, if_true, exists_const, ↓reduceIte, tyV, List.length_cons, List.length_nil, exists_eq, List.append_nil, List.cons_append, List.nil_append, decide_eq_true_eq, not_true_eq_false, not_false_eq_true, Bool.not_eq_true', decide_eq_false_iff_not, Bool.not_true, Bool.not_false, and_assoc, false_and, false_or, or_false]
      refine ⟨u, kd, rfl, u3, fun rn q H4 sq s4 u4 e4 => ?_⟩
      have e3' := s4 _ _ e3 hD2u
      refine CompN.mk hj e3' (by rw [n3.length, hl]; exact Nat.lt_of_lt_of_le (show j < 101 by omega) (by decide)) ⟨_, rfl, (s3.trans s4).over hD2 _, u4.other hD2u, xs ++ [.ref rn], upd_same, qs ++ [q], ((n3.mono (s4.tups u3)).append (.cons e4 .nil)).mono (TupS.lst e3'), by simp [hl], fun p hp => ?_⟩
      rcases List.mem_append.mp hp with h | h
      · exact hs p h
      · rw [List.mem_singleton.mp h]; exact sq
    · rintro σ H3 ⟨o, rfl, s3, u3, xs, e3, qs, n3, hl, hs⟩
      have eD3 := s3 _ _ eD hDu
      have hR3 := hR.samex s3 u2 (fun t ht => (hts t ht).2.1)
      have nt : D2 ∉ ts := fun z => by
        obtain ⟨i, hi⟩ := List.getElem?_of_mem z
        obtain ⟨xs, L, _, et, _⟩ := hR.get hi
        rw [hD2] at et; cases et
      refine CompN.mk hi eD3 (by rw [List.length_map, hR.length, hM]; exact Nat.lt_of_lt_of_le (show i < 101 by omega) (by decide)) ⟨_, rfl, (s2.trans s3).over hD _, u3.other hDu, ts ++ [D2], M ++ [qs], by rw [List.map_append]; exact upd_same, fun t ht => ?_, ?_, ?_, by simp [hM], fun L hL' => ?_⟩
      · rcases List.mem_append.mp ht with h | h
        · exact hts t h
        · rw [List.mem_singleton.mp h]
          exact ⟨s2.free u2 hD2, hD2u, hD2D⟩
      · rw [List.nodup_append]
        refine ⟨nd, List.nodup_cons.mpr ⟨by simp, List.nodup_nil⟩, fun a ha b hb => ?_⟩
        rw [List.mem_singleton.mp hb]
        rintro rfl
        exact nt ha
      · refine (hR3.append (.cons e3 n3 .nil)).over eD3 (fun z => ?_)
        rcases List.mem_append.mp z with h | h
        · exact (hts _ h).2.2 rfl
        · exact hD2D (List.mem_singleton.mp h).symm
      · rcases List.mem_append.mp hL' with h | h
        · exact hL L h
        · rw [List.mem_singleton.mp h]; exact ⟨hl, hs⟩
  · rintro σ H2 ⟨o, rfl, s2, u2, ts, M, eD, hts, nd, hR, hM, hL⟩
    exact k ts M H2 s2 u2 eD hts nd hR hM hL
end
end R

set_option maxRecDepth 100000
namespace R
open PySem L2 PyProof.Rows
theorem sgn_stroke : sgn ("/" : Str) = [47] := by decide +kernel
theorem dig_mem {n c : Nat} (h : c ∈ (Nat.toDigits 10 n).map Char.toNat) : 48 ≤ c ∧ c ≤ 57 := by
  obtain ⟨ch, hch, e⟩ := List.mem_map.mp h
  have r := Nat.isDigit_of_mem_toDigits (by decide) (by decide) hch
  rw [← e]
  simp only [Char.isDigit, Bool.and_eq_true, decide_eq_true_eq] at r
  exact ⟨r.1, r.2⟩
theorem dig_ne (n : Nat) : (Nat.toDigits 10 n).map Char.toNat ≠ [] := by
  intro e
  have := NumText.digitsVal_zero (cs := [])
  by_cases h : n < 10
  · rw [Nat.toDigits_of_lt_base h] at e; cases e
  · have t : Nat.toDigits 10 (n / 10) ++ Nat.toDigits 10 (n % 10) = Nat.toDigits 10 (10 * (n / 10) + n % 10) := Nat.toDigits_append_toDigits (by decide) (by omega) (Nat.mod_lt _ (by decide))
    rw [Nat.div_add_mod] at t
    rw [← t, Nat.toDigits_of_lt_base (Nat.mod_lt n (by decide : 0 < 10))] at e
    simp at e
theorem dig_lead : ∀ n : Nat, 0 < n → ((Nat.toDigits 10 n).map Char.toNat).head? ≠ some 48 := by
  intro n
  induction n using Nat.strongRecOn with
  | _ n ih =>
    intro h0
    by_cases h : n < 10
    · rw [Nat.toDigits_of_lt_base h]
      have : n = 1 ∨ n = 2 ∨ n = 3 ∨ n = 4 ∨ n = 5 ∨ n = 6 ∨ n = 7 ∨ n = 8 ∨ n = 9 := by omega
      rcases this with h | h | h | h | h | h | h | h | h <;> subst h <;> decide
    · have t : Nat.toDigits 10 (n / 10) ++ Nat.toDigits 10 (n % 10) = Nat.toDigits 10 (10 * (n / 10) + n % 10) := Nat.toDigits_append_toDigits (by decide) (by omega) (Nat.mod_lt _ (by decide))
      rw [Nat.div_add_mod] at t
      have ih' := ih (n / 10) (by omega) (by omega)
      rw [← t, List.map_append]
      have ne := dig_ne (n / 10)
      revert ih' ne
      generalize (Nat.toDigits 10 (n / 10)).map Char.toNat = l
      intro ih' ne
      cases l with
      | nil => exact absurd rfl ne
      | cons c cs => simpa using ih'
theorem fig_nat {x : Str} {n : Nat} (h : sgn x = (Nat.toDigits 10 n).map Char.toNat) (hn : n < 10 ^ 30) : figS x = some n := by
  have hl : x.length = (Nat.toDigits 10 n).length := by rw [← sgn_len, h, List.length_map]
  have hl30 : x.length ≤ 30 := by rw [hl]; exact (Nat.length_toDigits_le_iff (by decide) (by decide)).mpr hn
  have hl0 : x.length ≠ 0 := fun z => dig_ne n (by rw [← h]; exact List.eq_nil_of_length_eq_zero (by rw [sgn_len]; exact z))
  have hd : (sgn x).all isDg = true := List.all_eq_true.mpr fun c hc => by
    rw [h] at hc
    exact decide_eq_true (dig_mem hc)
  unfold figS
  rw [if_neg (by rw [hd]; simp; omega), if_neg]
  · rw [h, PySem.W.KIN.val_back]
  · rintro ⟨z1, z2⟩
    rw [h] at z1
    by_cases h0 : n = 0
    · subst h0
      exact z2 (by rw [hl]; decide)
    · exact dig_lead n (by omega) z1
/-- the signs of a whole number -/
theorem sgn_int (i : Int) : sgn (Str.ofString (toString i)) = (if i < 0 then [45] else []) ++ (Nat.toDigits 10 i.natAbs).map Char.toNat := by
  rcases Int.lt_or_le i 0 with hi | hi
  · obtain ⟨n, rfl⟩ : ∃ n : Nat, i = -(n : Int) := ⟨i.natAbs, by omega⟩
    rw [text_neg n (by omega), sgn_app, sgn_lit, sgn_nat, if_pos hi, Int.natAbs_neg, Int.natAbs_natCast]
  · obtain ⟨n, rfl⟩ : ∃ n : Nat, i = (n : Int) := ⟨i.toNat, by omega⟩
    rw [sgn_nat, if_neg (by omega), Int.natAbs_natCast]; rfl
theorem int_mem {i : Int} {c : Nat} (h : c ∈ sgn (Str.ofString (toString i))) : c = 45 ∨ (48 ≤ c ∧ c ≤ 57) := by
  rw [sgn_int] at h
  rcases List.mem_append.mp h with h | h
  · split at h
    · exact .inl (List.mem_singleton.mp h)
    · cases h
  · exact .inr (dig_mem h)
theorem show_mem {q : Rat} {c : Nat} (h : c ∈ sgn (showS q)) : c = 45 ∨ c = 47 ∨ (48 ≤ c ∧ c ≤ 57) := by
  unfold showS at h
  split at h
  · rcases int_mem h with h | h
    · exact .inl h
    · exact .inr (.inr h)
  · rw [sgn_app, sgn_app] at h
    rcases List.mem_append.mp h with h | h
    · rcases List.mem_append.mp h with h | h
      · rcases int_mem h with h | h
        · exact .inl h
        · exact .inr (.inr h)
      · rw [sgn_stroke] at h
        exact .inr (.inl (List.mem_singleton.mp h))
    · rcases int_mem h with h | h
      · exact .inl h
      · exact .inr (.inr h)
theorem top_of {x : Str} {i : Int} (hx : pA x = Str.ofString (toString i)) (hi : i.natAbs < 10 ^ 30) : topS x = some i.natAbs ∧ (isMn (pA x) = true ↔ i < 0) := by
  have hm : isMn (pA x) = true ↔ i < 0 := by
    rw [mn_iff, hx, sgn_int]
    constructor
    · intro h
      rcases Int.lt_or_le i 0 with h0 | h0
      · exact h0
      · rw [if_neg (by omega), List.nil_append] at h
        have := dig_mem (List.mem_of_mem_head? h)
        omega
    · intro h; rw [if_pos h]; rfl
  refine ⟨?_, hm⟩
  unfold topS
  by_cases h : i < 0
  · rw [if_pos (hm.mpr h)]
    refine fig_nat ?_ hi
    have := slice_from (pA x) 1
    rw [show ((1 : Nat) : Int) = 1 from rfl] at this
    rw [this, hx, sgn_int, if_pos h]; rfl
  · rw [if_neg fun z => h (hm.mp z)]
    refine fig_nat ?_ hi
    rw [hx, sgn_int, if_neg h]; rfl
theorem no_at {x : Str} (h : 47 ∉ sgn x) (k : Nat) : ¬ StrLaws.At x "/" x.length k := fun z => h (List.mem_of_getElem? (at_head sgn_stroke z))
theorem part_none {x : Str} (h : 47 ∉ sgn x) : pA x = x ∧ pM x = Str.empty := by
  have e : Builtin.Str.occurrences x "/" 0 x.length 1 = [] := by
    rcases StrLaws.occ_head x "/" 1 (by decide) with ⟨e, _⟩ | ⟨i, r, _, a, _⟩
    · exact e
    · exact absurd a (no_at h i)
  unfold pA pM partS
  rw [e]
  exact ⟨rfl, rfl⟩
theorem part_some {x a b : Str} (hx : x = a ++ "/" ++ b) (h : 47 ∉ sgn a) : pA x = a ∧ pM x = "/" ∧ pB x = b := by
  have sx : sgn x = sgn a ++ 47 :: sgn b := by rw [hx, sgn_app, sgn_app, sgn_stroke, List.append_assoc]; rfl
  have lx : x.length = (sgn a).length + 1 + (sgn b).length := by rw [← sgn_len, sx]; simp; omega
  have e : ∃ r, Builtin.Str.occurrences x "/" 0 x.length 1 = (sgn a).length :: r := by
    have yes : StrLaws.At x "/" x.length (sgn a).length := by
      rw [at_iff, show Str.length "/" = 1 by decide +kernel, sx, List.drop_left, sgn_stroke]
      exact ⟨by omega, rfl⟩
    rcases StrLaws.occ_head x "/" 1 (by decide) with ⟨_, z⟩ | ⟨i, r, e, ai, no⟩
    · exact absurd yes (z _)
    · have : i = (sgn a).length := by
        rcases Nat.lt_trichotomy i (sgn a).length with g | g | g
        · have := at_head sgn_stroke ai
          rw [sx, List.getElem?_append_left g] at this
          exact absurd (List.mem_of_getElem? this) h
        · exact g
        · exact absurd yes (no _ g)
      exact ⟨r, by rw [e, this]⟩
  obtain ⟨r, e⟩ := e
  have e1 : partS x "/" = [Builtin.Str.strSub x 0 (sgn a).length, "/", Builtin.Str.strSub x ((sgn a).length + Str.length "/") x.length] := by unfold partS; rw [e]
  refine ⟨?_, ?_, ?_⟩
  · unfold pA
    rw [e1]
    refine str_ext ?_
    show (Builtin.Str.strSub x 0 (sgn a).length).cps.toList = _
    rw [StrLaws.strSub_toList]
    show ((sgn x).drop 0).take _ = _
    rw [List.drop_zero, sx, Nat.sub_zero, List.take_left]
  · unfold pM; rw [e1]; rfl
  · unfold pB
    rw [e1]
    refine str_ext ?_
    show (Builtin.Str.strSub x _ x.length).cps.toList = _
    rw [StrLaws.strSub_toList, show Str.length "/" = 1 by decide +kernel]
    show ((sgn x).drop _).take _ = _
    rw [sx, ← List.drop_drop, List.drop_left, List.drop_succ_cons, List.drop_zero, List.take_of_length_le (by omega)]
theorem read_show {q : Rat} (h1 : q.num.natAbs < 10 ^ 30) (h2 : q.den < 10 ^ 30) : readS (showS q) = some q := by
  have hi : 47 ∉ sgn (Str.ofString (toString q.num)) := fun z => by rcases int_mem z with h | h <;> omega
  have g : Int.gcd (q.num.natAbs : Int) q.den = 1 := by
    have := q.reduced
    exact this
  have back : ∀ m : Bool, (m = true ↔ q.num < 0) → Rat.divInt (if m = true then -(q.num.natAbs : Int) else (q.num.natAbs : Int)) q.den = q := fun m hm => by
    have : (if m = true then -(q.num.natAbs : Int) else (q.num.natAbs : Int)) = q.num := by
      by_cases h : q.num < 0
      · rw [if_pos (hm.mpr h)]; omega
      · rw [if_neg fun z => h (hm.mp z)]; omega
    rw [this, Rat.num_divInt_den]
  have d0 := q.den_nz
  by_cases hd : q.den = 1
  · have e : showS q = Str.ofString (toString q.num) := by unfold showS; rw [if_pos hd]
    rw [e]
    obtain ⟨p1, p2⟩ := part_none hi
    obtain ⟨t1, t2⟩ := top_of (x := Str.ofString (toString q.num)) p1 h1
    have bt : botS (Str.ofString (toString q.num)) = some 1 := by unfold botS; rw [if_pos p2]
    unfold readS
    rw [t1, bt]
    show (if _ then none else some _) = _
    have b := back (isMn (pA (Str.ofString (toString q.num)))) t2
    rw [hd] at b g
    rw [if_neg, show ((1 : Nat) : Int) = 1 from rfl] 
    · rw [show ((1 : Nat) : Int) = 1 from rfl] at b; rw [b]
    · rintro (z | ⟨z1, z2⟩ | ⟨z1, _⟩ | z)
      · cases z
      · have := t2.mp z1; omega
      · exact z1 p2
      · exact z g
  · have e : showS q = Str.ofString (toString q.num) ++ "/" ++ Str.ofString (toString (q.den : Int)) := by unfold showS; rw [if_neg hd]
    obtain ⟨p1, p2, p3⟩ := part_some e hi
    obtain ⟨t1, t2⟩ := top_of (x := showS q) p1 h1
    have ne : pM (showS q) ≠ Str.empty := by rw [p2]; decide +kernel
    have bt : botS (showS q) = some q.den := by
      unfold botS
      rw [if_neg ne, p3]
      exact fig_nat (sgn_nat q.den) h2
    unfold readS
    rw [t1, bt]
    show (if _ then none else some _) = _
    have b := back (isMn (pA (showS q))) t2
    rw [if_neg, b]
    rintro (z | ⟨z1, z2⟩ | ⟨_, z⟩ | z)
    · exact d0 z
    · have := t2.mp z1; omega
    · exact hd z
    · exact z g
end R

set_option maxRecDepth 100000
namespace R
open PySem L2 PyProof.Rows
def B30 (q : Rat) : Prop := q.num.natAbs < 10 ^ 30 ∧ q.den < 10 ^ 30
theorem B30.sh {q : Rat} (h : B30 q) : ShN q := ⟨Nat.lt_trans h.1 (by decide), Nat.lt_trans h.2 (by decide)⟩
theorem sgn_blank : sgn (" " : Str) = [32] := by decide +kernel
theorem sgn_semi : sgn ("; " : Str) = [59, 32] := by decide +kernel
theorem wds_show {qs : List Rat} (h : qs ≠ []) : wds (showL qs) = qs.map showS := by
  unfold wds showL
  rw [join_eq]
  exact split_join " " sgn_blank (by decide +kernel) _ (by simpa using h) fun w hw => by
    obtain ⟨q, _, rfl⟩ := List.mem_map.mp hw
    intro z
    rcases show_mem z with h | h | h <;> omega
theorem read_map {qs : List Rat} (hb : ∀ q ∈ qs, B30 q) : (qs.map showS).map readS = qs.map some := by
  rw [List.map_map]
  exact List.map_congr_left fun q hq => read_show (hb q hq).1 (hb q hq).2
theorem nums_show {qs : List Rat} (h : qs ≠ []) (hb : ∀ q ∈ qs, B30 q) : numsS (showL qs) = some qs := by
  unfold numsS
  rw [wds_show h, read_map hb, allO_map]
theorem poly_show {qs : List Rat} (hb : ∀ q ∈ qs, B30 q) (hl : qs.length ≤ 15) (ht : IsTl qs qs.length) : polyS (showP qs) = some qs := by
  unfold showP
  by_cases h : qs = []
  · rw [if_pos h]
    unfold polyS
    rw [if_pos rfl, h]
  · rw [if_neg h]
    have hn := nums_show h hb
    unfold polyS
    rw [if_neg, hn]
    · show (if _ then none else some qs) = some qs
      rw [if_neg]
      rintro (z | z)
      · omega
      · rw [List.getLast?_eq_getElem?] at z
        exact ht.last (by have := List.length_pos_iff.mpr h; omega) _ z rfl
    · intro z
      rw [z] at hn
      rw [show numsS "-" = none by decide +kernel] at hn
      cases hn
theorem jn_memc {y : List Nat} {c : Nat} : ∀ {ws : List (List Nat)}, c ∈ jn y ws → c ∈ y ∨ ∃ w ∈ ws, c ∈ w
  | [], h => by cases h
  | [w], h => .inr ⟨w, by simp, h⟩
  | w :: w2 :: ws, h => by
    have h' : c ∈ w ++ y ++ jn y (w2 :: ws) := h
    rcases List.mem_append.mp h' with h | h
    · rcases List.mem_append.mp h with h | h
      · exact .inr ⟨w, by simp, h⟩
      · exact .inl h
    · rcases jn_memc h with h | ⟨v, hv, hc⟩
      · exact .inl h
      · exact .inr ⟨v, by simp at hv ⊢; exact .inr hv, hc⟩
theorem showL_no59 (qs : List Rat) : 59 ∉ sgn (showL qs) := fun z => by
  unfold showL at z
  rw [join_eq, sgn_join] at z
  rcases jn_memc z with h | ⟨w, hw, hc⟩
  · rw [sgn_blank] at h; simp at h
  · rw [List.map_map] at hw
    obtain ⟨q, _, rfl⟩ := List.mem_map.mp hw
    rcases show_mem hc with h | h | h <;> omega
theorem tab_show {M : List (List Rat)} (h0 : M ≠ []) (h7 : M.length ≤ 7) (hM : ∀ L ∈ M, L.length = M.length ∧ ∀ q ∈ L, B30 q) : tabS (showT M) = some M := by
  have er : rwsS (showT M) = M.map showL := by
    unfold rwsS showT
    rw [join_eq]
    exact split_join "; " sgn_semi (by decide +kernel) _ (by simpa using h0) fun w hw => by
      obtain ⟨L, _, rfl⟩ := List.mem_map.mp hw
      exact showL_no59 L
  have em : (M.map showL).map numsS = M.map some := by
    rw [List.map_map]
    refine List.map_congr_left fun L hL => nums_show (fun z => ?_) (hM L hL).2
    have := (hM L hL).1
    rw [z] at this
    exact h0 (List.eq_nil_of_length_eq_zero this.symm)
  unfold tabS
  rw [er, em, allO_map]
  show (if _ then none else some M) = _
  rw [if_neg]
  rintro (z | z)
  · omega
  · obtain ⟨L, hL, hn⟩ := List.any_eq_true.mp z
    exact of_decide_eq_true hn (hM L hL).1
section
variable {P : Program} {w : World} {K : PySem.W.Frag} {mg : Str → Option Value} {base : Heap}
def spPRight (K : PySem.W.Frag) : Sp := fun vs H Q _ => ∃ a xs qs, vs = [.ref a] ∧ H a = some (.lst xs) ∧ Nums H xs qs ∧ (∀ q ∈ qs, B30 q) ∧ qs.length ≤ 15 ∧ IsTl qs qs.length ∧ (showP qs).length ≤ 5000 ∧ ∀ H', Same H H' → Q (.bl true) H'
abbrev s__law_poly_right : Stmt := top 64
theorem sc__law_poly_right : FnScope ["_law_p", "_law_turn", "_law_handed", "_law_text", "_law_found", "_law_word", "_law_far"] ["_law_p"] (defScope s__law_poly_right) := ⟨rfl, rfl, rfl, by decide +kernel, rfl, by decide +kernel, by decide +kernel⟩
set_option maxHeartbeats 0 in
theorem ok__law_poly_right {a : CAd} {f f1 f2 f3 f4 f5 : Addr} (d : Df K mg "_law_poly_right" s__law_poly_right ["_law_p"] f) (G__law_show_poly : Def P w K mg base CX0 2 "_law_show_poly" f1 ["_law_p"] (spShowP K)) (G_show_poly : Def P w K mg base CX0 5 "show_poly" f2 ["p"] (spShowP K)) (G__law_said : Def P w K mg base CX0 6 "_law_said" f3 ["_law_deed", "_law_thing"] (spSaidT P w K mg base a)) (G_read_poly : Def P w K mg base (CXR P w) 5 "read_poly" f4 ["text"] (spReadP K a.c_NoText)) (G__law_is_poly : Def P w K mg base CX0 3 "_law_is_poly" f5 ["_law_thing"] (spIsPoly K)) (n_list : mg "list" = none) (n_range : mg "range" = none) (n_isinstance : mg "isinstance" = none) (n_str : mg "str" = none) : Def P w K mg base CX0 7 "_law_poly_right" f ["_law_p"] (spPRight K) := by
  refine d.ok (N := ["_law_p", "_law_turn", "_law_handed", "_law_text", "_law_found", "_law_word", "_law_far"]) sc__law_poly_right (by rintro vs H Q E ⟨_, _, _, h, _⟩; rw [h]; rfl) (fun cdv A outer s H vs Q E hr h => ?_)
  obtain ⟨ap, xs, qs, rfl, ha, n, hb, hl, ht, hx, k⟩ := h
  have hu := hr.units
  have d_read_poly := G_read_poly
  refine ⟨_, (pss_cons (ps_par (i := 2) (j := 3) rfl sc__law_poly_right.nd rfl rfl (by decide) rfl rfl (pa_cons (pe_callTy call_list_of rfl n_list (by decide +kernel) (pa_cons (pv 0) pa_nil)) (pa_cons (pe_def G__law_show_poly hr (pa_cons (pv 0) pa_nil) pass0) pa_nil)) rfl)
      (pss_cons (ps_for PassesOwn.never rfl (pi_range1 rfl n_range (pa_cons pe_int pa_nil)) (pg_name (i := 1) sc__law_poly_right.nd rfl (Or.inl rfl)) (pss_cons (ps_set (i := 4) sc__law_poly_right.nd rfl (Or.inl rfl) (pe_def G_show_poly hr (pa_cons (pv 2) pa_nil) pass0))
      (pss_cons (ps_if (PW.pt (pw_or (pt_not (pt_val (pe_callB call_isinst rfl n_isinstance (by decide +kernel) (pa_cons (pv 4) (pa_cons (pe_bltn (v := .ty "str") rfl n_str (by decide +kernel) rfl) pa_nil))))) (pw_or (pt_cmpR op_ne (pv 4) (pv 3) (nomark _)) (pw_or1 (pt_cmpR (op_neD hu) (pv 2) (pv 0) (nomark _)))))) (pss_one (ps_ret pe_bl)) pss_nil)
      (pss_cons (ps_asg (pe_def G__law_said hr (pa_cons (pe_glob (v := .ref _) rfl d_read_poly.m rfl) (pa_cons (pv 3) pa_nil)) pass0) (show PG _ _ (gTup K 2 (gCons (gName 5) (gCons (gName 6) gNil))) from by (refine pg_tup (n := 2) ?_ ?_ ?_ ?_; rfl; (refine pgs_cons ?_ ?_ ?_; (exact (pg_name (i := 5) sc__law_poly_right.nd rfl (Or.inl rfl))); (refine pgs_cons ?_ ?_ ?_; (exact (pg_name (i := 6) sc__law_poly_right.nd rfl (Or.inl rfl))); (exact pgs_nil); rfl); rfl); rfl; rfl)))
      (pss_cons (ps_if (PW.pt (pw_or (pt_cmpR op_ne (pv 5) pe_str (nomark _)) (pw_or (pt_not (pt_val (pe_def G__law_is_poly hr (pa_cons (pv 6) pa_nil) pass0))) (pw_or1 (pt_cmpR (op_neD hu) (pv 6) (pv 0) (nomark _)))))) (pss_one (ps_ret pe_bl)) pss_nil)
      (pss_one (ps_expr (pe_bm PySem.F.plainAttrs_list PySem.F.slot_list_append PySem.F.type_list_append mt_append (pv 6) (pa_cons (pe_tup (pa_cons pe_int (pa_cons pe_int pa_nil))) pa_nil)))))))))
      (pss_one (ps_ret pe_bl)))), ?_⟩
  rw [show start ["_law_p", "_law_turn", "_law_handed", "_law_text", "_law_found", "_law_word", "_law_far"] [.ref ap] = [some (.ref ap), none, none, none, none, none, none] from rfl]
  obtain ⟨x, ex⟩ : ∃ x, x = showP qs := ⟨_, rfl⟩
  have px : polyS x = some qs := by rw [ex]; exact poly_show hb hl ht
  rw [← ex] at hx
  refine seq_cut (fun σ H1 => ∃ l, σ = [some (.ref ap), none, some (.ref l), some (.str x), none, none, none] ∧ Same H H1 ∧ H1 l = some (.lst xs)) (fun N hN => ?_) ?_
  · simp only [rLen, rLst, rSlS, rPartition, rStarts, iStr, rIntS, rJoin, rIxS, rSplitS, rInN, tComp_eq, tCompIf_eq, tSl, tSl3, tPart, tNoPart, rSlL, rPop, rAppend, capSt, List.map_cons, List.map_nil, Option.bind_none, Option.bind_some, Option.join_some, tSeq, tIfS, tAnd, tOr, tNot, tTest, tB, tOp, tUn, tBM0, tBM, tVar, tC, tCB, tRet, tAsg, gName, gSub, gTup, gCons, gNil, tCons, tNil, tPar, tTup, tLst, tIf, tAndV, tNotV, tDef, tCallX, tCallV, tDrop, tNext, tNever, tRaise, rI, rI0, rU, rBitLen, rIxL, rIxT, rSetL, rEq, rNe, rCount, rIndex, rSplit, rIsI, rCat, iRng1, iList, cxOf, cxR, cxX, Cx.nox, Cx.wish, Cx.body, Cx.suite, List.getElem?_cons_zero, List.getElem?_cons_succ, List.set_cons_zero, List.set_cons_succ, Option.some.injEq, V.int.injEq, V.bl.injEq, V.ref.injEq, V.str.injEq, exists_eq_left', exists_eq_left, exists_and_left, true_and, and_true, List.cons.injEq, reduceCtorEq, Bool.false_eq_true, if_false, if_true, exists_const, ↓reduceIte, tyV, List.length_cons, List.length_nil, exists_eq, List.append_nil, List.cons_append, List.nil_append, decide_eq_true_eq, not_true_eq_false, not_false_eq_true, Bool.not_eq_true', decide_eq_false_iff_not, Bool.not_true, Bool.not_false, and_assoc, false_and, false_or, or_false]
    refine ⟨xs, .inl (SqL.of ha), fun l hl => ⟨ap, xs, qs, rfl, SqL.of (Same.new hl _ _ _ ha), (n.mono (Same.new hl _).tups).toC, fun q hq => (hb q hq).sh, by omega, fun H1 s1 => hN _ _ ⟨l, by rw [ex], (Same.new hl _).trans s1, s1 _ _ upd_same⟩⟩⟩
  rintro σ H1 ⟨l, rfl, s1, el⟩
  have ha1 := s1 _ _ ha
  have n1 := n.mono s1.tups
  refine seq_cut (fun σ H2 => Same H H2) (fun N hN => ?_) ?_
  · obtain ⟨J, hJ⟩ : ∃ J : Nat → L2.St → Hp → Prop, ∀ j σ H2, J j σ H2 ↔ ∃ o1 o4 o5 o6, σ = [some (.ref ap), o1, some (.ref l), some (.str x), o4, o5, o6] ∧ Same H1 H2 := ⟨_, fun _ _ _ => Iff.rfl⟩
    refine ⟨2, rfl, by decide, by decide, for_range J ((hJ _ _ _).mpr ⟨_, _, _, _, rfl, Same.refl _⟩) ?_ ?_⟩
    · intro j σ H2 hj hJ2
      obtain ⟨o1, o4, o5, o6, rfl, s2⟩ := (hJ _ _ _).mp hJ2
      simp only [gName, List.set_cons_zero, List.set_cons_succ]
      refine seq_cut (fun σ H3 => σ = [some (.ref ap), some (.int (0 + (j : Int))), some (.ref l), some (.str x), some (.str x), o5, o6] ∧ Same H1 H3) (fun N hN => ?_) ?_
      · simp only [rLen, rLst, rSlS, rPartition, rStarts, iStr, rIntS, rJoin, rIxS, rSplitS, rInN, tComp_eq, tCompIf_eq, tSl, tSl3, tPart, tNoPart, rSlL, rPop, rAppend, capSt, List.map_cons, List.map_nil, Option.bind_none, Option.bind_some, Option.join_some, tSeq, tIfS, tAnd, tOr, tNot, tTest, tB, tOp, tUn, tBM0, tBM, tVar, tC, tCB, tRet, tAsg, gName, gSub, gTup, gCons, gNil, tCons, tNil, tPar, tTup, tLst, tIf, tAndV, tNotV, tDef, tCallX, tCallV, tDrop, tNext, tNever, tRaise, rI, rI0, rU, rBitLen, rIxL, rIxT, rSetL, rEq, rNe, rCount, rIndex, rSplit, rIsI, rCat, iRng1, iList, cxOf, cxR, cxX, Cx.nox, Cx.wish, Cx.body, Cx.suite, List.getElem?_cons_zero, List.getElem?_cons_succ, List.set_cons_zero, List.set_cons_succ, Option.some.injEq, V.int.injEq, V.bl.injEq, V.ref.injEq, V.str.injEq, exists_eq_left', exists_eq_left, exists_and_left, true_and, and_true, List.cons.injEq, reduceCtorEq, Bool.false_eq_true, if_false, if_true, exists_const, ↓reduceIte, tyV, List.length_cons, List.length_nil, exists_eq, List.append_nil, List.cons_append, List.nil_append, decide_eq_true_eq, not_true_eq_false, not_false_eq_true, Bool.not_eq_true', decide_eq_false_iff_not, Bool.not_true, Bool.not_false, and_assoc, false_and, false_or, or_false]
        exact ⟨l, xs, qs, rfl, SqL.of (s2 _ _ el), (n1.mono s2.tups).toC, fun q hq => (hb q hq).sh, by omega, fun H3 s3 => hN _ _ ⟨by rw [ex], s2.trans s3⟩⟩
      clear s2
      rintro σ H3 ⟨rfl, s3⟩
      refine seq_cut (fun σ H4 => σ = [some (.ref ap), some (.int (0 + (j : Int))), some (.ref l), some (.str x), some (.str x), o5, o6] ∧ H4 = H3) (fun N hN => ?_) ?_
      · simp only [rLen, rLst, rSlS, rPartition, rStarts, iStr, rIntS, rJoin, rIxS, rSplitS, rInN, tComp_eq, tCompIf_eq, tSl, tSl3, tPart, tNoPart, rSlL, rPop, rAppend, capSt, List.map_cons, List.map_nil, Option.bind_none, Option.bind_some, Option.join_some, tSeq, tIfS, tAnd, tOr, tNot, tTest, tB, tOp, tUn, tBM0, tBM, tVar, tC, tCB, tRet, tAsg, gName, gSub, gTup, gCons, gNil, tCons, tNil, tPar, tTup, tLst, tIf, tAndV, tNotV, tDef, tCallX, tCallV, tDrop, tNext, tNever, tRaise, rI, rI0, rU, rBitLen, rIxL, rIxT, rSetL, rEq, rNe, rCount, rIndex, rSplit, rIsI, rCat, iRng1, iList, cxOf, cxR, cxX, Cx.nox, Cx.wish, Cx.body, Cx.suite, List.getElem?_cons_zero, List.getElem?_cons_succ, List.set_cons_zero, List.set_cons_succ, Option.some.injEq, V.int.injEq, V.bl.injEq, V.ref.injEq, V.str.injEq, exists_eq_left', exists_eq_left, exists_and_left, true_and, and_true, List.cons.injEq, reduceCtorEq, Bool.false_eq_true, if_false, if_true, exists_const, ↓reduceIte, tyV, List.length_cons, List.length_nil, exists_eq, List.append_nil, List.cons_append, List.nil_append, decide_eq_true_eq, not_true_eq_false, not_false_eq_true, Bool.not_eq_true', decide_eq_false_iff_not, Bool.not_true, Bool.not_false, and_assoc, false_and, false_or, or_false]
        refine ⟨trivial, _, .of (.str x), _, kit_self "str", ite2 (fun z => by cases z) (fun _ => ⟨rfl, ?_⟩)⟩
        refine ⟨dList qs, dList qs, rfl, isD_list (SqL.of (s3 _ _ el)) (n1.mono s3.tups), isD_list (SqL.of (s3 _ _ ha1)) (n1.mono s3.tups), okD_list _ _, Nat.le_trans (dp_list _) (by decide), ?_⟩
        rw [eqD_list]
        exact ⟨_, rfl, ite2 (fun z => by simp at z) (fun _ => hN _ _ ⟨rfl, rfl⟩)⟩
      rintro σ H4 ⟨rfl, rfl⟩
      refine seq_cut (fun σ H5 => ∃ l' ys, σ = [some (.ref ap), some (.int (0 + (j : Int))), some (.ref l), some (.str x), some (.str x), some (.str "told"), some (.ref l')] ∧ Same H4 H5 ∧ H4 l' = none ∧ H5 l' = some (.lst ys) ∧ Nums H5 ys qs) (fun N hN => ?_) ?_
      · simp only [rLen, rLst, rSlS, rPartition, rStarts, iStr, rIntS, rJoin, rIxS, rSplitS, rInN, tComp_eq, tCompIf_eq, tSl, tSl3, tPart, tNoPart, rSlL, rPop, rAppend, capSt, List.map_cons, List.map_nil, Option.bind_none, Option.bind_some, Option.join_some, tSeq, tIfS, tAnd, tOr, tNot, tTest, tB, tOp, tUn, tBM0, tBM, tVar, tC, tCB, tRet, tAsg, gName, gSub, gTup, gCons, gNil, tCons, tNil, tPar, tTup, tLst, tIf, tAndV, tNotV, tDef, tCallX, tCallV, tDrop, tNext, tNever, tRaise, rI, rI0, rU, rBitLen, rIxL, rIxT, rSetL, rEq, rNe, rCount, rIndex, rSplit, rIsI, rCat, iRng1, iList, cxOf, cxR, cxX, Cx.nox, Cx.wish, Cx.body, Cx.suite, List.getElem?_cons_zero, List.getElem?_cons_succ, List.set_cons_zero, List.set_cons_succ, Option.some.injEq, V.int.injEq, V.bl.injEq, V.ref.injEq, V.str.injEq, exists_eq_left', exists_eq_left, exists_and_left, true_and, and_true, List.cons.injEq, reduceCtorEq, Bool.false_eq_true, if_false, if_true, exists_const, ↓reduceIte, tyV, List.length_cons, List.length_nil, exists_eq, List.append_nil, List.cons_append, List.nil_append, decide_eq_true_eq, not_true_eq_false, not_false_eq_true, Bool.not_eq_true', decide_eq_false_iff_not, Bool.not_true, Bool.not_false, and_assoc, false_and, false_or, or_false]
        refine said_poly G_read_poly hx (fun e => by rw [px] at e; cases e) (fun qs' e l' ys r H5 s5 fl lr el' nl er => ?_)
        rw [px] at e
        cases e
        exact ⟨r, rfl, _, SqT.of er, rfl, _, _, rfl, _, _, rfl, rfl, hN _ _ ⟨l', ys, rfl, s5, fl, el', nl⟩⟩
      rintro σ H5 ⟨l', ys, rfl, s5, fl, el', nl⟩
      have S5 := s3.trans s5
      refine seq_cut (fun σ H6 => σ = [some (.ref ap), some (.int (0 + (j : Int))), some (.ref l), some (.str x), some (.str x), some (.str "told"), some (.ref l')] ∧ Same H5 H6) (fun N hN => ?_) ?_
      · simp only [rLen, rLst, rSlS, rPartition, rStarts, iStr, rIntS, rJoin, rIxS, rSplitS, rInN, tComp_eq, tCompIf_eq, tSl, tSl3, tPart, tNoPart, rSlL, rPop, rAppend, capSt, List.map_cons, List.map_nil, Option.bind_none, Option.bind_some, Option.join_some, tSeq, tIfS, tAnd, tOr, tNot, tTest, tB, tOp, tUn, tBM0, tBM, tVar, tC, tCB, tRet, tAsg, gName, gSub, gTup, gCons, gNil, tCons, tNil, tPar, tTup, tLst, tIf, tAndV, tNotV, tDef, tCallX, tCallV, tDrop, tNext, tNever, tRaise, rI, rI0, rU, rBitLen, rIxL, rIxT, rSetL, rEq, rNe, rCount, rIndex, rSplit, rIsI, rCat, iRng1, iList, cxOf, cxR, cxX, Cx.nox, Cx.wish, Cx.body, Cx.suite, List.getElem?_cons_zero, List.getElem?_cons_succ, List.set_cons_zero, List.set_cons_succ, Option.some.injEq, V.int.injEq, V.bl.injEq, V.ref.injEq, V.str.injEq, exists_eq_left', exists_eq_left, exists_and_left, true_and, and_true, List.cons.injEq, reduceCtorEq, Bool.false_eq_true, if_false, if_true, exists_const, ↓reduceIte, tyV, List.length_cons, List.length_nil, exists_eq, List.append_nil, List.cons_append, List.nil_append, decide_eq_true_eq, not_true_eq_false, not_false_eq_true, Bool.not_eq_true', decide_eq_false_iff_not, Bool.not_true, Bool.not_false, and_assoc, false_and, false_or, or_false]
        refine ⟨rfl, ⟨l', ys, qs, rfl, el', nl, fun q hq => Nat.lt_of_lt_of_le (hb q hq).2 (Nat.le_trans (show 10 ^ 30 ≤ 2 ^ 100 by decide) (pow_le_pow2 (by decide))), by rw [nl.length]; omega, ht, fun H6 s6 => ⟨_, rfl, ite2 (fun z => by cases z) (fun _ => ?_)⟩⟩⟩
        refine ⟨dList qs, dList qs, rfl, isD_list (SqL.of (s6 _ _ el')) (nl.mono s6.tups), isD_list (SqL.of (s6 _ _ (S5 _ _ ha1))) (n1.mono (S5.trans s6).tups), okD_list _ _, Nat.le_trans (dp_list _) (by decide), ?_⟩
        rw [eqD_list]
        exact ⟨_, rfl, ite2 (fun z => by simp at z) (fun _ => hN _ _ ⟨rfl, s6⟩)⟩
      rintro σ H6 ⟨rfl, s6⟩
      simp only [rLen, rLst, rSlS, rPartition, rStarts, iStr, rIntS, rJoin, rIxS, rSplitS, rInN, tComp_eq, tCompIf_eq, tSl, tSl3, tPart, tNoPart, rSlL, rPop, rAppend, capSt, List.map_cons, List.map_nil, Option.bind_none, Option.bind_some, Option.join_some, tSeq, tIfS, tAnd, tOr, tNot, tTest, tB, tOp, tUn, tBM0, tBM, tVar, tC, tCB, tRet, tAsg, gName, gSub, gTup, gCons, gNil, tCons, tNil, tPar, tTup, tLst, tIf, tAndV, tNotV, tDef, tCallX, tCallV, tDrop, tNext, tNever, tRaise, rI, rI0, rU, rBitLen, rIxL, rIxT, rSetL, rEq, rNe, rCount, rIndex, rSplit, rIsI, rCat, iRng1, iList, cxOf, cxR, cxX, Cx.nox, Cx.wish, Cx.body, Cx.suite, List.getElem?_cons_zero, List.getElem?_cons_succ, List.set_cons_zero, List.set_cons_succ, Option.some.injEq, V.int.injEq, V.bl.injEq, V.ref.injEq, V.str.injEq, exists_eq_left', exists_eq_left, exists_and_left, true_and, and_true, List.cons.injEq, reduceCtorEq, Bool.false_eq_true, if_false, if_true, exists_const, ↓reduceIte, tyV, List.length_cons, List.length_nil, exists_eq, List.append_nil, List.cons_append, List.nil_append, decide_eq_true_eq, not_true_eq_false, not_false_eq_true, Bool.not_eq_true', decide_eq_false_iff_not, Bool.not_true, Bool.not_false, and_assoc, false_and, false_or, or_false]
      refine ⟨.inl ⟨_, SqL.of (s6 _ _ el')⟩, small2, fun p hp => ⟨ys, (Same.new hp _) _ _ (s6 _ _ el'), by rw [nl.length]; exact Nat.lt_of_le_of_lt hl (by decide), ?_⟩⟩
      exact (hJ _ _ _).mpr ⟨_, _, _, _, rfl, s3.trans (Same.over (s5.trans (s6.trans (Same.new hp _))) fl _)⟩
    · intro σ H2 hJ2
      obtain ⟨o1, o4, o5, o6, rfl, s2⟩ := (hJ _ _ _).mp hJ2
      exact hN _ _ (s1.trans s2)
  intro σ H2 s2
  simp only [rLen, rLst, rSlS, rPartition, rStarts, iStr, rIntS, rJoin, rIxS, rSplitS, rInN, tComp_eq, tCompIf_eq, tSl, tSl3, tPart, tNoPart, rSlL, rPop, rAppend, capSt, List.map_cons, List.map_nil, Option.bind_none, Option.bind_some, Option.join_some, tSeq, tIfS, tAnd, tOr, tNot, tTest, tB, tOp, tUn, tBM0, tBM, tVar, tC, tCB, tRet, tAsg, gName, gSub, gTup, gCons, gNil, tCons, tNil, tPar, tTup, tLst, tIf, tAndV, tNotV, tDef, tCallX, tCallV, tDrop, tNext, tNever, tRaise, rI, rI0, rU, rBitLen, rIxL, rIxT, rSetL, rEq, rNe, rCount, rIndex, rSplit, rIsI, rCat, iRng1, iList, cxOf, cxR, cxX, Cx.nox, Cx.wish, Cx.body, Cx.suite, List.getElem?_cons_zero, List.getElem?_cons_succ, List.set_cons_zero, List.set_cons_succ, Option.some.injEq, V.int.injEq, V.bl.injEq, V.ref.injEq, V.str.injEq, exists_eq_left', exists_eq_left, exists_and_left, true_and, and_true, List.cons.injEq, reduceCtorEq, Bool.false_eq_true, if_false, if_true, exists_const, ↓reduceIte, tyV, List.length_cons, List.length_nil, exists_eq, List.append_nil, List.cons_append, List.nil_append, decide_eq_true_eq, not_true_eq_false, not_false_eq_true, Bool.not_eq_true', decide_eq_false_iff_not, Bool.not_true, Bool.not_false, and_assoc, false_and, false_or, or_false]
  exact k H2 s2
end
end R

set_option maxRecDepth 100000
namespace R
open PySem L2 PyProof.Rows
section
variable {P : Program} {w : World} {K : PySem.W.Frag} {mg : Str → Option Value} {base : Heap}
def spTRight (K : PySem.W.Frag) : Sp := fun vs H Q _ => ∃ a ts M, vs = [.ref a] ∧ H a = some (.lst (ts.map V.ref)) ∧ Rws H ts M ∧ M ≠ [] ∧ M.length ≤ 7 ∧ (∀ L ∈ M, L.length = M.length ∧ ∀ q ∈ L, B30 q) ∧ (showT M).length ≤ 5000 ∧ ∀ H', Same H H' → Q (.bl true) H'
abbrev s__law_table_right : Stmt := top 65
theorem sc__law_table_right : FnScope ["_law_table", "_law_turn", "_law_handed", "_law_text", "_law_found", "_law_word", "_law_far"] ["_law_table"] (defScope s__law_table_right) := ⟨rfl, rfl, rfl, by decide +kernel, rfl, by decide +kernel, by decide +kernel⟩
set_option maxHeartbeats 0 in
theorem ok__law_table_right {a : CAd} {f f1 f2 f3 f4 f5 : Addr} (d : Df K mg "_law_table_right" s__law_table_right ["_law_table"] f) (G__law_show_table : Def P w K mg base CX0 2 "_law_show_table" f1 ["_law_table"] (spShowT K)) (G_show_table : Def P w K mg base CX0 5 "show_table" f2 ["table"] (spShowT K)) (G__law_said : Def P w K mg base CX0 6 "_law_said" f3 ["_law_deed", "_law_thing"] (spSaidT P w K mg base a)) (G_read_table : Def P w K mg base (CXR P w) 5 "read_table" f4 ["text"] (spReadTb K a.c_NoText)) (G__law_is_table : Def P w K mg base CX0 3 "_law_is_table" f5 ["_law_thing", "_law_n"] (spIsTab K)) (n_list : mg "list" = none) (n_range : mg "range" = none) (n_isinstance : mg "isinstance" = none) (n_str : mg "str" = none) (n_len : mg "len" = none) : Def P w K mg base CX0 7 "_law_table_right" f ["_law_table"] (spTRight K) := by
  refine d.ok (N := ["_law_table", "_law_turn", "_law_handed", "_law_text", "_law_found", "_law_word", "_law_far"]) sc__law_table_right (by rintro vs H Q E ⟨_, _, _, h, _⟩; rw [h]; rfl) (fun cdv A outer s H vs Q E hr h => ?_)
  obtain ⟨ap, ts, M, rfl, ha, R, h0, h7, hM, hx, k⟩ := h
  have hu := hr.units
  have d_read_table := G_read_table
  refine ⟨_, (pss_cons (ps_par (i := 2) (j := 3) rfl sc__law_table_right.nd rfl rfl (by decide) rfl rfl (pa_cons (pe_comp (Nc := ["_law_row"]) (caps := [none]) rfl (Caps.of (osc := defScope s__law_table_right) (N := ["_law_table", "_law_turn", "_law_handed", "_law_text", "_law_found", "_law_word", "_law_far"]) (ks := []) rfl rfl rfl rfl sub_nil (by decide +kernel)) (pi_list (pv 0)) (fun C s₂ H₂ fp pins => (pg_name (i := 0) (show List.Nodup (["_law_row"] : List Str) by decide +kernel) rfl (Or.inl rfl) (Or.inr rfl))) (fun C s₂ H₂ fp pins => (pe_callTy (by exact call_list_of : CallR _ (.type "list") (rLst K)) rfl n_list (by decide +kernel) (pa_cons (pv 0) pa_nil)))) (pa_cons (pe_def G__law_show_table hr (pa_cons (pv 0) pa_nil) pass0) pa_nil)) rfl)
      (pss_cons (ps_for PassesOwn.never rfl (pi_range1 rfl n_range (pa_cons pe_int pa_nil)) (pg_name (i := 1) sc__law_table_right.nd rfl (Or.inl rfl)) (pss_cons (ps_set (i := 4) sc__law_table_right.nd rfl (Or.inl rfl) (pe_def G_show_table hr (pa_cons (pv 2) pa_nil) pass0))
      (pss_cons (ps_if (PW.pt (pw_or (pt_not (pt_val (pe_callB call_isinst rfl n_isinstance (by decide +kernel) (pa_cons (pv 4) (pa_cons (pe_bltn (v := .ty "str") rfl n_str (by decide +kernel) rfl) pa_nil))))) (pw_or (pt_cmpR op_ne (pv 4) (pv 3) (nomark _)) (pw_or1 (pt_cmpR (op_neD hu) (pv 2) (pv 0) (nomark _)))))) (pss_one (ps_ret pe_bl)) pss_nil)
      (pss_cons (ps_asg (pe_def G__law_said hr (pa_cons (pe_glob (v := .ref _) rfl d_read_table.m rfl) (pa_cons (pv 3) pa_nil)) pass0) (show PG _ _ (gTup K 2 (gCons (gName 5) (gCons (gName 6) gNil))) from by (refine pg_tup (n := 2) ?_ ?_ ?_ ?_; rfl; (refine pgs_cons ?_ ?_ ?_; (exact (pg_name (i := 5) sc__law_table_right.nd rfl (Or.inl rfl))); (refine pgs_cons ?_ ?_ ?_; (exact (pg_name (i := 6) sc__law_table_right.nd rfl (Or.inl rfl))); (exact pgs_nil); rfl); rfl); rfl; rfl)))
      (pss_cons (ps_if (PW.pt (pw_or (pt_cmpR op_ne (pv 5) pe_str (nomark _)) (pw_or (pt_not (pt_val (pe_def G__law_is_table hr (pa_cons (pv 6) (pa_cons (pe_callB call_len_seq rfl n_len (by decide +kernel) (pa_cons (pv 0) pa_nil)) pa_nil)) pass0))) (pw_or1 (pt_cmpR (op_neD hu) (pv 6) (pv 0) (nomark _)))))) (pss_one (ps_ret pe_bl)) pss_nil)
      (pss_cons (ps_expr (pe_bm PySem.F.plainAttrs_list PySem.F.slot_list_append PySem.F.type_list_append mt_append (pe_ix ix_list (pv 6) pe_int (fun _ _ => rfl)) (pa_cons (pe_tup (pa_cons pe_int (pa_cons pe_int pa_nil))) pa_nil)))
      (pss_one (ps_expr (pe_bm PySem.F.plainAttrs_list PySem.F.slot_list_append PySem.F.type_list_append mt_append (pv 6) (pa_cons (pe_lst pa_nil) pa_nil))))))))))
      (pss_one (ps_ret pe_bl)))), ?_⟩
  rw [show start ["_law_table", "_law_turn", "_law_handed", "_law_text", "_law_found", "_law_word", "_law_far"] [.ref ap] = [some (.ref ap), none, none, none, none, none, none] from rfl]
  obtain ⟨x, ex⟩ : ∃ x, x = showT M := ⟨_, rfl⟩
  have px : tabS x = some M := by rw [ex]; exact tab_show h0 h7 hM
  rw [← ex] at hx
  have hsh : ∀ L ∈ M, L.length ≤ 100 ∧ ∀ q ∈ L, ShN q := fun L hL => ⟨by rw [(hM L hL).1]; omega, fun q hq => ((hM L hL).2 q hq).sh⟩
  have hRl := R.length
  obtain ⟨q1, q2, q3⟩ := eqD_tabs M
  refine seq_cut (fun σ H1 => ∃ l us, σ = [some (.ref ap), none, some (.ref l), some (.str x), none, none, none] ∧ Same H H1 ∧ H1 l = some (.lst (us.map V.ref)) ∧ Rws H1 us M) (fun N hN => ?_) ?_
  · simp only [rLen, rLst, rSlS, rPartition, rStarts, iStr, rIntS, rJoin, rIxS, rSplitS, rInN, tComp_eq, tCompIf_eq, tSl, tSl3, tPart, tNoPart, rSlL, rPop, rAppend, capSt, List.map_cons, List.map_nil, Option.bind_none, Option.bind_some, Option.join_some, tSeq, tIfS, tAnd, tOr, tNot, tTest, tB, tOp, tUn, tBM0, tBM, tVar, tC, tCB, tRet, tAsg, gName, gSub, gTup, gCons, gNil, tCons, tNil, tPar, tTup, tLst, tIf, tAndV, tNotV, tDef, tCallX, tCallV, tDrop, tNext, tNever, tRaise, rI, rI0, rU, rBitLen, rIxL, rIxT, rSetL, rEq, rNe, rCount, rIndex, rSplit, rIsI, rCat, iRng1, iList, cxOf, cxR, cxX, Cx.nox, Cx.wish, Cx.body, Cx.suite, List.getElem?_cons_zero, List.getElem?_cons_succ, List.set_cons_zero, List.set_cons_succ, Option.some.injEq, V.int.injEq, V.bl.injEq, V.ref.injEq, V.str.injEq, exists_eq_left', exists_eq_left, exists_and_left, true_and, and_true, List.cons.injEq, reduceCtorEq, Bool.false_eq_true, if_false, if_true, exists_const, ↓reduceIte, tyV, List.length_cons, List.length_nil, exists_eq, List.append_nil, List.cons_append, List.nil_append, decide_eq_true_eq, not_true_eq_false, not_false_eq_true, Bool.not_eq_true', decide_eq_false_iff_not, Bool.not_true, Bool.not_false, and_assoc, false_and, false_or, or_false]
    refine ⟨⟨_, SqL.of ha⟩, fun D hD => ?_⟩
    refine cw_list (ts.map V.ref) (fun i σ H2 => ∃ o, σ = [o] ∧ Same H H2 ∧ ∃ us : List Addr, H2 D = some (.lst (us.map V.ref)) ∧ Rws H2 us (M.take i) ∧ D ∉ us) ⟨_, rfl, Same.new hD _, [], upd_same, .nil, by simp⟩ (by rintro i σ H2 _ ⟨_, _, s2, _⟩; exact SqL.of (s2 _ _ ha)) ?_ ?_
    · rintro m y σ H2 hy ⟨o, rfl, s2, us, e2, R2, f2⟩
      have hm := (List.getElem?_eq_some_iff.mp hy).1
      have hm2 : m < M.length := by rw [List.length_map] at hm; omega
      rw [List.getElem?_map] at hy
      obtain ⟨t, ht, rfl⟩ := Option.map_eq_some_iff.mp hy
      obtain ⟨xs, L, eL, et, nt⟩ := R.get ht
      simp only [rLen, rLst, rSlS, rPartition, rStarts, iStr, rIntS, rJoin, rIxS, rSplitS, rInN, tComp_eq, tCompIf_eq, tSl, tSl3, tPart, tNoPart, rSlL, rPop, rAppend, capSt, List.map_cons, List.map_nil, Option.bind_none, Option.bind_some, Option.join_some, tSeq, tIfS, tAnd, tOr, tNot, tTest, tB, tOp, tUn, tBM0, tBM, tVar, tC, tCB, tRet, tAsg, gName, gSub, gTup, gCons, gNil, tCons, tNil, tPar, tTup, tLst, tIf, tAndV, tNotV, tDef, tCallX, tCallV, tDrop, tNext, tNever, tRaise, rI, rI0, rU, rBitLen, rIxL, rIxT, rSetL, rEq, rNe, rCount, rIndex, rSplit, rIsI, rCat, iRng1, iList, cxOf, cxR, cxX, Cx.nox, Cx.wish, Cx.body, Cx.suite, List.getElem?_cons_zero, List.getElem?_cons_succ, List.set_cons_zero, List.set_cons_succ, Option.some.injEq, V.int.injEq, V.bl.injEq, V.ref.injEq, V.str.injEq, exists_eq_left', exists_eq_left, exists_and_left, true_and, and_true, List.cons.injEq, reduceCtorEq, Bool.false_eq_true, if_false, if_true, exists_const, ↓reduceIte, tyV, List.length_cons, List.length_nil, exists_eq, List.append_nil, List.cons_append, List.nil_append, decide_eq_true_eq, not_true_eq_false, not_false_eq_true, Bool.not_eq_true', decide_eq_false_iff_not, Bool.not_true, Bool.not_false, and_assoc, false_and, false_or, or_false]
      refine ⟨xs, .inl (SqL.of (s2 _ _ et)), fun p hp => ?_⟩
      have s3 := Same.new hp (.lst xs)
      have pD : p ≠ D := (ne_of_none e2 hp).symm
      refine CompN.mk hm (s3 _ _ e2) (by rw [List.length_map, R2.length, List.length_take]; exact Nat.lt_of_le_of_lt (Nat.min_le_left _ _) (Nat.lt_of_lt_of_le (show m < 8 by omega) (by decide))) ⟨_, rfl, (s2.trans s3).over hD _, us ++ [p], by rw [List.map_append]; exact upd_same, ?_, by simp; exact ⟨f2, fun z => pD z.symm⟩⟩
      rw [List.take_succ, eL]
      exact ((R2.same s3).append (.cons upd_same (nt.mono (s2.trans s3).tups) .nil)).over (s3 _ _ e2) (by simp; exact ⟨f2, fun z => pD z.symm⟩)
    · rintro σ H2 ⟨o, rfl, s2, us, e2, R2, f2⟩
      rw [List.length_map, List.take_of_length_le (by omega)] at R2
      exact ⟨ap, ts, M, rfl, s2 _ _ ha, (R.same s2).toC, hsh, by omega, fun H3 s3 => hN _ _ ⟨D, us, by rw [ex], s2.trans s3, s3 _ _ e2, R2.same s3⟩⟩
  rintro σ H1 ⟨l, us, rfl, s1, el, Rl⟩
  have ha1 := s1 _ _ ha
  have R1 := R.same s1
  refine seq_cut (fun σ H2 => Same H H2) (fun N hN => ?_) ?_
  · obtain ⟨J, hJ⟩ : ∃ J : Nat → L2.St → Hp → Prop, ∀ j σ H2, J j σ H2 ↔ ∃ o1 o4 o5 o6, σ = [some (.ref ap), o1, some (.ref l), some (.str x), o4, o5, o6] ∧ Same H1 H2 := ⟨_, fun _ _ _ => Iff.rfl⟩
    refine ⟨2, rfl, by decide, by decide, for_range J ((hJ _ _ _).mpr ⟨_, _, _, _, rfl, Same.refl _⟩) ?_ ?_⟩
    · intro j σ H2 hj hJ2
      obtain ⟨o1, o4, o5, o6, rfl, s2⟩ := (hJ _ _ _).mp hJ2
      simp only [gName, List.set_cons_zero, List.set_cons_succ]
      refine seq_cut (fun σ H3 => σ = [some (.ref ap), some (.int (0 + (j : Int))), some (.ref l), some (.str x), some (.str x), o5, o6] ∧ Same H1 H3) (fun N hN => ?_) ?_
      · simp only [rLen, rLst, rSlS, rPartition, rStarts, iStr, rIntS, rJoin, rIxS, rSplitS, rInN, tComp_eq, tCompIf_eq, tSl, tSl3, tPart, tNoPart, rSlL, rPop, rAppend, capSt, List.map_cons, List.map_nil, Option.bind_none, Option.bind_some, Option.join_some, tSeq, tIfS, tAnd, tOr, tNot, tTest, tB, tOp, tUn, tBM0, tBM, tVar, tC, tCB, tRet, tAsg, gName, gSub, gTup, gCons, gNil, tCons, tNil, tPar, tTup, tLst, tIf, tAndV, tNotV, tDef, tCallX, tCallV, tDrop, tNext, tNever, tRaise, rI, rI0, rU, rBitLen, rIxL, rIxT, rSetL, rEq, rNe, rCount, rIndex, rSplit, rIsI, rCat, iRng1, iList, cxOf, cxR, cxX, Cx.nox, Cx.wish, Cx.body, Cx.suite, List.getElem?_cons_zero, List.getElem?_cons_succ, List.set_cons_zero, List.set_cons_succ, Option.some.injEq, V.int.injEq, V.bl.injEq, V.ref.injEq, V.str.injEq, exists_eq_left', exists_eq_left, exists_and_left, true_and, and_true, List.cons.injEq, reduceCtorEq, Bool.false_eq_true, if_false, if_true, exists_const, ↓reduceIte, tyV, List.length_cons, List.length_nil, exists_eq, List.append_nil, List.cons_append, List.nil_append, decide_eq_true_eq, not_true_eq_false, not_false_eq_true, Bool.not_eq_true', decide_eq_false_iff_not, Bool.not_true, Bool.not_false, and_assoc, false_and, false_or, or_false]
        exact ⟨l, us, M, rfl, s2 _ _ el, (Rl.same s2).toC, hsh, by omega, fun H3 s3 => hN _ _ ⟨by rw [ex], s2.trans s3⟩⟩
      clear s2
      rintro σ H3 ⟨rfl, s3⟩
      refine seq_cut (fun σ H4 => σ = [some (.ref ap), some (.int (0 + (j : Int))), some (.ref l), some (.str x), some (.str x), o5, o6] ∧ H4 = H3) (fun N hN => ?_) ?_
      · simp only [rLen, rLst, rSlS, rPartition, rStarts, iStr, rIntS, rJoin, rIxS, rSplitS, rInN, tComp_eq, tCompIf_eq, tSl, tSl3, tPart, tNoPart, rSlL, rPop, rAppend, capSt, List.map_cons, List.map_nil, Option.bind_none, Option.bind_some, Option.join_some, tSeq, tIfS, tAnd, tOr, tNot, tTest, tB, tOp, tUn, tBM0, tBM, tVar, tC, tCB, tRet, tAsg, gName, gSub, gTup, gCons, gNil, tCons, tNil, tPar, tTup, tLst, tIf, tAndV, tNotV, tDef, tCallX, tCallV, tDrop, tNext, tNever, tRaise, rI, rI0, rU, rBitLen, rIxL, rIxT, rSetL, rEq, rNe, rCount, rIndex, rSplit, rIsI, rCat, iRng1, iList, cxOf, cxR, cxX, Cx.nox, Cx.wish, Cx.body, Cx.suite, List.getElem?_cons_zero, List.getElem?_cons_succ, List.set_cons_zero, List.set_cons_succ, Option.some.injEq, V.int.injEq, V.bl.injEq, V.ref.injEq, V.str.injEq, exists_eq_left', exists_eq_left, exists_and_left, true_and, and_true, List.cons.injEq, reduceCtorEq, Bool.false_eq_true, if_false, if_true, exists_const, ↓reduceIte, tyV, List.length_cons, List.length_nil, exists_eq, List.append_nil, List.cons_append, List.nil_append, decide_eq_true_eq, not_true_eq_false, not_false_eq_true, Bool.not_eq_true', decide_eq_false_iff_not, Bool.not_true, Bool.not_false, and_assoc, false_and, false_or, or_false]
        refine ⟨trivial, _, .of (.str x), _, kit_self "str", ite2 (fun z => by cases z) (fun _ => ⟨rfl, ?_⟩)⟩
        refine ⟨.lst (M.map dList), .lst (M.map dList), rfl, .lst (SqL.of (s3 _ _ el)) (Rl.same s3).isDs, .lst (SqL.of (s3 _ _ ha1)) (R1.same s3).isDs, q2, by omega, ?_⟩
        rw [q1]
        exact ⟨_, rfl, ite2 (fun z => by cases z) (fun _ => hN _ _ ⟨rfl, rfl⟩)⟩
      rintro σ H4 ⟨rfl, rfl⟩
      refine seq_cut (fun σ H5 => ∃ l' vs, σ = [some (.ref ap), some (.int (0 + (j : Int))), some (.ref l), some (.str x), some (.str x), some (.str "told"), some (.ref l')] ∧ Same H4 H5 ∧ H4 l' = none ∧ (∀ t ∈ vs, H4 t = none ∧ t ≠ l') ∧ H5 l' = some (.lst (vs.map V.ref)) ∧ Rws H5 vs M) (fun N hN => ?_) ?_
      · simp only [rLen, rLst, rSlS, rPartition, rStarts, iStr, rIntS, rJoin, rIxS, rSplitS, rInN, tComp_eq, tCompIf_eq, tSl, tSl3, tPart, tNoPart, rSlL, rPop, rAppend, capSt, List.map_cons, List.map_nil, Option.bind_none, Option.bind_some, Option.join_some, tSeq, tIfS, tAnd, tOr, tNot, tTest, tB, tOp, tUn, tBM0, tBM, tVar, tC, tCB, tRet, tAsg, gName, gSub, gTup, gCons, gNil, tCons, tNil, tPar, tTup, tLst, tIf, tAndV, tNotV, tDef, tCallX, tCallV, tDrop, tNext, tNever, tRaise, rI, rI0, rU, rBitLen, rIxL, rIxT, rSetL, rEq, rNe, rCount, rIndex, rSplit, rIsI, rCat, iRng1, iList, cxOf, cxR, cxX, Cx.nox, Cx.wish, Cx.body, Cx.suite, List.getElem?_cons_zero, List.getElem?_cons_succ, List.set_cons_zero, List.set_cons_succ, Option.some.injEq, V.int.injEq, V.bl.injEq, V.ref.injEq, V.str.injEq, exists_eq_left', exists_eq_left, exists_and_left, true_and, and_true, List.cons.injEq, reduceCtorEq, Bool.false_eq_true, if_false, if_true, exists_const, ↓reduceIte, tyV, List.length_cons, List.length_nil, exists_eq, List.append_nil, List.cons_append, List.nil_append, decide_eq_true_eq, not_true_eq_false, not_false_eq_true, Bool.not_eq_true', decide_eq_false_iff_not, Bool.not_true, Bool.not_false, and_assoc, false_and, false_or, or_false]
        refine said_tab G_read_table hx (fun e => by rw [px] at e; cases e) (fun M' e l' vs r H5 s5 fl fv nd lr el' Rv er => ?_)
        rw [px] at e
        cases e
        exact ⟨r, rfl, _, SqT.of er, rfl, _, _, rfl, _, _, rfl, rfl, hN _ _ ⟨l', vs, rfl, s5, fl, fun t ht => ⟨(fv t ht).1, (fv t ht).2.1⟩, el', Rv⟩⟩
      rintro σ H5 ⟨l', vs, rfl, s5, fl, fv, el', Rv⟩
      have S5 := s3.trans s5
      refine seq_cut (fun σ H6 => σ = [some (.ref ap), some (.int (0 + (j : Int))), some (.ref l), some (.str x), some (.str x), some (.str "told"), some (.ref l')] ∧ Same H5 H6) (fun N hN => ?_) ?_
      · simp only [rLen, rLst, rSlS, rPartition, rStarts, iStr, rIntS, rJoin, rIxS, rSplitS, rInN, tComp_eq, tCompIf_eq, tSl, tSl3, tPart, tNoPart, rSlL, rPop, rAppend, capSt, List.map_cons, List.map_nil, Option.bind_none, Option.bind_some, Option.join_some, tSeq, tIfS, tAnd, tOr, tNot, tTest, tB, tOp, tUn, tBM0, tBM, tVar, tC, tCB, tRet, tAsg, gName, gSub, gTup, gCons, gNil, tCons, tNil, tPar, tTup, tLst, tIf, tAndV, tNotV, tDef, tCallX, tCallV, tDrop, tNext, tNever, tRaise, rI, rI0, rU, rBitLen, rIxL, rIxT, rSetL, rEq, rNe, rCount, rIndex, rSplit, rIsI, rCat, iRng1, iList, cxOf, cxR, cxX, Cx.nox, Cx.wish, Cx.body, Cx.suite, List.getElem?_cons_zero, List.getElem?_cons_succ, List.set_cons_zero, List.set_cons_succ, Option.some.injEq, V.int.injEq, V.bl.injEq, V.ref.injEq, V.str.injEq, exists_eq_left', exists_eq_left, exists_and_left, true_and, and_true, List.cons.injEq, reduceCtorEq, Bool.false_eq_true, if_false, if_true, exists_const, ↓reduceIte, tyV, List.length_cons, List.length_nil, exists_eq, List.append_nil, List.cons_append, List.nil_append, decide_eq_true_eq, not_true_eq_false, not_false_eq_true, Bool.not_eq_true', decide_eq_false_iff_not, Bool.not_true, Bool.not_false, and_assoc, false_and, false_or, or_false]
        refine ⟨rfl, _, .inl (SqL.of (S5 _ _ ha1)), l', vs, M, by rw [List.length_map, hRl], el', Rv.toC, h7, fun L hL => ⟨(hM L hL).1, fun q hq => (bd30 ((hM L hL).2 q hq)).mono (by decide)⟩, fun H6 s6 => ⟨_, rfl, ite2 (fun z => by cases z) (fun _ => ?_)⟩⟩
        refine ⟨.lst (M.map dList), .lst (M.map dList), rfl, .lst (SqL.of (s6 _ _ el')) (Rv.same s6).isDs, .lst (SqL.of (s6 _ _ (S5 _ _ ha1))) (R1.same (S5.trans s6)).isDs, q2, by omega, ?_⟩
        rw [q1]
        exact ⟨_, rfl, ite2 (fun z => by cases z) (fun _ => hN _ _ ⟨rfl, s6⟩)⟩
      rintro σ H6 ⟨rfl, s6⟩
      simp only [rLen, rLst, rSlS, rPartition, rStarts, iStr, rIntS, rJoin, rIxS, rSplitS, rInN, tComp_eq, tCompIf_eq, tSl, tSl3, tPart, tNoPart, rSlL, rPop, rAppend, capSt, List.map_cons, List.map_nil, Option.bind_none, Option.bind_some, Option.join_some, tSeq, tIfS, tAnd, tOr, tNot, tTest, tB, tOp, tUn, tBM0, tBM, tVar, tC, tCB, tRet, tAsg, gName, gSub, gTup, gCons, gNil, tCons, tNil, tPar, tTup, tLst, tIf, tAndV, tNotV, tDef, tCallX, tCallV, tDrop, tNext, tNever, tRaise, rI, rI0, rU, rBitLen, rIxL, rIxT, rSetL, rEq, rNe, rCount, rIndex, rSplit, rIsI, rCat, iRng1, iList, cxOf, cxR, cxX, Cx.nox, Cx.wish, Cx.body, Cx.suite, List.getElem?_cons_zero, List.getElem?_cons_succ, List.set_cons_zero, List.set_cons_succ, Option.some.injEq, V.int.injEq, V.bl.injEq, V.ref.injEq, V.str.injEq, exists_eq_left', exists_eq_left, exists_and_left, true_and, and_true, List.cons.injEq, reduceCtorEq, Bool.false_eq_true, if_false, if_true, exists_const, ↓reduceIte, tyV, List.length_cons, List.length_nil, exists_eq, List.append_nil, List.cons_append, List.nil_append, decide_eq_true_eq, not_true_eq_false, not_false_eq_true, Bool.not_eq_true', decide_eq_false_iff_not, Bool.not_true, Bool.not_false, and_assoc, false_and, false_or, or_false]
      obtain ⟨t0, vs', rfl⟩ : ∃ t0 vs', vs = t0 :: vs' := by
        cases vs with
        | nil => have := Rv.length; exact absurd (List.eq_nil_of_length_eq_zero this.symm) h0
        | cons t0 vs' => exact ⟨t0, vs', rfl⟩
      obtain ⟨ys, L, eL, et, nt⟩ := Rv.get (i := 0) (p := t0) rfl
      have hL := hM L (List.mem_of_getElem? eL)
      have ft := fv t0 (by simp)
      have et6 := s6 _ _ et
      have el6 := s6 _ _ el'
      refine ⟨_, SqL.of el6, .ref t0, (by unfold atI ixN; simp), .inl ⟨_, SqL.of et6⟩, small2, fun p hp => ?_⟩
      have Sp := Same.new hp (.tup [.int 1, .int 1])
      have elp : upd (upd H6 p (.tup [.int 1, .int 1])) t0 (.lst (ys ++ [.ref p])) l' = some (.lst ((t0 :: vs').map V.ref)) := by
        rw [upd_ne (Ne.symm ft.2)]; exact Sp _ _ el6
      refine ⟨t0, rfl, ys, Sp _ _ et6, by rw [nt.length, hL.1]; exact Nat.lt_of_le_of_lt h7 (by decide), .inl ⟨_, SqL.of elp⟩, Nat.zero_le _, fun p1 hp1 => ?_⟩
      have Sp1 := Same.new hp1 (.lst [])
      refine ⟨_, Sp1 _ _ elp, ?_, (hJ _ _ _).mpr ⟨_, _, _, _, rfl, s3.trans (Same.over ((Same.over (s5.trans (s6.trans Sp)) ft.1 _).trans Sp1) fl _)⟩⟩
      have := Rv.length
      rw [List.length_map, this]
      exact Nat.lt_of_le_of_lt h7 (by decide)
    · intro σ H2 hJ2
      obtain ⟨o1, o4, o5, o6, rfl, s2⟩ := (hJ _ _ _).mp hJ2
      exact hN _ _ (s1.trans s2)
  intro σ H2 s2
  simp only [rLen, rLst, rSlS, rPartition, rStarts, iStr, rIntS, rJoin, rIxS, rSplitS, rInN, tComp_eq, tCompIf_eq, tSl, tSl3, tPart, tNoPart, rSlL, rPop, rAppend, capSt, List.map_cons, List.map_nil, Option.bind_none, Option.bind_some, Option.join_some, tSeq, tIfS, tAnd, tOr, tNot, tTest, tB, tOp, tUn, tBM0, tBM, tVar, tC, tCB, tRet, tAsg, gName, gSub, gTup, gCons, gNil, tCons, tNil, tPar, tTup, tLst, tIf, tAndV, tNotV, tDef, tCallX, tCallV, tDrop, tNext, tNever, tRaise, rI, rI0, rU, rBitLen, rIxL, rIxT, rSetL, rEq, rNe, rCount, rIndex, rSplit, rIsI, rCat, iRng1, iList, cxOf, cxR, cxX, Cx.nox, Cx.wish, Cx.body, Cx.suite, List.getElem?_cons_zero, List.getElem?_cons_succ, List.set_cons_zero, List.set_cons_succ, Option.some.injEq, V.int.injEq, V.bl.injEq, V.ref.injEq, V.str.injEq, exists_eq_left', exists_eq_left, exists_and_left, true_and, and_true, List.cons.injEq, reduceCtorEq, Bool.false_eq_true, if_false, if_true, exists_const, ↓reduceIte, tyV, List.length_cons, List.length_nil, exists_eq, List.append_nil, List.cons_append, List.nil_append, decide_eq_true_eq, not_true_eq_false, not_false_eq_true, Bool.not_eq_true', decide_eq_false_iff_not, Bool.not_true, Bool.not_false, and_assoc, false_and, false_or, or_false]
  exact k H2 s2
end
end R

set_option maxRecDepth 100000
namespace R
open PySem L2 PyProof.Rows
theorem sm_30 {q : Rat} (h : Sm q) : B30 q := ⟨Nat.lt_of_le_of_lt h.n (by decide), Nat.lt_of_le_of_lt h.d (by decide)⟩
theorem b30_len {q : Rat} (h : B30 q) : (showS q).length ≤ 62 := show_len (k := 30) (by decide) h.1 h.2
theorem showL_le {qs : List Rat} {m : Nat} (h : ∀ q ∈ qs, (showS q).length ≤ m) : (showL qs).length ≤ qs.length * (m + 1) := by
  have h1 := join_len " " (qs.map showS)
  unfold lenS at h1
  have h2 := sum_le (ws := qs.map showS) (m := m) fun w hw => by obtain ⟨q, hq, rfl⟩ := List.mem_map.mp hw; exact h q hq
  rw [show Str.length " " = 1 by decide +kernel] at h1
  rw [List.length_map] at h1 h2
  unfold showL
  rw [Nat.mul_add]
  omega
/-- a good polynomial, a good table -/
def PolyG (H : Hp) (a : Addr) : Prop := ∃ xs qs, H a = some (.lst xs) ∧ Nums H xs qs ∧ (∀ q ∈ qs, B30 q) ∧ qs.length ≤ 15 ∧ IsTl qs qs.length
def TabG (H1 : Hp) (u : Addr) (n : Nat) (ap : Addr) (H : Hp) (r : Addr) : Prop := ∃ ts M, r ≠ u ∧ H r = some (.lst (ts.map V.ref)) ∧ (∀ t ∈ ts, H1 t = none ∧ t ≠ u ∧ t ≠ r ∧ t ≠ ap) ∧ ts.Nodup ∧ Rws H ts M ∧ M.length = n ∧ ∀ L ∈ M, L.length = n ∧ ∀ q ∈ L, B30 q
theorem PolyG.samex {u a : Addr} {H H' : Hp} (s : SameX u H H') (hu : UrnAt H u) (au : a ≠ u) (h : PolyG H a) : PolyG H' a := by
  obtain ⟨xs, qs, e, n, r⟩ := h; exact ⟨xs, qs, s _ _ e au, n.mono (s.tups hu), r⟩
theorem TabG.samex {H1 : Hp} {u ap r : Addr} {n : Nat} {H H' : Hp} (s : SameX u H H') (hu : UrnAt H u) (h : TabG H1 u n ap H r) : TabG H1 u n ap H' r := by
  obtain ⟨ts, M, ru, e, f, nd, R, q⟩ := h; exact ⟨ts, M, ru, s _ _ e ru, f, nd, R.samex s hu (fun t ht => (f t ht).2.1), q⟩
theorem Rws.setrow {H : Hp} {t : Addr} {xs ys : List V} {L' : List Rat} (et : H t = some (.lst xs)) (n' : Nums (upd H t (.lst ys)) ys L') : ∀ {ts : List Addr} {M : List (List Rat)} {i : Nat}, Rws H ts M → ts.Nodup → ts[i]? = some t → Rws (upd H t (.lst ys)) ts (M.set i L')
  | _, _, _, .nil, _, h => by simp at h
  | t0 :: ts, L :: M, 0, .cons h n r, nd, hi => by
    have e : t0 = t := by simpa using hi
    subst e
    rw [List.nodup_cons] at nd
    exact .cons upd_same n' (r.over et nd.1)
  | t0 :: ts, L :: M, i + 1, .cons h n r, nd, hi => by
    rw [List.nodup_cons] at nd
    have hi' : ts[i]? = some t := by simpa using hi
    have ne : t0 ≠ t := fun z => nd.1 (by rw [z]; exact List.mem_of_getElem? hi')
    exact .cons (by rw [upd_ne ne]; exact h) (n.mono (TupS.lst et)) (Rws.setrow et n' r nd.2 hi')
theorem mem_set' {α : Type} {P : α → Prop} {l : List α} {i : Nat} {x : α} (h : ∀ y ∈ l, P y) (hx : P x) : ∀ y ∈ l.set i x, P y := fun y hy => by
  rcases List.mem_or_eq_of_mem_set hy with z | z
  · exact h y z
  · rw [z]; exact hx
theorem ixN_of' {n k : Nat} (h : k < n) : ixN n (k : Int) = some k := by
  unfold ixN
  rw [if_pos (by omega)]
  simp; omega
theorem Nums.set' {H : Hp} {p : Addr} {q : Rat} (e : H p = some (.tup (numV q))) : ∀ {xs : List V} {qs : List Rat} (i : Nat), Nums H xs qs → Nums H (xs.set i (.ref p)) (qs.set i q)
  | _, _, _, .nil => .nil
  | _, _, 0, .cons h t => .cons e t
  | _, _, i + 1, .cons h t => .cons h (Nums.set' e i t)
theorem tl_head {p q : Rat} {qs : List Rat} (h : IsTl (p :: qs) (p :: qs).length) (h0 : qs ≠ []) : IsTl (q :: qs) (q :: qs).length := tl_of_last fun y ey => by
  have hp := List.length_pos_iff.mpr h0
  refine h.last (by simp) y ?_
  rw [List.length_cons, Nat.add_sub_cancel] at ey ⊢
  obtain ⟨m, hm⟩ : ∃ m, qs.length = m + 1 := ⟨qs.length - 1, by omega⟩
  rw [hm] at ey ⊢
  simpa using ey
theorem num_one : numV 1 = [.int 1, .int 1] := by decide +kernel
theorem PolyG.len {H : Hp} {a : Addr} (h : PolyG H a) : ∃ xs qs, H a = some (.lst xs) ∧ Nums H xs qs ∧ (∀ q ∈ qs, B30 q) ∧ qs.length ≤ 15 ∧ IsTl qs qs.length ∧ (showP qs).length ≤ 5000 := by
  obtain ⟨xs, qs, e, n, hb, hl, ht⟩ := h
  refine ⟨xs, qs, e, n, hb, hl, ht, ?_⟩
  unfold showP
  split
  · decide +kernel
  · have := showL_le (m := 62) fun q hq => b30_len (hb q hq)
    omega
theorem showT_le {M : List (List Rat)} (h7 : M.length ≤ 7) (h : ∀ L ∈ M, L.length = M.length ∧ ∀ q ∈ L, B30 q) : (showT M).length ≤ 5000 := by
  have h1 := join_len "; " (M.map showL)
  unfold lenS at h1
  have h2 := sum_le (ws := M.map showL) (m := 441) fun w hw => by
    obtain ⟨L, hL, rfl⟩ := List.mem_map.mp hw
    have := showL_le (m := 62) fun q hq => b30_len ((h L hL).2 q hq)
    have := (h L hL).1
    omega
  rw [show Str.length "; " = 2 by decide +kernel] at h1
  rw [List.length_map] at h1 h2
  unfold showT
  omega
/-- a thing that is no text is refused by both -/
theorem said_no {P : Program} {w : World} {K : PySem.W.Frag} {mg : Str → Option Value} {base : Heap} {a : CAd} {H : Hp} {Q : VK} {E : XK} {fr : Addr} {v : V} {d : D} (hD : IsD K H v d) (hs : isStrD d = false)
    (G : Def P w K mg base (CXR P w) 5 "read_poly" fr ["text"] (spReadP K a.c_NoText) ∨ Def P w K mg base (CXR P w) 5 "read_table" fr ["text"] (spReadTb K a.c_NoText))
    (k : ∀ r H', Same H H' → H' r = some (.tup [.str "refused", .str "text"]) → Q (.ref r) H') : spSaidT P w K mg base a [.ref fr, v] H Q E := by
  have hl : lenD d := fun x e => by subst e; cases hs
  have np : polyT d = none := by
    cases d with
    | v y => cases y <;> first | rfl | cases hs
    | tup l => rfl
    | lst l => rfl
  have nt : tabT d = none := by
    cases d with
    | v y => cases y <;> first | rfl | cases hs
    | tup l => rfl
    | lst l => rfl
  rcases G with G | G
  · exact ⟨fr, v, _, rfl, G.val, .inr ⟨fun Q' E' hE => ⟨_, _, rfl, hD, hl, fun _ H' s' => hE H' s', fun qs e => by rw [np] at e; cases e⟩, k⟩⟩
  · exact ⟨fr, v, _, rfl, G.val, .inr ⟨fun Q' E' hE => ⟨_, _, rfl, hD, hl, fun _ H' s' => hE H' s', fun qs e => by rw [nt] at e; cases e⟩, k⟩⟩
section
variable {P : Program} {w : World} {K : PySem.W.Frag} {mg : Str → Option Value} {base : Heap}
abbrev s_law : Stmt := top 66
theorem sc_law : FnScope ["_law_script", "_law_at", "_law_urn_here", "_law_way", "_law_kind_here", "_law_p", "_law_n", "_law_table", "_law_thing", "_law_place", "_law_far", "_law_deed"] ["_law_script"] (defScope s_law) := ⟨rfl, rfl, rfl, by decide +kernel, rfl, by decide +kernel, by decide +kernel⟩
set_option maxHeartbeats 0 in
theorem ok_law {a : CAd} {f g1 g2 g3 g4 g5 g6 g7 g8 g9 g10 g11 : Addr} {fd : FuncData} (F : Fun K "law" "law" s_law f fd) (G__law_urn : Def P w K mg base CX0 1 "_law_urn" g1 ["_law_script", "_law_at"] (spUrn K)) (G__law_kind : Def P w K mg base CX0 2 "_law_kind" g5 ["_law_urn_here"] spKind) (G__law_draw : Def P w K mg base CX0 1 "_law_draw" g3 ["_law_urn_here", "_law_many"] spDraw) (G__law_drawn_poly : Def P w K mg base CX0 4 "_law_drawn_poly" g2 ["_law_urn_here", "_law_kind_here", "_law_most"] spDrawnPoly) (G__law_number : Def P w K mg base CX0 2 "_law_number" g4 ["_law_urn_here", "_law_kind_here"] spNumber) (G__law_far_number : Def P w K mg base CX0 2 "_law_far_number" g6 ["_law_urn_here"] spFar) (G__law_poly_right : Def P w K mg base CX0 7 "_law_poly_right" g7 ["_law_p"] (spPRight K)) (G__law_table_right : Def P w K mg base CX0 7 "_law_table_right" g8 ["_law_table"] (spTRight K)) (G__law_said : Def P w K mg base CX0 6 "_law_said" g9 ["_law_deed", "_law_thing"] (spSaidT P w K mg base a)) (G_read_poly : Def P w K mg base (CXR P w) 5 "read_poly" g10 ["text"] (spReadP K a.c_NoText)) (G_read_table : Def P w K mg base (CXR P w) 5 "read_table" g11 ["text"] (spReadTb K a.c_NoText))
    (n_range : mg "range" = none) (n_max : mg "max" = none) (n_min : mg "min" = none) (n_len : mg "len" = none) : FnOk P w K mg base CX0 8 f fd ["_law_script"] (spLaw K) := by
  refine F.ok (N := ["_law_script", "_law_at", "_law_urn_here", "_law_way", "_law_kind_here", "_law_p", "_law_n", "_law_table", "_law_thing", "_law_place", "_law_far", "_law_deed"]) sc_law (fun vs H Q E ⟨x, y, h, _⟩ => by rw [h]; rfl) (fun cdv A outer s H vs Q E hr h => ?_)
  obtain ⟨as, ns, rfl, hS, h63, k⟩ := h
  have hu := hr.units
  have d_read_poly := G_read_poly
  have d_read_table := G_read_table
  refine ⟨_, (pss_cons (ps_for PassesOwn.never rfl (pi_range1 rfl n_range (pa_cons (pe_callB (call_max2 rfl) rfl n_max (by decide +kernel) (pa_cons pe_int (pa_cons (pe_callB (call_min2 rfl) rfl n_min (by decide +kernel) (pa_cons pe_int (pa_cons (pe_callB call_len_seq rfl n_len (by decide +kernel) (pa_cons (pv 0) pa_nil)) pa_nil))) pa_nil))) pa_nil)) (pg_name (i := 1) sc_law.nd rfl (Or.inl rfl)) (pss_cons (ps_set (i := 2) sc_law.nd rfl (Or.inr rfl) (pe_def G__law_urn hr (pa_cons (pv 0) (pa_cons (pv 1) pa_nil)) pass0))
      (pss_cons (ps_set (i := 3) sc_law.nd rfl (Or.inl rfl) (pe_def G__law_draw hr (pa_cons (pv 2) (pa_cons pe_int pa_nil)) pass0))
      (pss_cons (ps_set (i := 4) sc_law.nd rfl (Or.inr rfl) (pe_def G__law_kind hr (pa_cons (pv 2) pa_nil) pass0))
      (pss_cons (ps_set (i := 5) sc_law.nd rfl (Or.inl rfl) (pe_def G__law_drawn_poly hr (pa_cons (pv 2) (pa_cons (pv 4) (pa_cons pe_int pa_nil))) pass0))
      (pss_cons (ps_set (i := 6) sc_law.nd rfl (Or.inr rfl) (pe_op op_add pe_int (pe_def G__law_draw hr (pa_cons (pv 2) (pa_cons (pe_ix ix_list (pe_lst (pa_cons pe_int (pa_cons pe_int (pa_cons pe_int pa_nil)))) (pv 4) (fun _ _ => rfl)) pa_nil)) pass0)))
      (pss_cons (ps_setComp (i₀ := 7) sc_law.nd rfl (Or.inl rfl) (Nc := ["_law_urn_here", "_law_n", "_law_kind_here", "_law_i"]) (caps := [some 2, some 6, some 4, none]) rfl (Caps.of (osc := defScope s_law) (N := ["_law_script", "_law_at", "_law_urn_here", "_law_way", "_law_kind_here", "_law_p", "_law_n", "_law_table", "_law_thing", "_law_place", "_law_far", "_law_deed"]) (ks := ["_law_urn_here", "_law_n", "_law_kind_here"]) rfl rfl rfl rfl (sub_cons rfl (sub_cons rfl (sub_cons rfl sub_nil))) (by decide +kernel)) (pi_range1 rfl n_range (pa_cons (pv 6) pa_nil)) (fun C s₂ H₂ fp pins => (pg_name (i := 3) (show List.Nodup (["_law_urn_here", "_law_n", "_law_kind_here", "_law_i"] : List Str) by decide +kernel) rfl (Or.inl rfl) (Or.inr rfl))) (fun C s₂ H₂ fp pins => (pe_comp (Nc := ["_law_urn_here", "_law_kind_here", "_law_j"]) (caps := [some 0, some 2, none]) rfl (Caps.of (osc := _) (N := ["_law_urn_here", "_law_n", "_law_kind_here", "_law_i"]) (ks := ["_law_urn_here", "_law_kind_here"]) rfl rfl rfl rfl (sub_cons rfl (sub_cons rfl sub_nil)) (by kernel_rfl)) (pi_range1 rfl n_range (pa_cons (pv 1) pa_nil)) (fun C s₂ H₂ fp pins => (pg_name (i := 2) (show List.Nodup (["_law_urn_here", "_law_kind_here", "_law_j"] : List Str) by decide +kernel) rfl (Or.inl rfl) (Or.inr rfl))) (fun C s₂ H₂ fp pins => (pe_def G__law_number hr (pa_cons (pv 0) (pa_cons (pv 1) pa_nil)) pass0)))))
      (pss_cons (ps_if (pt_cmpR op_eq (pv 3) pe_int (nomark _)) (pss_one (ps_set (i := 5) sc_law.nd rfl (Or.inl rfl) (pe_lst pa_nil))) pss_nil)
      (pss_cons (ps_if (pt_cmpR op_eq (pv 3) pe_int (nomark _)) (pss_cons (ps_set (i := 9) sc_law.nd rfl (Or.inl rfl) (pe_def G__law_draw hr (pa_cons (pv 2) (pa_cons (pv 6) pa_nil)) pass0))
      (pss_cons (ps_set (i := 10) sc_law.nd rfl (Or.inl rfl) (pe_def G__law_far_number hr (pa_cons (pv 2) pa_nil) pass0))
      (pss_cons (ps_asg (pv 10) (pg_sub (pe_ix ix_list (pv 7) (pv 9) (fun _ _ => rfl)) (pe_def G__law_draw hr (pa_cons (pv 2) (pa_cons (pv 6) pa_nil)) pass0) set_list))
      (pss_one (ps_set (i := 5) sc_law.nd rfl (Or.inl rfl) (pe_ifExp (pt_cmpR op_gt (pe_callB call_len_seq rfl n_len (by decide +kernel) (pa_cons (pv 5) pa_nil)) pe_int (nomark _)) (pe_op op_cat (pe_lst (pa_cons (pv 10) pa_nil)) (pe_slice sl_list (pv 5) (po_some pe_int) po_none)) (pe_lst (pa_cons (pv 10) (pa_cons (pe_tup (pa_cons pe_int (pa_cons pe_int pa_nil))) pa_nil))))))))) pss_nil)
      (pss_cons (ps_if (PW.pt (pw_or (pt_not (pt_val (pe_def G__law_poly_right hr (pa_cons (pv 5) pa_nil) pass0))) (pw_or1 (pt_not (pt_val (pe_def G__law_table_right hr (pa_cons (pv 7) pa_nil) pass0)))))) (pss_one (ps_ret pe_bl)) pss_nil)
      (pss_one (ps_for PassesOwn.never rfl (pi_list (pe_lst (pa_cons pe_non (pa_cons pe_int (pa_cons (pe_lst (pa_cons pe_str (pa_cons pe_str pa_nil))) (pa_cons (pe_tup (pa_cons pe_str pa_nil)) (pa_cons (pv 7) (pa_cons pe_bl pa_nil)))))))) (pg_name (i := 8) sc_law.nd rfl (Or.inl rfl)) (pss_one (ps_for PassesOwn.never rfl (pi_list (pe_lst (pa_cons (pe_glob (v := .ref _) rfl d_read_poly.m rfl) (pa_cons (pe_glob (v := .ref _) rfl d_read_table.m rfl) pa_nil)))) (pg_name (i := 11) sc_law.nd rfl (Or.inl rfl)) (pss_one (ps_if (pt_cmpR (op_neD hu) (pe_def G__law_said hr (pa_cons (pv 11) (pa_cons (pv 8) pa_nil)) pass0) (pe_tup (pa_cons pe_str (pa_cons pe_str pa_nil))) (nomark _)) (pss_one (ps_ret pe_bl)) pss_nil))))))))))))))))
      (pss_one (ps_ret pe_bl))), ?_⟩
  rw [show start ["_law_script", "_law_at", "_law_urn_here", "_law_way", "_law_kind_here", "_law_p", "_law_n", "_law_table", "_law_thing", "_law_place", "_law_far", "_law_deed"] [.ref as] = [some (.ref as), none, none, none, none, none, none, none, none, none, none, none] from rfl]
  have hlen : (((ns.map V.int).length : Nat) : Int) = (ns.length : Int) := by rw [List.length_map]
  obtain ⟨I, hI⟩ : ∃ I : Nat → L2.St → Hp → Prop, ∀ i σ H1, I i σ H1 ↔ ∃ o1 o2 o3 o4 o5 o6 o7 o8 o9 o10 o11, σ = [some (.ref as), o1, o2, o3, o4, o5, o6, o7, o8, o9, o10, o11] ∧ SqL K H1 as (ns.map V.int) := ⟨_, fun _ _ _ => Iff.rfl⟩
  refine ⟨_, rfl, as, _, rfl, .inl hS, 3, _, rfl, 1, _, rfl, _, rfl, ?_, ?_, for_range I ((hI _ _ _).mpr ⟨_, _, _, _, _, _, _, _, _, _, _, rfl, hS⟩) ?_ ?_⟩
  · rw [hlen]; split <;> split <;> omega
  · rw [hlen]; split <;> split <;> omega
  · intro i σ H1 hi hI1
    obtain ⟨o1, o2, o3, o4, o5, o6, o7, o8, o9, o10, o11, rfl, hS1⟩ := (hI _ _ _).mp hI1
    rw [hlen] at hi
    have hi4 : i < 4 := by
      revert hi
      split <;> split <;> omega
    simp only [gName, List.set_cons_zero, List.set_cons_succ]
    refine seq_cut (fun σ H2 => ∃ u, σ = [some (.ref as), some (.int (0 + (i : Int))), some (.ref u), o3, o4, o5, o6, o7, o8, o9, o10, o11] ∧ Same H1 H2 ∧ H1 u = none ∧ UrnAt H2 u) (fun N hN => ?_) ?_
    · simp only [rLen, rLst, rSlS, rPartition, rStarts, iStr, rIntS, rJoin, rIxS, rSplitS, rInN, tComp_eq, tCompIf_eq, tSl, tSl3, tPart, tNoPart, rSlL, rPop, rAppend, capSt, List.map_cons, List.map_nil, Option.bind_none, Option.bind_some, Option.join_some, tSeq, tIfS, tAnd, tOr, tNot, tTest, tB, tOp, tUn, tBM0, tBM, tVar, tC, tCB, tRet, tAsg, gName, gSub, gTup, gCons, gNil, tCons, tNil, tPar, tTup, tLst, tIf, tAndV, tNotV, tDef, tCallX, tCallV, tDrop, tNext, tNever, tRaise, rI, rI0, rU, rBitLen, rIxL, rIxT, rSetL, rEq, rNe, rCount, rIndex, rSplit, rIsI, rCat, iRng1, iList, cxOf, cxR, cxX, Cx.nox, Cx.wish, Cx.body, Cx.suite, List.getElem?_cons_zero, List.getElem?_cons_succ, List.set_cons_zero, List.set_cons_succ, Option.some.injEq, V.int.injEq, V.bl.injEq, V.ref.injEq, V.str.injEq, exists_eq_left', exists_eq_left, exists_and_left, true_and, and_true, List.cons.injEq, reduceCtorEq, Bool.false_eq_true, if_false, if_true, exists_const, ↓reduceIte, tyV, List.length_cons, List.length_nil, exists_eq, List.append_nil, List.cons_append, List.nil_append, decide_eq_true_eq, not_true_eq_false, not_false_eq_true, Bool.not_eq_true', decide_eq_false_iff_not, Bool.not_true, Bool.not_false, and_assoc, false_and, false_or, or_false]
      exact ⟨as, ns, _, rfl, hS1, by omega, by omega, fun u H2 s2 hu0 hu2 => hN _ _ ⟨u, rfl, s2, hu0, hu2⟩⟩
    rintro σ H2 ⟨u, rfl, s2, fu, u2⟩
    have sx2 := Same.x s2 u
    refine seq_cut (fun σ H3 => ∃ way : Int, σ = [some (.ref as), some (.int (0 + (i : Int))), some (.ref u), some (.int way), o4, o5, o6, o7, o8, o9, o10, o11] ∧ SameX u H1 H3 ∧ UrnAt H3 u) (fun N hN => ?_) ?_
    · simp only [rLen, rLst, rSlS, rPartition, rStarts, iStr, rIntS, rJoin, rIxS, rSplitS, rInN, tComp_eq, tCompIf_eq, tSl, tSl3, tPart, tNoPart, rSlL, rPop, rAppend, capSt, List.map_cons, List.map_nil, Option.bind_none, Option.bind_some, Option.join_some, tSeq, tIfS, tAnd, tOr, tNot, tTest, tB, tOp, tUn, tBM0, tBM, tVar, tC, tCB, tRet, tAsg, gName, gSub, gTup, gCons, gNil, tCons, tNil, tPar, tTup, tLst, tIf, tAndV, tNotV, tDef, tCallX, tCallV, tDrop, tNext, tNever, tRaise, rI, rI0, rU, rBitLen, rIxL, rIxT, rSetL, rEq, rNe, rCount, rIndex, rSplit, rIsI, rCat, iRng1, iList, cxOf, cxR, cxX, Cx.nox, Cx.wish, Cx.body, Cx.suite, List.getElem?_cons_zero, List.getElem?_cons_succ, List.set_cons_zero, List.set_cons_succ, Option.some.injEq, V.int.injEq, V.bl.injEq, V.ref.injEq, V.str.injEq, exists_eq_left', exists_eq_left, exists_and_left, true_and, and_true, List.cons.injEq, reduceCtorEq, Bool.false_eq_true, if_false, if_true, exists_const, ↓reduceIte, tyV, List.length_cons, List.length_nil, exists_eq, List.append_nil, List.cons_append, List.nil_append, decide_eq_true_eq, not_true_eq_false, not_false_eq_true, Bool.not_eq_true', decide_eq_false_iff_not, Bool.not_true, Bool.not_false, and_assoc, false_and, false_or, or_false, spDraw]
      exact ⟨u2, by decide, by decide, fun r H3 r0 r1 s3 u3 => hN _ _ ⟨r, rfl, sx2.trans s3, u3⟩⟩
    clear sx2 u2 s2
    rintro σ H3 ⟨way, rfl, s3, u3⟩
    refine seq_cut (fun σ H4 => ∃ kd, σ = [some (.ref as), some (.int (0 + (i : Int))), some (.ref u), some (.int way), some (.int kd), o5, o6, o7, o8, o9, o10, o11] ∧ (kd = 0 ∨ kd = 1 ∨ kd = 2) ∧ SameX u H1 H4 ∧ UrnAt H4 u) (fun N hN => ?_) ?_
    · simp only [rLen, rLst, rSlS, rPartition, rStarts, iStr, rIntS, rJoin, rIxS, rSplitS, rInN, tComp_eq, tCompIf_eq, tSl, tSl3, tPart, tNoPart, rSlL, rPop, rAppend, capSt, List.map_cons, List.map_nil, Option.bind_none, Option.bind_some, Option.join_some, tSeq, tIfS, tAnd, tOr, tNot, tTest, tB, tOp, tUn, tBM0, tBM, tVar, tC, tCB, tRet, tAsg, gName, gSub, gTup, gCons, gNil, tCons, tNil, tPar, tTup, tLst, tIf, tAndV, tNotV, tDef, tCallX, tCallV, tDrop, tNext, tNever, tRaise, rI, rI0, rU, rBitLen, rIxL, rIxT, rSetL, rEq, rNe, rCount, rIndex, rSplit, rIsI, rCat, iRng1, iList, cxOf, cxR, cxX, Cx.nox, Cx.wish, Cx.body, Cx.suite, List.getElem?_cons_zero, List.getElem?_cons_succ, List.set_cons_zero, List.set_cons_succ, Option.some.injEq, V.int.injEq, V.bl.injEq, V.ref.injEq, V.str.injEq, exists_eq_left', exists_eq_left, exists_and_left, true_and, and_true, List.cons.injEq, reduceCtorEq, Bool.false_eq_true, if_false, if_true, exists_const, ↓reduceIte, tyV, List.length_cons, List.length_nil, exists_eq, List.append_nil, List.cons_append, List.nil_append, decide_eq_true_eq, not_true_eq_false, not_false_eq_true, Bool.not_eq_true', decide_eq_false_iff_not, Bool.not_true, Bool.not_false, and_assoc, false_and, false_or, or_false]
      exact ⟨u, rfl, u3, fun r H4 hr s4 u4 => hN _ _ ⟨r, rfl, hr, s3.trans s4, u4⟩⟩
    clear s3 u3
    rintro σ H4 ⟨kd, rfl, hkd, s4, u4⟩
    refine seq_cut (fun σ H5 => ∃ ap, σ = [some (.ref as), some (.int (0 + (i : Int))), some (.ref u), some (.int way), some (.int kd), some (.ref ap), o6, o7, o8, o9, o10, o11] ∧ ap ≠ u ∧ PolyG H5 ap ∧ SameX u H1 H5 ∧ UrnAt H5 u) (fun N hN => ?_) ?_
    · simp only [rLen, rLst, rSlS, rPartition, rStarts, iStr, rIntS, rJoin, rIxS, rSplitS, rInN, tComp_eq, tCompIf_eq, tSl, tSl3, tPart, tNoPart, rSlL, rPop, rAppend, capSt, List.map_cons, List.map_nil, Option.bind_none, Option.bind_some, Option.join_some, tSeq, tIfS, tAnd, tOr, tNot, tTest, tB, tOp, tUn, tBM0, tBM, tVar, tC, tCB, tRet, tAsg, gName, gSub, gTup, gCons, gNil, tCons, tNil, tPar, tTup, tLst, tIf, tAndV, tNotV, tDef, tCallX, tCallV, tDrop, tNext, tNever, tRaise, rI, rI0, rU, rBitLen, rIxL, rIxT, rSetL, rEq, rNe, rCount, rIndex, rSplit, rIsI, rCat, iRng1, iList, cxOf, cxR, cxX, Cx.nox, Cx.wish, Cx.body, Cx.suite, List.getElem?_cons_zero, List.getElem?_cons_succ, List.set_cons_zero, List.set_cons_succ, Option.some.injEq, V.int.injEq, V.bl.injEq, V.ref.injEq, V.str.injEq, exists_eq_left', exists_eq_left, exists_and_left, true_and, and_true, List.cons.injEq, reduceCtorEq, Bool.false_eq_true, if_false, if_true, exists_const, ↓reduceIte, tyV, List.length_cons, List.length_nil, exists_eq, List.append_nil, List.cons_append, List.nil_append, decide_eq_true_eq, not_true_eq_false, not_false_eq_true, Bool.not_eq_true', decide_eq_false_iff_not, Bool.not_true, Bool.not_false, and_assoc, false_and, false_or, or_false]
      refine ⟨u, kd, 14, rfl, u4, by decide, by decide, fun r xs qs q H5 s5 u5 fr e5 n5 hq sq q0 l5 => hN _ _ ⟨r, rfl, urn_ne u4 fr, ⟨xs, qs ++ [q], e5, n5, fun p hp => (List.mem_append.mp hp).elim (fun z => sm_30 (hq p z)) (fun z => by rw [List.mem_singleton.mp z]; exact sm_30 sq), by rw [List.length_append, List.length_singleton]; omega, tl_full q0⟩, s4.trans s5, u5⟩⟩
    clear s4 u4
    rintro σ H5 ⟨ap, rfl, apu, hp', s5, u5⟩
    refine seq_cut (fun σ H6 => ∃ n : Nat, σ = [some (.ref as), some (.int (0 + (i : Int))), some (.ref u), some (.int way), some (.int kd), some (.ref ap), some (.int (n : Int)), o7, o8, o9, o10, o11] ∧ 1 ≤ n ∧ n ≤ 7 ∧ PolyG H6 ap ∧ SameX u H1 H6 ∧ UrnAt H6 u) (fun N hN => ?_) ?_
    · simp only [rLen, rLst, rSlS, rPartition, rStarts, iStr, rIntS, rJoin, rIxS, rSplitS, rInN, tComp_eq, tCompIf_eq, tSl, tSl3, tPart, tNoPart, rSlL, rPop, rAppend, capSt, List.map_cons, List.map_nil, Option.bind_none, Option.bind_some, Option.join_some, tSeq, tIfS, tAnd, tOr, tNot, tTest, tB, tOp, tUn, tBM0, tBM, tVar, tC, tCB, tRet, tAsg, gName, gSub, gTup, gCons, gNil, tCons, tNil, tPar, tTup, tLst, tIf, tAndV, tNotV, tDef, tCallX, tCallV, tDrop, tNext, tNever, tRaise, rI, rI0, rU, rBitLen, rIxL, rIxT, rSetL, rEq, rNe, rCount, rIndex, rSplit, rIsI, rCat, iRng1, iList, cxOf, cxR, cxX, Cx.nox, Cx.wish, Cx.body, Cx.suite, List.getElem?_cons_zero, List.getElem?_cons_succ, List.set_cons_zero, List.set_cons_succ, Option.some.injEq, V.int.injEq, V.bl.injEq, V.ref.injEq, V.str.injEq, exists_eq_left', exists_eq_left, exists_and_left, true_and, and_true, List.cons.injEq, reduceCtorEq, Bool.false_eq_true, if_false, if_true, exists_const, ↓reduceIte, tyV, List.length_cons, List.length_nil, exists_eq, List.append_nil, List.cons_append, List.nil_append, decide_eq_true_eq, not_true_eq_false, not_false_eq_true, Bool.not_eq_true', decide_eq_false_iff_not, Bool.not_true, Bool.not_false, and_assoc, false_and, false_or, or_false, spDraw]
      refine ⟨(show 3 ≤ sizeLine by decide), fun p hp => ?_⟩
      have Sp := Same.new hp (.lst [.int 7, .int 7, .int 4])
      have fin : ∀ m : Int, 1 ≤ m → m ≤ 7 → UrnAt (upd H5 p (HO.lst [V.int 7, V.int 7, V.int 4])) u ∧ 0 < m ∧ m < 2 ^ 40 ∧ ∀ (r : Int) (H' : Hp), 0 ≤ r → r < m → SameX u (upd H5 p (HO.lst [V.int 7, V.int 7, V.int 4])) H' → UrnAt H' u → N [some (V.ref as), some (V.int (0 + (i : Int))), some (V.ref u), some (V.int way), some (V.int kd), some (V.ref ap), some (V.int (1 + r)), o7, o8, o9, o10, o11] H' := fun m m1 m7 => by
        refine ⟨Same.urn Sp u5, by omega, by omega, fun r H6 r0 r1 s6 u6 => ?_⟩
        obtain ⟨m', rfl⟩ : ∃ m' : Nat, r = (m' : Int) := ⟨r.toNat, by omega⟩
        rw [show (1 : Int) + (m' : Int) = ((1 + m' : Nat) : Int) by omega]
        exact hN _ _ ⟨1 + m', rfl, by omega, by omega, (hp'.samex (Same.x Sp u) u5 apu).samex s6 (Same.urn Sp u5) apu, s5.trans ((Same.x Sp u).trans s6), u6⟩
      rcases hkd with rfl | rfl | rfl
      · exact ⟨_, SqL.of upd_same, _, rfl, _, rfl, fin 7 (by decide) (by decide)⟩
      · exact ⟨_, SqL.of upd_same, _, rfl, _, rfl, fin 7 (by decide) (by decide)⟩
      · exact ⟨_, SqL.of upd_same, _, rfl, _, rfl, fin 4 (by decide) (by decide)⟩
    clear hp' s5 u5
    rintro σ H6 ⟨n, rfl, n1, n7, hp, s6, u6⟩
    refine seq_cut (fun σ H7 => ∃ at', σ = [some (.ref as), some (.int (0 + (i : Int))), some (.ref u), some (.int way), some (.int kd), some (.ref ap), some (.int (n : Int)), some (.ref at'), o8, o9, o10, o11] ∧ PolyG H7 ap ∧ TabG H1 u n ap H7 at' ∧ SameX u H1 H7 ∧ UrnAt H7 u) (fun N hN => ?_) ?_
    · simp only [rLen, rLst, rSlS, rPartition, rStarts, iStr, rIntS, rJoin, rIxS, rSplitS, rInN, tComp_eq, tCompIf_eq, tSl, tSl3, tPart, tNoPart, rSlL, rPop, rAppend, capSt, List.map_cons, List.map_nil, Option.bind_none, Option.bind_some, Option.join_some, tSeq, tIfS, tAnd, tOr, tNot, tTest, tB, tOp, tUn, tBM0, tBM, tVar, tC, tCB, tRet, tAsg, gName, gSub, gTup, gCons, gNil, tCons, tNil, tPar, tTup, tLst, tIf, tAndV, tNotV, tDef, tCallX, tCallV, tDrop, tNext, tNever, tRaise, rI, rI0, rU, rBitLen, rIxL, rIxT, rSetL, rEq, rNe, rCount, rIndex, rSplit, rIsI, rCat, iRng1, iList, cxOf, cxR, cxX, Cx.nox, Cx.wish, Cx.body, Cx.suite, List.getElem?_cons_zero, List.getElem?_cons_succ, List.set_cons_zero, List.set_cons_succ, Option.some.injEq, V.int.injEq, V.bl.injEq, V.ref.injEq, V.str.injEq, exists_eq_left', exists_eq_left, exists_and_left, true_and, and_true, List.cons.injEq, reduceCtorEq, Bool.false_eq_true, if_false, if_true, exists_const, ↓reduceIte, tyV, List.length_cons, List.length_nil, exists_eq, List.append_nil, List.cons_append, List.nil_append, decide_eq_true_eq, not_true_eq_false, not_false_eq_true, Bool.not_eq_true', decide_eq_false_iff_not, Bool.not_true, Bool.not_false, and_assoc, false_and, false_or, or_false]
      refine ⟨by omega, by omega, fun D hD => comp_dtab (K := K) u6 (by omega) hD fun ts M H7 s7 u7 eD hts nd R hM hL => hN _ _ ⟨D, rfl, hp.samex s7 u6 apu, ⟨ts, M, urn_ne u6 hD, eD, fun t ht => ⟨s6.free u6 (hts t ht).1, (hts t ht).2.1, (hts t ht).2.2, fun z => ?_⟩, nd, R, hM, fun L h => ⟨(hL L h).1, fun q hq => sm_30 ((hL L h).2 q hq)⟩⟩, s6.trans s7, u7⟩⟩
      have h1 := (hts t ht).1
      obtain ⟨xs, qs, e, _⟩ := hp
      rw [z, e] at h1
      cases h1
    clear hp s6 u6
    rintro σ H7 ⟨at', rfl, hp, ht, s7, u7⟩
    refine seq_cut (fun σ H8 => ∃ ap, σ = [some (.ref as), some (.int (0 + (i : Int))), some (.ref u), some (.int way), some (.int kd), some (.ref ap), some (.int (n : Int)), some (.ref at'), o8, o9, o10, o11] ∧ ap ≠ u ∧ PolyG H8 ap ∧ TabG H1 u n ap H8 at' ∧ SameX u H1 H8 ∧ UrnAt H8 u) (fun N hN => ?_) ?_
    · simp only [rLen, rLst, rSlS, rPartition, rStarts, iStr, rIntS, rJoin, rIxS, rSplitS, rInN, tComp_eq, tCompIf_eq, tSl, tSl3, tPart, tNoPart, rSlL, rPop, rAppend, capSt, List.map_cons, List.map_nil, Option.bind_none, Option.bind_some, Option.join_some, tSeq, tIfS, tAnd, tOr, tNot, tTest, tB, tOp, tUn, tBM0, tBM, tVar, tC, tCB, tRet, tAsg, gName, gSub, gTup, gCons, gNil, tCons, tNil, tPar, tTup, tLst, tIf, tAndV, tNotV, tDef, tCallX, tCallV, tDrop, tNext, tNever, tRaise, rI, rI0, rU, rBitLen, rIxL, rIxT, rSetL, rEq, rNe, rCount, rIndex, rSplit, rIsI, rCat, iRng1, iList, cxOf, cxR, cxX, Cx.nox, Cx.wish, Cx.body, Cx.suite, List.getElem?_cons_zero, List.getElem?_cons_succ, List.set_cons_zero, List.set_cons_succ, Option.some.injEq, V.int.injEq, V.bl.injEq, V.ref.injEq, V.str.injEq, exists_eq_left', exists_eq_left, exists_and_left, true_and, and_true, List.cons.injEq, reduceCtorEq, Bool.false_eq_true, if_false, if_true, exists_const, ↓reduceIte, tyV, List.length_cons, List.length_nil, exists_eq, List.append_nil, List.cons_append, List.nil_append, decide_eq_true_eq, not_true_eq_false, not_false_eq_true, Bool.not_eq_true', decide_eq_false_iff_not, Bool.not_true, Bool.not_false, and_assoc, false_and, false_or, or_false]
      refine ⟨rfl, ite2 (fun _ => ⟨Nat.zero_le _, fun p hp0 => ?_⟩) (fun _ => hN _ _ ⟨ap, rfl, apu, hp, ht, s7, u7⟩)⟩
      have Sp := Same.new hp0 (.lst [])
      obtain ⟨ts, M, ru, e, f, nd, R, q⟩ := ht
      refine hN _ _ ⟨p, rfl, urn_ne u7 hp0, ⟨[], [], upd_same, .nil, by simp, by simp, ⟨Nat.le_refl _, fun i q _ e => by simp at e, fun h => absurd rfl h⟩⟩, ⟨ts, M, ru, Sp _ _ e, fun t ht => ⟨(f t ht).1, (f t ht).2.1, (f t ht).2.2.1, fun z => ?_⟩, nd, R.same Sp, q⟩, s7.trans (Same.x Sp u), Same.urn Sp u7⟩
      obtain ⟨j, hj⟩ := List.getElem?_of_mem ht
      obtain ⟨xs, L, _, et, _⟩ := R.get hj
      rw [z, hp0] at et
      cases et
    clear hp s7 u7 ht
    rintro σ H7 ⟨ap, rfl, apu, hp, ht, s7, u7⟩
    refine seq_cut (fun σ H8 => ∃ ap o9 o10, σ = [some (.ref as), some (.int (0 + (i : Int))), some (.ref u), some (.int way), some (.int kd), some (.ref ap), some (.int (n : Int)), some (.ref at'), o8, o9, o10, o11] ∧ ap ≠ u ∧ PolyG H8 ap ∧ TabG H1 u n ap H8 at' ∧ SameX u H1 H8 ∧ UrnAt H8 u) (fun N hN => ?_) ?_
    · simp only [rLen, rLst, rSlS, rPartition, rStarts, iStr, rIntS, rJoin, rIxS, rSplitS, rInN, tComp_eq, tCompIf_eq, tSl, tSl3, tPart, tNoPart, rSlL, rPop, rAppend, capSt, List.map_cons, List.map_nil, Option.bind_none, Option.bind_some, Option.join_some, tSeq, tIfS, tAnd, tOr, tNot, tTest, tB, tOp, tUn, tBM0, tBM, tVar, tC, tCB, tRet, tAsg, gName, gSub, gTup, gCons, gNil, tCons, tNil, tPar, tTup, tLst, tIf, tAndV, tNotV, tDef, tCallX, tCallV, tDrop, tNext, tNever, tRaise, rI, rI0, rU, rBitLen, rIxL, rIxT, rSetL, rEq, rNe, rCount, rIndex, rSplit, rIsI, rCat, iRng1, iList, cxOf, cxR, cxX, Cx.nox, Cx.wish, Cx.body, Cx.suite, List.getElem?_cons_zero, List.getElem?_cons_succ, List.set_cons_zero, List.set_cons_succ, Option.some.injEq, V.int.injEq, V.bl.injEq, V.ref.injEq, V.str.injEq, exists_eq_left', exists_eq_left, exists_and_left, true_and, and_true, List.cons.injEq, reduceCtorEq, Bool.false_eq_true, if_false, if_true, exists_const, ↓reduceIte, tyV, List.length_cons, List.length_nil, exists_eq, List.append_nil, List.cons_append, List.nil_append, decide_eq_true_eq, not_true_eq_false, not_false_eq_true, Bool.not_eq_true', decide_eq_false_iff_not, Bool.not_true, Bool.not_false, and_assoc, false_and, false_or, or_false, spDraw]
      refine ⟨rfl, ite2 (fun _ => ⟨u7, by omega, by omega, fun r H8 r0 r1 s8 u8 => ⟨u, rfl, u8, fun rf q H9 b1 b2 s9 u9 e9 => ?_⟩⟩) (fun _ => hN _ _ ⟨ap, _, _, rfl, apu, hp, ht, s7, u7⟩)⟩
      have S9 := s8.trans s9
      have hp9 := hp.samex S9 u7 apu
      obtain ⟨ts, M, ru, e, f, nd, R, hM, hL⟩ := ht.samex S9 u7
      obtain ⟨i1, rfl⟩ : ∃ m : Nat, r = (m : Int) := ⟨r.toNat, by omega⟩
      have hts := R.length
      have hi1 : i1 < ts.length := by omega
      have et := List.getElem?_eq_getElem hi1
      generalize ts[i1] = t at et
      have ft := f t (List.mem_of_getElem? et)
      refine ⟨_, SqL.of e, _, atI_nat (by rw [List.getElem?_map, et]; rfl), u9, by omega, by omega, fun r2 HA r20 r21 sA uA => ?_⟩
      have RA := R.samex sA u9 (fun t ht => (f t ht).2.1)
      have hpA := hp9.samex sA u9 apu
      have e9A := sA.tups u9 _ _ e9
      obtain ⟨ys, L, eL, ey, ny⟩ := RA.get et
      have hLL := hL L (List.mem_of_getElem? eL)
      obtain ⟨j1, rfl⟩ : ∃ m : Nat, r2 = (m : Int) := ⟨r2.toNat, by omega⟩
      have ly := ny.length
      obtain ⟨xs, qs, ex, nx, bx, lx, tx⟩ := hpA
      have lxx := nx.length
      have eR := sA _ _ e ru
      have bf : B30 q := ⟨b1, b2⟩
      have EU : ∀ b, upd HA t (.lst (ys.set j1 (.ref rf))) b = if b = t then some (.lst (ys.set j1 (.ref rf))) else HA b := fun b => by
        by_cases z : b = t
        · rw [z, upd_same, if_pos rfl]
        · rw [upd_ne z, if_neg z]
      have TU : TupS HA (upd HA t (.lst (ys.set j1 (.ref rf)))) := TupS.lst ey
      have exU : upd HA t (.lst (ys.set j1 (.ref rf))) ap = some (.lst xs) := by rw [upd_ne (Ne.symm ft.2.2.2)]; exact ex
      have eRU : upd HA t (.lst (ys.set j1 (.ref rf))) at' = some (.lst (ts.map V.ref)) := by rw [upd_ne (Ne.symm ft.2.2.1)]; exact eR
      have RU : Rws (upd HA t (.lst (ys.set j1 (.ref rf)))) ts (M.set i1 (L.set j1 q)) := RA.setrow ey ((Nums.set' e9A j1 ny).mono TU) nd et
      have sU : SameX u H1 (upd HA t (.lst (ys.set j1 (.ref rf)))) := (s7.trans (S9.trans sA)).over ft.1 _
      have uU : UrnAt (upd HA t (.lst (ys.set j1 (.ref rf)))) u := uA.other ft.2.1
      have e9U := TU _ _ e9A
      have nxU := nx.mono TU
      have good : ∀ L' ∈ M.set i1 (L.set j1 q), L'.length = n ∧ ∀ p ∈ L', B30 p := mem_set' hL ⟨by rw [List.length_set]; exact hLL.1, mem_set' hLL.2 bf⟩
      have lM : (M.set i1 (L.set j1 q)).length = n := by rw [List.length_set]; exact hM
      refine ⟨t, rfl, ys, ey, j1, ixN_of' (by rw [ly, hLL.1]; omega), ?_⟩
      clear EU
      generalize upd HA t (.lst (ys.set j1 (.ref rf))) = HU at *
      have tb : ∀ (ap' : Addr) (HV : Hp), SameX u HU HV → HU ap' = none → TabG H1 u n ap' HV at' := fun ap' HV sv fa => ⟨ts, _, ru, sv _ _ eRU ru, fun t' ht' => ⟨(f t' ht').1, (f t' ht').2.1, (f t' ht').2.2.1, fun z => by
        obtain ⟨j, hj⟩ := List.getElem?_of_mem ht'
        obtain ⟨_, _, _, et', _⟩ := RU.get hj
        rw [z, fa] at et'; cases et'⟩, nd, RU.samex sv uU (fun t' ht' => (f t' ht').2.1), lM, good⟩
      refine ⟨xs, .inl (SqL.of exU), ite2 (fun h1 => ⟨small1, fun p1 hp1 => ?_⟩) (fun h1 => ⟨small2, fun p1 hp1 => ⟨small2, fun p2 hp2 => ?_⟩⟩)⟩
      · have S1 := Same.new hp1 (.lst [.ref rf])
        refine ⟨xs, SqL.of (S1 _ _ exU), fun p2 hp2 => ?_⟩
        have S2 := Same.new hp2 (.lst (cutV xs (some 1) none))
        refine ⟨_, S2 _ _ upd_same, _, upd_same, ?_, fun p3 hp3 => ?_⟩
        · rw [cut_one, List.length_drop, lxx]; exact sz2 (by simp; omega)
        have S3 := Same.new hp3 (.lst ([.ref rf] ++ cutV xs (some 1) none))
        have SS := S1.trans (S2.trans S3)
        obtain ⟨q0, qs', rfl⟩ : ∃ q0 qs', qs = q0 :: qs' := by
          cases qs with
          | nil => rw [lxx] at h1; simp at h1
          | cons q0 qs' => exact ⟨q0, qs', rfl⟩
        have hq' : qs' ≠ [] := fun z => by rw [lxx, z] at h1; simp at h1
        refine hN _ _ ⟨p3, _, _, rfl, urn_ne (Same.urn (S1.trans S2) uU) hp3, ⟨_, q :: qs', upd_same, ?_, ?_, by simpa using lx, tl_head tx hq'⟩, tb p3 _ (Same.x SS u) ((S1.trans S2).free hp3), sU.trans (Same.x SS u), Same.urn SS uU⟩
        · refine .cons (SS _ _ e9U) ?_
          have := (nxU.mono SS.tups).drop 1
          rw [List.drop_succ_cons, List.drop_zero, ← cut_one] at this
          exact this
        · intro p hp
          rcases List.mem_cons.mp hp with rfl | hp
          · exact bf
          · exact bx p (by simp [hp])
      · have S1 := Same.new hp1 (.tup [.int 1, .int 1])
        have S2 := Same.new hp2 (.lst [.ref rf, .ref p1])
        have S12 := S1.trans S2
        refine hN _ _ ⟨p2, _, _, rfl, urn_ne (Same.urn S1 uU) hp2, ⟨_, [q, 1], upd_same, .cons (S12 _ _ e9U) (.cons (by rw [num_one]; exact S2 _ _ upd_same) .nil), ?_, by simp, tl_of_last fun y ey => ?_⟩, tb p2 _ (Same.x S12 u) (S1.free hp2), sU.trans (Same.x S12 u), Same.urn S12 uU⟩
        · intro p hp
          rcases List.mem_cons.mp hp with rfl | hp
          · exact bf
          · rw [List.mem_singleton.mp hp]; exact ⟨by decide, by decide⟩
        · have : y = 1 := by simpa using ey.symm
          rw [this]; decide
    clear hp s7 u7 ht
    rintro σ H7 ⟨ap, o9, o10, rfl, apu, hp, ht, s7, u7⟩
    refine seq_cut (fun σ H8 => σ = [some (.ref as), some (.int (0 + (i : Int))), some (.ref u), some (.int way), some (.int kd), some (.ref ap), some (.int (n : Int)), some (.ref at'), o8, o9, o10, o11] ∧ Same H7 H8) (fun N hN => ?_) ?_
    · obtain ⟨xs, qs, e, nq, hb, hl, htl, hsh⟩ := hp.len
      obtain ⟨ts, M, ru, er, f, nd, R, hM, hL⟩ := ht
      simp only [rLen, rLst, rSlS, rPartition, rStarts, iStr, rIntS, rJoin, rIxS, rSplitS, rInN, tComp_eq, tCompIf_eq, tSl, tSl3, tPart, tNoPart, rSlL, rPop, rAppend, capSt, List.map_cons, List.map_nil, Option.bind_none, Option.bind_some, Option.join_some, tSeq, tIfS, tAnd, tOr, tNot, tTest, tB, tOp, tUn, tBM0, tBM, tVar, tC, tCB, tRet, tAsg, gName, gSub, gTup, gCons, gNil, tCons, tNil, tPar, tTup, tLst, tIf, tAndV, tNotV, tDef, tCallX, tCallV, tDrop, tNext, tNever, tRaise, rI, rI0, rU, rBitLen, rIxL, rIxT, rSetL, rEq, rNe, rCount, rIndex, rSplit, rIsI, rCat, iRng1, iList, cxOf, cxR, cxX, Cx.nox, Cx.wish, Cx.body, Cx.suite, List.getElem?_cons_zero, List.getElem?_cons_succ, List.set_cons_zero, List.set_cons_succ, Option.some.injEq, V.int.injEq, V.bl.injEq, V.ref.injEq, V.str.injEq, exists_eq_left', exists_eq_left, exists_and_left, true_and, and_true, List.cons.injEq, reduceCtorEq, Bool.false_eq_true, if_false, if_true, exists_const, ↓reduceIte, tyV, List.length_cons, List.length_nil, exists_eq, List.append_nil, List.cons_append, List.nil_append, decide_eq_true_eq, not_true_eq_false, not_false_eq_true, Bool.not_eq_true', decide_eq_false_iff_not, Bool.not_true, Bool.not_false, and_assoc, false_and, false_or, or_false]
      refine ⟨ap, xs, qs, rfl, e, nq, hb, hl, htl, hsh, fun H8 s8 => ⟨_, rfl, ite2 (fun z => by cases z) (fun _ => ?_)⟩⟩
      refine ⟨at', ts, M, rfl, s8 _ _ er, R.same s8, fun z => by rw [z] at hM; simp at hM; omega, by omega, fun L h => by rw [hM]; exact hL L h, showT_le (by omega) (fun L h => by rw [hM]; exact hL L h), fun H9 s9 => ⟨_, rfl, ite2 (fun z => by cases z) (fun _ => hN _ _ ⟨rfl, s8.trans s9⟩)⟩⟩
    rintro σ H8 ⟨rfl, s8⟩
    refine ⟨small2, fun p1 hp1 => ⟨small1, fun p2 hp2 => ⟨_, rfl, (by decide : 6 ≤ sizeLine), fun p0 hp0 => ?_⟩⟩⟩
    obtain ⟨ts, M, ru, er, f, nd, R, hM, hL⟩ := ht
    have S1 := Same.new hp1 (.lst [.str "1", .str "2"])
    have S2 := Same.new hp2 (.tup [.str "1"])
    have S0 := Same.new hp0 (.lst [.non, .int 7, .ref p1, .ref p2, .ref at', .bl true])
    have E1 := S0 _ _ (S2 _ _ (show upd H8 p1 (.lst [.str "1", .str "2"]) p1 = _ from upd_same))
    have E2 := S0 _ _ (show upd (upd H8 p1 (.lst [.str "1", .str "2"])) p2 (.tup [.str "1"]) p2 = _ from upd_same)
    have E0' : upd (upd (upd H8 p1 (.lst [.str "1", .str "2"])) p2 (.tup [.str "1"])) p0 (.lst [.non, .int 7, .ref p1, .ref p2, .ref at', .bl true]) p0 = _ := upd_same
    have SA := s8.trans (S1.trans (S2.trans S0))
    refine ⟨p0, rfl, ⟨_, SqL.of E0'⟩, ?_⟩
    generalize upd (upd (upd H8 p1 (.lst [.str "1", .str "2"])) p2 (.tup [.str "1"])) p0 (.lst [.non, .int 7, .ref p1, .ref p2, .ref at', .bl true]) = HA at *
    obtain ⟨J, hJ⟩ : ∃ J : Nat → L2.St → Hp → Prop, ∀ m σ HB, J m σ HB ↔ ∃ o8 o11, σ = [some (.ref as), some (.int (0 + (i : Int))), some (.ref u), some (.int way), some (.int kd), some (.ref ap), some (.int (n : Int)), some (.ref at'), o8, o9, o10, o11] ∧ Same HA HB := ⟨_, fun _ _ _ => Iff.rfl⟩
    refine for_list (xs := [.non, .int 7, .ref p1, .ref p2, .ref at', .bl true]) J ((hJ _ _ _).mpr ⟨_, _, rfl, Same.refl _⟩) (by intro m σ HB _ h; obtain ⟨_, _, _, sB⟩ := (hJ _ _ _).mp h; exact SqL.of (sB _ _ E0')) ?_ ?_
    · intro m y σ HB hy hJB
      obtain ⟨o8, o11, rfl, sB⟩ := (hJ _ _ _).mp hJB
      have hd : ∃ d, isStrD d = false ∧ ∀ HC, Same HA HC → IsD K HC y d := by
        match m, hy with
        | 0, hy => cases hy; exact ⟨.v .non, rfl, fun _ _ => .v rfl⟩
        | 1, hy => cases hy; exact ⟨.v (.int 7), rfl, fun _ _ => .v rfl⟩
        | 2, hy => cases hy; exact ⟨.lst [.v (.str "1"), .v (.str "2")], rfl, fun HC sC => .lst (SqL.of (sC _ _ E1)) (.cons (.v rfl) (.cons (.v rfl) .nil))⟩
        | 3, hy => cases hy; exact ⟨.tup [.v (.str "1")], rfl, fun HC sC => .tup (SqT.of (sC _ _ E2)) (.cons (.v rfl) .nil)⟩
        | 4, hy => cases hy; exact ⟨.lst (M.map dList), rfl, fun HC sC => .lst (SqL.of (sC _ _ (SA _ _ er))) (R.same (SA.trans sC)).isDs⟩
        | 5, hy => cases hy; exact ⟨.v (.bl true), rfl, fun _ _ => .v rfl⟩
        | m + 6, hy => simp at hy
      obtain ⟨dd, sD, iD⟩ := hd
      simp only [gName, List.set_cons_zero, List.set_cons_succ]
      refine ⟨small2, fun pd hpd => ?_⟩
      have Sd := Same.new hpd (.lst [.ref g10, .ref g11])
      have Ed : upd HB pd (.lst [.ref g10, .ref g11]) pd = some (.lst [.ref g10, .ref g11]) := upd_same
      have SD := sB.trans Sd
      refine ⟨pd, rfl, ⟨_, SqL.of Ed⟩, ?_⟩
      generalize upd HB pd (.lst [.ref g10, .ref g11]) = HD at *
      obtain ⟨L, hL'⟩ : ∃ L : Nat → L2.St → Hp → Prop, ∀ m σ HB, L m σ HB ↔ ∃ o11, σ = [some (.ref as), some (.int (0 + (i : Int))), some (.ref u), some (.int way), some (.int kd), some (.ref ap), some (.int (n : Int)), some (.ref at'), some y, o9, o10, o11] ∧ Same HD HB := ⟨_, fun _ _ _ => Iff.rfl⟩
      refine for_list (xs := [.ref g10, .ref g11]) L ((hL' _ _ _).mpr ⟨_, rfl, Same.refl _⟩) (by intro m σ HB _ h; obtain ⟨_, _, sB⟩ := (hL' _ _ _).mp h; exact SqL.of (sB _ _ Ed)) ?_ ?_
      · intro m' z σ HE hz hLE
        obtain ⟨o11, rfl, sE⟩ := (hL' _ _ _).mp hLE
        have hg : ∃ g, z = .ref g ∧ (Def P w K mg base (CXR P w) 5 "read_poly" g ["text"] (spReadP K a.c_NoText) ∨ Def P w K mg base (CXR P w) 5 "read_table" g ["text"] (spReadTb K a.c_NoText)) := by
          match m', hz with
          | 0, hz => cases hz; exact ⟨g10, rfl, .inl G_read_poly⟩
          | 1, hz => cases hz; exact ⟨g11, rfl, .inr G_read_table⟩
          | m' + 2, hz => simp at hz
        obtain ⟨g, rfl, hg⟩ := hg
        simp only [rLen, rLst, rSlS, rPartition, rStarts, iStr, rIntS, rJoin, rIxS, rSplitS, rInN, tComp_eq, tCompIf_eq, tSl, tSl3, tPart, tNoPart, rSlL, rPop, rAppend, capSt, List.map_cons, List.map_nil, Option.bind_none, Option.bind_some, Option.join_some, tSeq, tIfS, tAnd, tOr, tNot, tTest, tB, tOp, tUn, tBM0, tBM, tVar, tC, tCB, tRet, tAsg, gName, gSub, gTup, gCons, gNil, tCons, tNil, tPar, tTup, tLst, tIf, tAndV, tNotV, tDef, tCallX, tCallV, tDrop, tNext, tNever, tRaise, rI, rI0, rU, rBitLen, rIxL, rIxT, rSetL, rEq, rNe, rCount, rIndex, rSplit, rIsI, rCat, iRng1, iList, cxOf, cxR, cxX, Cx.nox, Cx.wish, Cx.body, Cx.suite, List.getElem?_cons_zero, List.getElem?_cons_succ, List.set_cons_zero, List.set_cons_succ, Option.some.injEq, V.int.injEq, V.bl.injEq, V.ref.injEq, V.str.injEq, exists_eq_left', exists_eq_left, exists_and_left, true_and, and_true, List.cons.injEq, reduceCtorEq, Bool.false_eq_true, if_false, if_true, exists_const, ↓reduceIte, tyV, List.length_cons, List.length_nil, exists_eq, List.append_nil, List.cons_append, List.nil_append, decide_eq_true_eq, not_true_eq_false, not_false_eq_true, Bool.not_eq_true', decide_eq_false_iff_not, Bool.not_true, Bool.not_false, and_assoc, false_and, false_or, or_false]
        refine said_no (iD HE (SD.trans sE)) sD hg fun r HF sF eF => ⟨small2, fun p hp => ne_ref (Same.new hp _ _ _ eF) upd_same ⟨_, rfl, ite2 (fun z => by cases z) (fun _ => (hL' _ _ _).mpr ⟨_, rfl, sE.trans (sF.trans (Same.new hp _))⟩)⟩⟩
      · intro σ HE hLE
        obtain ⟨o11, rfl, sE⟩ := (hL' _ _ _).mp hLE
        exact (hJ _ _ _).mpr ⟨_, _, rfl, SD.trans sE⟩
    · intro σ HB hJB
      obtain ⟨o8, o11, rfl, sB⟩ := (hJ _ _ _).mp hJB
      exact (hI _ _ _).mpr ⟨_, _, _, _, _, _, _, _, _, _, _, rfl, (s7.trans (Same.x (SA.trans sB) u)).seq fu hS1⟩
  · intro σ H1 hI1
    exact k H1
end
end R

set_option maxRecDepth 100000
def PySem.W.Fast.tw11012957760490974088 : Unit := ()
def PySem.W.Fast.tw3701908819178031543 : Unit := ()
def PySem.W.Fast.tw2258000993031928317 : Unit := ()
def PySem.W.Fast.tw11092928407684090022 : Unit := ()
def PySem.W.Fast.tw7937855389833326194 : Unit := ()
def PySem.W.Fast.tw13500771910533351974 : Unit := ()
def PySem.W.Fast.tw12548858184341453851 : Unit := ()
def PySem.W.Fast.tw5940532305450564083 : Unit := ()
def PySem.W.Fast.tw6741669932039794106 : Unit := ()
def PySem.W.Fast.tw6926507650283727439 : Unit := ()
def PySem.W.Fast.tw11238805183795114807 : Unit := ()
def PySem.W.Fast.tw4622369050438239834 : Unit := ()
def PySem.W.Fast.tw2842802755883362136 : Unit := ()
def PySem.W.Fast.tw12529274992334020773 : Unit := ()
def PySem.W.Fast.tw3294485970791919911 : Unit := ()
def PySem.W.Fast.tw12709217679403257137 : Unit := ()
def PySem.W.Fast.tw7384971455982234751 : Unit := ()
def PySem.W.Fast.tw2669602905217167933 : Unit := ()
def PySem.W.Fast.tw17076426542948296186 : Unit := ()
def PySem.W.Fast.tw14305840958947524292 : Unit := ()
def PySem.W.Fast.tw11507501188739694853 : Unit := ()
def PySem.W.Fast.tw1705497794317494797 : Unit := ()
def PySem.W.Fast.tw16973883431160694001 : Unit := ()
def PySem.W.Fast.tw8787458055336662721 : Unit := ()
def PySem.W.Fast.tw17130115691902681178 : Unit := ()
def PySem.W.Fast.tw3623262568284727147 : Unit := ()
def PySem.W.Fast.tw8315442412313609300 : Unit := ()
def PySem.W.Fast.tw8261489649807323249 : Unit := ()
def PySem.W.Fast.tw7967946522330456643 : Unit := ()
def PySem.W.Fast.tw1751840153947335130 : Unit := ()
def PySem.W.Fast.tw591022425226186803 : Unit := ()
def PySem.W.Fast.tw16519125433853774717 : Unit := ()
def PySem.W.Fast.tw158971810394400791 : Unit := ()
def PySem.W.Fast.tw12575911826151417974 : Unit := ()
def PySem.W.Fast.tw11586504877762047365 : Unit := ()
def PySem.W.Fast.tw6343673733715285055 : Unit := ()
def PySem.W.Fast.tw3541761166159493515 : Unit := ()
def PySem.W.Fast.tw4391653149614653569 : Unit := ()
def PySem.W.Fast.tw6602924952378930564 : Unit := ()
def PySem.W.Fast.tw14397832964075074496 : Unit := ()
def PySem.W.Fast.tw2597921553581603653 : Unit := ()
def PySem.W.Fast.tw17009246435525908383 : Unit := ()
def PySem.W.Fast.tw2828590472681071915 : Unit := ()
def PySem.W.Fast.tw14352896289850505127 : Unit := ()
def PySem.W.Fast.tw8367177860644718228 : Unit := ()
def PySem.W.Fast.tw12159298136047177141 : Unit := ()
def PySem.W.Fast.tw12158934219730985756 : Unit := ()
def PySem.W.Fast.tw9465549416710964524 : Unit := ()
def PySem.W.Fast.tw2210566877894400576 : Unit := ()
def PySem.W.Fast.tw7966726819942061544 : Unit := ()
def PySem.W.Fast.tw7953591282536129007 : Unit := ()
def PySem.W.Fast.tw3240471698083859351 : Unit := ()
def PySem.W.Fast.tw2401766222829703293 : Unit := ()
def PySem.W.Fast.tw3563155980777949179 : Unit := ()
def PySem.W.Fast.tw10490019655468175094 : Unit := ()
def PySem.W.Fast.tw1045283904764495914 : Unit := ()
def PySem.W.Fast.tw5463615307283297767 : Unit := ()
def PySem.W.Fast.tw17604992351220373394 : Unit := ()
def PySem.W.Fast.tw5458247145624550272 : Unit := ()
def PySem.W.Fast.tw4321907843062527266 : Unit := ()
def PySem.W.Fast.tw10292102030093233853 : Unit := ()
def PySem.W.Fast.tw8759886577392088884 : Unit := ()
def PySem.W.Fast.tw1053312743421014452 : Unit := ()
def PySem.W.Fast.tw17945421824407067744 : Unit := ()
def PySem.W.Fast.tw11689072011947971621 : Unit := ()
def PySem.W.Fast.tw13442197534912557508 : Unit := ()
def PySem.W.Fast.tw17058791652035568335 : Unit := ()
def PySem.W.Fast.tw13026122264853664179 : Unit := ()
def PySem.W.Fast.tw5294531135794289861 : Unit := ()
def PySem.W.Fast.tw5655468141539089349 : Unit := ()
def PySem.W.Fast.tw11841582055630864837 : Unit := ()
def PySem.W.Fast.tw14178641936484236650 : Unit := ()
def PySem.W.Fast.tw1248440648565266749 : Unit := ()
def PySem.W.Fast.tw7562291091787621331 : Unit := ()
def PySem.W.Fast.tw1308212385804089130 : Unit := ()
def PySem.W.Fast.tw8426580074698318087 : Unit := ()
def PySem.W.Fast.tw7485392037476881327 : Unit := ()
def PySem.W.Fast.tw14556869781610948663 : Unit := ()
def PySem.W.Fast.tw17974134010214767616 : Unit := ()
def PySem.W.Fast.tw11939884275157583450 : Unit := ()
def PySem.W.Fast.tw3059276792875341592 : Unit := ()
def PySem.W.Fast.tw8759681877227407906 : Unit := ()
def PySem.W.Fast.tw14586007374051148548 : Unit := ()
def PySem.W.Fast.tw1165254998139485622 : Unit := ()
def PySem.W.Fast.tw12146600450872922731 : Unit := ()
def PySem.W.Fast.tw17385739988021654778 : Unit := ()
def PySem.W.Fast.tw14439546765221439574 : Unit := ()
def PySem.W.Fast.tw9122809217092855915 : Unit := ()
def PySem.W.Fast.tw14509112400301096644 : Unit := ()
def PySem.W.Fast.tw15984811693376750555 : Unit := ()
def PySem.W.Fast.tw10849639193826603920 : Unit := ()
def PySem.W.Fast.tw5873182254403333436 : Unit := ()
def PySem.W.Fast.tw15365770946293636705 : Unit := ()
def PySem.W.Fast.tw3090559722747942862 : Unit := ()
def PySem.W.Fast.tw3628463620909570286 : Unit := ()
def PySem.W.Fast.tw15827595679736616261 : Unit := ()
def PySem.W.Fast.tw10156606658992325925 : Unit := ()
def PySem.W.Fast.tw13113373203447602364 : Unit := ()
def PySem.W.Fast.tw14284916590858827518 : Unit := ()
def PySem.W.Fast.tw10157862951584543339 : Unit := ()
def PySem.W.Fast.tw5375861150413328030 : Unit := ()
def PySem.W.Fast.tw2115255023266939955 : Unit := ()
def PySem.W.Fast.tw18399051691488918459 : Unit := ()
def PySem.W.Fast.tw3781700112927520378 : Unit := ()
def PySem.W.Fast.tw742768966200963131 : Unit := ()
def PySem.W.Fast.tw9821918528522857186 : Unit := ()
def PySem.W.Fast.tw3781751021426969409 : Unit := ()
def PySem.W.Fast.tw2222293774249076406 : Unit := ()
def PySem.W.Fast.tw5460101654685539956 : Unit := ()
def PySem.W.Fast.tw60382206742687554 : Unit := ()
def PySem.W.Fast.tw13679509393053004970 : Unit := ()
def PySem.W.Fast.tw5618201795378144248 : Unit := ()
def PySem.W.Fast.tw3311066279882483912 : Unit := ()
def PySem.W.Fast.tw10066518255005944661 : Unit := ()
def PySem.W.Fast.tw4518410297228100432 : Unit := ()
def PySem.W.Fast.tw3271025985007290431 : Unit := ()
def PySem.W.Fast.tw16886420125952714523 : Unit := ()
def PySem.W.Fast.tw13777582221441321865 : Unit := ()
def PySem.W.Fast.tw13485204396546178232 : Unit := ()
def PySem.W.Fast.tw15673953286569835378 : Unit := ()
def PySem.W.Fast.tw3472980264384307367 : Unit := ()
def PySem.W.Fast.tw7380337335630158994 : Unit := ()
def PySem.W.Fast.tw16249470831102136271 : Unit := ()
def PySem.W.Fast.tw15908437117684060218 : Unit := ()
def PySem.W.Fast.tw12274394369001728839 : Unit := ()
def PySem.W.Fast.tw13496328893064891500 : Unit := ()
def PySem.W.Fast.tw16987601945778130592 : Unit := ()
def PySem.W.Fast.tw15476589748839320361 : Unit := ()
def PySem.W.Fast.tw11000883995747387550 : Unit := ()
def PySem.W.Fast.tw5509573149600520075 : Unit := ()
def PySem.W.Fast.tw6543274552591552413 : Unit := ()
def PySem.W.Fast.tw12652385721257003088 : Unit := ()
def PySem.W.Fast.tw9469903909500648672 : Unit := ()
def PySem.W.Fast.tw9227144389601801932 : Unit := ()
def PySem.W.Fast.tw14560277937262097569 : Unit := ()
def PySem.W.Fast.tw11627392681392622717 : Unit := ()
def PySem.W.Fast.tw4113381391093365250 : Unit := ()
def PySem.W.Fast.tw2688206055557981066 : Unit := ()
def PySem.W.Fast.tw12697007715287719193 : Unit := ()
def PySem.W.Fast.tw11465389739417172584 : Unit := ()
def PySem.W.Fast.tw14218781628851837787 : Unit := ()
def PySem.W.Fast.tw1723092828922175196 : Unit := ()
def PySem.W.Fast.tw431330860309376585 : Unit := ()
def PySem.W.Fast.tw4754495169247759242 : Unit := ()
def PySem.W.Fast.tw9877570963848279102 : Unit := ()
def PySem.W.Fast.tw13199126075619186480 : Unit := ()
def PySem.W.Fast.tw3692450066675258690 : Unit := ()
def PySem.W.Fast.tw12025544552506371267 : Unit := ()
def PySem.W.Fast.tw15923592036497915841 : Unit := ()
def PySem.W.Fast.tw13792751099096279117 : Unit := ()
def PySem.W.Fast.tw7850239605058680362 : Unit := ()
def PySem.W.Fast.tw4209333999887216973 : Unit := ()
def PySem.W.Fast.tw10442202616166520373 : Unit := ()
def PySem.W.Fast.tw5041807033974176712 : Unit := ()
def PySem.W.Fast.tw1743766446074395435 : Unit := ()
def PySem.W.Fast.tw1947340789016879581 : Unit := ()
def PySem.W.Fast.tw10291288592110854524 : Unit := ()
def PySem.W.Fast.tw8964612700363538077 : Unit := ()
def PySem.W.Fast.tw2719503953358026586 : Unit := ()
def PySem.W.Fast.tw3322650829863112252 : Unit := ()
def PySem.W.Fast.tw14741547309906917347 : Unit := ()
def PySem.W.Fast.tw8583000229595879388 : Unit := ()
def PySem.W.Fast.tw13185961088646111149 : Unit := ()
def PySem.W.Fast.tw8447865890431172103 : Unit := ()
def PySem.W.Fast.tw6057922247005308707 : Unit := ()
def PySem.W.Fast.tw15007305763101853890 : Unit := ()
def PySem.W.Fast.tw7507383476859359746 : Unit := ()
def PySem.W.Fast.tw17362858955224433909 : Unit := ()
def PySem.W.Fast.tw11078891030607800780 : Unit := ()
def PySem.W.Fast.tw15735990394926245066 : Unit := ()
def PySem.W.Fast.tw4536046602158692520 : Unit := ()
def PySem.W.Fast.tw15340175190099917628 : Unit := ()
def PySem.W.Fast.tw17457837376754279731 : Unit := ()
def PySem.W.Fast.tw3620081187587094529 : Unit := ()
def PySem.W.Fast.tw12595623378816287011 : Unit := ()
def PySem.W.Fast.tw8605616082425139278 : Unit := ()
def PySem.W.Fast.tw231183365258097190 : Unit := ()
def PySem.W.Fast.tw7689968400196232706 : Unit := ()
def PySem.W.Fast.tw13545678406004709863 : Unit := ()
def PySem.W.Fast.tw15098275619821405886 : Unit := ()
def PySem.W.Fast.tw6723152501102106322 : Unit := ()
def PySem.W.Fast.tw16095227451486210169 : Unit := ()
def PySem.W.Fast.tw15693496442807459927 : Unit := ()
def PySem.W.Fast.tw8435667518481094636 : Unit := ()
def PySem.W.Fast.tw8813162722144173660 : Unit := ()
def PySem.W.Fast.tw17385401542239363330 : Unit := ()
def PySem.W.Fast.tw11853626337665564467 : Unit := ()
def PySem.W.Fast.tw7735798573563117271 : Unit := ()
def PySem.W.Fast.tw9664561161784945266 : Unit := ()
def PySem.W.Fast.tw4396897242061565324 : Unit := ()
def PySem.W.Fast.tw11173124536477276040 : Unit := ()
def PySem.W.Fast.tw8757003991143745360 : Unit := ()
def PySem.W.Fast.tw2376442121722868018 : Unit := ()
def PySem.W.Fast.tw6820798000030202038 : Unit := ()
def PySem.W.Fast.tw8266166591710554306 : Unit := ()
def PySem.W.Fast.tw16040084752323213719 : Unit := ()
def PySem.W.Fast.tw3608900545068342646 : Unit := ()
def PySem.W.Fast.tw11127352097828435611 : Unit := ()
def PySem.W.Fast.tw2059568824602053037 : Unit := ()
def PySem.W.Fast.tw18239939719757907781 : Unit := ()
def PySem.W.Fast.tw4491743490404951675 : Unit := ()
def PySem.W.Fast.tw16697882410458380112 : Unit := ()
def PySem.W.Fast.tw17563741264600160892 : Unit := ()
def PySem.W.Fast.tw9915812929619175989 : Unit := ()
def PySem.W.Fast.tw8620675082385189804 : Unit := ()
def PySem.W.Fast.tw9442461914252723005 : Unit := ()
def PySem.W.Fast.tw1632836696734694185 : Unit := ()
def PySem.W.Fast.tw5323878713074298153 : Unit := ()
def PySem.W.Fast.tw12117384924367787626 : Unit := ()
def PySem.W.Fast.tw9364561293266368887 : Unit := ()
def PySem.W.Fast.tw16434008373736854796 : Unit := ()
def PySem.W.Fast.tw10294115486395623222 : Unit := ()
def PySem.W.Fast.tw13795685999766080087 : Unit := ()
def PySem.W.Fast.tw3268210978093607890 : Unit := ()
def PySem.W.Fast.tw6629510902167505331 : Unit := ()
def PySem.W.Fast.tw16241645586798089463 : Unit := ()
def PySem.W.Fast.tw2196390952635875874 : Unit := ()
def PySem.W.Fast.tw9165732758903165110 : Unit := ()
def PySem.W.Fast.tw5443385477906751767 : Unit := ()
def PySem.W.Fast.tw9724123879503989711 : Unit := ()
def PySem.W.Fast.tw11095108666113693516 : Unit := ()
def PySem.W.Fast.tw11989430749770675571 : Unit := ()
def PySem.W.Fast.tw6451338337749778146 : Unit := ()
def PySem.W.Fast.tw1099744383127125047 : Unit := ()
def PySem.W.Fast.tw7751300529628631644 : Unit := ()
def PySem.W.Fast.tw17931890234234373935 : Unit := ()
def PySem.W.Fast.tw2285302846216137191 : Unit := ()
def PySem.W.Fast.tw7066952496873953976 : Unit := ()
def PySem.W.Fast.tw16179631990063982754 : Unit := ()
def PySem.W.Fast.tw9983574498951398988 : Unit := ()
def PySem.W.Fast.tw14495212973964139415 : Unit := ()
def PySem.W.Fast.tw9186582619537558162 : Unit := ()
def PySem.W.Fast.tw11839390121954364924 : Unit := ()
def PySem.W.Fast.tw6839332265428336426 : Unit := ()
def PySem.W.Fast.tw5838833201830508054 : Unit := ()
def PySem.W.Fast.tw4270095181355907793 : Unit := ()
def PySem.W.Fast.tw14717029229399631773 : Unit := ()
def PySem.W.Fast.tw13070094007032536316 : Unit := ()
def PySem.W.Fast.tw17383467194563470368 : Unit := ()
def PySem.W.Fast.tw8431563457340022915 : Unit := ()
def PySem.W.Fast.tw17791101460135190177 : Unit := ()
def PySem.W.Fast.tw5564450073681735754 : Unit := ()
def PySem.W.Fast.tw2626790510216412336 : Unit := ()
def PySem.W.Fast.tw4488591230641557536 : Unit := ()
def PySem.W.Fast.tw14007900141810550017 : Unit := ()
def PySem.W.Fast.tw2999806511444836073 : Unit := ()
def PySem.W.Fast.tw3411825978818173831 : Unit := ()
def PySem.W.Fast.tw17601675373413129952 : Unit := ()
def PySem.W.Fast.tw18346913013247688949 : Unit := ()
def PySem.W.Fast.tw2991605978546886554 : Unit := ()
def PySem.W.Fast.tw5449484177012213542 : Unit := ()
def PySem.W.Fast.tw8880442724579878623 : Unit := ()
def PySem.W.Fast.tw18005132428957225708 : Unit := ()
def PySem.W.Fast.tw15821018248594020711 : Unit := ()
def PySem.W.Fast.tw14409268348864165273 : Unit := ()
def PySem.W.Fast.tw5585649557946431194 : Unit := ()
def PySem.W.Fast.tw5616326673924334390 : Unit := ()
def PySem.W.Fast.tw16972764008612917019 : Unit := ()
def PySem.W.Fast.tw4062607775253616733 : Unit := ()
def PySem.W.Fast.tw1082108098685674677 : Unit := ()
def PySem.W.Fast.tw15741282655221290293 : Unit := ()
def PySem.W.Fast.tw8566863424074884708 : Unit := ()
def PySem.W.Fast.tw17187827337905771452 : Unit := ()
def PySem.W.Fast.tw3915872992050630174 : Unit := ()
def PySem.W.Fast.tw17840885876052167111 : Unit := ()
def PySem.W.Fast.tw16867127621750570282 : Unit := ()
def PySem.W.Fast.tw9308642977287755484 : Unit := ()
def PySem.W.Fast.tw194344110125106926 : Unit := ()
def PySem.W.Fast.tw15978338971129029950 : Unit := ()
def PySem.W.Fast.tw6415897326158301951 : Unit := ()
def PySem.W.Fast.tw4874071243839086235 : Unit := ()
def PySem.W.Fast.tw1609216536081481707 : Unit := ()
def PySem.W.Fast.tw18196376386174706940 : Unit := ()
def PySem.W.Fast.tw1435622282529728066 : Unit := ()
def PySem.W.Fast.tw2766454076223053837 : Unit := ()
def PySem.W.Fast.tw4557120301153893244 : Unit := ()
def PySem.W.Fast.tw1497950660197441008 : Unit := ()
def PySem.W.Fast.tw7868240651394194829 : Unit := ()
def PySem.W.Fast.tw1918880308900300088 : Unit := ()
def PySem.W.Fast.tw7502054751923730282 : Unit := ()
def PySem.W.Fast.tw6156391059587998294 : Unit := ()
def PySem.W.Fast.tw18000719275451045474 : Unit := ()
def PySem.W.Fast.tw9117112373533640354 : Unit := ()
def PySem.W.Fast.tw4848052623757046612 : Unit := ()
def PySem.W.Fast.tw5826259268692838916 : Unit := ()
def PySem.W.Fast.tw42559912920643389 : Unit := ()
def PySem.W.Fast.tw14506812432078507089 : Unit := ()
def PySem.W.Fast.tw15427499367259722575 : Unit := ()
def PySem.W.Fast.tw16691799203274970596 : Unit := ()
def PySem.W.Fast.tw10274479578532832929 : Unit := ()
def PySem.W.Fast.tw11226024348097265085 : Unit := ()
def PySem.W.Fast.tw7166397859800828668 : Unit := ()
def PySem.W.Fast.tw8369944079833494053 : Unit := ()
def PySem.W.Fast.tw13030709989895638329 : Unit := ()
def PySem.W.Fast.tw1043462317244992973 : Unit := ()
def PySem.W.Fast.tw5825664366548484115 : Unit := ()
def PySem.W.Fast.tw16597707691308470762 : Unit := ()
def PySem.W.Fast.tw183738735069490292 : Unit := ()
def PySem.W.Fast.tw12012998604911741047 : Unit := ()
def PySem.W.Fast.tw11481063964927386251 : Unit := ()
namespace R
open PySem L2 PyProof.Rows
section
variable {l : PySem.W.OpenLaw} {w : World} {K : PySem.W.Frag} {h : Heap} {mg : Str → Option Value}
set_option maxHeartbeats 0 in
theorem all_mk {fa f_whole_in f_common_divisor f_is_whole f_is_number f__law_low f__law_urn f__law_draw f__law_kind f__law_number f__law_whole f__law_is_number f__law_which f_number_in f_check_text f_numbers_in f_is_square f_read_poly f_read_table f_show_whole f_show_number f__law_show_number f_show_numbers f_show_poly f_show_table f__law_show_poly f__law_show_table f__law_other f__law_trim f__law_drawn_poly f__law_is_poly f__law_is_table f__law_said f__law_far_number f__law_poly_right f__law_table_right f_law : Addr} {C_NoFraction C_NoPolynomial C_NoStretch C_NoRow C_NoPair C_NoBack C_NoForm C_NoParts C_NoDegree C_NoSteps C_NoBox C_NoGain C_NoText C_NoLine C_NoName C_NoDeed C_RestError : Addr} {od_whole_in an_whole_in : Option Addr} {sl_whole_in : Array (Option Value)} {oc_whole_in kV_whole_in dc_whole_in pm_whole_in cd_whole_in ct_whole_in : Value} {od_common_divisor an_common_divisor : Option Addr} {sl_common_divisor : Array (Option Value)} {oc_common_divisor kV_common_divisor dc_common_divisor pm_common_divisor cd_common_divisor ct_common_divisor : Value} {od_is_whole an_is_whole : Option Addr} {sl_is_whole : Array (Option Value)} {oc_is_whole kV_is_whole dc_is_whole pm_is_whole cd_is_whole ct_is_whole : Value} {od_is_number an_is_number : Option Addr} {sl_is_number : Array (Option Value)} {oc_is_number kV_is_number dc_is_number pm_is_number cd_is_number ct_is_number : Value} {od__law_low an__law_low : Option Addr} {sl__law_low : Array (Option Value)} {oc__law_low kV__law_low dc__law_low pm__law_low cd__law_low ct__law_low : Value} {od__law_urn an__law_urn : Option Addr} {sl__law_urn : Array (Option Value)} {oc__law_urn kV__law_urn dc__law_urn pm__law_urn cd__law_urn ct__law_urn : Value} {od__law_draw an__law_draw : Option Addr} {sl__law_draw : Array (Option Value)} {oc__law_draw kV__law_draw dc__law_draw pm__law_draw cd__law_draw ct__law_draw : Value} {od__law_kind an__law_kind : Option Addr} {sl__law_kind : Array (Option Value)} {oc__law_kind kV__law_kind dc__law_kind pm__law_kind cd__law_kind ct__law_kind : Value} {od__law_number an__law_number : Option Addr} {sl__law_number : Array (Option Value)} {oc__law_number kV__law_number dc__law_number pm__law_number cd__law_number ct__law_number : Value} {od__law_whole an__law_whole : Option Addr} {sl__law_whole : Array (Option Value)} {oc__law_whole kV__law_whole dc__law_whole pm__law_whole cd__law_whole ct__law_whole : Value} {od__law_is_number an__law_is_number : Option Addr} {sl__law_is_number : Array (Option Value)} {oc__law_is_number kV__law_is_number dc__law_is_number pm__law_is_number cd__law_is_number ct__law_is_number : Value} {od__law_which an__law_which : Option Addr} {sl__law_which : Array (Option Value)} {oc__law_which kV__law_which dc__law_which pm__law_which cd__law_which ct__law_which : Value} {od_number_in an_number_in : Option Addr} {sl_number_in : Array (Option Value)} {oc_number_in kV_number_in dc_number_in pm_number_in cd_number_in ct_number_in : Value} {od_check_text an_check_text : Option Addr} {sl_check_text : Array (Option Value)} {oc_check_text kV_check_text dc_check_text pm_check_text cd_check_text ct_check_text : Value} {od_numbers_in an_numbers_in : Option Addr} {sl_numbers_in : Array (Option Value)} {oc_numbers_in kV_numbers_in dc_numbers_in pm_numbers_in cd_numbers_in ct_numbers_in : Value} {od_is_square an_is_square : Option Addr} {sl_is_square : Array (Option Value)} {oc_is_square kV_is_square dc_is_square pm_is_square cd_is_square ct_is_square : Value} {od_read_poly an_read_poly : Option Addr} {sl_read_poly : Array (Option Value)} {oc_read_poly kV_read_poly dc_read_poly pm_read_poly cd_read_poly ct_read_poly : Value} {od_read_table an_read_table : Option Addr} {sl_read_table : Array (Option Value)} {oc_read_table kV_read_table dc_read_table pm_read_table cd_read_table ct_read_table : Value} {od_show_whole an_show_whole : Option Addr} {sl_show_whole : Array (Option Value)} {oc_show_whole kV_show_whole dc_show_whole pm_show_whole cd_show_whole ct_show_whole : Value} {od_show_number an_show_number : Option Addr} {sl_show_number : Array (Option Value)} {oc_show_number kV_show_number dc_show_number pm_show_number cd_show_number ct_show_number : Value} {od__law_show_number an__law_show_number : Option Addr} {sl__law_show_number : Array (Option Value)} {oc__law_show_number kV__law_show_number dc__law_show_number pm__law_show_number cd__law_show_number ct__law_show_number : Value} {od_show_numbers an_show_numbers : Option Addr} {sl_show_numbers : Array (Option Value)} {oc_show_numbers kV_show_numbers dc_show_numbers pm_show_numbers cd_show_numbers ct_show_numbers : Value} {od_show_poly an_show_poly : Option Addr} {sl_show_poly : Array (Option Value)} {oc_show_poly kV_show_poly dc_show_poly pm_show_poly cd_show_poly ct_show_poly : Value} {od_show_table an_show_table : Option Addr} {sl_show_table : Array (Option Value)} {oc_show_table kV_show_table dc_show_table pm_show_table cd_show_table ct_show_table : Value} {od__law_show_poly an__law_show_poly : Option Addr} {sl__law_show_poly : Array (Option Value)} {oc__law_show_poly kV__law_show_poly dc__law_show_poly pm__law_show_poly cd__law_show_poly ct__law_show_poly : Value} {od__law_show_table an__law_show_table : Option Addr} {sl__law_show_table : Array (Option Value)} {oc__law_show_table kV__law_show_table dc__law_show_table pm__law_show_table cd__law_show_table ct__law_show_table : Value} {od__law_other an__law_other : Option Addr} {sl__law_other : Array (Option Value)} {oc__law_other kV__law_other dc__law_other pm__law_other cd__law_other ct__law_other : Value} {od__law_trim an__law_trim : Option Addr} {sl__law_trim : Array (Option Value)} {oc__law_trim kV__law_trim dc__law_trim pm__law_trim cd__law_trim ct__law_trim : Value} {od__law_drawn_poly an__law_drawn_poly : Option Addr} {sl__law_drawn_poly : Array (Option Value)} {oc__law_drawn_poly kV__law_drawn_poly dc__law_drawn_poly pm__law_drawn_poly cd__law_drawn_poly ct__law_drawn_poly : Value} {od__law_is_poly an__law_is_poly : Option Addr} {sl__law_is_poly : Array (Option Value)} {oc__law_is_poly kV__law_is_poly dc__law_is_poly pm__law_is_poly cd__law_is_poly ct__law_is_poly : Value} {od__law_is_table an__law_is_table : Option Addr} {sl__law_is_table : Array (Option Value)} {oc__law_is_table kV__law_is_table dc__law_is_table pm__law_is_table cd__law_is_table ct__law_is_table : Value} {od__law_said an__law_said : Option Addr} {sl__law_said : Array (Option Value)} {oc__law_said kV__law_said dc__law_said pm__law_said cd__law_said ct__law_said : Value} {od__law_far_number an__law_far_number : Option Addr} {sl__law_far_number : Array (Option Value)} {oc__law_far_number kV__law_far_number dc__law_far_number pm__law_far_number cd__law_far_number ct__law_far_number : Value} {od__law_poly_right an__law_poly_right : Option Addr} {sl__law_poly_right : Array (Option Value)} {oc__law_poly_right kV__law_poly_right dc__law_poly_right pm__law_poly_right cd__law_poly_right ct__law_poly_right : Value} {od__law_table_right an__law_table_right : Option Addr} {sl__law_table_right : Array (Option Value)} {oc__law_table_right kV__law_table_right dc__law_table_right pm__law_table_right cd__law_table_right ct__law_table_right : Value} {od_law an_law : Option Addr} {sl_law : Array (Option Value)} {oc_law kV_law dc_law pm_law cd_law ct_law : Value} {t_FIGURES : Tok} {t_SHORT : Tok} {t_ROWS : Tok} {t_NONE : Tok} {t_NUMBERS : Tok} {A_NOUGHT : Addr} {td_NOUGHT : Option Addr} {ts_NOUGHT : Array (Option Value)} {tn_NOUGHT : Nat} {tt0_NOUGHT tt1_NOUGHT : Tok}
    (X : K.In h) (G : h.Ns mainGlobals mg) (hfa : mg "law" = some (.ref fa))
    (a_whole_in : PySem.W.nsIn K mainGlobals "whole_in" = some (some (.ref f_whole_in)))
    (l_whole_in : K.lookup f_whole_in = some ⟨oc_whole_in, od_whole_in, .func (PySem.W.fnOf "whole_in" "whole_in" (defArgs s_whole_in) (defBody s_whole_in) (defScope s_whole_in) .none kV_whole_in dc_whole_in pm_whole_in an_whole_in cd_whole_in ct_whole_in), sl_whole_in⟩)
    (c_whole_in : PySem.W.codeIn K cd_whole_in "whole_in" = true) (k_whole_in : PySem.W.keepIn K (.ref f_whole_in) = true)
    (a_common_divisor : PySem.W.nsIn K mainGlobals "common_divisor" = some (some (.ref f_common_divisor)))
    (l_common_divisor : K.lookup f_common_divisor = some ⟨oc_common_divisor, od_common_divisor, .func (PySem.W.fnOf "common_divisor" "common_divisor" (defArgs s_common_divisor) (defBody s_common_divisor) (defScope s_common_divisor) .none kV_common_divisor dc_common_divisor pm_common_divisor an_common_divisor cd_common_divisor ct_common_divisor), sl_common_divisor⟩)
    (c_common_divisor : PySem.W.codeIn K cd_common_divisor "common_divisor" = true) (k_common_divisor : PySem.W.keepIn K (.ref f_common_divisor) = true)
    (a_is_whole : PySem.W.nsIn K mainGlobals "is_whole" = some (some (.ref f_is_whole)))
    (l_is_whole : K.lookup f_is_whole = some ⟨oc_is_whole, od_is_whole, .func (PySem.W.fnOf "is_whole" "is_whole" (defArgs s_is_whole) (defBody s_is_whole) (defScope s_is_whole) .none kV_is_whole dc_is_whole pm_is_whole an_is_whole cd_is_whole ct_is_whole), sl_is_whole⟩)
    (c_is_whole : PySem.W.codeIn K cd_is_whole "is_whole" = true) (k_is_whole : PySem.W.keepIn K (.ref f_is_whole) = true)
    (a_is_number : PySem.W.nsIn K mainGlobals "is_number" = some (some (.ref f_is_number)))
    (l_is_number : K.lookup f_is_number = some ⟨oc_is_number, od_is_number, .func (PySem.W.fnOf "is_number" "is_number" (defArgs s_is_number) (defBody s_is_number) (defScope s_is_number) .none kV_is_number dc_is_number pm_is_number an_is_number cd_is_number ct_is_number), sl_is_number⟩)
    (c_is_number : PySem.W.codeIn K cd_is_number "is_number" = true) (k_is_number : PySem.W.keepIn K (.ref f_is_number) = true)
    (a__law_low : PySem.W.nsIn K mainGlobals "_law_low" = some (some (.ref f__law_low)))
    (l__law_low : K.lookup f__law_low = some ⟨oc__law_low, od__law_low, .func (PySem.W.fnOf "_law_low" "_law_low" (defArgs s__law_low) (defBody s__law_low) (defScope s__law_low) .none kV__law_low dc__law_low pm__law_low an__law_low cd__law_low ct__law_low), sl__law_low⟩)
    (c__law_low : PySem.W.codeIn K cd__law_low "_law_low" = true) (k__law_low : PySem.W.keepIn K (.ref f__law_low) = true)
    (a__law_urn : PySem.W.nsIn K mainGlobals "_law_urn" = some (some (.ref f__law_urn)))
    (l__law_urn : K.lookup f__law_urn = some ⟨oc__law_urn, od__law_urn, .func (PySem.W.fnOf "_law_urn" "_law_urn" (defArgs s__law_urn) (defBody s__law_urn) (defScope s__law_urn) .none kV__law_urn dc__law_urn pm__law_urn an__law_urn cd__law_urn ct__law_urn), sl__law_urn⟩)
    (c__law_urn : PySem.W.codeIn K cd__law_urn "_law_urn" = true) (k__law_urn : PySem.W.keepIn K (.ref f__law_urn) = true)
    (a__law_draw : PySem.W.nsIn K mainGlobals "_law_draw" = some (some (.ref f__law_draw)))
    (l__law_draw : K.lookup f__law_draw = some ⟨oc__law_draw, od__law_draw, .func (PySem.W.fnOf "_law_draw" "_law_draw" (defArgs s__law_draw) (defBody s__law_draw) (defScope s__law_draw) .none kV__law_draw dc__law_draw pm__law_draw an__law_draw cd__law_draw ct__law_draw), sl__law_draw⟩)
    (c__law_draw : PySem.W.codeIn K cd__law_draw "_law_draw" = true) (k__law_draw : PySem.W.keepIn K (.ref f__law_draw) = true)
    (a__law_kind : PySem.W.nsIn K mainGlobals "_law_kind" = some (some (.ref f__law_kind)))
    (l__law_kind : K.lookup f__law_kind = some ⟨oc__law_kind, od__law_kind, .func (PySem.W.fnOf "_law_kind" "_law_kind" (defArgs s__law_kind) (defBody s__law_kind) (defScope s__law_kind) .none kV__law_kind dc__law_kind pm__law_kind an__law_kind cd__law_kind ct__law_kind), sl__law_kind⟩)
    (c__law_kind : PySem.W.codeIn K cd__law_kind "_law_kind" = true) (k__law_kind : PySem.W.keepIn K (.ref f__law_kind) = true)
    (a__law_number : PySem.W.nsIn K mainGlobals "_law_number" = some (some (.ref f__law_number)))
    (l__law_number : K.lookup f__law_number = some ⟨oc__law_number, od__law_number, .func (PySem.W.fnOf "_law_number" "_law_number" (defArgs s__law_number) (defBody s__law_number) (defScope s__law_number) .none kV__law_number dc__law_number pm__law_number an__law_number cd__law_number ct__law_number), sl__law_number⟩)
    (c__law_number : PySem.W.codeIn K cd__law_number "_law_number" = true) (k__law_number : PySem.W.keepIn K (.ref f__law_number) = true)
    (a__law_whole : PySem.W.nsIn K mainGlobals "_law_whole" = some (some (.ref f__law_whole)))
    (l__law_whole : K.lookup f__law_whole = some ⟨oc__law_whole, od__law_whole, .func (PySem.W.fnOf "_law_whole" "_law_whole" (defArgs s__law_whole) (defBody s__law_whole) (defScope s__law_whole) .none kV__law_whole dc__law_whole pm__law_whole an__law_whole cd__law_whole ct__law_whole), sl__law_whole⟩)
    (c__law_whole : PySem.W.codeIn K cd__law_whole "_law_whole" = true) (k__law_whole : PySem.W.keepIn K (.ref f__law_whole) = true)
    (a__law_is_number : PySem.W.nsIn K mainGlobals "_law_is_number" = some (some (.ref f__law_is_number)))
    (l__law_is_number : K.lookup f__law_is_number = some ⟨oc__law_is_number, od__law_is_number, .func (PySem.W.fnOf "_law_is_number" "_law_is_number" (defArgs s__law_is_number) (defBody s__law_is_number) (defScope s__law_is_number) .none kV__law_is_number dc__law_is_number pm__law_is_number an__law_is_number cd__law_is_number ct__law_is_number), sl__law_is_number⟩)
    (c__law_is_number : PySem.W.codeIn K cd__law_is_number "_law_is_number" = true) (k__law_is_number : PySem.W.keepIn K (.ref f__law_is_number) = true)
    (a__law_which : PySem.W.nsIn K mainGlobals "_law_which" = some (some (.ref f__law_which)))
    (l__law_which : K.lookup f__law_which = some ⟨oc__law_which, od__law_which, .func (PySem.W.fnOf "_law_which" "_law_which" (defArgs s__law_which) (defBody s__law_which) (defScope s__law_which) .none kV__law_which dc__law_which pm__law_which an__law_which cd__law_which ct__law_which), sl__law_which⟩)
    (c__law_which : PySem.W.codeIn K cd__law_which "_law_which" = true) (k__law_which : PySem.W.keepIn K (.ref f__law_which) = true)
    (a_number_in : PySem.W.nsIn K mainGlobals "number_in" = some (some (.ref f_number_in)))
    (l_number_in : K.lookup f_number_in = some ⟨oc_number_in, od_number_in, .func (PySem.W.fnOf "number_in" "number_in" (defArgs s_number_in) (defBody s_number_in) (defScope s_number_in) .none kV_number_in dc_number_in pm_number_in an_number_in cd_number_in ct_number_in), sl_number_in⟩)
    (c_number_in : PySem.W.codeIn K cd_number_in "number_in" = true) (k_number_in : PySem.W.keepIn K (.ref f_number_in) = true)
    (a_check_text : PySem.W.nsIn K mainGlobals "check_text" = some (some (.ref f_check_text)))
    (l_check_text : K.lookup f_check_text = some ⟨oc_check_text, od_check_text, .func (PySem.W.fnOf "check_text" "check_text" (defArgs s_check_text) (defBody s_check_text) (defScope s_check_text) .none kV_check_text dc_check_text pm_check_text an_check_text cd_check_text ct_check_text), sl_check_text⟩)
    (c_check_text : PySem.W.codeIn K cd_check_text "check_text" = true) (k_check_text : PySem.W.keepIn K (.ref f_check_text) = true)
    (a_numbers_in : PySem.W.nsIn K mainGlobals "numbers_in" = some (some (.ref f_numbers_in)))
    (l_numbers_in : K.lookup f_numbers_in = some ⟨oc_numbers_in, od_numbers_in, .func (PySem.W.fnOf "numbers_in" "numbers_in" (defArgs s_numbers_in) (defBody s_numbers_in) (defScope s_numbers_in) .none kV_numbers_in dc_numbers_in pm_numbers_in an_numbers_in cd_numbers_in ct_numbers_in), sl_numbers_in⟩)
    (c_numbers_in : PySem.W.codeIn K cd_numbers_in "numbers_in" = true) (k_numbers_in : PySem.W.keepIn K (.ref f_numbers_in) = true)
    (a_is_square : PySem.W.nsIn K mainGlobals "is_square" = some (some (.ref f_is_square)))
    (l_is_square : K.lookup f_is_square = some ⟨oc_is_square, od_is_square, .func (PySem.W.fnOf "is_square" "is_square" (defArgs s_is_square) (defBody s_is_square) (defScope s_is_square) .none kV_is_square dc_is_square pm_is_square an_is_square cd_is_square ct_is_square), sl_is_square⟩)
    (c_is_square : PySem.W.codeIn K cd_is_square "is_square" = true) (k_is_square : PySem.W.keepIn K (.ref f_is_square) = true)
    (a_read_poly : PySem.W.nsIn K mainGlobals "read_poly" = some (some (.ref f_read_poly)))
    (l_read_poly : K.lookup f_read_poly = some ⟨oc_read_poly, od_read_poly, .func (PySem.W.fnOf "read_poly" "read_poly" (defArgs s_read_poly) (defBody s_read_poly) (defScope s_read_poly) .none kV_read_poly dc_read_poly pm_read_poly an_read_poly cd_read_poly ct_read_poly), sl_read_poly⟩)
    (c_read_poly : PySem.W.codeIn K cd_read_poly "read_poly" = true) (k_read_poly : PySem.W.keepIn K (.ref f_read_poly) = true)
    (a_read_table : PySem.W.nsIn K mainGlobals "read_table" = some (some (.ref f_read_table)))
    (l_read_table : K.lookup f_read_table = some ⟨oc_read_table, od_read_table, .func (PySem.W.fnOf "read_table" "read_table" (defArgs s_read_table) (defBody s_read_table) (defScope s_read_table) .none kV_read_table dc_read_table pm_read_table an_read_table cd_read_table ct_read_table), sl_read_table⟩)
    (c_read_table : PySem.W.codeIn K cd_read_table "read_table" = true) (k_read_table : PySem.W.keepIn K (.ref f_read_table) = true)
    (a_show_whole : PySem.W.nsIn K mainGlobals "show_whole" = some (some (.ref f_show_whole)))
    (l_show_whole : K.lookup f_show_whole = some ⟨oc_show_whole, od_show_whole, .func (PySem.W.fnOf "show_whole" "show_whole" (defArgs s_show_whole) (defBody s_show_whole) (defScope s_show_whole) .none kV_show_whole dc_show_whole pm_show_whole an_show_whole cd_show_whole ct_show_whole), sl_show_whole⟩)
    (c_show_whole : PySem.W.codeIn K cd_show_whole "show_whole" = true) (k_show_whole : PySem.W.keepIn K (.ref f_show_whole) = true)
    (a_show_number : PySem.W.nsIn K mainGlobals "show_number" = some (some (.ref f_show_number)))
    (l_show_number : K.lookup f_show_number = some ⟨oc_show_number, od_show_number, .func (PySem.W.fnOf "show_number" "show_number" (defArgs s_show_number) (defBody s_show_number) (defScope s_show_number) .none kV_show_number dc_show_number pm_show_number an_show_number cd_show_number ct_show_number), sl_show_number⟩)
    (c_show_number : PySem.W.codeIn K cd_show_number "show_number" = true) (k_show_number : PySem.W.keepIn K (.ref f_show_number) = true)
    (a__law_show_number : PySem.W.nsIn K mainGlobals "_law_show_number" = some (some (.ref f__law_show_number)))
    (l__law_show_number : K.lookup f__law_show_number = some ⟨oc__law_show_number, od__law_show_number, .func (PySem.W.fnOf "_law_show_number" "_law_show_number" (defArgs s__law_show_number) (defBody s__law_show_number) (defScope s__law_show_number) .none kV__law_show_number dc__law_show_number pm__law_show_number an__law_show_number cd__law_show_number ct__law_show_number), sl__law_show_number⟩)
    (c__law_show_number : PySem.W.codeIn K cd__law_show_number "_law_show_number" = true) (k__law_show_number : PySem.W.keepIn K (.ref f__law_show_number) = true)
    (a_show_numbers : PySem.W.nsIn K mainGlobals "show_numbers" = some (some (.ref f_show_numbers)))
    (l_show_numbers : K.lookup f_show_numbers = some ⟨oc_show_numbers, od_show_numbers, .func (PySem.W.fnOf "show_numbers" "show_numbers" (defArgs s_show_numbers) (defBody s_show_numbers) (defScope s_show_numbers) .none kV_show_numbers dc_show_numbers pm_show_numbers an_show_numbers cd_show_numbers ct_show_numbers), sl_show_numbers⟩)
    (c_show_numbers : PySem.W.codeIn K cd_show_numbers "show_numbers" = true) (k_show_numbers : PySem.W.keepIn K (.ref f_show_numbers) = true)
    (a_show_poly : PySem.W.nsIn K mainGlobals "show_poly" = some (some (.ref f_show_poly)))
    (l_show_poly : K.lookup f_show_poly = some ⟨oc_show_poly, od_show_poly, .func (PySem.W.fnOf "show_poly" "show_poly" (defArgs s_show_poly) (defBody s_show_poly) (defScope s_show_poly) .none kV_show_poly dc_show_poly pm_show_poly an_show_poly cd_show_poly ct_show_poly), sl_show_poly⟩)
    (c_show_poly : PySem.W.codeIn K cd_show_poly "show_poly" = true) (k_show_poly : PySem.W.keepIn K (.ref f_show_poly) = true)
    (a_show_table : PySem.W.nsIn K mainGlobals "show_table" = some (some (.ref f_show_table)))
    (l_show_table : K.lookup f_show_table = some ⟨oc_show_table, od_show_table, .func (PySem.W.fnOf "show_table" "show_table" (defArgs s_show_table) (defBody s_show_table) (defScope s_show_table) .none kV_show_table dc_show_table pm_show_table an_show_table cd_show_table ct_show_table), sl_show_table⟩)
    (c_show_table : PySem.W.codeIn K cd_show_table "show_table" = true) (k_show_table : PySem.W.keepIn K (.ref f_show_table) = true)
    (a__law_show_poly : PySem.W.nsIn K mainGlobals "_law_show_poly" = some (some (.ref f__law_show_poly)))
    (l__law_show_poly : K.lookup f__law_show_poly = some ⟨oc__law_show_poly, od__law_show_poly, .func (PySem.W.fnOf "_law_show_poly" "_law_show_poly" (defArgs s__law_show_poly) (defBody s__law_show_poly) (defScope s__law_show_poly) .none kV__law_show_poly dc__law_show_poly pm__law_show_poly an__law_show_poly cd__law_show_poly ct__law_show_poly), sl__law_show_poly⟩)
    (c__law_show_poly : PySem.W.codeIn K cd__law_show_poly "_law_show_poly" = true) (k__law_show_poly : PySem.W.keepIn K (.ref f__law_show_poly) = true)
    (a__law_show_table : PySem.W.nsIn K mainGlobals "_law_show_table" = some (some (.ref f__law_show_table)))
    (l__law_show_table : K.lookup f__law_show_table = some ⟨oc__law_show_table, od__law_show_table, .func (PySem.W.fnOf "_law_show_table" "_law_show_table" (defArgs s__law_show_table) (defBody s__law_show_table) (defScope s__law_show_table) .none kV__law_show_table dc__law_show_table pm__law_show_table an__law_show_table cd__law_show_table ct__law_show_table), sl__law_show_table⟩)
    (c__law_show_table : PySem.W.codeIn K cd__law_show_table "_law_show_table" = true) (k__law_show_table : PySem.W.keepIn K (.ref f__law_show_table) = true)
    (a__law_other : PySem.W.nsIn K mainGlobals "_law_other" = some (some (.ref f__law_other)))
    (l__law_other : K.lookup f__law_other = some ⟨oc__law_other, od__law_other, .func (PySem.W.fnOf "_law_other" "_law_other" (defArgs s__law_other) (defBody s__law_other) (defScope s__law_other) .none kV__law_other dc__law_other pm__law_other an__law_other cd__law_other ct__law_other), sl__law_other⟩)
    (c__law_other : PySem.W.codeIn K cd__law_other "_law_other" = true) (k__law_other : PySem.W.keepIn K (.ref f__law_other) = true)
    (a__law_trim : PySem.W.nsIn K mainGlobals "_law_trim" = some (some (.ref f__law_trim)))
    (l__law_trim : K.lookup f__law_trim = some ⟨oc__law_trim, od__law_trim, .func (PySem.W.fnOf "_law_trim" "_law_trim" (defArgs s__law_trim) (defBody s__law_trim) (defScope s__law_trim) .none kV__law_trim dc__law_trim pm__law_trim an__law_trim cd__law_trim ct__law_trim), sl__law_trim⟩)
    (c__law_trim : PySem.W.codeIn K cd__law_trim "_law_trim" = true) (k__law_trim : PySem.W.keepIn K (.ref f__law_trim) = true)
    (a__law_drawn_poly : PySem.W.nsIn K mainGlobals "_law_drawn_poly" = some (some (.ref f__law_drawn_poly)))
    (l__law_drawn_poly : K.lookup f__law_drawn_poly = some ⟨oc__law_drawn_poly, od__law_drawn_poly, .func (PySem.W.fnOf "_law_drawn_poly" "_law_drawn_poly" (defArgs s__law_drawn_poly) (defBody s__law_drawn_poly) (defScope s__law_drawn_poly) .none kV__law_drawn_poly dc__law_drawn_poly pm__law_drawn_poly an__law_drawn_poly cd__law_drawn_poly ct__law_drawn_poly), sl__law_drawn_poly⟩)
    (c__law_drawn_poly : PySem.W.codeIn K cd__law_drawn_poly "_law_drawn_poly" = true) (k__law_drawn_poly : PySem.W.keepIn K (.ref f__law_drawn_poly) = true)
    (a__law_is_poly : PySem.W.nsIn K mainGlobals "_law_is_poly" = some (some (.ref f__law_is_poly)))
    (l__law_is_poly : K.lookup f__law_is_poly = some ⟨oc__law_is_poly, od__law_is_poly, .func (PySem.W.fnOf "_law_is_poly" "_law_is_poly" (defArgs s__law_is_poly) (defBody s__law_is_poly) (defScope s__law_is_poly) .none kV__law_is_poly dc__law_is_poly pm__law_is_poly an__law_is_poly cd__law_is_poly ct__law_is_poly), sl__law_is_poly⟩)
    (c__law_is_poly : PySem.W.codeIn K cd__law_is_poly "_law_is_poly" = true) (k__law_is_poly : PySem.W.keepIn K (.ref f__law_is_poly) = true)
    (a__law_is_table : PySem.W.nsIn K mainGlobals "_law_is_table" = some (some (.ref f__law_is_table)))
    (l__law_is_table : K.lookup f__law_is_table = some ⟨oc__law_is_table, od__law_is_table, .func (PySem.W.fnOf "_law_is_table" "_law_is_table" (defArgs s__law_is_table) (defBody s__law_is_table) (defScope s__law_is_table) .none kV__law_is_table dc__law_is_table pm__law_is_table an__law_is_table cd__law_is_table ct__law_is_table), sl__law_is_table⟩)
    (c__law_is_table : PySem.W.codeIn K cd__law_is_table "_law_is_table" = true) (k__law_is_table : PySem.W.keepIn K (.ref f__law_is_table) = true)
    (a__law_said : PySem.W.nsIn K mainGlobals "_law_said" = some (some (.ref f__law_said)))
    (l__law_said : K.lookup f__law_said = some ⟨oc__law_said, od__law_said, .func (PySem.W.fnOf "_law_said" "_law_said" (defArgs s__law_said) (defBody s__law_said) (defScope s__law_said) .none kV__law_said dc__law_said pm__law_said an__law_said cd__law_said ct__law_said), sl__law_said⟩)
    (c__law_said : PySem.W.codeIn K cd__law_said "_law_said" = true) (k__law_said : PySem.W.keepIn K (.ref f__law_said) = true)
    (a__law_far_number : PySem.W.nsIn K mainGlobals "_law_far_number" = some (some (.ref f__law_far_number)))
    (l__law_far_number : K.lookup f__law_far_number = some ⟨oc__law_far_number, od__law_far_number, .func (PySem.W.fnOf "_law_far_number" "_law_far_number" (defArgs s__law_far_number) (defBody s__law_far_number) (defScope s__law_far_number) .none kV__law_far_number dc__law_far_number pm__law_far_number an__law_far_number cd__law_far_number ct__law_far_number), sl__law_far_number⟩)
    (c__law_far_number : PySem.W.codeIn K cd__law_far_number "_law_far_number" = true) (k__law_far_number : PySem.W.keepIn K (.ref f__law_far_number) = true)
    (a__law_poly_right : PySem.W.nsIn K mainGlobals "_law_poly_right" = some (some (.ref f__law_poly_right)))
    (l__law_poly_right : K.lookup f__law_poly_right = some ⟨oc__law_poly_right, od__law_poly_right, .func (PySem.W.fnOf "_law_poly_right" "_law_poly_right" (defArgs s__law_poly_right) (defBody s__law_poly_right) (defScope s__law_poly_right) .none kV__law_poly_right dc__law_poly_right pm__law_poly_right an__law_poly_right cd__law_poly_right ct__law_poly_right), sl__law_poly_right⟩)
    (c__law_poly_right : PySem.W.codeIn K cd__law_poly_right "_law_poly_right" = true) (k__law_poly_right : PySem.W.keepIn K (.ref f__law_poly_right) = true)
    (a__law_table_right : PySem.W.nsIn K mainGlobals "_law_table_right" = some (some (.ref f__law_table_right)))
    (l__law_table_right : K.lookup f__law_table_right = some ⟨oc__law_table_right, od__law_table_right, .func (PySem.W.fnOf "_law_table_right" "_law_table_right" (defArgs s__law_table_right) (defBody s__law_table_right) (defScope s__law_table_right) .none kV__law_table_right dc__law_table_right pm__law_table_right an__law_table_right cd__law_table_right ct__law_table_right), sl__law_table_right⟩)
    (c__law_table_right : PySem.W.codeIn K cd__law_table_right "_law_table_right" = true) (k__law_table_right : PySem.W.keepIn K (.ref f__law_table_right) = true)
    (a_law : PySem.W.nsIn K mainGlobals "law" = some (some (.ref f_law)))
    (l_law : K.lookup f_law = some ⟨oc_law, od_law, .func (PySem.W.fnOf "law" "law" (defArgs s_law) (defBody s_law) (defScope s_law) .none kV_law dc_law pm_law an_law cd_law ct_law), sl_law⟩)
    (c_law : PySem.W.codeIn K cd_law "law" = true) (k_law : PySem.W.keepIn K (.ref f_law) = true)
    (z_ValueError : PySem.W.nsIn K mainGlobals "ValueError" = some none)
    (z_abs : PySem.W.nsIn K mainGlobals "abs" = some none)
    (z_all : PySem.W.nsIn K mainGlobals "all" = some none)
    (z_bool : PySem.W.nsIn K mainGlobals "bool" = some none)
    (z_int : PySem.W.nsIn K mainGlobals "int" = some none)
    (z_isinstance : PySem.W.nsIn K mainGlobals "isinstance" = some none)
    (z_len : PySem.W.nsIn K mainGlobals "len" = some none)
    (z_list : PySem.W.nsIn K mainGlobals "list" = some none)
    (z_max : PySem.W.nsIn K mainGlobals "max" = some none)
    (z_min : PySem.W.nsIn K mainGlobals "min" = some none)
    (z_range : PySem.W.nsIn K mainGlobals "range" = some none)
    (z_str : PySem.W.nsIn K mainGlobals "str" = some none)
    (z_tuple : PySem.W.nsIn K mainGlobals "tuple" = some none)
    (y_FIGURES : PySem.W.nsIn K mainGlobals "FIGURES" = some (some (.int 30 t_FIGURES)))
    (y_SHORT : PySem.W.nsIn K mainGlobals "SHORT" = some (some (.int 6000 t_SHORT)))
    (y_ROWS : PySem.W.nsIn K mainGlobals "ROWS" = some (some (.int 7 t_ROWS)))
    (y_NONE : PySem.W.nsIn K mainGlobals "NONE" = some (some (.str "-" t_NONE)))
    (y_NUMBERS : PySem.W.nsIn K mainGlobals "NUMBERS" = some (some (.int 15 t_NUMBERS)))
    (y_NOUGHT : PySem.W.nsIn K mainGlobals "NOUGHT" = some (some (.ref A_NOUGHT)))
    (u_NOUGHT : K.lookup A_NOUGHT = some ⟨.type "tuple", td_NOUGHT, .seq #[.int 0 tt0_NOUGHT, .int 1 tt1_NOUGHT] tn_NOUGHT, ts_NOUGHT⟩)
    (m_NoFraction : PySem.W.nsIn K mainGlobals "NoFraction" = some (some (.ref C_NoFraction)))
    (x_NoFraction : PySem.W.excIn K C_NoFraction [.type "ValueError", .type "Exception", .type "BaseException", .type "object"] "ValueError.__new__" = true)
    (e_NoFraction : ExcCls K C_NoFraction)
    (m_NoPolynomial : PySem.W.nsIn K mainGlobals "NoPolynomial" = some (some (.ref C_NoPolynomial)))
    (x_NoPolynomial : PySem.W.excIn K C_NoPolynomial [.type "ValueError", .type "Exception", .type "BaseException", .type "object"] "ValueError.__new__" = true)
    (e_NoPolynomial : ExcCls K C_NoPolynomial)
    (m_NoStretch : PySem.W.nsIn K mainGlobals "NoStretch" = some (some (.ref C_NoStretch)))
    (x_NoStretch : PySem.W.excIn K C_NoStretch [.type "ValueError", .type "Exception", .type "BaseException", .type "object"] "ValueError.__new__" = true)
    (e_NoStretch : ExcCls K C_NoStretch)
    (m_NoRow : PySem.W.nsIn K mainGlobals "NoRow" = some (some (.ref C_NoRow)))
    (x_NoRow : PySem.W.excIn K C_NoRow [.type "ValueError", .type "Exception", .type "BaseException", .type "object"] "ValueError.__new__" = true)
    (e_NoRow : ExcCls K C_NoRow)
    (m_NoPair : PySem.W.nsIn K mainGlobals "NoPair" = some (some (.ref C_NoPair)))
    (x_NoPair : PySem.W.excIn K C_NoPair [.type "ValueError", .type "Exception", .type "BaseException", .type "object"] "ValueError.__new__" = true)
    (e_NoPair : ExcCls K C_NoPair)
    (m_NoBack : PySem.W.nsIn K mainGlobals "NoBack" = some (some (.ref C_NoBack)))
    (x_NoBack : PySem.W.excIn K C_NoBack [.type "ValueError", .type "Exception", .type "BaseException", .type "object"] "ValueError.__new__" = true)
    (e_NoBack : ExcCls K C_NoBack)
    (m_NoForm : PySem.W.nsIn K mainGlobals "NoForm" = some (some (.ref C_NoForm)))
    (x_NoForm : PySem.W.excIn K C_NoForm [.type "ValueError", .type "Exception", .type "BaseException", .type "object"] "ValueError.__new__" = true)
    (e_NoForm : ExcCls K C_NoForm)
    (m_NoParts : PySem.W.nsIn K mainGlobals "NoParts" = some (some (.ref C_NoParts)))
    (x_NoParts : PySem.W.excIn K C_NoParts [.type "ValueError", .type "Exception", .type "BaseException", .type "object"] "ValueError.__new__" = true)
    (e_NoParts : ExcCls K C_NoParts)
    (m_NoDegree : PySem.W.nsIn K mainGlobals "NoDegree" = some (some (.ref C_NoDegree)))
    (x_NoDegree : PySem.W.excIn K C_NoDegree [.type "ValueError", .type "Exception", .type "BaseException", .type "object"] "ValueError.__new__" = true)
    (e_NoDegree : ExcCls K C_NoDegree)
    (m_NoSteps : PySem.W.nsIn K mainGlobals "NoSteps" = some (some (.ref C_NoSteps)))
    (x_NoSteps : PySem.W.excIn K C_NoSteps [.type "ValueError", .type "Exception", .type "BaseException", .type "object"] "ValueError.__new__" = true)
    (e_NoSteps : ExcCls K C_NoSteps)
    (m_NoBox : PySem.W.nsIn K mainGlobals "NoBox" = some (some (.ref C_NoBox)))
    (x_NoBox : PySem.W.excIn K C_NoBox [.type "ValueError", .type "Exception", .type "BaseException", .type "object"] "ValueError.__new__" = true)
    (e_NoBox : ExcCls K C_NoBox)
    (m_NoGain : PySem.W.nsIn K mainGlobals "NoGain" = some (some (.ref C_NoGain)))
    (x_NoGain : PySem.W.excIn K C_NoGain [.type "ValueError", .type "Exception", .type "BaseException", .type "object"] "ValueError.__new__" = true)
    (e_NoGain : ExcCls K C_NoGain)
    (m_NoText : PySem.W.nsIn K mainGlobals "NoText" = some (some (.ref C_NoText)))
    (x_NoText : PySem.W.excIn K C_NoText [.type "ValueError", .type "Exception", .type "BaseException", .type "object"] "ValueError.__new__" = true)
    (e_NoText : ExcCls K C_NoText)
    (m_NoLine : PySem.W.nsIn K mainGlobals "NoLine" = some (some (.ref C_NoLine)))
    (x_NoLine : PySem.W.excIn K C_NoLine [.type "ValueError", .type "Exception", .type "BaseException", .type "object"] "ValueError.__new__" = true)
    (e_NoLine : ExcCls K C_NoLine)
    (m_NoName : PySem.W.nsIn K mainGlobals "NoName" = some (some (.ref C_NoName)))
    (x_NoName : PySem.W.excIn K C_NoName [.type "ValueError", .type "Exception", .type "BaseException", .type "object"] "ValueError.__new__" = true)
    (e_NoName : ExcCls K C_NoName)
    (m_NoDeed : PySem.W.nsIn K mainGlobals "NoDeed" = some (some (.ref C_NoDeed)))
    (x_NoDeed : PySem.W.excIn K C_NoDeed [.type "ValueError", .type "Exception", .type "BaseException", .type "object"] "ValueError.__new__" = true)
    (e_NoDeed : ExcCls K C_NoDeed)
    (m_RestError : PySem.W.nsIn K mainGlobals "RestError" = some (some (.ref C_RestError)))
    (x_RestError : PySem.W.excIn K C_RestError [.type "ValueError", .type "Exception", .type "BaseException", .type "object"] "ValueError.__new__" = true)
    (e_RestError : ExcCls K C_RestError)
    (kt_NoText : Kits K (⟨C_NoFraction, C_NoPolynomial, C_NoStretch, C_NoRow, C_NoPair, C_NoBack, C_NoForm, C_NoParts, C_NoDegree, C_NoSteps, C_NoBox, C_NoGain, C_NoText, C_NoLine, C_NoName, C_NoDeed, C_RestError⟩ : CAd) C_NoText 12) :
    ∃ fd : FuncData, (∀ (s : Shared) (v : Value), BindsTo s fd ⟨[v], []⟩ [("_law_script", v)]) ∧ ∀ base : Heap, K.In base → base.Ns mainGlobals mg → FnOk l.prog w K mg base CX0 8 fa fd ["_law_script"] (spLaw K) := by
  have e := hfa.symm.trans (PySem.W.mg_of X G a_law)
  cases e
  have F_whole_in := fun_mk (st := s_whole_in) l_whole_in c_whole_in k_whole_in
  have b_whole_in := F_whole_in.binds (ps := ["text"]) fun _ _ _ _ _ _ us hl => match us, hl with | [_], _ => rfl
  have d_whole_in : Df K mg "whole_in" s_whole_in ["text"] f_whole_in := ⟨⟨_, F_whole_in, b_whole_in⟩, PySem.W.mg_of X G a_whole_in⟩
  have F_common_divisor := fun_mk (st := s_common_divisor) l_common_divisor c_common_divisor k_common_divisor
  have b_common_divisor := F_common_divisor.binds (ps := ["one", "other"]) fun _ _ _ _ _ _ us hl => match us, hl with | [_, _], _ => rfl
  have d_common_divisor : Df K mg "common_divisor" s_common_divisor ["one", "other"] f_common_divisor := ⟨⟨_, F_common_divisor, b_common_divisor⟩, PySem.W.mg_of X G a_common_divisor⟩
  have F_is_whole := fun_mk (st := s_is_whole) l_is_whole c_is_whole k_is_whole
  have b_is_whole := F_is_whole.binds (ps := ["thing"]) fun _ _ _ _ _ _ us hl => match us, hl with | [_], _ => rfl
  have d_is_whole : Df K mg "is_whole" s_is_whole ["thing"] f_is_whole := ⟨⟨_, F_is_whole, b_is_whole⟩, PySem.W.mg_of X G a_is_whole⟩
  have F_is_number := fun_mk (st := s_is_number) l_is_number c_is_number k_is_number
  have b_is_number := F_is_number.binds (ps := ["thing"]) fun _ _ _ _ _ _ us hl => match us, hl with | [_], _ => rfl
  have d_is_number : Df K mg "is_number" s_is_number ["thing"] f_is_number := ⟨⟨_, F_is_number, b_is_number⟩, PySem.W.mg_of X G a_is_number⟩
  have F__law_low := fun_mk (st := s__law_low) l__law_low c__law_low k__law_low
  have b__law_low := F__law_low.binds (ps := ["_law_top", "_law_bottom"]) fun _ _ _ _ _ _ us hl => match us, hl with | [_, _], _ => rfl
  have d__law_low : Df K mg "_law_low" s__law_low ["_law_top", "_law_bottom"] f__law_low := ⟨⟨_, F__law_low, b__law_low⟩, PySem.W.mg_of X G a__law_low⟩
  have F__law_urn := fun_mk (st := s__law_urn) l__law_urn c__law_urn k__law_urn
  have b__law_urn := F__law_urn.binds (ps := ["_law_script", "_law_at"]) fun _ _ _ _ _ _ us hl => match us, hl with | [_, _], _ => rfl
  have d__law_urn : Df K mg "_law_urn" s__law_urn ["_law_script", "_law_at"] f__law_urn := ⟨⟨_, F__law_urn, b__law_urn⟩, PySem.W.mg_of X G a__law_urn⟩
  have F__law_draw := fun_mk (st := s__law_draw) l__law_draw c__law_draw k__law_draw
  have b__law_draw := F__law_draw.binds (ps := ["_law_urn_here", "_law_many"]) fun _ _ _ _ _ _ us hl => match us, hl with | [_, _], _ => rfl
  have d__law_draw : Df K mg "_law_draw" s__law_draw ["_law_urn_here", "_law_many"] f__law_draw := ⟨⟨_, F__law_draw, b__law_draw⟩, PySem.W.mg_of X G a__law_draw⟩
  have F__law_kind := fun_mk (st := s__law_kind) l__law_kind c__law_kind k__law_kind
  have b__law_kind := F__law_kind.binds (ps := ["_law_urn_here"]) fun _ _ _ _ _ _ us hl => match us, hl with | [_], _ => rfl
  have d__law_kind : Df K mg "_law_kind" s__law_kind ["_law_urn_here"] f__law_kind := ⟨⟨_, F__law_kind, b__law_kind⟩, PySem.W.mg_of X G a__law_kind⟩
  have F__law_number := fun_mk (st := s__law_number) l__law_number c__law_number k__law_number
  have b__law_number := F__law_number.binds (ps := ["_law_urn_here", "_law_kind_here"]) fun _ _ _ _ _ _ us hl => match us, hl with | [_, _], _ => rfl
  have d__law_number : Df K mg "_law_number" s__law_number ["_law_urn_here", "_law_kind_here"] f__law_number := ⟨⟨_, F__law_number, b__law_number⟩, PySem.W.mg_of X G a__law_number⟩
  have F__law_whole := fun_mk (st := s__law_whole) l__law_whole c__law_whole k__law_whole
  have b__law_whole := F__law_whole.binds (ps := ["_law_thing"]) fun _ _ _ _ _ _ us hl => match us, hl with | [_], _ => rfl
  have d__law_whole : Df K mg "_law_whole" s__law_whole ["_law_thing"] f__law_whole := ⟨⟨_, F__law_whole, b__law_whole⟩, PySem.W.mg_of X G a__law_whole⟩
  have F__law_is_number := fun_mk (st := s__law_is_number) l__law_is_number c__law_is_number k__law_is_number
  have b__law_is_number := F__law_is_number.binds (ps := ["_law_thing"]) fun _ _ _ _ _ _ us hl => match us, hl with | [_], _ => rfl
  have d__law_is_number : Df K mg "_law_is_number" s__law_is_number ["_law_thing"] f__law_is_number := ⟨⟨_, F__law_is_number, b__law_is_number⟩, PySem.W.mg_of X G a__law_is_number⟩
  have F__law_which := fun_mk (st := s__law_which) l__law_which c__law_which k__law_which
  have b__law_which := F__law_which.binds (ps := ["_law_e"]) fun _ _ _ _ _ _ us hl => match us, hl with | [_], _ => rfl
  have d__law_which : Df K mg "_law_which" s__law_which ["_law_e"] f__law_which := ⟨⟨_, F__law_which, b__law_which⟩, PySem.W.mg_of X G a__law_which⟩
  have F_number_in := fun_mk (st := s_number_in) l_number_in c_number_in k_number_in
  have b_number_in := F_number_in.binds (ps := ["text"]) fun _ _ _ _ _ _ us hl => match us, hl with | [_], _ => rfl
  have d_number_in : Df K mg "number_in" s_number_in ["text"] f_number_in := ⟨⟨_, F_number_in, b_number_in⟩, PySem.W.mg_of X G a_number_in⟩
  have F_check_text := fun_mk (st := s_check_text) l_check_text c_check_text k_check_text
  have b_check_text := F_check_text.binds (ps := ["thing"]) fun _ _ _ _ _ _ us hl => match us, hl with | [_], _ => rfl
  have d_check_text : Df K mg "check_text" s_check_text ["thing"] f_check_text := ⟨⟨_, F_check_text, b_check_text⟩, PySem.W.mg_of X G a_check_text⟩
  have F_numbers_in := fun_mk (st := s_numbers_in) l_numbers_in c_numbers_in k_numbers_in
  have b_numbers_in := F_numbers_in.binds (ps := ["text"]) fun _ _ _ _ _ _ us hl => match us, hl with | [_], _ => rfl
  have d_numbers_in : Df K mg "numbers_in" s_numbers_in ["text"] f_numbers_in := ⟨⟨_, F_numbers_in, b_numbers_in⟩, PySem.W.mg_of X G a_numbers_in⟩
  have F_is_square := fun_mk (st := s_is_square) l_is_square c_is_square k_is_square
  have b_is_square := F_is_square.binds (ps := ["rows"]) fun _ _ _ _ _ _ us hl => match us, hl with | [_], _ => rfl
  have d_is_square : Df K mg "is_square" s_is_square ["rows"] f_is_square := ⟨⟨_, F_is_square, b_is_square⟩, PySem.W.mg_of X G a_is_square⟩
  have F_read_poly := fun_mk (st := s_read_poly) l_read_poly c_read_poly k_read_poly
  have b_read_poly := F_read_poly.binds (ps := ["text"]) fun _ _ _ _ _ _ us hl => match us, hl with | [_], _ => rfl
  have d_read_poly : Df K mg "read_poly" s_read_poly ["text"] f_read_poly := ⟨⟨_, F_read_poly, b_read_poly⟩, PySem.W.mg_of X G a_read_poly⟩
  have F_read_table := fun_mk (st := s_read_table) l_read_table c_read_table k_read_table
  have b_read_table := F_read_table.binds (ps := ["text"]) fun _ _ _ _ _ _ us hl => match us, hl with | [_], _ => rfl
  have d_read_table : Df K mg "read_table" s_read_table ["text"] f_read_table := ⟨⟨_, F_read_table, b_read_table⟩, PySem.W.mg_of X G a_read_table⟩
  have F_show_whole := fun_mk (st := s_show_whole) l_show_whole c_show_whole k_show_whole
  have b_show_whole := F_show_whole.binds (ps := ["whole"]) fun _ _ _ _ _ _ us hl => match us, hl with | [_], _ => rfl
  have d_show_whole : Df K mg "show_whole" s_show_whole ["whole"] f_show_whole := ⟨⟨_, F_show_whole, b_show_whole⟩, PySem.W.mg_of X G a_show_whole⟩
  have F_show_number := fun_mk (st := s_show_number) l_show_number c_show_number k_show_number
  have b_show_number := F_show_number.binds (ps := ["number"]) fun _ _ _ _ _ _ us hl => match us, hl with | [_], _ => rfl
  have d_show_number : Df K mg "show_number" s_show_number ["number"] f_show_number := ⟨⟨_, F_show_number, b_show_number⟩, PySem.W.mg_of X G a_show_number⟩
  have F__law_show_number := fun_mk (st := s__law_show_number) l__law_show_number c__law_show_number k__law_show_number
  have b__law_show_number := F__law_show_number.binds (ps := ["_law_number_here"]) fun _ _ _ _ _ _ us hl => match us, hl with | [_], _ => rfl
  have d__law_show_number : Df K mg "_law_show_number" s__law_show_number ["_law_number_here"] f__law_show_number := ⟨⟨_, F__law_show_number, b__law_show_number⟩, PySem.W.mg_of X G a__law_show_number⟩
  have F_show_numbers := fun_mk (st := s_show_numbers) l_show_numbers c_show_numbers k_show_numbers
  have b_show_numbers := F_show_numbers.binds (ps := ["numbers"]) fun _ _ _ _ _ _ us hl => match us, hl with | [_], _ => rfl
  have d_show_numbers : Df K mg "show_numbers" s_show_numbers ["numbers"] f_show_numbers := ⟨⟨_, F_show_numbers, b_show_numbers⟩, PySem.W.mg_of X G a_show_numbers⟩
  have F_show_poly := fun_mk (st := s_show_poly) l_show_poly c_show_poly k_show_poly
  have b_show_poly := F_show_poly.binds (ps := ["p"]) fun _ _ _ _ _ _ us hl => match us, hl with | [_], _ => rfl
  have d_show_poly : Df K mg "show_poly" s_show_poly ["p"] f_show_poly := ⟨⟨_, F_show_poly, b_show_poly⟩, PySem.W.mg_of X G a_show_poly⟩
  have F_show_table := fun_mk (st := s_show_table) l_show_table c_show_table k_show_table
  have b_show_table := F_show_table.binds (ps := ["table"]) fun _ _ _ _ _ _ us hl => match us, hl with | [_], _ => rfl
  have d_show_table : Df K mg "show_table" s_show_table ["table"] f_show_table := ⟨⟨_, F_show_table, b_show_table⟩, PySem.W.mg_of X G a_show_table⟩
  have F__law_show_poly := fun_mk (st := s__law_show_poly) l__law_show_poly c__law_show_poly k__law_show_poly
  have b__law_show_poly := F__law_show_poly.binds (ps := ["_law_p"]) fun _ _ _ _ _ _ us hl => match us, hl with | [_], _ => rfl
  have d__law_show_poly : Df K mg "_law_show_poly" s__law_show_poly ["_law_p"] f__law_show_poly := ⟨⟨_, F__law_show_poly, b__law_show_poly⟩, PySem.W.mg_of X G a__law_show_poly⟩
  have F__law_show_table := fun_mk (st := s__law_show_table) l__law_show_table c__law_show_table k__law_show_table
  have b__law_show_table := F__law_show_table.binds (ps := ["_law_table"]) fun _ _ _ _ _ _ us hl => match us, hl with | [_], _ => rfl
  have d__law_show_table : Df K mg "_law_show_table" s__law_show_table ["_law_table"] f__law_show_table := ⟨⟨_, F__law_show_table, b__law_show_table⟩, PySem.W.mg_of X G a__law_show_table⟩
  have F__law_other := fun_mk (st := s__law_other) l__law_other c__law_other k__law_other
  have b__law_other := F__law_other.binds (ps := ["_law_urn_here", "_law_kind_here"]) fun _ _ _ _ _ _ us hl => match us, hl with | [_, _], _ => rfl
  have d__law_other : Df K mg "_law_other" s__law_other ["_law_urn_here", "_law_kind_here"] f__law_other := ⟨⟨_, F__law_other, b__law_other⟩, PySem.W.mg_of X G a__law_other⟩
  have F__law_trim := fun_mk (st := s__law_trim) l__law_trim c__law_trim k__law_trim
  have b__law_trim := F__law_trim.binds (ps := ["_law_numbers"]) fun _ _ _ _ _ _ us hl => match us, hl with | [_], _ => rfl
  have d__law_trim : Df K mg "_law_trim" s__law_trim ["_law_numbers"] f__law_trim := ⟨⟨_, F__law_trim, b__law_trim⟩, PySem.W.mg_of X G a__law_trim⟩
  have F__law_drawn_poly := fun_mk (st := s__law_drawn_poly) l__law_drawn_poly c__law_drawn_poly k__law_drawn_poly
  have b__law_drawn_poly := F__law_drawn_poly.binds (ps := ["_law_urn_here", "_law_kind_here", "_law_most"]) fun _ _ _ _ _ _ us hl => match us, hl with | [_, _, _], _ => rfl
  have d__law_drawn_poly : Df K mg "_law_drawn_poly" s__law_drawn_poly ["_law_urn_here", "_law_kind_here", "_law_most"] f__law_drawn_poly := ⟨⟨_, F__law_drawn_poly, b__law_drawn_poly⟩, PySem.W.mg_of X G a__law_drawn_poly⟩
  have F__law_is_poly := fun_mk (st := s__law_is_poly) l__law_is_poly c__law_is_poly k__law_is_poly
  have b__law_is_poly := F__law_is_poly.binds (ps := ["_law_thing"]) fun _ _ _ _ _ _ us hl => match us, hl with | [_], _ => rfl
  have d__law_is_poly : Df K mg "_law_is_poly" s__law_is_poly ["_law_thing"] f__law_is_poly := ⟨⟨_, F__law_is_poly, b__law_is_poly⟩, PySem.W.mg_of X G a__law_is_poly⟩
  have F__law_is_table := fun_mk (st := s__law_is_table) l__law_is_table c__law_is_table k__law_is_table
  have b__law_is_table := F__law_is_table.binds (ps := ["_law_thing", "_law_n"]) fun _ _ _ _ _ _ us hl => match us, hl with | [_, _], _ => rfl
  have d__law_is_table : Df K mg "_law_is_table" s__law_is_table ["_law_thing", "_law_n"] f__law_is_table := ⟨⟨_, F__law_is_table, b__law_is_table⟩, PySem.W.mg_of X G a__law_is_table⟩
  have F__law_said := fun_mk (st := s__law_said) l__law_said c__law_said k__law_said
  have b__law_said := F__law_said.binds (ps := ["_law_deed", "_law_thing"]) fun _ _ _ _ _ _ us hl => match us, hl with | [_, _], _ => rfl
  have d__law_said : Df K mg "_law_said" s__law_said ["_law_deed", "_law_thing"] f__law_said := ⟨⟨_, F__law_said, b__law_said⟩, PySem.W.mg_of X G a__law_said⟩
  have F__law_far_number := fun_mk (st := s__law_far_number) l__law_far_number c__law_far_number k__law_far_number
  have b__law_far_number := F__law_far_number.binds (ps := ["_law_urn_here"]) fun _ _ _ _ _ _ us hl => match us, hl with | [_], _ => rfl
  have d__law_far_number : Df K mg "_law_far_number" s__law_far_number ["_law_urn_here"] f__law_far_number := ⟨⟨_, F__law_far_number, b__law_far_number⟩, PySem.W.mg_of X G a__law_far_number⟩
  have F__law_poly_right := fun_mk (st := s__law_poly_right) l__law_poly_right c__law_poly_right k__law_poly_right
  have b__law_poly_right := F__law_poly_right.binds (ps := ["_law_p"]) fun _ _ _ _ _ _ us hl => match us, hl with | [_], _ => rfl
  have d__law_poly_right : Df K mg "_law_poly_right" s__law_poly_right ["_law_p"] f__law_poly_right := ⟨⟨_, F__law_poly_right, b__law_poly_right⟩, PySem.W.mg_of X G a__law_poly_right⟩
  have F__law_table_right := fun_mk (st := s__law_table_right) l__law_table_right c__law_table_right k__law_table_right
  have b__law_table_right := F__law_table_right.binds (ps := ["_law_table"]) fun _ _ _ _ _ _ us hl => match us, hl with | [_], _ => rfl
  have d__law_table_right : Df K mg "_law_table_right" s__law_table_right ["_law_table"] f__law_table_right := ⟨⟨_, F__law_table_right, b__law_table_right⟩, PySem.W.mg_of X G a__law_table_right⟩
  have F_law := fun_mk (st := s_law) l_law c_law k_law
  have b_law := F_law.binds (ps := ["_law_script"]) fun _ _ _ _ _ _ us hl => match us, hl with | [_], _ => rfl
  have d_law : Df K mg "law" s_law ["_law_script"] fa := ⟨⟨_, F_law, b_law⟩, PySem.W.mg_of X G a_law⟩
  have n_ValueError := PySem.W.mg_none_of X G z_ValueError
  have n_abs := PySem.W.mg_none_of X G z_abs
  have n_all := PySem.W.mg_none_of X G z_all
  have n_bool := PySem.W.mg_none_of X G z_bool
  have n_int := PySem.W.mg_none_of X G z_int
  have n_isinstance := PySem.W.mg_none_of X G z_isinstance
  have n_len := PySem.W.mg_none_of X G z_len
  have n_list := PySem.W.mg_none_of X G z_list
  have n_max := PySem.W.mg_none_of X G z_max
  have n_min := PySem.W.mg_none_of X G z_min
  have n_range := PySem.W.mg_none_of X G z_range
  have n_str := PySem.W.mg_none_of X G z_str
  have n_tuple := PySem.W.mg_none_of X G z_tuple
  have c_FIGURES := PySem.W.mg_of X G y_FIGURES
  have c_SHORT := PySem.W.mg_of X G y_SHORT
  have c_ROWS := PySem.W.mg_of X G y_ROWS
  have c_NONE := PySem.W.mg_of X G y_NONE
  have c_NUMBERS := PySem.W.mg_of X G y_NUMBERS
  have c_NOUGHT := PySem.W.mg_of X G y_NOUGHT
  have t_NOUGHT : ∀ H : Hp, SqT K H A_NOUGHT [.int 0, .int 1] := fun H => .inr ⟨_, _, _, u_NOUGHT, rfl, rfl, (show 2 ≤ sizeLine by decide), (.cons ⟨_, rfl⟩ (.cons ⟨_, rfl⟩ .nil))⟩
  have X_NoFraction : ExT K mg "NoFraction" C_NoFraction := ⟨PySem.W.mg_of X G m_NoFraction, ⟨x_NoFraction⟩, e_NoFraction⟩
  have X_NoPolynomial : ExT K mg "NoPolynomial" C_NoPolynomial := ⟨PySem.W.mg_of X G m_NoPolynomial, ⟨x_NoPolynomial⟩, e_NoPolynomial⟩
  have X_NoStretch : ExT K mg "NoStretch" C_NoStretch := ⟨PySem.W.mg_of X G m_NoStretch, ⟨x_NoStretch⟩, e_NoStretch⟩
  have X_NoRow : ExT K mg "NoRow" C_NoRow := ⟨PySem.W.mg_of X G m_NoRow, ⟨x_NoRow⟩, e_NoRow⟩
  have X_NoPair : ExT K mg "NoPair" C_NoPair := ⟨PySem.W.mg_of X G m_NoPair, ⟨x_NoPair⟩, e_NoPair⟩
  have X_NoBack : ExT K mg "NoBack" C_NoBack := ⟨PySem.W.mg_of X G m_NoBack, ⟨x_NoBack⟩, e_NoBack⟩
  have X_NoForm : ExT K mg "NoForm" C_NoForm := ⟨PySem.W.mg_of X G m_NoForm, ⟨x_NoForm⟩, e_NoForm⟩
  have X_NoParts : ExT K mg "NoParts" C_NoParts := ⟨PySem.W.mg_of X G m_NoParts, ⟨x_NoParts⟩, e_NoParts⟩
  have X_NoDegree : ExT K mg "NoDegree" C_NoDegree := ⟨PySem.W.mg_of X G m_NoDegree, ⟨x_NoDegree⟩, e_NoDegree⟩
  have X_NoSteps : ExT K mg "NoSteps" C_NoSteps := ⟨PySem.W.mg_of X G m_NoSteps, ⟨x_NoSteps⟩, e_NoSteps⟩
  have X_NoBox : ExT K mg "NoBox" C_NoBox := ⟨PySem.W.mg_of X G m_NoBox, ⟨x_NoBox⟩, e_NoBox⟩
  have X_NoGain : ExT K mg "NoGain" C_NoGain := ⟨PySem.W.mg_of X G m_NoGain, ⟨x_NoGain⟩, e_NoGain⟩
  have X_NoText : ExT K mg "NoText" C_NoText := ⟨PySem.W.mg_of X G m_NoText, ⟨x_NoText⟩, e_NoText⟩
  have X_NoLine : ExT K mg "NoLine" C_NoLine := ⟨PySem.W.mg_of X G m_NoLine, ⟨x_NoLine⟩, e_NoLine⟩
  have X_NoName : ExT K mg "NoName" C_NoName := ⟨PySem.W.mg_of X G m_NoName, ⟨x_NoName⟩, e_NoName⟩
  have X_NoDeed : ExT K mg "NoDeed" C_NoDeed := ⟨PySem.W.mg_of X G m_NoDeed, ⟨x_NoDeed⟩, e_NoDeed⟩
  have X_RestError : ExT K mg "RestError" C_RestError := ⟨PySem.W.mg_of X G m_RestError, ⟨x_RestError⟩, e_RestError⟩
  have XX : XTx K mg (⟨C_NoFraction, C_NoPolynomial, C_NoStretch, C_NoRow, C_NoPair, C_NoBack, C_NoForm, C_NoParts, C_NoDegree, C_NoSteps, C_NoBox, C_NoGain, C_NoText, C_NoLine, C_NoName, C_NoDeed, C_RestError⟩ : CAd) := ⟨X_NoFraction, X_NoPolynomial, X_NoStretch, X_NoRow, X_NoPair, X_NoBack, X_NoForm, X_NoParts, X_NoDegree, X_NoSteps, X_NoBox, X_NoGain, X_NoText, X_NoLine, X_NoName, X_NoDeed⟩
  refine ⟨PySem.W.fnOf "law" "law" (defArgs s_law) (defBody s_law) (defScope s_law) .none kV_law dc_law pm_law an_law cd_law ct_law, fun s v => .of_eq rfl, fun base _ _ => ?_⟩
  have G_whole_in := ok_whole_in (P := l.prog) (w := w) (base := base) d_whole_in ⟨_, c_FIGURES⟩ n_len n_all n_int
  have G_common_divisor := ok_common_divisor (P := l.prog) (w := w) (base := base) d_common_divisor ⟨_, c_SHORT⟩ n_abs
  have G_is_whole := ok_is_whole (P := l.prog) (w := w) (base := base) d_is_whole n_isinstance n_int n_bool
  have G_is_number := ok_is_number (P := l.prog) (w := w) (base := base) d_is_number G_is_whole G_common_divisor n_isinstance n_tuple n_len
  have G__law_low := ok__law_low (P := l.prog) (w := w) (base := base) d__law_low n_abs
  have G__law_urn := ok__law_urn (P := l.prog) (w := w) (base := base) d__law_urn n_len n_abs
  have G__law_draw := ok__law_draw (P := l.prog) (w := w) (base := base) d__law_draw
  have G__law_kind := ok__law_kind (P := l.prog) (w := w) (base := base) d__law_kind G__law_draw
  have G__law_number := ok__law_number (P := l.prog) (w := w) (base := base) d__law_number G__law_draw G__law_low n_int
  have G__law_whole := ok__law_whole (P := l.prog) (w := w) (base := base) d__law_whole n_isinstance n_int n_bool
  have G__law_is_number := ok__law_is_number (P := l.prog) (w := w) (base := base) d__law_is_number G__law_whole G__law_low n_isinstance n_tuple n_len
  have G__law_which := ok__law_which (P := l.prog) (w := w) (base := base) d__law_which XX n_isinstance n_ValueError
  have G_number_in := ok_number_in (P := l.prog) (w := w) (base := base) d_number_in G_whole_in G_is_number
  have G_check_text := ok_check_text (P := l.prog) (w := w) (base := base) d_check_text X_NoText n_isinstance n_str
  have G_numbers_in := ok_numbers_in (P := l.prog) (w := w) (base := base) d_numbers_in G_number_in
  have G_is_square := ok_is_square (P := l.prog) (w := w) (base := base) d_is_square ⟨_, c_ROWS⟩ n_len n_all
  have G_read_poly := ok_read_poly (P := l.prog) (w := w) (base := base) d_read_poly G_check_text G_numbers_in X_NoText ⟨_, c_NONE⟩ ⟨_, c_NUMBERS⟩ n_len c_NOUGHT t_NOUGHT
  have G_read_table := ok_read_table (P := l.prog) (w := w) (base := base) d_read_table G_check_text G_numbers_in G_is_square X_NoText
  have GD_show_whole := okD_show_whole (P := l.prog) (w := w) (base := base) d_show_whole n_str
  have G_show_whole := ok_show_whole (P := l.prog) (w := w) (base := base) d_show_whole GD_show_whole n_str
  have G_show_number := ok_show_number (P := l.prog) (w := w) (base := base) d_show_number G_show_whole
  have G__law_show_number := ok__law_show_number (P := l.prog) (w := w) (base := base) d__law_show_number n_str n_int
  have G_show_numbers := ok_show_numbers (P := l.prog) (w := w) (base := base) d_show_numbers G_show_number
  have G_show_poly := ok_show_poly (P := l.prog) (w := w) (base := base) d_show_poly G_show_numbers ⟨_, c_NONE⟩
  have G_show_table := ok_show_table (P := l.prog) (w := w) (base := base) d_show_table G_show_numbers
  have G__law_show_poly := ok__law_show_poly (P := l.prog) (w := w) (base := base) d__law_show_poly G__law_show_number
  have G__law_show_table := ok__law_show_table (P := l.prog) (w := w) (base := base) d__law_show_table G__law_show_number
  have G__law_other := ok__law_other (P := l.prog) (w := w) (base := base) d__law_other G__law_draw G__law_number
  have G__law_trim := ok__law_trim (P := l.prog) (w := w) (base := base) d__law_trim n_list
  have G__law_drawn_poly := ok__law_drawn_poly (P := l.prog) (w := w) (base := base) d__law_drawn_poly G__law_draw G__law_number G__law_other n_range
  have G__law_is_poly := ok__law_is_poly (P := l.prog) (w := w) (base := base) d__law_is_poly G__law_is_number G__law_trim n_isinstance n_list n_all
  have G__law_is_table := ok__law_is_table (P := l.prog) (w := w) (base := base) d__law_is_table G__law_is_number n_isinstance n_list n_len n_all
  have G__law_said := ok__law_said (P := l.prog) (w := w) (base := base) d__law_said G__law_which X_RestError kt_NoText
  have G__law_far_number := ok__law_far_number (P := l.prog) (w := w) (base := base) d__law_far_number G__law_draw G__law_low n_range n_max
  have G__law_poly_right := ok__law_poly_right (P := l.prog) (w := w) (base := base) d__law_poly_right G__law_show_poly G_show_poly G__law_said G_read_poly G__law_is_poly n_list n_range n_isinstance n_str
  have G__law_table_right := ok__law_table_right (P := l.prog) (w := w) (base := base) d__law_table_right G__law_show_table G_show_table G__law_said G_read_table G__law_is_table n_list n_range n_isinstance n_str n_len
  exact ok_law (P := l.prog) (w := w) (base := base) F_law G__law_urn G__law_kind G__law_draw G__law_drawn_poly G__law_number G__law_far_number G__law_poly_right G__law_table_right G__law_said G_read_poly G_read_table n_range n_max n_min n_len
end
theorem walk {l : PySem.W.OpenLaw} {q : Program} {loose : List Str} {XP : (Str → Option Value) → Heap → Prop} {YP : World → Heap → Prop} {d : DefRec} {K : Params → PySem.W.Frag} (hn : l.most = some 63) (hdf : d.params.defaults = [])
    (hY : ∀ (w : World) (h : Heap), YP w h → (K w.params).In h)
    (F : ∀ (w : World) (mg : Str → Option Value) (fa : Addr) (h : Heap), (K w.params).In h → h.Ns mainGlobals mg → mg d.name = some (.ref fa) →
      ∃ fd : FuncData, (∀ (s : Shared) (u : Value), BindsTo s fd ⟨[u], []⟩ [("_law_script", u)]) ∧ ∀ base : Heap, (K w.params).In base → base.Ns mainGlobals mg → FnOk l.prog w (K w.params) mg base CX0 8 fa fd ["_law_script"] (spLaw (K w.params))) :
    PySem.W.WalkO q loose XP YP l.row.toRowW d [] (fun f vs => PySem.call f vs) :=
  L2.walk_of (n := 63) (k := 8) (x := "_law_script") (CX := fun _ => CX0) (sp := fun w => spLaw (K w.params)) hn (by decide) hdf ⟨rfl, by decide, by decide⟩ hY F (fun _ _ a ns hl _ hS => ⟨a, ns, rfl, hS, hl, fun _ => rfl⟩) fun _ _ _ _ _ z => z
end R
open PySem PySem.W PyProof.Rows
set_option maxRecDepth 100000 in
set_option maxHeartbeats 0 in
theorem PySem.Challenge.cw_restward_k64_polynomials_and_tables_writ_holds : PySem.Challenge.rw_restward_k64_polynomials_and_tables_writ.Holds := by
  w_on; o_law; k_head; (case hw => w_witness2)
  k_fill
  refine R.walk (l := PySem.Challenge.rw_restward_k64_polynomials_and_tables_writ) rfl rfl (fun w h Y => PySem.W.kIn_of Y) ?F
  case F =>
    intro w mg fa h KX G hmg
    refine' R.all_mk KX G hmg ?a_whole_in ?l_whole_in ?c_whole_in ?k_whole_in ?a_common_divisor ?l_common_divisor ?c_common_divisor ?k_common_divisor ?a_is_whole ?l_is_whole ?c_is_whole ?k_is_whole ?a_is_number ?l_is_number ?c_is_number ?k_is_number ?a__law_low ?l__law_low ?c__law_low ?k__law_low ?a__law_urn ?l__law_urn ?c__law_urn ?k__law_urn ?a__law_draw ?l__law_draw ?c__law_draw ?k__law_draw ?a__law_kind ?l__law_kind ?c__law_kind ?k__law_kind ?a__law_number ?l__law_number ?c__law_number ?k__law_number ?a__law_whole ?l__law_whole ?c__law_whole ?k__law_whole ?a__law_is_number ?l__law_is_number ?c__law_is_number ?k__law_is_number ?a__law_which ?l__law_which ?c__law_which ?k__law_which ?a_number_in ?l_number_in ?c_number_in ?k_number_in ?a_check_text ?l_check_text ?c_check_text ?k_check_text ?a_numbers_in ?l_numbers_in ?c_numbers_in ?k_numbers_in ?a_is_square ?l_is_square ?c_is_square ?k_is_square ?a_read_poly ?l_read_poly ?c_read_poly ?k_read_poly ?a_read_table ?l_read_table ?c_read_table ?k_read_table ?a_show_whole ?l_show_whole ?c_show_whole ?k_show_whole ?a_show_number ?l_show_number ?c_show_number ?k_show_number ?a__law_show_number ?l__law_show_number ?c__law_show_number ?k__law_show_number ?a_show_numbers ?l_show_numbers ?c_show_numbers ?k_show_numbers ?a_show_poly ?l_show_poly ?c_show_poly ?k_show_poly ?a_show_table ?l_show_table ?c_show_table ?k_show_table ?a__law_show_poly ?l__law_show_poly ?c__law_show_poly ?k__law_show_poly ?a__law_show_table ?l__law_show_table ?c__law_show_table ?k__law_show_table ?a__law_other ?l__law_other ?c__law_other ?k__law_other ?a__law_trim ?l__law_trim ?c__law_trim ?k__law_trim ?a__law_drawn_poly ?l__law_drawn_poly ?c__law_drawn_poly ?k__law_drawn_poly ?a__law_is_poly ?l__law_is_poly ?c__law_is_poly ?k__law_is_poly ?a__law_is_table ?l__law_is_table ?c__law_is_table ?k__law_is_table ?a__law_said ?l__law_said ?c__law_said ?k__law_said ?a__law_far_number ?l__law_far_number ?c__law_far_number ?k__law_far_number ?a__law_poly_right ?l__law_poly_right ?c__law_poly_right ?k__law_poly_right ?a__law_table_right ?l__law_table_right ?c__law_table_right ?k__law_table_right ?a_law ?l_law ?c_law ?k_law ?z_ValueError ?z_abs ?z_all ?z_bool ?z_int ?z_isinstance ?z_len ?z_list ?z_max ?z_min ?z_range ?z_str ?z_tuple ?y_FIGURES ?y_SHORT ?y_ROWS ?y_NONE ?y_NUMBERS ?y_NOUGHT ?u_NOUGHT ?m_NoFraction ?x_NoFraction ?e_NoFraction ?m_NoPolynomial ?x_NoPolynomial ?e_NoPolynomial ?m_NoStretch ?x_NoStretch ?e_NoStretch ?m_NoRow ?x_NoRow ?e_NoRow ?m_NoPair ?x_NoPair ?e_NoPair ?m_NoBack ?x_NoBack ?e_NoBack ?m_NoForm ?x_NoForm ?e_NoForm ?m_NoParts ?x_NoParts ?e_NoParts ?m_NoDegree ?x_NoDegree ?e_NoDegree ?m_NoSteps ?x_NoSteps ?e_NoSteps ?m_NoBox ?x_NoBox ?e_NoBox ?m_NoGain ?x_NoGain ?e_NoGain ?m_NoText ?x_NoText ?e_NoText ?m_NoLine ?x_NoLine ?e_NoLine ?m_NoName ?x_NoName ?e_NoName ?m_NoDeed ?x_NoDeed ?e_NoDeed ?m_RestError ?x_RestError ?e_RestError ?kt_NoText
    (case a_whole_in => k_is); (case l_whole_in => k_is); (case c_whole_in => k_is); (case k_whole_in => k_is)
    (case a_common_divisor => k_is); (case l_common_divisor => k_is); (case c_common_divisor => k_is); (case k_common_divisor => k_is)
    (case a_is_whole => k_is); (case l_is_whole => k_is); (case c_is_whole => k_is); (case k_is_whole => k_is)
    (case a_is_number => k_is); (case l_is_number => k_is); (case c_is_number => k_is); (case k_is_number => k_is)
    (case a__law_low => k_is); (case l__law_low => k_is); (case c__law_low => k_is); (case k__law_low => k_is)
    (case a__law_urn => k_is); (case l__law_urn => k_is); (case c__law_urn => k_is); (case k__law_urn => k_is)
    (case a__law_draw => k_is); (case l__law_draw => k_is); (case c__law_draw => k_is); (case k__law_draw => k_is)
    (case a__law_kind => k_is); (case l__law_kind => k_is); (case c__law_kind => k_is); (case k__law_kind => k_is)
    (case a__law_number => k_is); (case l__law_number => k_is); (case c__law_number => k_is); (case k__law_number => k_is)
    (case a__law_whole => k_is); (case l__law_whole => k_is); (case c__law_whole => k_is); (case k__law_whole => k_is)
    (case a__law_is_number => k_is); (case l__law_is_number => k_is); (case c__law_is_number => k_is); (case k__law_is_number => k_is)
    (case a__law_which => k_is); (case l__law_which => k_is); (case c__law_which => k_is); (case k__law_which => k_is)
    (case a_number_in => k_is); (case l_number_in => k_is); (case c_number_in => k_is); (case k_number_in => k_is)
    (case a_check_text => k_is); (case l_check_text => k_is); (case c_check_text => k_is); (case k_check_text => k_is)
    (case a_numbers_in => k_is); (case l_numbers_in => k_is); (case c_numbers_in => k_is); (case k_numbers_in => k_is)
    (case a_is_square => k_is); (case l_is_square => k_is); (case c_is_square => k_is); (case k_is_square => k_is)
    (case a_read_poly => k_is); (case l_read_poly => k_is); (case c_read_poly => k_is); (case k_read_poly => k_is)
    (case a_read_table => k_is); (case l_read_table => k_is); (case c_read_table => k_is); (case k_read_table => k_is)
    (case a_show_whole => k_is); (case l_show_whole => k_is); (case c_show_whole => k_is); (case k_show_whole => k_is)
    (case a_show_number => k_is); (case l_show_number => k_is); (case c_show_number => k_is); (case k_show_number => k_is)
    (case a__law_show_number => k_is); (case l__law_show_number => k_is); (case c__law_show_number => k_is); (case k__law_show_number => k_is)
    (case a_show_numbers => k_is); (case l_show_numbers => k_is); (case c_show_numbers => k_is); (case k_show_numbers => k_is)
    (case a_show_poly => k_is); (case l_show_poly => k_is); (case c_show_poly => k_is); (case k_show_poly => k_is)
    (case a_show_table => k_is); (case l_show_table => k_is); (case c_show_table => k_is); (case k_show_table => k_is)
    (case a__law_show_poly => k_is); (case l__law_show_poly => k_is); (case c__law_show_poly => k_is); (case k__law_show_poly => k_is)
    (case a__law_show_table => k_is); (case l__law_show_table => k_is); (case c__law_show_table => k_is); (case k__law_show_table => k_is)
    (case a__law_other => k_is); (case l__law_other => k_is); (case c__law_other => k_is); (case k__law_other => k_is)
    (case a__law_trim => k_is); (case l__law_trim => k_is); (case c__law_trim => k_is); (case k__law_trim => k_is)
    (case a__law_drawn_poly => k_is); (case l__law_drawn_poly => k_is); (case c__law_drawn_poly => k_is); (case k__law_drawn_poly => k_is)
    (case a__law_is_poly => k_is); (case l__law_is_poly => k_is); (case c__law_is_poly => k_is); (case k__law_is_poly => k_is)
    (case a__law_is_table => k_is); (case l__law_is_table => k_is); (case c__law_is_table => k_is); (case k__law_is_table => k_is)
    (case a__law_said => k_is); (case l__law_said => k_is); (case c__law_said => k_is); (case k__law_said => k_is)
    (case a__law_far_number => k_is); (case l__law_far_number => k_is); (case c__law_far_number => k_is); (case k__law_far_number => k_is)
    (case a__law_poly_right => k_is); (case l__law_poly_right => k_is); (case c__law_poly_right => k_is); (case k__law_poly_right => k_is)
    (case a__law_table_right => k_is); (case l__law_table_right => k_is); (case c__law_table_right => k_is); (case k__law_table_right => k_is)
    (case a_law => k_is); (case l_law => k_is); (case c_law => k_is); (case k_law => k_is)
    (case z_ValueError => k_is)
    (case z_abs => k_is)
    (case z_all => k_is)
    (case z_bool => k_is)
    (case z_int => k_is)
    (case z_isinstance => k_is)
    (case z_len => k_is)
    (case z_list => k_is)
    (case z_max => k_is)
    (case z_min => k_is)
    (case z_range => k_is)
    (case z_str => k_is)
    (case z_tuple => k_is)
    (case y_FIGURES => k_is)
    (case y_SHORT => k_is)
    (case y_ROWS => k_is)
    (case y_NONE => k_is)
    (case y_NUMBERS => k_is)
    (case y_NOUGHT => k_is); (case u_NOUGHT => k_is)
    (case m_NoFraction => k_is); (case x_NoFraction => k_exc); (case e_NoFraction => (refine ⟨?_, ?_, ?_, ?_, ?_, ?_⟩ <;> first | k_is | kernel_rfl))
    (case m_NoPolynomial => k_is); (case x_NoPolynomial => k_exc); (case e_NoPolynomial => (refine ⟨?_, ?_, ?_, ?_, ?_, ?_⟩ <;> first | k_is | kernel_rfl))
    (case m_NoStretch => k_is); (case x_NoStretch => k_exc); (case e_NoStretch => (refine ⟨?_, ?_, ?_, ?_, ?_, ?_⟩ <;> first | k_is | kernel_rfl))
    (case m_NoRow => k_is); (case x_NoRow => k_exc); (case e_NoRow => (refine ⟨?_, ?_, ?_, ?_, ?_, ?_⟩ <;> first | k_is | kernel_rfl))
    (case m_NoPair => k_is); (case x_NoPair => k_exc); (case e_NoPair => (refine ⟨?_, ?_, ?_, ?_, ?_, ?_⟩ <;> first | k_is | kernel_rfl))
    (case m_NoBack => k_is); (case x_NoBack => k_exc); (case e_NoBack => (refine ⟨?_, ?_, ?_, ?_, ?_, ?_⟩ <;> first | k_is | kernel_rfl))
    (case m_NoForm => k_is); (case x_NoForm => k_exc); (case e_NoForm => (refine ⟨?_, ?_, ?_, ?_, ?_, ?_⟩ <;> first | k_is | kernel_rfl))
    (case m_NoParts => k_is); (case x_NoParts => k_exc); (case e_NoParts => (refine ⟨?_, ?_, ?_, ?_, ?_, ?_⟩ <;> first | k_is | kernel_rfl))
    (case m_NoDegree => k_is); (case x_NoDegree => k_exc); (case e_NoDegree => (refine ⟨?_, ?_, ?_, ?_, ?_, ?_⟩ <;> first | k_is | kernel_rfl))
    (case m_NoSteps => k_is); (case x_NoSteps => k_exc); (case e_NoSteps => (refine ⟨?_, ?_, ?_, ?_, ?_, ?_⟩ <;> first | k_is | kernel_rfl))
    (case m_NoBox => k_is); (case x_NoBox => k_exc); (case e_NoBox => (refine ⟨?_, ?_, ?_, ?_, ?_, ?_⟩ <;> first | k_is | kernel_rfl))
    (case m_NoGain => k_is); (case x_NoGain => k_exc); (case e_NoGain => (refine ⟨?_, ?_, ?_, ?_, ?_, ?_⟩ <;> first | k_is | kernel_rfl))
    (case m_NoText => k_is); (case x_NoText => k_exc); (case e_NoText => (refine ⟨?_, ?_, ?_, ?_, ?_, ?_⟩ <;> first | k_is | kernel_rfl))
    (case m_NoLine => k_is); (case x_NoLine => k_exc); (case e_NoLine => (refine ⟨?_, ?_, ?_, ?_, ?_, ?_⟩ <;> first | k_is | kernel_rfl))
    (case m_NoName => k_is); (case x_NoName => k_exc); (case e_NoName => (refine ⟨?_, ?_, ?_, ?_, ?_, ?_⟩ <;> first | k_is | kernel_rfl))
    (case m_NoDeed => k_is); (case x_NoDeed => k_exc); (case e_NoDeed => (refine ⟨?_, ?_, ?_, ?_, ?_, ?_⟩ <;> first | k_is | kernel_rfl))
    (case m_RestError => k_is); (case x_RestError => k_exc); (case e_RestError => (refine ⟨?_, ?_, ?_, ?_, ?_, ?_⟩ <;> first | k_is | kernel_rfl))
    (case kt_NoText => (refine ⟨?_, ?_, ?_, ?_, ?_, ?_, ?_, ?_, ?_, ?_, ?_, ?_, ?_, ?_, ?_, ?_, ?_, ?_, ?_⟩ <;> first | kernel_rfl | (refine ⟨?_, ?_, ?_, ?_, ?_, ?_⟩ <;> first | k_is | kernel_rfl)))

