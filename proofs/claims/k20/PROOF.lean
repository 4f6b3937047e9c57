import PyProof.Rows.All
import Wide.All
import OpenK.AllK
import Wide.FinOn
import PyProof.EqAt
import PyProof.EqKinds
import PyProof.TupleCall
import KE.KTryMore
import KE.KIsNot
import PyProof.MeetsStr
import PyProof.Rows.RuleM_int
import PyProof.CompFree
import PyProof.WalksEnum
import PyProof.EnumMake
import PyProof.NeKinds
import PyProof.ConsumeWalk
import PyProof.CompMap
import PyProof.Rows.EqBoolInt
import KE.IntBitsLaws
import PyProof.ZipIter
import PyProof.Rows.ZipGen
import PyProof.MinMaxWalk
import PyProof.WalkInts
import PyProof.Rows.CallKwBuiltin
import PyProof.CompUse
import KE.KRevIter
import PyProof.Rows.Range3
import PyProof.NsDelKeeps
import PyProof.SumAny
import PyProof.TupleIter
import PyProof.WalksMore
import PyProof.ListRange
import PyProof.CollectStr
import PyProof.TupleOfStr
import PySem.Challenge.RW_restward_k20_determinants_and_backs
set_option Elab.async false
set_option linter.all false
-- CHANGE: your row's module here, as the last of these rows
set_option maxRecDepth 100000
namespace L2
open PySem PySem.Spec PyProof.Rows

abbrev Key := Sum Int Str
def keyIs : Key → Value → Bool
  | .inl k, v => Value.isInt k v
  | .inr x, v => Value.isStrOf x v
def keyH (w : World) : Key → Int
  | .inl k => hashInt k
  | .inr x => hashStr w x
theorem keyIs_shape : ∀ {k : Key} {v : Value}, keyIs k v = true → (∃ i t, k = Sum.inl i ∧ v = Value.int i t) ∨ (∃ x t, k = Sum.inr x ∧ v = Value.str x t)
  | .inl i, v, h => by
    obtain ⟨t, e⟩ := Value.isInt_shape (k := i) (v := v) h
    exact .inl ⟨i, t, rfl, e⟩
  | .inr x, v, h => by
    obtain ⟨t, e⟩ := Value.isStrOf_shape (x := x) (v := v) h
    exact .inr ⟨x, t, rfl, e⟩
theorem key_ll (a b : Int) : decide ((Sum.inl a : Key) = Sum.inl b) = (a == b) := by
  by_cases e : a = b
  · subst e; simp
  · have h : ¬ (Sum.inl a : Key) = Sum.inl b := fun q => e (Sum.inl.inj q)
    rw [decide_eq_false h]
    exact (beq_eq_false_iff_ne.mpr e).symm
theorem key_rr (a b : Str) : decide ((Sum.inr a : Key) = Sum.inr b) = decide (a = b) := by
  by_cases e : a = b
  · subst e; simp
  · have h : ¬ (Sum.inr a : Key) = Sum.inr b := fun q => e (Sum.inr.inj q)
    rw [decide_eq_false h, decide_eq_false e]
theorem key_lr (a : Int) (b : Str) : decide ((Sum.inl a : Key) = Sum.inr b) = false := decide_eq_false (fun q => nomatch q)
theorem key_rl (a : Str) (b : Int) : decide ((Sum.inr a : Key) = Sum.inl b) = false := decide_eq_false (fun q => nomatch q)

def mixKind (prog : Program) (w : World) : PySem.KeyKind prog w Key where
  is := keyIs
  hash := keyH w
  inj := fun v a b ha hb => by
    rcases keyIs_shape ha with ⟨i, t, rfl, rfl⟩ | ⟨x, t, rfl, rfl⟩
    · rcases keyIs_shape hb with ⟨j, u, rfl, e⟩ | ⟨y, u, rfl, e⟩
      · injection e with e1 _; rw [e1]
      · exact nomatch e
    · rcases keyIs_shape hb with ⟨j, u, rfl, e⟩ | ⟨y, u, rfl, e⟩
      · exact nomatch e
      · injection e with e1 _; rw [e1]
  byValue := fun k v h => by
    rcases keyIs_shape h with ⟨i, t, rfl, rfl⟩ | ⟨x, t, rfl, rfl⟩ <;> rfl
  pyHash := fun hv h => by
    rcases keyIs_shape hv with ⟨i, t, rfl, rfl⟩ | ⟨x, t, rfl, rfl⟩
    · exact wpAny_pyHash_int h
    · exact wpAny_pyHash_str h
  eqBool := fun hu hv h => by
    rcases keyIs_shape hu with ⟨i, t, rfl, rfl⟩ | ⟨x, t, rfl, rfl⟩
    · rcases keyIs_shape hv with ⟨j, u, rfl, rfl⟩ | ⟨y, u, rfl, rfl⟩
      · rw [key_ll] at h; exact wpAny_eqBool_int h
      · rw [key_lr] at h; exact SeqAt.EqAt.int_str i t y u _ _ _ _ h
    · rcases keyIs_shape hv with ⟨j, u, rfl, rfl⟩ | ⟨y, u, rfl, rfl⟩
      · rw [key_rl] at h; exact SeqAt.EqAt.str_int x t j u _ _ _ _ h
      · rw [key_rr] at h; exact wpAny_eqBool_str h
  «strs» := fun k x t v h => by
    rcases keyIs_shape h with ⟨i, u, rfl, e⟩ | ⟨y, u, rfl, e⟩
    · exact nomatch e
    · injection e with e1 _
      subst e1
      cases v <;> rfl

end L2

namespace L2
open PySem PySem.Spec PyProof.Rows

inductive V where
  | non | bl (b : Bool) | int (i : Int) | str (x : Str) | byt (b : Array UInt8) | flt (b : UInt64) | ref (a : Addr) | ty (n : String)
  deriving DecidableEq

def RelV : V → Value → Prop
  | .non, u => u = Value.none
  | .bl b, u => u = Value.bool b
  | .int i, u => ∃ t, u = Value.int i t
  | .str x, u => ∃ t, u = Value.str x t
  | .byt b, u => ∃ t, u = Value.bytes b t
  | .flt b, u => ∃ t, u = Value.float b t
  | .ref a, u => u = Value.ref a
  | .ty n, u => u = Value.type n

abbrev Vals : List V → List Value → Prop := Paired RelV
theorem Vals.length {xs : List V} {us : List Value} (r : Vals xs us) : xs.length = us.length := Paired.length r
theorem Vals.get : ∀ {xs : List V} {us : List Value} {i : Nat} {x : V}, Vals xs us → xs[i]? = some x → ∃ u, us[i]? = some u ∧ RelV x u
  | _, _, _, _, .nil, e => by simp at e
  | _, _, 0, _, .cons r _, e => by simp at e; subst e; exact ⟨_, rfl, r⟩
  | _, _, i + 1, x, .cons _ t, e => by
    obtain ⟨u, h1, h2⟩ := Vals.get (i := i) (x := x) t (by simpa using e)
    exact ⟨u, by simpa using h1, h2⟩
theorem Vals.set {x : V} {u : Value} (r : RelV x u) : ∀ {xs : List V} {us : List Value} (i : Nat), Vals xs us → Vals (xs.set i x) (us.set i u)
  | _, _, _, .nil => .nil
  | _, _, 0, .cons _ t => .cons r t
  | _, _, i + 1, .cons q t => .cons q (Vals.set r i t)
theorem Vals.append : ∀ {xs ys : List V} {us ws : List Value}, Vals xs us → Vals ys ws → Vals (xs ++ ys) (us ++ ws)
  | _, _, _, _, .nil, s => s
  | _, _, _, _, .cons r t, s => .cons r (Vals.append t s)
theorem Vals.take : ∀ {xs : List V} {us : List Value} (n : Nat), Vals xs us → Vals (xs.take n) (us.take n)
  | _, _, 0, _ => .nil
  | _, _, _ + 1, .nil => .nil
  | _, _, n + 1, .cons r t => .cons r (Vals.take n t)
theorem Vals.drop : ∀ {xs : List V} {us : List Value} (n : Nat), Vals xs us → Vals (xs.drop n) (us.drop n)
  | _, _, 0, r => r
  | _, _, _ + 1, .nil => .nil
  | _, _, n + 1, .cons _ t => Vals.drop n t
def RelO : Option V → Option Value → Prop
  | some v, some u => RelV v u
  | none, none => True
  | _, _ => False
def KV {κ : Type} : List (κ × V) → List (κ × Value) → Prop := Paired fun (p : κ × V) (q : κ × Value) => p.1 = q.1 ∧ RelV p.2 q.2

def kV : Key → V
  | .inl i => .int i
  | .inr x => .str x

inductive HO where
  /-- a list -/
  | lst (xs : List V)
  /-- a tuple (never changes) -/
  | tup (xs : List V)
  /-- a dict whose keys are ints and texts; one whose keys are tuples of ints and texts (the empty one is both) -/
  | dK (kvs : List (Key × V)) | dT (kvs : List (List Key × V))
  /-- a set of ints: its members, its size -/
  | set (S : Int → Bool) (n : Nat)
  /-- an instance of the class at C, its dict at dx, its attributes -/
  | ins (C dx : Addr) (fs : List (Str × V))
  /-- the dict of the instance at x -/
  | own (x : Addr)
  /-- the dict of an exception -/
  | xd (fs : List (Str × V))
  /-- a bound method, f of x -/
  | met (f x : Addr)
  /-- a range object lo, lo + 1, .. below hi -/
  | rng (lo hi : Int)
  /-- a thing that is known to the object (the script; a dict while a loop walks it): read, never written while it is so -/
  | frz (o : Obj) (u : HO)
  /-- a code object's table -/
  | tbl (ps : Array Value)
  /-- any other thing, by what is true of its one object (a def of one's own: SetO a S n := HO.ext fun h => ..) -/
  | ext (φ : Heap → Prop)

abbrev Hp := Addr → Option HO
def upd (H : Hp) (a : Addr) (o : HO) : Hp := fun b => if b = a then some o else H b
theorem upd_same {H : Hp} {a : Addr} {o : HO} : upd H a o a = some o := by unfold upd; rw [if_pos rfl]
theorem upd_ne {H : Hp} {a b : Addr} {o : HO} (h : b ≠ a) : upd H a o b = H b := by unfold upd; rw [if_neg h]
theorem ne_of {H : Hp} {a b : Addr} {o u : HO} (h : H a = some o) (h' : H b = some u) (d : o ≠ u) : a ≠ b := by
  intro e; subst e; rw [h] at h'; exact d (Option.some.inj h')
theorem ne_of_none {H : Hp} {a b : Addr} {o : HO} (h : H a = some o) (h' : H b = none) : a ≠ b := by
  intro e; subst e; rw [h] at h'; cases h'

section
variable (P : Program) (w : World)
def ObjOk (H : Hp) (h : Heap) (a : Addr) : HO → Prop
  | .lst xs => xs.length ≤ sizeLine ∧ ∃ (its : List Value) (n : Nat), Vals xs its ∧ h.get? a = some { cls := .type "list", data := .seq its.toArray n }
  | .tup xs => xs.length ≤ sizeLine ∧ ∃ its : List Value, Vals xs its ∧ IsTup h a its.toArray
  | .dK kvs => kvs.length ≤ sizeLine ∧ (a == sysModules) = false ∧ ∃ vs, KV kvs vs ∧ h.DictOf (mixKind P w) a vs
  | .dT kvs => kvs.length ≤ sizeLine ∧ (a == sysModules) = false ∧ ∃ xs : List (List Key × Addr × Value),
      Paired (fun (p : List Key × V) (q : List Key × Addr × Value) => p.1 = q.1 ∧ H q.2.1 = some (.tup (p.1.map kV)) ∧ RelV p.2 q.2.2) kvs xs ∧
      ∃ o es ep, h.get? a = some o ∧ o.ExactDict ∧ o.data = .dict es ep ∧ es.toList = xs.map (entryOfKey (tupleKind (mixKind P w))) ∧ (xs.map (·.1)).Nodup
  | .set S n => h.SetOf (intKind P w) a S n
  | .ins C dx fs => H dx = some (.own a) ∧ fs.length ≤ 1000 ∧ dx ≠ a ∧ h.get? a = some (PySem.W.instObj C dx) ∧
      ∃ mA, h.Ns1 dx mA ∧ (∀ f, RelO (fs.lookup f) (mA f)) ∧ PySem.Within mA (fs.map (·.1))
  | .own _ => ∃ o, h.get? a = some o
  | .xd fs => ∃ mA, h.Ns1 a mA ∧ ∀ f, RelO (fs.lookup f) (mA f)
  | .rng lo hi => ∃ t u v, h.get? a = some { cls := .type "range", data := .fields #[.int lo t, .int hi u, .int 1 v] }
  | .frz o u => h.get? a = some o ∧ ObjOk H h a u
  | .tbl ps => h.get? a = some { cls := .none, data := .fields ps }
  | .met f x => h.get? a = some (PySem.W.methodObj (.ref f) (.ref x))
  | .ext φ => φ h ∧ (∃ o, h.get? a = some o) ∧ ∀ h1 h2 : Heap, φ h1 → (∀ o, h1.get? a = some o → h2.get? a = some o) → φ h2
def HOk (H : Hp) (h : Heap) : Prop := ∀ a o, H a = some o → ObjOk P w H h a o
end

section
variable {P : Program} {w : World} {H H' : Hp} {h h' : Heap} {a : Addr} {o : HO}
theorem ObjOk.lt (x : ObjOk P w H h a o) : a < h.objs.size := by
  cases o with
  | lst xs => obtain ⟨_, _, _, _, e⟩ := x; exact Heap.lt_size e
  | tup xs => obtain ⟨_, _, _, p⟩ := x; exact p.lt
  | dK kvs => obtain ⟨_, _, _, _, o, _, _, e, _⟩ := x; exact Heap.lt_size e
  | dT kvs => obtain ⟨_, _, _, _, o, _, _, e, _⟩ := x; exact Heap.lt_size e
  | set S n => obtain ⟨o, _, _, _, e, _⟩ := x; exact Heap.lt_size e
  | ins C dx fs => obtain ⟨_, _, _, e, _⟩ := x; exact Heap.lt_size e
  | own y => obtain ⟨_, e⟩ := x; exact Heap.lt_size e
  | xd fs => obtain ⟨_, ⟨_, _, _, e, _⟩, _⟩ := x; exact Heap.lt_size e
  | rng lo hi => obtain ⟨_, _, _, e⟩ := x; exact Heap.lt_size e
  | frz ob u => obtain ⟨e, _⟩ := x; exact Heap.lt_size e
  | tbl ps => exact Heap.lt_size (show h.get? a = some _ from x)
  | met f y => exact Heap.lt_size (show h.get? a = some _ from x)
  | ext φ => obtain ⟨_, ⟨_, e⟩, _⟩ := x; exact Heap.lt_size e
theorem Paired.mapP {α β : Type} {F G : α → β → Prop} : ∀ {l₁ : List α} {l₂ : List β}, Paired F l₁ l₂ → (∀ a b, F a b → G a b) → Paired G l₁ l₂
  | _, _, .nil, _ => .nil
  | _, _, .cons r t, f => .cons (f _ _ r) (Paired.mapP t f)
theorem ObjOk.stay (x : ObjOk P w H h a o) (k : ∀ b u, (b = a ∨ H b = some (.own a)) → h.get? b = some u → h'.get? b = some u)
    (ho : ∀ b, H b = some (.own a) → H' b = some (.own a)) (ht : ∀ b xs, H b = some (.tup xs) → H' b = some (.tup xs)) : ObjOk P w H' h' a o := by
  induction o with
  | lst xs => obtain ⟨z, its, n, r, e⟩ := x; exact ⟨z, its, n, r, k _ _ (.inl rfl) e⟩
  | tup xs => obtain ⟨z, its, r, ob, e, c⟩ := x; exact ⟨z, its, r, ob, k _ _ (.inl rfl) e, c⟩
  | dK kvs => obtain ⟨z, y, vs, r, ob, es, ep, e, c⟩ := x; exact ⟨z, y, vs, r, ob, es, ep, k _ _ (.inl rfl) e, c⟩
  | dT kvs =>
    obtain ⟨z, y, xs, r, ob, es, ep, e, c⟩ := x
    exact ⟨z, y, xs, Paired.mapP r fun p q z => ⟨z.1, ht _ _ z.2.1, z.2.2⟩, ob, es, ep, k _ _ (.inl rfl) e, c⟩
  | set S n => obtain ⟨ob, es, ep, t, e, c⟩ := x; exact ⟨ob, es, ep, t, k _ _ (.inl rfl) e, c⟩
  | ins C dx fs =>
    obtain ⟨d, z, ne, e, mA, ⟨od, es, ep, e2, c⟩, r⟩ := x
    exact ⟨ho _ d, z, ne, k _ _ (.inl rfl) e, mA, ⟨od, es, ep, k _ _ (.inr d) e2, c⟩, r⟩
  | own y => obtain ⟨ob, e⟩ := x; exact ⟨ob, k _ _ (.inl rfl) e⟩
  | xd fs => obtain ⟨mA, ⟨od, es, ep, e, c⟩, r⟩ := x; exact ⟨mA, ⟨od, es, ep, k _ _ (.inl rfl) e, c⟩, r⟩
  | rng lo hi => obtain ⟨t, u, v, e⟩ := x; exact ⟨t, u, v, k _ _ (.inl rfl) e⟩
  | frz ob u ih => obtain ⟨e, q⟩ := x; exact ⟨k _ _ (.inl rfl) e, ih q⟩
  | tbl ps =>
    have e : h.get? a = some { cls := .none, data := .fields ps } := x
    show h'.get? a = some { cls := .none, data := .fields ps }
    exact k a _ (.inl rfl) e
  | met f y =>
    have e : h.get? a = some (PySem.W.methodObj (.ref f) (.ref y)) := x
    show h'.get? a = some (PySem.W.methodObj (.ref f) (.ref y))
    exact k a _ (.inl rfl) e
  | ext φ => obtain ⟨p, ⟨o, e⟩, st⟩ := x; exact ⟨st _ _ p fun o q => k _ _ (.inl rfl) q, ⟨o, k _ _ (.inl rfl) e⟩, st⟩
theorem HOk.lt (x : HOk P w H h) (e : H a = some o) : a < h.objs.size := (x a o e).lt
theorem HOk.fresh (x : HOk P w H h) (e : h.objs.size ≤ a) : H a = none := by
  cases q : H a with
  | none => rfl
  | some u => exact absurd (Nat.lt_of_lt_of_le (x.lt q) e) (Nat.lt_irrefl _)
theorem HOk.kept (x : HOk P w H h) (k : ∀ b u, h.get? b = some u → h'.get? b = some u) : HOk P w H h' := fun a o e =>
  (x a o e).stay (fun b u _ q => k b u q) (fun _ q => q) fun _ _ q => q
theorem HOk.laid (x : HOk P w H h) (k : ∀ b u, h.get? b = some u → h'.get? b = some u) (hp : h.objs.size ≤ a) (new : ObjOk P w (upd H a o) h' a o) : HOk P w (upd H a o) h' := fun b u e => by
  have hn := x.fresh hp
  by_cases hb : b = a
  · subst hb; rw [upd_same] at e; cases e; exact new
  · rw [upd_ne hb] at e
    exact (x b u e).stay (fun c v _ q => k c v q) (fun c q => by rw [upd_ne (ne_of_none q hn)]; exact q) fun c xs q => by rw [upd_ne (ne_of_none q hn)]; exact q
end

def Rd (H : Hp) (a : Addr) (u : HO) : Prop := H a = some u ∨ ∃ o, H a = some (.frz o u)
theorem Rd.ok {P : Program} {w : World} {H : Hp} {h : Heap} {a : Addr} {u : HO} (r : Rd H a u) (x : HOk P w H h) : ObjOk P w H h a u := by
  rcases r with r | ⟨o, r⟩
  · exact x a u r
  · obtain ⟨_, q⟩ := x a _ r
    exact q
def Mut : Option HO → Prop
  | some (.lst _) => True
  | some (.dK _) => True
  | some (.dT _) => True
  | some (.set _ _) => True
  | some (.ins _ _ _) => True
  | some (.ext _) => True
  | _ => False
section
variable {P : Program} {w : World} {H : Hp} {h h' : Heap} {x e : Addr} {o' : HO}
theorem HOk.write (ok : HOk P w H h) (mu : Mut (H x)) (he : e = x ∨ H e = some (.own x)) (k : ∀ b u, b ≠ e → h.get? b = some u → h'.get? b = some u) (heo : ∃ u, h'.get? e = some u)
    (new : ObjOk P w (upd H x o') h' x o') : HOk P w (upd H x o') h' := fun b u q => by
  have nown : ∀ c y, H c = some (.own y) → c ≠ x := fun c y r z => by subst z; rw [r] at mu; exact mu
  have ntup : ∀ c xs, H c = some (.tup xs) → c ≠ x := fun c xs r z => by subst z; rw [r] at mu; exact mu
  by_cases hb : b = x
  · subst hb; rw [upd_same] at q; cases q; exact new
  · rw [upd_ne hb] at q
    by_cases hbe : b = e
    · have q' : H b = some (.own x) := by
        rcases he with z | z
        · exact absurd (hbe.trans z) hb
        · rw [hbe]; exact z
      rw [q] at q'; cases q'
      obtain ⟨v, hv⟩ := heo
      exact ⟨v, by rw [hbe]; exact hv⟩
    · refine (ok b u q).stay (fun c v hc r => k c v ?_ r) (fun c r => by rw [upd_ne (nown c b r)]; exact r) fun c xs r => by rw [upd_ne (ntup c xs r)]; exact r
      rcases hc with rfl | hc
      · exact hbe
      · rintro rfl
        rcases he with z | z
        · exact nown c b hc z
        · rw [hc] at z; cases z; exact hb rfl
end

structure Un (fs ex : List Addr) (H H' : Hp) (h h' : Heap) : Prop where
  keep : ∀ b o, h.get? b = some o → H b = none → b ∉ fs → b ∉ ex → h'.get? b = some o
  slot : ∀ b o, h.get? b = some o → H b = none → b ∈ fs → b ∉ ex → ∃ sl, h'.get? b = some { o with slots := sl }
  free : ∀ b o, h.get? b = some o → H b = none → b ∉ ex → H' b = none
  there : ∀ b o, h.get? b = some o → b ∉ ex → ∃ o', h'.get? b = some o'
  tups : ∀ b xs, H b = some (.tup xs) → H' b = some (.tup xs)
  frzs : ∀ b o u, H b = some (.frz o u) → H' b = some (.frz o u)
  tbls : ∀ b ps, H b = some (.tbl ps) → ∃ more, H' b = some (.tbl (ps ++ more))
section
variable {fs fs' ex ex' : List Addr} {H H1 H2 : Hp} {h h1 h2 h' : Heap} {a x e : Addr} {o : HO}
theorem Un.any (u : Un fs ex H H1 h h1) {b : Addr} {ob : Obj} (q : h.get? b = some ob) (n : H b = none) (hx : b ∉ ex) : ∃ sl, h1.get? b = some { ob with slots := sl } := by
  by_cases hb : b ∈ fs
  · exact u.slot b ob q n hb hx
  · exact ⟨ob.slots, u.keep b ob q n hb hx⟩
theorem Un.kept (k : ∀ b u, h.get? b = some u → h'.get? b = some u) : Un fs ex H H h h' :=
  ⟨fun b ob q _ _ _ => k b ob q, fun b ob q _ _ _ => ⟨ob.slots, k b ob q⟩, fun _ _ _ n _ => n, fun b ob q _ => ⟨ob, k b ob q⟩, fun _ _ q => q, fun _ _ _ q => q, fun _ ps q => ⟨#[], by rw [q]; simp⟩⟩
theorem Un.refl : Un fs ex H H h h := Un.kept fun _ _ q => q
theorem Un.laid (k : ∀ b u, h.get? b = some u → h'.get? b = some u) (hp : h.objs.size ≤ a) (hn : H a = none) : Un fs ex H (upd H a o) h h' where
  keep := fun b u q _ _ _ => k b u q
  slot := fun b u q _ _ _ => ⟨u.slots, k b u q⟩
  free := fun b u q n _ => by rw [upd_ne (Nat.ne_of_lt (Nat.lt_of_lt_of_le (Heap.lt_size q) hp))]; exact n
  there := fun b u q _ => ⟨u, k b u q⟩
  tups := fun b xs q => by rw [upd_ne (ne_of_none q hn)]; exact q
  frzs := fun b u xs q => by rw [upd_ne (ne_of_none q hn)]; exact q
  tbls := fun b ps q => ⟨#[], by rw [upd_ne (ne_of_none q hn), q]; simp⟩
theorem Un.write (mu : Mut (H x)) (he : e = x ∨ H e = some (.own x)) (k : ∀ b u, b ≠ e → h.get? b = some u → h'.get? b = some u) (heo : ∃ u, h'.get? e = some u) : Un fs ex H (upd H x o) h h' := by
  have hx : ∀ b, H b = none → b ≠ x := fun b n z => by subst z; rw [n] at mu; exact mu
  have hb : ∀ b, H b = none → b ≠ e := fun b n z => by
    subst z
    rcases he with r | r
    · exact hx b n r
    · rw [n] at r; cases r
  have hm : ∀ b u, H b = some u → ¬ Mut (some u) → b ≠ x := fun b u q nm z => by subst z; rw [q] at mu; exact nm mu
  refine ⟨fun b u q n _ _ => k b u (hb b n) q, fun b u q n _ _ => ⟨u.slots, k b u (hb b n) q⟩, fun b u q n _ => by rw [upd_ne (hx b n)]; exact n, fun b u q _ => ?_,
    fun b xs q => by rw [upd_ne (hm b _ q fun z => z)]; exact q, fun b u xs q => by rw [upd_ne (hm b _ q fun z => z)]; exact q, fun b ps q => ⟨#[], by rw [upd_ne (hm b _ q fun z => z), q]; simp⟩⟩
  by_cases hbe : b = e
  · subst hbe; exact heo
  · exact ⟨u, k b u hbe q⟩
end

def trk (h : Heap) (H : Hp) : List Addr := (List.range h.objs.size).filter fun a => (H a).isSome
def hidT (h : Heap) (H : Hp) : Heap := PySem.W.hideAll h (trk h H)
theorem hidT_size (h : Heap) (H : Hp) : (hidT h H).objs.size = h.objs.size := PySem.W.hideAll_size _ _
theorem hidT_get {h : Heap} {H : Hp} {b : Addr} {o : Obj} (e : h.get? b = some o) (n : H b = none) : (hidT h H).get? b = some o :=
  PySem.W.hideAll_get _ e fun hm => by
    have q : (H b).isSome = true := (List.mem_filter.mp hm).2
    rw [n] at q; simp at q
theorem of_hidT {h : Heap} {H : Hp} {b : Addr} {o : Obj} (e : (hidT h H).get? b = some o) : h.get? b = some o ∧ H b = none := by
  have e' : h.get? b = some o := PySem.W.of_hideAll (trk h H) e
  refine ⟨e', ?_⟩
  cases q : H b with
  | none => rfl
  | some x =>
    have hm : b ∈ trk h H := List.mem_filter.mpr ⟨List.mem_range.mpr (Heap.lt_size e'), by simp [q]⟩
    have z : (hidT h H).get? b = none := PySem.W.hideAll_none (trk h H) hm
    rw [z] at e; cases e

def allNews (g h : Heap) (L : Addr) : List (Addr × Obj) := (List.range h.objs.size).filterMap fun a => if a = L ∨ (g.get? a).isSome = true then none else (h.get? a).map fun o => (a, o)
def rest (g h : Heap) (L d : Addr) : List (Addr × Obj) := (allNews g h L).filter fun p => decide (p.1 ≠ d)
end L2

namespace L2
open PySem PySem.Spec PyProof.Rows

structure Mod (K : PySem.W.Frag) (mg : Str → Option Value) (base : Heap) : Prop where
  kin : K.In base
  glob : base.Ns mainGlobals mg
  blt : ∃ mb, base.Ns builtinsNs mb ∧ ∀ x : Str, x ≠ "__name__" → mb x = bootBuiltins x
  nolimit : base.NoLimit

/-- the context: a def's body (or a comprehension's block) running. base: fixed through the whole law; s₀, H₀: the entry; outer: the frames whose slots others may change (a def's callers); stack: all frames that run;
   ex: iterators that were made ahead of the entry and are walked here (a comprehension's); fn: the names whose cells were made at the entry (a def: all; a comprehension's block: its own); calm: not within an except suite; pn: pins that every state bears; xe: what is wanted of an exception that leaves the code -/
structure Cx where
  prog : Program
  w : World
  K : PySem.W.Frag
  mg : Str → Option Value
  base : Heap
  A : Around
  N : List Str
  s₀ : Shared
  H₀ : Hp
  env : Env
  outer : List Env
  stack : List Env
  ex : List Addr
  fn : Str → Bool
  calm : Bool
  pn : List (Addr × Obj)
  xe : Value → Shared → Prop
def frs (l : List Env) : List Addr := l.filterMap (·.frame)
abbrev Cx.fs (X : Cx) : List Addr := frs X.outer

def Vis (sc : Scope) (x : Str) : Prop := sc.names.lookup x = some .local ∨ sc.names.lookup x = some .cell ∨ sc.names.lookup x = some .free
def Loc (sc : Scope) (x : Str) : Prop := sc.names.lookup x = some .local ∨ sc.names.lookup x = some .cell
def Look (env : Env) (h : Heap) (m : Str → Option Value) (x : Str) (u : Value) : Prop :=
  (env.kindOf x = some .local ∧ m x = some u) ∨ ((env.kindOf x = some .cell ∨ env.kindOf x = some .free) ∧ ∃ c, env.cells.lookup x = some c ∧ h.IsCell c (some u))

structure Cx.Ok (X : Cx) : Prop where
  mod : Mod X.K X.mg X.base
  kind : X.env.scope.kind = .function
  glob : X.env.globals = mainGlobals
  blt : X.env.builtins = builtinsNs
  above : X.s₀.heap.objs.size ≤ X.env.locals
  inj : ∀ x y c, X.env.cells.lookup x = some c → X.env.cells.lookup y = some c → x = y
  has : ∀ x, (X.env.kindOf x = some .cell ∨ X.env.kindOf x = some .free) → ∃ c, X.env.cells.lookup x = some c
  cab : ∀ x c, X.fn x = true → X.env.cells.lookup x = some c → X.s₀.heap.objs.size ≤ c
  hd : X.calm = true → X.A.handled = none
  frames : X.A.frames = some X.stack
  stk : X.stack = X.outer ∨ (X.stack = X.env :: X.outer ∧ X.env.frame = some X.env.locals)
  exf : ∀ b ∈ X.ex, b ≠ X.env.locals ∧ ∀ x c, X.env.cells.lookup x = some c → c ≠ b
  bs : ∀ b o, X.base.get? b = some o → X.s₀.heap.get? b = some o ∧ X.H₀ b = none
  bsz : X.base.objs.size ≤ X.s₀.heap.objs.size
  noex : ∀ b o, X.base.get? b = some o → b ∉ X.ex
  exfs : ∀ b ∈ X.ex, b ∉ X.fs
  funs : X.s₀.heap.FunFrames X.base X.outer
  frf : ∀ b ∈ X.fs, X.H₀ b = none

structure Inv (X : Cx) (pins : List (Addr × Obj)) (σ : List (Option V)) (H : Hp) (s : Shared) : Prop where
  ok : X.Ok
  os : s.os = X.s₀.os
  bare : AllBare s.gens
  base : Un X.fs X.ex X.H₀ H X.s₀.heap s.heap
  loc : ∃ m, s.heap.Ns X.env.locals m ∧ ∀ (i : Nat) (x : Str) (v : V), X.N[i]? = some x → σ[i]? = some (some v) → Vis X.env.scope x → ∃ u, RelV v u ∧ Look X.env s.heap m x u
  cell : ∀ x c, X.env.cells.lookup x = some c → ∃ v, s.heap.IsCell c v
  free : H X.env.locals = none
  freeC : ∀ x c, X.env.cells.lookup x = some c → H c = none
  pin : ∀ p ∈ X.pn ++ pins, s.heap.get? p.1 = some p.2 ∧ H p.1 = none ∧ p.1 ≠ X.env.locals ∧ p.1 ∉ X.fs ∧ ∀ v, p.2.data ≠ .cell v
  hok : HOk X.prog X.w H s.heap
  len : σ.length = X.N.length

section
variable {X : Cx} {pins : List (Addr × Obj)} {σ : List (Option V)} {H H' : Hp} {s : Shared} {h' : Heap}

theorem Cx.Ok.nofr (ok : X.Ok) {b : Addr} {o : Obj} (e : X.base.get? b = some o) : b ∉ X.fs := fun hb => by
  have := (ok.funs.mem hb).1
  rw [e] at this; cases this
theorem Inv.bs (I : Inv X pins σ H s) : ∀ b o, X.base.get? b = some o → s.heap.get? b = some o ∧ H b = none := fun b o e =>
  ⟨I.base.keep b o (I.ok.bs b o e).1 (I.ok.bs b o e).2 (I.ok.nofr e) (I.ok.noex b o e), I.base.free b o (I.ok.bs b o e).1 (I.ok.bs b o e).2 (I.ok.noex b o e)⟩
theorem Inv.bk (I : Inv X pins σ H s) : ∀ b o, X.base.get? b = some o → s.heap.get? b = some o := fun b o e => (I.bs b o e).1
theorem Inv.mod (I : Inv X pins σ H s) : Mod X.K X.mg X.base := I.ok.mod
theorem Inv.kIn (I : Inv X pins σ H s) : X.K.In s.heap := I.ok.mod.kin.keeps I.bk
theorem Inv.fr (I : Inv X pins σ H s) : ∃ m, Fr X.base X.env.locals s.heap m :=
  let ⟨m, hn, _⟩ := I.loc
  ⟨m, hn, I.bk, Nat.le_trans I.ok.bsz I.ok.above⟩
theorem Inv.lt (I : Inv X pins σ H s) : X.env.locals < s.heap.objs.size := let ⟨_, hn, _⟩ := I.loc; hn.lt
theorem Inv.sz (I : Inv X pins σ H s) : X.s₀.heap.objs.size ≤ s.heap.objs.size := Nat.le_trans I.ok.above (Nat.le_of_lt I.lt)
theorem Inv.nofs (I : Inv X pins σ H s) {a : Addr} (h : s.heap.objs.size ≤ a) : a ∉ X.fs := fun hb => by
  obtain ⟨_, o, ho, _⟩ := I.ok.funs.mem hb
  exact absurd (Nat.lt_of_lt_of_le (Heap.lt_size ho) (Nat.le_trans I.sz h)) (Nat.lt_irrefl _)
theorem Inv.cne (I : Inv X pins σ H s) : ∀ x c, X.env.cells.lookup x = some c → c ≠ X.env.locals := fun x c e z => by
  obtain ⟨v, o, ho, hd⟩ := I.cell x c e
  obtain ⟨m, ⟨o', es, ep, ho', hd', _⟩, _⟩ := I.loc
  rw [z, ho'] at ho; cases ho; rw [hd'] at hd; cases hd
theorem Inv.funs (I : Inv X pins σ H s) : s.heap.FunFrames X.base X.outer := by
  have all : ∀ (l : List Env), (∀ b ∈ frs l, b ∈ X.fs) → X.s₀.heap.FunFrames X.base l → s.heap.FunFrames X.base l := by
    intro l
    induction l with
    | nil => intro _ _; trivial
    | cons env r ih =>
      intro hs hl
      obtain ⟨hk, ⟨L, o, hf, hn, ho, hd⟩, hr⟩ := hl
      have hL : L ∈ X.fs := hs L (by unfold frs; rw [List.filterMap_cons, hf]; exact List.mem_cons_self)
      obtain ⟨sl, e⟩ := I.base.slot L o ho (I.ok.frf L hL) hL fun z => I.ok.exfs L z hL
      exact ⟨hk, ⟨L, _, hf, hn, e, hd⟩, ih (fun b hb => hs b (by unfold frs; rw [List.filterMap_cons, hf]; exact List.mem_cons_of_mem _ hb)) hr⟩
  exact all X.outer (fun _ hb => hb) I.ok.funs

theorem Inv.stack (I : Inv X pins σ H s) : s.heap.FunFrames X.base X.stack := by
  rcases I.ok.stk with e | ⟨e, hf⟩
  · rw [e]; exact I.funs
  · rw [e]
    obtain ⟨m, hn, _⟩ := I.loc
    refine .cons (by rw [I.ok.kind]; decide) hf hn ?_ I.funs
    exact Heap.get?_none_of_le (Nat.le_trans I.ok.bsz I.ok.above)
theorem Inv.stkSub (I : Inv X pins σ H s) : ∀ b ∈ frs X.stack, b ∈ X.env.locals :: X.fs := fun b hb => by
  rcases I.ok.stk with e | ⟨e, hf⟩
  · rw [e] at hb; exact List.mem_cons_of_mem _ hb
  · rw [e] at hb
    unfold frs at hb
    rw [List.filterMap_cons, hf] at hb
    exact hb
theorem Inv.stkFree (I : Inv X pins σ H s) : ∀ b ∈ frs X.stack, H b = none := fun b hb => by
  rcases List.mem_cons.mp (I.stkSub b hb) with e | hb
  · rw [e]; exact I.free
  · obtain ⟨_, o, ho, _⟩ := I.ok.funs.mem hb
    exact I.base.free b o ho (I.ok.frf b hb) fun z => I.ok.exfs b z hb

theorem Inv.step {g' : Array GenState} {t' : Nat} {d' : Drawn} {ch : List Addr} (I : Inv X pins σ H s)
    (hch : ∀ b ∈ ch, (b ∈ X.ex ∨ X.s₀.heap.objs.size ≤ b) ∧ b ≠ X.env.locals ∧ (∀ x c, X.env.cells.lookup x = some c → c ≠ b) ∧ ∀ p ∈ X.pn ++ pins, p.1 ≠ b)
    (keep : ∀ b o, b ≠ X.env.locals → b ∉ X.fs → b ∉ ch → s.heap.get? b = some o → H b = none → h'.get? b = some o)
    (slot : ∀ b o, b ≠ X.env.locals → b ∈ X.fs → b ∉ ch → s.heap.get? b = some o → H b = none → ∃ sl, h'.get? b = some { o with slots := sl }) (free : ∀ b o, b ∉ ch → s.heap.get? b = some o → H b = none → H' b = none)
    (there : ∀ b o, b ∉ ch → s.heap.get? b = some o → ∃ o', h'.get? b = some o')
    (tups : ∀ b xs, H b = some (.tup xs) → H' b = some (.tup xs)) (frzs : ∀ b o u, H b = some (.frz o u) → H' b = some (.frz o u)) (tbls : ∀ b ps, H b = some (.tbl ps) → ∃ more, H' b = some (.tbl (ps ++ more)))
    (ns : ∀ m, s.heap.Ns X.env.locals m → h'.Ns X.env.locals m) (hok : HOk X.prog X.w H' h') (hg : AllBare g') :
    Inv X pins σ H' { s with heap := h', gens := g', drawn := d', toks := t' } := by
  have neL : ∀ b o, X.s₀.heap.get? b = some o → b ≠ X.env.locals := fun b o e => Nat.ne_of_lt (Nat.lt_of_lt_of_le (Heap.lt_size e) I.ok.above)
  have neC : ∀ b o, X.s₀.heap.get? b = some o → b ∉ X.ex → b ∉ ch := fun b o e hx hb => by
    rcases (hch b hb).1 with z | z
    · exact hx z
    · exact absurd (Nat.lt_of_lt_of_le (Heap.lt_size e) z) (Nat.lt_irrefl _)
  have cellK : ∀ x c, X.env.cells.lookup x = some c → ∀ v, s.heap.IsCell c v → h'.IsCell c v := fun x c e v ⟨o, ho, hd⟩ => by
    have nch : c ∉ ch := fun z => (hch c z).2.2.1 x c e rfl
    by_cases hc : c ∈ X.fs
    · obtain ⟨sl, q⟩ := slot c o (I.cne x c e) hc nch ho (I.freeC x c e)
      exact ⟨_, q, hd⟩
    · exact ⟨o, keep c o (I.cne x c e) hc nch ho (I.freeC x c e), hd⟩
  refine ⟨I.ok, I.os, hg, ⟨fun b o e n hb hx => ?_, fun b o e n hb hx => ?_, fun b o e n hx => ?_, fun b o e hx => ?_, fun b xs e => tups b xs (I.base.tups b xs e), fun b o xs e => frzs b o xs (I.base.frzs b o xs e), fun b ps e => ?_⟩, ?_, fun x c e => ?_, ?_, fun x c e => ?_, fun p hp => ?_, hok, I.len⟩
  · exact keep b o (neL b o e) hb (neC b o e hx) (I.base.keep b o e n hb hx) (I.base.free b o e n hx)
  · obtain ⟨sl, e1⟩ := I.base.slot b o e n hb hx
    obtain ⟨sl', e2⟩ := slot b _ (neL b o e) hb (neC b o e hx) e1 (I.base.free b o e n hx)
    exact ⟨sl', e2⟩
  · obtain ⟨o', e1⟩ := I.base.there b o e hx
    exact free b o' (neC b o e hx) e1 (I.base.free b o e n hx)
  · obtain ⟨o', e1⟩ := I.base.there b o e hx
    exact there b o' (neC b o e hx) e1
  · obtain ⟨m1, e1⟩ := I.base.tbls b ps e
    obtain ⟨m2, e2⟩ := tbls b _ e1
    exact ⟨m1 ++ m2, by rw [e2, Array.append_assoc]⟩
  · obtain ⟨m, hn, hl⟩ := I.loc
    refine ⟨m, ns m hn, fun i x v e1 e2 e3 => ?_⟩
    obtain ⟨u, r, l⟩ := hl i x v e1 e2 e3
    refine ⟨u, r, ?_⟩
    rcases l with l | ⟨k, c, e, z⟩
    · exact .inl l
    · exact .inr ⟨k, c, e, cellK x c e _ z⟩
  · obtain ⟨v, z⟩ := I.cell x c e
    exact ⟨v, cellK x c e v z⟩
  · obtain ⟨m, ⟨o, _, _, ho, _⟩, _⟩ := I.loc
    exact free _ o (fun z => (hch _ z).2.1 rfl) ho I.free
  · obtain ⟨v, o, ho, hd⟩ := I.cell x c e
    exact free c o (fun z => (hch c z).2.2.1 x c e rfl) ho (I.freeC x c e)
  · obtain ⟨e, n, ne, nf, d⟩ := I.pin p hp
    have nch : p.1 ∉ ch := fun z => (hch p.1 z).2.2.2 p hp rfl
    exact ⟨keep p.1 p.2 ne nf nch e n, free p.1 p.2 nch e n, ne, nf, d⟩
theorem Inv.un {t' : Nat} (I : Inv X pins σ H s) (u : Un X.fs [] H H' s.heap h') (hok : HOk X.prog X.w H' h') : Inv X pins σ H' { s with heap := h', toks := t' } := by
  obtain ⟨m, ⟨o, es, ep, ho, r⟩, _⟩ := id I.loc
  obtain ⟨sl, hL⟩ := u.any ho I.free (by simp)
  exact I.step (g' := s.gens) (d' := s.drawn) (ch := []) (fun _ z => nomatch z) (fun b o _ hb _ e n => u.keep b o e n hb (by simp)) (fun b o _ hb _ e n => u.slot b o e n hb (by simp)) (fun b o _ e n => u.free b o e n (by simp)) (fun b o _ e => u.there b o e (by simp)) u.tups u.frzs u.tbls (fun m' hm => by
    obtain ⟨o', es', ep', ho', r'⟩ := hm
    rw [ho] at ho'; cases ho'
    exact ⟨_, es', ep', hL, r'⟩) hok I.bare
theorem Inv.call {g' : Array GenState} {t' : Nat} {d' : Drawn} {ch : List Addr} (I : Inv X pins σ H s) (u : Un (frs X.stack) ch H H' s.heap h') (hok : HOk X.prog X.w H' h') (hg : AllBare g')
    (hch : ∀ b ∈ ch, (b ∈ X.ex ∨ X.s₀.heap.objs.size ≤ b) ∧ b ≠ X.env.locals ∧ (∀ x c, X.env.cells.lookup x = some c → c ≠ b) ∧ ∀ p ∈ X.pn ++ pins, p.1 ≠ b) :
    Inv X pins σ H' { s with heap := h', gens := g', drawn := d', toks := t' } := by
  obtain ⟨m, ⟨o, es, ep, ho, r⟩, _⟩ := id I.loc
  obtain ⟨sl, hL⟩ := u.any ho I.free fun z => (hch _ z).2.1 rfl
  exact I.step (ch := ch) hch (fun b o hL hb hc e n => u.keep b o e n (fun z => (List.mem_cons.mp (I.stkSub b z)).elim hL hb) hc) (fun b o _ _ hc e n => u.any e n hc) (fun b o hc e n => u.free b o e n hc) (fun b o hc e => u.there b o e hc) u.tups u.frzs u.tbls (fun m' hm => by
    obtain ⟨o', es', ep', ho', r'⟩ := hm
    rw [ho] at ho'; cases ho'
    exact ⟨_, es', ep', hL, r'⟩) hok hg
theorem Inv.turned {t' : Nat} {it : Addr} (I : Inv X pins σ H s) (k : ∀ b o, b ≠ it → s.heap.get? b = some o → h'.get? b = some o) (hn : H it = none) (hL : it ≠ X.env.locals)
    (h1 : it ∈ X.ex ∨ X.s₀.heap.objs.size ≤ it) (h2 : ∀ x c, X.env.cells.lookup x = some c → c ≠ it) (h3 : ∀ p ∈ X.pn ++ pins, p.1 ≠ it) : Inv X pins σ H { s with heap := h', toks := t' } := by
  have nit : ∀ b u, H b = some u → b ≠ it := fun b u e z => by rw [z, hn] at e; cases e
  refine I.step (g' := s.gens) (d' := s.drawn) (ch := [it]) (fun b hb => ?_) (fun b o _ _ hc e _ => k b o (fun z => hc (by simp [z])) e) (fun b o _ _ hc e _ => ⟨o.slots, k b o (fun z => hc (by simp [z])) e⟩) (fun _ _ _ _ n => n)
    (fun b o hc e => ⟨o, k b o (fun z => hc (by simp [z])) e⟩) (fun _ _ e => e) (fun _ _ _ e => e) (fun b ps e => ⟨#[], by rw [e]; simp⟩) (fun m hm => ?_) (fun b u e => ?_) I.bare
  · have e : b = it := by simpa using hb
    subst e
    exact ⟨h1, hL, h2, h3⟩
  · obtain ⟨o, es, ep, ho, r⟩ := hm
    exact ⟨o, es, ep, k _ o (Ne.symm hL) ho, r⟩
  · refine (I.hok b u e).stay (fun c v hc q => k c v ?_ q) (fun _ q => q) fun _ _ q => q
    rcases hc with z | z
    · rw [z]; exact nit b u e
    · exact nit c _ z
theorem Inv.tok (I : Inv X pins σ H s) (t : Nat) : Inv X pins σ H { s with toks := t } := I.un (h' := s.heap) (t' := t) Un.refl I.hok
theorem Inv.kept {t' : Nat} (I : Inv X pins σ H s) (k : ∀ b u, s.heap.get? b = some u → h'.get? b = some u) : Inv X pins σ H { s with heap := h', toks := t' } := I.un (Un.kept k) (I.hok.kept k)
theorem Inv.laid {a : Addr} {o : HO} {t' : Nat} (I : Inv X pins σ H s) (k : ∀ b u, s.heap.get? b = some u → h'.get? b = some u) (hp : s.heap.objs.size ≤ a) (new : ObjOk X.prog X.w (upd H a o) h' a o) :
    Inv X pins σ (upd H a o) { s with heap := h', toks := t' } := I.un (Un.laid k hp (I.hok.fresh hp)) (I.hok.laid k hp new)
theorem Inv.write {x e : Addr} {o : HO} {t' : Nat} (I : Inv X pins σ H s) (mu : Mut (H x)) (he : e = x ∨ H e = some (.own x)) (k : ∀ b u, b ≠ e → s.heap.get? b = some u → h'.get? b = some u) (heo : ∃ u, h'.get? e = some u)
    (new : ObjOk X.prog X.w (upd H x o) h' x o) : Inv X pins σ (upd H x o) { s with heap := h', toks := t' } := I.un (Un.write mu he k heo) (I.hok.write mu he k heo new)
theorem Inv.weak {σ' : List (Option V)} (I : Inv X pins σ H s) (hl : σ'.length = σ.length) (w : ∀ (i : Nat) v, σ'[i]? = some (some v) → σ[i]? = some (some v)) : Inv X pins σ' H s :=
  ⟨I.ok, I.os, I.bare, I.base, let ⟨m, hn, hl'⟩ := I.loc; ⟨m, hn, fun i x v e1 e2 e3 => hl' i x v e1 (w i v e2) e3⟩, I.cell, I.free, I.freeC, I.pin, I.hok, hl.trans I.len⟩
theorem Inv.pins_of {pins' : List (Addr × Obj)} (I : Inv X pins σ H s) (h : ∀ p ∈ pins', s.heap.get? p.1 = some p.2 ∧ H p.1 = none ∧ p.1 ≠ X.env.locals ∧ p.1 ∉ X.fs ∧ ∀ v, p.2.data ≠ .cell v) : Inv X pins' σ H s :=
  ⟨I.ok, I.os, I.bare, I.base, I.loc, I.cell, I.free, I.freeC, fun p hp => (List.mem_append.mp hp).elim (fun z => I.pin p (List.mem_append_left _ z)) (h p), I.hok, I.len⟩

theorem nodup_ix {N : List Str} (hN : N.Nodup) {i j : Nat} {x : Str} (a : N[i]? = some x) (b : N[j]? = some x) : i = j := by
  obtain ⟨h1, e1⟩ := List.getElem?_eq_some_iff.mp a
  obtain ⟨h2, e2⟩ := List.getElem?_eq_some_iff.mp b
  exact (List.getElem_inj hN).mp (e1.trans e2.symm)

theorem store_ok2 {M : Model} {A : Around} {E : Value → Shared → Prop} {i : Nat} {x : Str} {v : V} {u : Value} {Q : Unit → Shared → Prop} (I : Inv X pins σ H s) (hN : X.N.Nodup) (hi : X.N[i]? = some x) (hx : Loc X.env.scope x) (r : RelV v u)
    (h : ∀ s', Inv X pins (σ.set i (some v)) H s' → (∃ a, Heap.SameBut a s.heap s'.heap ∧ (a = X.env.locals ∨ X.env.cells.lookup x = some a)) → Q () s') (hf : X.fn x = true ∨ X.env.scope.names.lookup x = some .local := by first | exact .inl rfl | exact .inr rfl | assumption) : wpAny M A (storeName X.env x u) Q E s := by
  obtain ⟨m, hn, hl⟩ := id I.loc
  have hcls : (X.env.scope.kind == .class || (X.env.scope.kind == .module && X.env.locals != X.env.globals)) = false := by rw [I.ok.kind]; rfl
  have hiσ : i < σ.length := by rw [I.len]; exact (List.getElem?_eq_some_iff.mp hi).1
  have cne := I.cne
  have tracked : ∀ {a : Addr} {h' : Heap}, (∃ o, s.heap.get? a = some o ∧ H a = none) → Heap.SameBut a s.heap h' → HOk X.prog X.w H h' := fun {a h'} ha hs b ob e => by
    obtain ⟨_, _, hfree⟩ := ha
    refine (I.hok b ob e).stay (fun c w' hc q => (hs.2 c ?_).trans q) (fun _ q => q) fun _ _ q => q
    rintro rfl
    rcases hc with rfl | hc
    · rw [hfree] at e; cases e
    · rw [hfree] at hc; cases hc
  rcases hx with hk | hk
  · refine wpAny_storeName_local hk hn (fun h' hn' hs => ?_) hcls
    obtain ⟨oL, _, _, hoL, _⟩ := id hn
    refine h _ ⟨I.ok, I.os, I.bare, ⟨fun b o e n hb hx => ?_, fun b o e n hb hx => ?_, I.base.free, fun b o e hx => ?_, I.base.tups, I.base.frzs, I.base.tbls⟩, ⟨_, hn', fun j y v' e1 e2 e3 => ?_⟩, fun y c e => ?_, I.free, I.freeC, fun p hp => ?_, tracked ⟨oL, hoL, I.free⟩ hs, by simpa using I.len⟩ ⟨_, hs, .inl rfl⟩
    · exact (hs.2 b (Nat.ne_of_lt (Nat.lt_of_lt_of_le (Heap.lt_size e) I.ok.above))).trans (I.base.keep b o e n hb hx)
    · obtain ⟨sl, e1⟩ := I.base.slot b o e n hb hx
      exact ⟨sl, (hs.2 b (Nat.ne_of_lt (Nat.lt_of_lt_of_le (Heap.lt_size e) I.ok.above))).trans e1⟩
    · obtain ⟨o', e1⟩ := I.base.there b o e hx
      exact ⟨o', (hs.2 b (Nat.ne_of_lt (Nat.lt_of_lt_of_le (Heap.lt_size e) I.ok.above))).trans e1⟩
    · by_cases hj : j = i
      · subst hj
        rw [hi] at e1; cases e1
        rw [List.getElem?_set_self hiσ] at e2
        cases e2
        exact ⟨u, r, .inl ⟨hk, by simp⟩⟩
      · rw [List.getElem?_set_ne (Ne.symm hj)] at e2
        obtain ⟨u', r', q⟩ := hl j y v' e1 e2 e3
        refine ⟨u', r', ?_⟩
        rcases q with ⟨k, e⟩ | ⟨k, c, e, z⟩
        · refine .inl ⟨k, ?_⟩
          have : y ≠ x := fun e => hj (nodup_ix hN e1 (e ▸ hi))
          simp [this, e]
        · exact .inr ⟨k, c, e, z.sameBut hs (cne y c e)⟩
    · obtain ⟨w', z⟩ := I.cell y c e
      exact ⟨w', z.sameBut hs (cne y c e)⟩
    · obtain ⟨e, n, ne, nf, d⟩ := I.pin p hp
      exact ⟨(hs.2 p.1 ne).trans e, n, ne, nf, d⟩
  · have hfn : X.fn x = true := by
      rcases hf with z | z
      · exact z
      · rw [z] at hk; cases hk
    obtain ⟨c, hc⟩ := I.ok.has x (.inl hk)
    obtain ⟨w', z⟩ := I.cell x c hc
    refine wpAny_storeName_cell I.ok.kind hk hc z (fun h' hc' hs => ?_)
    obtain ⟨oc, hoc, hocd⟩ := id z
    refine h { s with heap := h' } ⟨I.ok, I.os, I.bare, ⟨fun b o e n hb hx => ?_, fun b o e n hb hx => ?_, I.base.free, fun b o e hx => ?_, I.base.tups, I.base.frzs, I.base.tbls⟩, ⟨m, hn.sameBut hs (Ne.symm (cne x c hc)), fun j y v' e1 e2 e3 => ?_⟩, fun y c' e => ?_, I.free, I.freeC, fun p hp => ?_, tracked ⟨oc, hoc, I.freeC x c hc⟩ hs, by simpa using I.len⟩ ⟨c, hs, .inr hc⟩
    · exact (hs.2 b (Nat.ne_of_lt (Nat.lt_of_lt_of_le (Heap.lt_size e) (I.ok.cab x c hfn hc)))).trans (I.base.keep b o e n hb hx)
    · obtain ⟨sl, e1⟩ := I.base.slot b o e n hb hx
      exact ⟨sl, (hs.2 b (Nat.ne_of_lt (Nat.lt_of_lt_of_le (Heap.lt_size e) (I.ok.cab x c hfn hc)))).trans e1⟩
    · obtain ⟨o', e1⟩ := I.base.there b o e hx
      exact ⟨o', (hs.2 b (Nat.ne_of_lt (Nat.lt_of_lt_of_le (Heap.lt_size e) (I.ok.cab x c hfn hc)))).trans e1⟩
    · by_cases hj : j = i
      · subst hj
        rw [hi] at e1; cases e1
        rw [List.getElem?_set_self hiσ] at e2
        cases e2
        exact ⟨u, r, .inr ⟨.inl hk, c, hc, hc'⟩⟩
      · rw [List.getElem?_set_ne (Ne.symm hj)] at e2
        obtain ⟨u', r', q⟩ := hl j y v' e1 e2 e3
        refine ⟨u', r', ?_⟩
        rcases q with q | ⟨k, c', e, z'⟩
        · exact .inl q
        · refine .inr ⟨k, c', e, z'.sameBut hs ?_⟩
          rintro rfl
          exact hj (nodup_ix hN e1 (I.ok.inj _ _ _ e hc ▸ hi))
    · by_cases hcc : c' = c
      · subst hcc; exact ⟨_, hc'⟩
      · obtain ⟨w2, z2⟩ := I.cell y c' e
        exact ⟨w2, z2.sameBut hs hcc⟩
    · obtain ⟨e, n, ne, nf, d⟩ := I.pin p hp
      refine ⟨(hs.2 p.1 ?_).trans e, n, ne, nf, d⟩
      intro q
      rw [q, hoc] at e
      have q' : oc = p.2 := Option.some.inj e
      exact d w' (by rw [← q']; exact hocd)
theorem store_ok {M : Model} {A : Around} {E : Value → Shared → Prop} {i : Nat} {x : Str} {v : V} {u : Value} {Q : Unit → Shared → Prop} (I : Inv X pins σ H s) (hN : X.N.Nodup) (hi : X.N[i]? = some x) (hx : Loc X.env.scope x) (r : RelV v u)
    (h : ∀ s', Inv X pins (σ.set i (some v)) H s' → Q () s') (hf : X.fn x = true ∨ X.env.scope.names.lookup x = some .local := by first | exact .inl rfl | exact .inr rfl | assumption) : wpAny M A (storeName X.env x u) Q E s :=
  store_ok2 I hN hi hx r (fun s' I' _ => h s' I') hf
theorem Inv.call' {s' : Shared} {ch : List Addr} (I : Inv X pins σ H s) (ho : s'.os = s.os) (u : Un (frs X.stack) ch H H' s.heap s'.heap) (hok : HOk X.prog X.w H' s'.heap) (hg : AllBare s'.gens)
    (hch : ∀ b ∈ ch, (b ∈ X.ex ∨ X.s₀.heap.objs.size ≤ b) ∧ b ≠ X.env.locals ∧ (∀ x c, X.env.cells.lookup x = some c → c ≠ b) ∧ ∀ p ∈ X.pn ++ pins, p.1 ≠ b) : Inv X pins σ H' s' := by
  obtain ⟨h', g', d', t', o'⟩ := s'
  have e : o' = s.os := ho
  subst e
  exact I.call (g' := g') (t' := t') (d' := d') u hok hg hch
end

abbrev XK := Value → Option Addr → Hp → Prop
abbrev St := List (Option V)
abbrev VK := V → Hp → Prop
abbrev TE := St → Hp → VK → Prop
abbrev TT := St → Hp → (Bool → Hp → Prop) → Prop
abbrev TA := St → Hp → (List V → Hp → Prop) → Prop
structure Ends where
  nx : St → Hp → Prop
  rt : VK
  bk : St → Hp → Prop := fun _ _ => False
  ct : St → Hp → Prop := fun _ _ => False
abbrev TS := Ends → St → Hp → Prop

def EP (X : Cx) (pins : List (Addr × Obj)) (σ : St) (Q : VK) (u : Value) (s' : Shared) : Prop := ∃ v H', Inv X pins σ H' s' ∧ RelV v u ∧ Q v H'
def TP (X : Cx) (pins : List (Addr × Obj)) (σ : St) (Q : Bool → Hp → Prop) (b : Bool) (s' : Shared) : Prop := ∃ H', Inv X pins σ H' s' ∧ Q b H'
def AP (X : Cx) (pins : List (Addr × Obj)) (σ : St) (Q : List V → Hp → Prop) (us : List Value) (s' : Shared) : Prop := ∃ vs H', Inv X pins σ H' s' ∧ Vals vs us ∧ Q vs H'
def SP (X : Cx) (pins : List (Addr × Obj)) (D : Ends) (f : Flow) (s' : Shared) : Prop :=
  match f with
  | .next => ∃ σ' H', Inv X pins σ' H' s' ∧ D.nx σ' H'
  | .brk => ∃ σ' H', Inv X pins σ' H' s' ∧ D.bk σ' H'
  | .cont => ∃ σ' H', Inv X pins σ' H' s' ∧ D.ct σ' H'
  | .ret u => ∃ v σ' H', Inv X pins σ' H' s' ∧ RelV v u ∧ D.rt v H'

def PE (X : Cx) (e : Expr) (t : TE) : Prop :=
  ∀ (pins : List (Addr × Obj)) (s : Shared) (σ : St) (H : Hp) (Q : VK), Inv X pins σ H s → t σ H Q → wpAny (model X.prog X.w) X.A (eval e X.env) (EP X pins σ Q) X.xe s
def PT (X : Cx) (e : Expr) (t : TT) : Prop :=
  ∀ (pins : List (Addr × Obj)) (s : Shared) (σ : St) (H : Hp) (Q : Bool → Hp → Prop), Inv X pins σ H s → t σ H Q → wpAny (model X.prog X.w) X.A (isTrue e X.env (eval e X.env)) (TP X pins σ Q) X.xe s
def PW (X : Cx) (e : Expr) (t : TT) : Prop :=
  ∀ (whole : Sem Value) (pins : List (Addr × Obj)) (s : Shared) (σ : St) (H : Hp) (Q : Bool → Hp → Prop), Inv X pins σ H s → t σ H Q → wpAny (model X.prog X.w) X.A (isTrue e X.env whole) (TP X pins σ Q) X.xe s
theorem PW.pt {X : Cx} {e : Expr} {t : TT} (h : PW X e t) : PT X e t := h _
def PA (X : Cx) (es : List Expr) (t : TA) : Prop :=
  ∀ (pos : Pos) (pins : List (Addr × Obj)) (s : Shared) (σ : St) (H : Hp) (Q : List V → Hp → Prop), Inv X pins σ H s → t σ H Q → wpAny (model X.prog X.w) X.A (spliced (backTo pos (starEach es X.env))) (AP X pins σ Q) X.xe s
def PS (X : Cx) (st : Stmt) (t : TS) : Prop :=
  ∀ (pins : List (Addr × Obj)) (s : Shared) (σ : St) (H : Hp) (D : Ends), Inv X pins σ H s → t D σ H → wpAny (model X.prog X.w) X.A (exec st X.env) (SP X pins D) X.xe s
def PSs (X : Cx) (st : List Stmt) (t : TS) : Prop :=
  ∀ (pins : List (Addr × Obj)) (s : Shared) (σ : St) (H : Hp) (D : Ends), Inv X pins σ H s → t D σ H → wpAny (model X.prog X.w) X.A (execs st X.env) (SP X pins D) X.xe s
theorem thn {α : Type} {t : Sem α} {Q Q' : α → Shared → Prop} {M : Model} {A : Around} {E : Value → Shared → Prop} {s : Shared} (h : wpAny M A t Q E s) (hQ : ∀ a s, Q a s → Q' a s) : wpAny M A t Q' E s := wpAny_mono h hQ fun _ _ x => x
end L2

namespace L2
open PySem PySem.Spec PyProof.Rows
section
variable {X : Cx}

def tVar (i : Nat) : TE := fun σ H Q => ∃ v, σ[i]? = some (some v) ∧ Q v H
def tC (v : V) : TE := fun _ H Q => Q v H
theorem pe_var {i : Nat} {x : Str} {pos : Pos} (hN : X.N[i]? = some x) (hv : Vis X.env.scope x) (hd : (x == ("__debug__" : Str)) = false := by decide) (hcd : (x == ("__classdict__" : Str)) = false := by decide) : PE X (.Name x pos) (tVar i) := by
  intro pins s σ H Q I h
  obtain ⟨v, e, h⟩ := h
  obtain ⟨m, hn, hl⟩ := I.loc
  obtain ⟨u, r, l⟩ := hl i x v hN e hv
  have fin : EP X pins σ Q u s := ⟨v, H, I, r, h⟩
  rcases l with ⟨hk, hm⟩ | ⟨hk, c, hc, hcell⟩
  · exact wpAny_Name (wpAny_loadName_local I.ok.kind hk hn hm fin) hd
  · rcases hk with hk | hk
    · exact wpAny_Name (wpAny_loadName_cell I.ok.kind hk hc hcell fin) hd
    · exact wpAny_Name (wpAny_loadName_free I.ok.kind hk hc hcell fin hcd) hd
theorem pe_int {i j pos} : PE X (.Constant (.int i) j pos) (tC (.int i)) := fun _ _ _ H _ I h => wpAny_Constant_int ⟨.int i, H, I.tok _, ⟨_, rfl⟩, h⟩
theorem pe_bl {b j pos} : PE X (.Constant (.bool b) j pos) (tC (.bl b)) := fun _ _ _ H _ I h => Constant_bool ⟨.bl b, H, I, rfl, h⟩
theorem pe_non {j pos} : PE X (.Constant .none j pos) (tC .non) := fun _ _ _ H _ I h => Constant_none ⟨.non, H, I, rfl, h⟩
theorem pe_str {x j pos} : PE X (.Constant (.str x) j pos) (tC (.str x)) := fun _ _ _ H _ I h => Calls.Constant_str ⟨.str x, H, I.tok _, ⟨_, rfl⟩, h⟩

def Gl (X : Cx) (x : Str) : Prop := X.env.kindOf x = some .globalImplicit
theorem ld_glob {E : Value → Shared → Prop} {pins : List (Addr × Obj)} {s : Shared} {σ : St} {H : Hp} {x : Str} {u : Value} {pos : Pos} {Q : Value → Shared → Prop} (I : Inv X pins σ H s) (hg : Gl X x) (hm : X.mg x = some u) (h : Q u s)
    (hd : (x == ("__debug__" : Str)) = false := by decide) : wpAny (model X.prog X.w) X.A (eval (.Name x pos) X.env) Q E s :=
  Calls.Name_function_global I.ok.kind hg (Calls.loadGlobal_global (by rw [I.ok.glob]; exact I.mod.glob.keeps I.bk) hm h) hd
theorem ld_blt {E : Value → Shared → Prop} {pins : List (Addr × Obj)} {s : Shared} {σ : St} {H : Hp} {x : Str} {u : Value} {pos : Pos} {Q : Value → Shared → Prop} (I : Inv X pins σ H s) (hg : Gl X x) (hm : X.mg x = none) (hv : bootBuiltins x = some u) (h : Q u s)
    (hn : x ≠ "__name__" := by decide) (hd : (x == ("__debug__" : Str)) = false := by decide) : wpAny (model X.prog X.w) X.A (eval (.Name x pos) X.env) Q E s := by
  obtain ⟨mb, h1, h2⟩ := I.mod.blt
  exact Calls.Name_function_global I.ok.kind hg (Calls.loadGlobal_builtin (by rw [I.ok.glob]; exact I.mod.glob.keeps I.bk) hm (by rw [I.ok.blt]; exact h1.keeps I.bk) ((h2 x hn).trans hv) h) hd
theorem pe_glob {x : Str} {v : V} {u : Value} {pos : Pos} (hg : Gl X x) (hm : X.mg x = some u) (r : RelV v u) (hd : (x == ("__debug__" : Str)) = false := by decide) : PE X (.Name x pos) (tC v) :=
  fun _ _ _ H _ I h => ld_glob I hg hm ⟨v, H, I, r, h⟩ hd
theorem pe_bltn {x : Str} {v : V} {u : Value} {pos : Pos} (hg : Gl X x) (hm : X.mg x = none) (hv : bootBuiltins x = some u) (r : RelV v u) (hn : x ≠ "__name__" := by decide) (hd : (x == ("__debug__" : Str)) = false := by decide) : PE X (.Name x pos) (tC v) :=
  fun _ _ _ H _ I h => ld_blt I hg hm hv ⟨v, H, I, r, h⟩ hn hd

variable {a b : Expr} {ta tb : TE} {pos : Pos}
def PC (X : Cx) (op : CmpOp) (a b : Expr) (t : TE) : Prop :=
  ∀ (pins : List (Addr × Obj)) (s : Shared) (σ : St) (H : Hp) (Q : VK), Inv X pins σ H s → t σ H Q →
    wpAny (model X.prog X.w) X.A (eval a X.env) (fun v s₁ => wpAny (model X.prog X.w) X.A (eval b X.env) (fun u s₂ => wpAny (model X.prog X.w) X.A (compareOp op v u) (EP X pins σ Q) X.xe s₂) X.xe s₁) X.xe s
def tB (t : TE) : TT := fun σ H Q => t σ H fun x H1 => ∃ c, x = .bl c ∧ Q c H1
theorem pt_val {e : Expr} {t : TE} (h : PE X e t) (he : ∀ whole, isTrue e X.env whole = (do let v ← whole; standAt e.pos; holding [v] (truthy v)) := by intro _; rfl) : PT X e (tB t) := by
  intro pins s σ H Q I hw
  refine isTrue_plain (thn (h pins s σ H _ I hw) fun v s1 ⟨x, H1, I1, r1, q1⟩ => ?_) (he _)
  obtain ⟨d, rfl, q⟩ := q1
  cases r1
  exact wpAny_truthy_bool ⟨H1, I1, q⟩

variable {tA tB' : TT} {rest : List Expr}
def tAnd (t u : TT) : TT := fun σ H Q => t σ H fun c H1 => if c = true then u σ H1 Q else Q false H1
def tOr (t u : TT) : TT := fun σ H Q => t σ H fun c H1 => if c = true then Q true H1 else u σ H1 Q
def tNot (t : TT) : TT := fun σ H Q => t σ H fun c H1 => Q (!c) H1
theorem pw_and1 (ha : PT X a tA) : PW X (.BoolOp .And [a] pos) tA := by
  intro wh pins s σ H Q I h
  refine isTrue_and (thn (ha pins s σ H Q I h) fun c s1 e => ?_)
  cases c with
  | true => exact isTrue_and_nil e
  | false => exact e
theorem pw_or1 (ha : PT X a tA) : PW X (.BoolOp .Or [a] pos) tA := by
  intro wh pins s σ H Q I h
  refine isTrue_or (thn (ha pins s σ H Q I h) fun c s1 e => ?_)
  cases c with
  | false => exact isTrue_or_nil e
  | true => exact e
theorem pw_and (ha : PT X a tA) (hb : PW X (.BoolOp .And (b :: rest) pos) tB') : PW X (.BoolOp .And (a :: b :: rest) pos) (tAnd tA tB') := by
  intro wh pins s σ H Q I h
  refine isTrue_and (thn (ha pins s σ H _ I h) fun c s1 ⟨H1, I1, q1⟩ => ?_)
  cases c with
  | true => exact hb wh pins s1 σ H1 Q I1 q1
  | false => exact ⟨H1, I1, q1⟩
theorem pw_or (ha : PT X a tA) (hb : PW X (.BoolOp .Or (b :: rest) pos) tB') : PW X (.BoolOp .Or (a :: b :: rest) pos) (tOr tA tB') := by
  intro wh pins s σ H Q I h
  refine isTrue_or (thn (ha pins s σ H _ I h) fun c s1 ⟨H1, I1, q1⟩ => ?_)
  cases c with
  | true => exact ⟨H1, I1, q1⟩
  | false => exact hb wh pins s1 σ H1 Q I1 q1
theorem pt_not (ha : PT X a tA) : PT X (.UnaryOp .Not a pos) (tNot tA) := by
  intro pins s σ H Q I h
  exact isTrue_not (ha pins s σ H (fun c H1 => Q (!c) H1) I h)
def tAndV (ta tb : TE) : TE := fun σ H Q => ta σ H fun x H1 => ∃ c, x = .bl c ∧ if c = true then tb σ H1 Q else Q (.bl false) H1
def tNotV (ta : TE) : TE := fun σ H Q => ta σ H fun x H1 => ∃ c, x = .bl c ∧ Q (.bl (!c)) H1
theorem pe_one {op} {t : TE} (h : PE X a t) : PE X (.BoolOp op [a] pos) t := fun pins s σ H Q I hw => BoolOp_one (h pins s σ H Q I hw)
theorem pe_and (ha : PE X a ta) (hb : PE X (.BoolOp .And (b :: rest) pos) tb) : PE X (.BoolOp .And (a :: b :: rest) pos) (tAndV ta tb) := by
  intro pins s σ H Q I h
  refine BoolOp_and (thn (ha pins s σ H _ I h) fun v s1 ⟨x, H1, I1, r1, q1⟩ => ?_)
  obtain ⟨c, rfl, q1⟩ := q1
  cases r1
  refine wpAny_truthy_bool ?_
  cases c with
  | true => exact hb pins s1 σ H1 Q I1 q1
  | false => exact ⟨.bl false, H1, I1, rfl, q1⟩
theorem pe_not (ha : PE X a ta) : PE X (.UnaryOp .Not a pos) (tNotV ta) := by
  intro pins s σ H Q I h
  refine UnaryOp_ (thn (ha pins s σ H _ I h) fun v s1 ⟨x, H1, I1, r1, q1⟩ => ?_)
  obtain ⟨c, rfl, q1⟩ := q1
  cases r1
  exact not_of (wpAny_truthy_bool ⟨.bl (!c), H1, I1, rfl, q1⟩)
def tIf (t : TT) (ta tb : TE) : TE := fun σ H Q => t σ H fun c H1 => if c = true then ta σ H1 Q else tb σ H1 Q
theorem pe_ifExp {c : Expr} (hc : PT X c tA) (ha : PE X a ta) (hb : PE X b tb) : PE X (.IfExp c a b pos) (tIf tA ta tb) := by
  intro pins s σ H Q I h
  refine wpAny_IfExp (thn (hc pins s σ H _ I h) fun d s1 ⟨H1, I1, q1⟩ => ?_)
  cases d with
  | true => exact ha pins s1 σ H1 Q I1 q1
  | false => exact hb pins s1 σ H1 Q I1 q1
end
end L2

namespace L2
open PySem PySem.Spec PyProof.Rows

def SqL (K : PySem.W.Frag) (H : Hp) (a : Addr) (xs : List V) : Prop :=
  Rd H a (.lst xs) ∨
    ∃ (o : Obj) (its : Array Value) (n : Nat), K.lookup a = some o ∧ o.cls = .type "list" ∧ o.dict = none ∧ o.data = .seq its n ∧ its.size ≤ sizeLine ∧ Vals xs its.toList
def SqT (K : PySem.W.Frag) (H : Hp) (a : Addr) (xs : List V) : Prop :=
  Rd H a (.tup xs) ∨
    ∃ (o : Obj) (its : Array Value) (n : Nat), K.lookup a = some o ∧ o.cls = .type "tuple" ∧ o.data = .seq its n ∧ its.size ≤ sizeLine ∧ Vals xs its.toList
def absV : Value → Option V
  | .none => some .non
  | .bool b => some (.bl b)
  | .int i _ => some (.int i)
  | .str x _ => some (.str x)
  | .bytes b _ => some (.byt b)
  | .float b _ => some (.flt b)
  | .ref a => some (.ref a)
  | .type n => some (.ty n)
  | _ => none
theorem RelV.abs {x : V} {u : Value} (r : RelV x u) : absV u = some x := by
  cases x with
  | non => cases r; rfl
  | bl _ => cases r; rfl
  | int _ => obtain ⟨t, rfl⟩ := r; rfl
  | str _ => obtain ⟨t, rfl⟩ := r; rfl
  | byt _ => obtain ⟨t, rfl⟩ := r; rfl
  | flt _ => obtain ⟨t, rfl⟩ := r; rfl
  | ref _ => cases r; rfl
  | ty _ => cases r; rfl
theorem RelV.inj {x y : V} {u : Value} (r : RelV x u) (q : RelV y u) : x = y := Option.some.inj (r.abs.symm.trans q.abs)
theorem Vals.inj : ∀ {xs ys : List V} {us : List Value}, Vals xs us → Vals ys us → xs = ys
  | _, _, _, .nil, .nil => rfl
  | _, _, _, .cons r t, .cons r' t' => by rw [r.inj r', Vals.inj t t']
section
variable {X : Cx} {pins : List (Addr × Obj)} {σ : St} {H : Hp} {s : Shared} {a : Addr} {xs ys : List V}
theorem SqL.of {K : PySem.W.Frag} (h : H a = some (.lst xs)) : SqL K H a xs := .inl (.inl h)
theorem SqT.of {K : PySem.W.Frag} (h : H a = some (.tup xs)) : SqT K H a xs := .inl (.inl h)
theorem Inv.list (I : Inv X pins σ H s) (h : SqL X.K H a xs) : ∃ its : List Value, Vals xs its ∧ PlainL s.heap a its.toArray ∧ xs.length ≤ sizeLine := by
  rcases h with h | ⟨o, its, n, hk, hc, hd, hs, hz, r⟩
  · obtain ⟨z, its, n, r, e⟩ := h.ok I.hok
    exact ⟨its, r, ⟨_, n, e, rfl, rfl, rfl⟩, z⟩
  · refine ⟨its.toList, r, ⟨o, n, I.kIn a o hk, hc, hd, by simpa using hs⟩, ?_⟩
    have e := r.length
    simp only [Array.length_toList] at e
    omega
theorem Inv.tuple (I : Inv X pins σ H s) (h : SqT X.K H a xs) : ∃ its : List Value, Vals xs its ∧ IsTup s.heap a its.toArray ∧ xs.length ≤ sizeLine := by
  rcases h with h | ⟨o, its, n, hk, hc, hs, hz, r⟩
  · obtain ⟨z, its, r, p⟩ := h.ok I.hok
    exact ⟨its, r, p, z⟩
  · refine ⟨its.toList, r, ⟨o, I.kIn a o hk, hc, n, by simpa using hs⟩, ?_⟩
    have e := r.length
    simp only [Array.length_toList] at e
    omega
theorem Inv.list_inj (I : Inv X pins σ H s) (h : SqL X.K H a xs) (h' : SqL X.K H a ys) : xs = ys := by
  obtain ⟨its, r, ⟨o, n, e, _, _, d⟩, _⟩ := I.list h
  obtain ⟨its', r', ⟨o', n', e', _, _, d'⟩, _⟩ := I.list h'
  rw [e] at e'; cases e'
  rw [d] at d'
  injection d' with d1 _
  have : its = its' := by simpa using congrArg Array.toList d1
  subst this
  exact r.inj r'
theorem Inv.tuple_inj (I : Inv X pins σ H s) (h : SqT X.K H a xs) (h' : SqT X.K H a ys) : xs = ys := by
  obtain ⟨its, r, ⟨o, e, _, n, d⟩, _⟩ := I.tuple h
  obtain ⟨its', r', ⟨o', e', _, n', d'⟩, _⟩ := I.tuple h'
  rw [e] at e'; cases e'
  rw [d] at d'
  injection d' with d1 _
  have : its = its' := by simpa using congrArg Array.toList d1
  subst this
  exact r.inj r'
end

abbrev Cx.wish (X : Cx) (E : Value → Shared → Prop) : Cx := { X with xe := E }
abbrev Cx.nox (X : Cx) : Cx := X.wish fun _ _ => False
theorem Cx.Ok.wish {X : Cx} (ok : X.Ok) (E : Value → Shared → Prop) : (X.wish E).Ok :=
  ⟨ok.mod, ok.kind, ok.glob, ok.blt, ok.above, ok.inj, ok.has, ok.cab, ok.hd, ok.frames, ok.stk, ok.exf, ok.bs, ok.bsz, ok.noex, ok.exfs, ok.funs, ok.frf⟩
theorem Cx.Ok.unwish {X : Cx} {E : Value → Shared → Prop} (ok : (X.wish E).Ok) : X.Ok :=
  ⟨ok.mod, ok.kind, ok.glob, ok.blt, ok.above, ok.inj, ok.has, ok.cab, ok.hd, ok.frames, ok.stk, ok.exf, ok.bs, ok.bsz, ok.noex, ok.exfs, ok.funs, ok.frf⟩
section
variable {X : Cx} {pins : List (Addr × Obj)} {σ : St} {H : Hp} {s : Shared} {E : Value → Shared → Prop}
theorem Inv.wish (I : Inv X pins σ H s) (E : Value → Shared → Prop) : Inv (X.wish E) pins σ H s := ⟨I.ok.wish E, I.os, I.bare, I.base, I.loc, I.cell, I.free, I.freeC, I.pin, I.hok, I.len⟩
theorem Inv.unwish (I : Inv (X.wish E) pins σ H s) : Inv X pins σ H s := ⟨I.ok.unwish, I.os, I.bare, I.base, I.loc, I.cell, I.free, I.freeC, I.pin, I.hok, I.len⟩
theorem SP.unwish {D : Ends} {f : Flow} {s' : Shared} (h : SP (X.wish E) pins D f s') : SP X pins D f s' := by
  cases f with
  | next => obtain ⟨σ', H', I, q⟩ := h; exact ⟨σ', H', I.unwish, q⟩
  | brk => obtain ⟨σ', H', I, q⟩ := h; exact ⟨σ', H', I.unwish, q⟩
  | cont => obtain ⟨σ', H', I, q⟩ := h; exact ⟨σ', H', I.unwish, q⟩
  | ret u => obtain ⟨v, σ', H', I, r, q⟩ := h; exact ⟨v, σ', H', I.unwish, r, q⟩
theorem PSs.nox {st : List Stmt} {t : TS} (h : PSs X.nox st t) : PSs X st t := fun pins s σ H D I hw =>
  wpAny_mono (h pins s σ H D (I.wish _) hw) (fun _ _ q => q.unwish) fun _ _ z => False.elim z
end

section
variable {X : Cx} {st : Stmt} {rest : List Stmt} {t u : TS} {e : Expr} {te : TE} {pos : Pos}
def tNext : TS := fun D σ H => D.nx σ H
def tSeq (t u : TS) : TS := fun D σ H => t { D with nx := u D } σ H
theorem pss_nil : PSs X [] tNext := fun _ _ σ H _ I h => wpAny_execs_nil ⟨σ, H, I, h⟩
theorem pss_cons (h1 : PS X st t) (h2 : PSs X rest u) : PSs X (st :: rest) (tSeq t u) := by
  intro pins s σ H D I h
  refine wpAny_execs_cons (thn (h1 pins s σ H { D with nx := u D } I h) fun f s1 q => ?_)
  cases f with
  | next =>
    obtain ⟨σ', H', I', q⟩ := q
    exact h2 pins s1 σ' H' D I' q
  | ret v => exact q
  | brk => exact q
  | cont => exact q
theorem pss_one (h1 : PS X st t) : PSs X [st] t := by
  intro pins s σ H D I h
  refine wpAny_execs_cons (thn (h1 pins s σ H D I h) fun f s1 q => ?_)
  cases f with
  | next => exact wpAny_execs_nil q
  | ret v => exact q
  | brk => exact q
  | cont => exact q
theorem Inv.quiet {pins : List (Addr × Obj)} {σ : St} {H : Hp} {s : Shared} (I : Inv X pins σ H s) : interactive X.env = false := by simp [interactive, I.ok.kind]
def tDrop (te : TE) : TS := fun D σ H => te σ H fun _ H1 => D.nx σ H1
theorem ps_expr (he : PE X e te) (hs : swapsWith e none pos.line X.env = pure false := by rfl) : PS X (.Expr e pos) (tDrop te) := by
  intro pins s σ H D I h
  exact wpAny_Expr_any (thn (he pins s σ H _ I h) fun v s1 ⟨x, H1, I1, r1, q1⟩ => ⟨σ, H1, I1, q1⟩) I.quiet hs
def tRet (te : TE) : TS := fun D σ H => te σ H D.rt
theorem ps_ret (he : PE X e te) : PS X (.Return (some e) pos) (tRet te) := by
  intro pins s σ H D I h
  exact wpAny_Return_some (thn (he pins s σ H _ I h) fun v s1 ⟨x, H1, I1, r1, q1⟩ => ⟨x, σ, H1, I1, r1, q1⟩)
def tIfS (c : TT) (t u : TS) : TS := fun D σ H => c σ H fun b H1 => if b = true then t D σ H1 else u D σ H1
theorem ps_if {c : Expr} {a b : List Stmt} {tc : TT} (hc : PT X c tc) (ha : PSs X a t) (hb : PSs X b u) : PS X (.If c a b pos) (tIfS tc t u) := by
  intro pins s σ H D I h
  refine wpAny_If (thn (hc pins s σ H _ I h) fun d s1 ⟨H1, I1, q1⟩ => ?_)
  cases d with
  | true => exact ha pins s1 σ H1 D I1 q1
  | false => exact hb pins s1 σ H1 D I1 q1
def tNever : TS := fun _ _ _ => False
theorem ps_never : PS X st tNever := fun _ _ _ _ _ _ h => h.elim
end

abbrev TG := V → St → Hp → (St → Hp → Prop) → Prop
abbrev TGs := List V → St → Hp → (St → Hp → Prop) → Prop
def PG (X : Cx) (target : Expr) (t : TG) : Prop :=
  ∀ (pins : List (Addr × Obj)) (s : Shared) (σ : St) (H : Hp) (v : V) (u : Value) (Q : St → Hp → Prop), Inv X pins σ H s → RelV v u → t v σ H Q →
    wpAny (model X.prog X.w) X.A (assign target X.env u) (fun _ s' => ∃ σ' H', Inv X pins σ' H' s' ∧ Q σ' H') X.xe s
def PGs (X : Cx) (ts : List Expr) (t : TGs) : Prop :=
  ∀ (pins : List (Addr × Obj)) (s : Shared) (σ : St) (H : Hp) (vs : List V) (us : List Value) (Q : St → Hp → Prop), Inv X pins σ H s → Vals vs us → t vs σ H Q →
    wpAny (model X.prog X.w) X.A (assignInOrder ((assignEach ts X.env).map (·.2)) us) (fun _ s' => ∃ σ' H', Inv X pins σ' H' s' ∧ Q σ' H') X.xe s
abbrev TSet := V → V → V → Hp → (Hp → Prop) → Prop
def PSet (X : Cx) (t : TSet) : Prop :=
  ∀ (pins : List (Addr × Obj)) (s : Shared) (σ : St) (H : Hp) (o i v : V) (ov iv u : Value) (Q : Hp → Prop), Inv X pins σ H s → RelV o ov → RelV i iv → RelV v u → t o i v H Q →
    wpAny (model X.prog X.w) X.A (setItem ov iv u) (fun _ s' => ∃ H', Inv X pins σ H' s' ∧ Q H') X.xe s
abbrev TIp := V → V → Hp → VK → Prop
def PIp (X : Cx) (op : Operator) (t : TIp) : Prop :=
  ∀ (pins : List (Addr × Obj)) (s : Shared) (σ : St) (H : Hp) (x y : V) (v u : Value) (Q : VK), Inv X pins σ H s → RelV x v → RelV y u → t x y H Q →
    wpAny (model X.prog X.w) X.A (inplaceOp op v u) (EP X pins σ Q) X.xe s
section
variable {X : Cx} {pos : Pos}
def gName (i : Nat) : TG := fun v σ H Q => Q (σ.set i (some v)) H
theorem pg_name {i : Nat} {x : Str} (hN : X.N.Nodup) (hi : X.N[i]? = some x) (hx : Loc X.env.scope x) (hf : X.fn x = true ∨ X.env.scope.names.lookup x = some .local := by first | exact .inl rfl | exact .inr rfl | assumption) : PG X (.Name x pos) (gName i) := by
  intro pins s σ H v u Q I r h
  exact wpAny_assign_Name (store_ok I hN hi hx r (fun s' I' => ⟨_, H, I', h⟩) hf)
def gNil : TGs := fun vs σ H Q => vs = [] ∧ Q σ H
def gCons (t : TG) (u : TGs) : TGs := fun vs σ H Q => ∃ v r, vs = v :: r ∧ t v σ H fun σ' H' => u r σ' H' Q
theorem pgs_nil : PGs X [] gNil := by
  intro pins s σ H vs us Q I r h
  obtain ⟨e, h⟩ := h
  subst e
  cases r
  exact assignInOrder_nil ⟨σ, H, I, h⟩
theorem pgs_cons {e : Expr} {es : List Expr} {t : TG} {u : TGs} (h1 : PG X e t) (h2 : PGs X es u)
    (hs : (assignEach (e :: es) X.env).map (·.2) = assign e X.env :: (assignEach es X.env).map (·.2) := by rfl) : PGs X (e :: es) (gCons t u) := by
  intro pins s σ H vs us Q I r h
  obtain ⟨v, vr, e1, h⟩ := h
  subst e1
  cases r with
  | cons r rr =>
    rw [hs]
    refine assignInOrder_cons (thn (h1 pins s σ H _ _ _ I r h) fun _ s1 ⟨σ1, H1, I1, q1⟩ => ?_)
    exact h2 pins s1 σ1 H1 _ _ Q I1 rr q1
def gTup (K : PySem.W.Frag) (n : Nat) (t : TGs) : TG := fun v σ H Q => ∃ a xs, v = .ref a ∧ SqT K H a xs ∧ xs.length = n ∧ t xs σ H Q
theorem pg_tup {es : List Expr} {k : Nat} {t : TGs} {n : Nat} (hc : X.calm = true) (h : PGs X es t)
    (hn : (assignEach es X.env).length = n := by rfl) (hst : (assignEach es X.env).findIdx? (·.1) = none := by rfl) : PG X (.Tuple es k pos) (gTup X.K n t) := by
  intro pins s σ H v u Q I r hw
  obtain ⟨a, xs, e1, hq, hl, hw⟩ := hw
  subst e1
  cases r
  obtain ⟨its, rv, ht, hz⟩ := I.tuple hq
  refine assign_Tuple_tuple (I.ok.hd hc) ht (by simp [hn, ← hl, rv.length]) hst fun h' hx => ?_
  have I1 : Inv X pins σ H { s with heap := h' } := I.kept (t' := s.toks) fun b o e => hx b o (Nat.ne_of_lt (Heap.lt_size e)) e
  exact h pins _ σ H xs _ Q I1 (by simpa using rv) hw
def gSub (to ti : TE) (t : TSet) : TG := fun v σ H Q => to σ H fun o H1 => ti σ H1 fun i H2 => t o i v H2 fun H3 => Q σ H3
theorem pg_sub {o i : Expr} {to ti : TE} {t : TSet} (ho : PE X o to) (hi : PE X i ti) (hs : PSet X t)
    (ha : ∀ v, assign (.Subscript o i pos) X.env v = (do
      let ov ← holding [v] (eval o X.env)
      let iv ← holding [v, ov] (eval i X.env)
      standAt pos
      holding [v, ov, iv] (setItem ov iv v)
      release [v, ov, iv] []) := by intro _; rfl) : PG X (.Subscript o i pos) (gSub to ti t) := by
  intro pins s σ H v u Q I r h
  rw [ha]
  refine wpAny_bind (wpAny_holding (thn (ho pins s σ H _ I h) fun ov s1 ⟨x, H1, I1, r1, q1⟩ => ?_))
  refine wpAny_bind (wpAny_holding (thn (hi pins s1 σ H1 _ I1 q1) fun iv s2 ⟨y, H2, I2, r2, q2⟩ => ?_))
  refine wpAny_bind (wpAny_standAt (wpAny_bind (wpAny_holding (thn (hs pins s2 σ H2 x y v ov iv u _ I2 r1 r2 r q2) fun _ s3 ⟨H3, I3, q3⟩ => ?_))))
  exact wpAny_release ⟨σ, H3, I3, q3⟩
def tAsg (te : TE) (g : TG) : TS := fun D σ H => te σ H fun x H1 => g x σ H1 D.nx
theorem ps_asg {tg e : Expr} {te : TE} {g : TG} (he : PE X e te) (hg : PG X tg g) (hs : swapsWithSole [tg] e pos.line X.env = pure false := by rfl) (hw : swappedStores [tg] e X.env = pure none := by rfl)
    (h1 : (assignEach [tg] X.env).map (·.2) = [assign tg X.env] := by rfl) : PS X (.Assign [tg] e pos) (tAsg te g) := by
  intro pins s σ H D I h
  refine wpAny_Assign_stores (thn (he pins s σ H _ I h) fun v s1 ⟨x, H1, I1, r1, q1⟩ => ?_) hs hw
  rw [h1]
  exact thn (hg pins s1 σ H1 x v _ I1 r1 q1) fun _ s2 q => q
theorem ps_set {i : Nat} {x : Str} {e : Expr} {te : TE} {pos' : Pos} (hN : X.N.Nodup) (hi : X.N[i]? = some x) (hx : Loc X.env.scope x) (he : PE X e te) (hs : swapsWith e (some (.Name x pos')) pos.line X.env = pure false := by rfl) (hf : X.fn x = true ∨ X.env.scope.names.lookup x = some .local := by first | exact .inl rfl | exact .inr rfl | assumption) :
    PS X (.Assign [.Name x pos'] e pos) (tAsg te (gName i)) := by
  intro pins s σ H D I h
  refine wpAny_Assign_Name (thn (he pins s σ H _ I h) fun v s1 ⟨y, H1, I1, r1, q1⟩ => ?_) hs
  exact store_ok I1 hN hi hx r1 (fun s2 I2 => ⟨_, H1, I2, q1⟩) hf
def tPar (i j : Nat) (ta : TA) : TS := fun D σ H => ta σ H fun vs H1 => ∃ v w, vs = [v, w] ∧ D.nx ((σ.set i (some v)).set j (some w)) H1
theorem ps_par {i j : Nat} {x y : Str} {a b : Expr} {ta : TA} {px py pt : Pos} {kt k2 pt2} (hc : X.calm = true) (hN : X.N.Nodup) (hi : X.N[i]? = some x) (hj : X.N[j]? = some y) (hij : i ≠ j)
    (hx : X.env.scope.names.lookup x = some .local) (hy : X.env.scope.names.lookup y = some .local) (ha : PA X [a, b] ta)
    (hw : swappedStores [.Tuple [.Name x px, .Name y py] kt pt] (.Tuple [a, b] k2 pt2) X.env = pure (some [x, y]))
    (hs : swapsWithSole [.Tuple [.Name x px, .Name y py] kt pt] (.Tuple [a, b] k2 pt2) pos.line X.env = pure false := by rfl) :
    PS X (.Assign [.Tuple [.Name x px, .Name y py] kt pt] (.Tuple [a, b] k2 pt2) pos) (tPar i j ta) := by
  intro pins s σ H D I h
  rw [exec_Assign_arm]
  refine wpAny_bind (wpAny_standAt ?_)
  rw [hs]
  refine wpAny_bind (wpAny_pure ?_)
  rw [if_neg (by decide)]
  refine wpAny_bind (Tuple_ (thn (ha _ pins s σ H _ I h) fun us s1 ⟨vs, H1, I1, r1, q1⟩ => ?_))
  obtain ⟨v, w, e1, q1⟩ := q1
  subst e1
  obtain ⟨u1, u2, rfl, rv, rw'⟩ : ∃ u1 u2, us = [u1, u2] ∧ RelV v u1 ∧ RelV w u2 := by
    cases r1 with
    | cons p q =>
      cases q with
      | cons p' q' =>
        cases q'
        exact ⟨_, _, rfl, p, p'⟩
  refine wpAny_newObj_type ?_ (by show 2 ≤ sizeLine; decide)
  have I2 : Inv X pins σ H1 { s1 with heap := s1.heap.push { cls := .type "tuple", data := .seq [u1, u2].toArray } } := I1.kept (t' := s1.toks) fun b o e => Heap.get?_push_of_some _ e
  rw [hw]
  refine wpAny_bind (wpAny_pure ?_)
  show wpAny (model X.prog X.w) X.A (do rule "assign.swapped-stores"; let items ← unpackItems (.ref s1.heap.objs.size) 2 none; assignInOrder [fun v => bindName X.env y v, fun v => bindName X.env x v] items.reverse; pure Flow.next) _ _ _
  refine wpAny_bind (wpAny_rule (wpAny_bind (unpackItems_tuple (items := #[u1, u2]) (I.ok.hd hc) (IsTup.new s1.heap _) fun h' hx' => ?_)))
  have I3 := I2.kept (h' := h') (t' := s1.toks) fun b o e => hx' b o (Nat.ne_of_lt (Heap.lt_size e)) e
  show wpAny _ _ (assignInOrder [fun v => bindName X.env y v, fun v => bindName X.env x v] [u2, u1] >>= fun _ => pure Flow.next) _ _ _
  refine wpAny_bind (assignInOrder_cons (wpAny_bindName (store_ok I3 hN hj (.inl hy) rw' (fun s2 I4 => ?_) (.inr hy))))
  refine assignInOrder_cons (wpAny_bindName (store_ok I4 hN hi (.inl hx) rv (fun s3 I5 => assignInOrder_nil (wpAny_pure ?_)) (.inr hx)))
  rw [List.set_comm _ _ (Ne.symm hij)] at I5
  exact ⟨_, H1, I5, q1⟩
def tAug (i : Nat) (te : TE) (ti : TIp) : TS := fun D σ H => ∃ x, σ[i]? = some (some x) ∧ te σ H fun y H1 => ti x y H1 fun z H2 => D.nx (σ.set i (some z)) H2
theorem ps_aug {i : Nat} {x : Str} {e : Expr} {te : TE} {op : Operator} {ti : TIp} {pos' : Pos} (hN : X.N.Nodup) (hi : X.N[i]? = some x) (hx : Loc X.env.scope x) (he : PE X e te) (ho : PIp X op ti) (hf : X.fn x = true ∨ X.env.scope.names.lookup x = some .local := by first | exact .inl rfl | exact .inr rfl | assumption) :
    PS X (.AugAssign (.Name x pos') op e pos) (tAug i te ti) := by
  intro pins s σ H D I h
  obtain ⟨v, e1, h⟩ := h
  obtain ⟨m, hn, hl⟩ := I.loc
  have vis : Vis X.env.scope x := by rcases hx with k | k; exact .inl k; exact .inr (.inl k)
  obtain ⟨u, r, l⟩ := hl i x v hi e1 vis
  refine wpAny_AugAssign_Name ?_
  have go : wpAny (model X.prog X.w) X.A (eval e X.env) (fun w s₂ => wpAny (model X.prog X.w) X.A (inplaceOp op u w) (fun r s₃ => wpAny (model X.prog X.w) X.A (storeName X.env x r) (fun _ => SP X pins D .next) X.xe s₃) X.xe s₂) X.xe s := by
    refine thn (he pins s σ H _ I h) fun w s1 ⟨y, H1, I1, r1, q1⟩ => ?_
    refine thn (ho pins s1 σ H1 v y u w _ I1 r r1 q1) fun z s2 ⟨zv, H2, I2, r2, q2⟩ => ?_
    exact store_ok I2 hN hi hx r2 (fun s3 I3 => ⟨_, H2, I3, q2⟩) hf
  rcases l with ⟨hk, hm⟩ | ⟨hk, c, hc, hcell⟩
  · exact wpAny_loadName_local I.ok.kind hk hn hm go
  · rcases hk with hk | hk
    · exact wpAny_loadName_cell I.ok.kind hk hc hcell go
    · rcases hx with k | k
      · have : X.env.scope.names.lookup x = some .free := hk
        rw [k] at this; cases this
      · have : X.env.scope.names.lookup x = some .free := hk
        rw [k] at this; cases this
end

section
variable {X : Cx} {pos : Pos}
def tWhile (c : TT) (tb : TS) : TS := fun D σ H => ∃ W : Nat → St → Hp → Prop, (∃ m, W m σ H) ∧ ∀ m σ H, W m σ H →
  c σ H fun b H1 => if b = true then ∃ N : St → Hp → Prop, (∀ σ' H', N σ' H' → ∃ m', m' < m ∧ W m' σ' H') ∧ tb { D with nx := N, ct := N, bk := D.nx } σ H1 else D.nx σ H1
theorem ps_while {c : Expr} {body : List Stmt} {tc : TT} {tb : TS} (hp : PassesOwn (model X.prog X.w) X.A X.env X.xe) (hc : PT X c tc) (hb : PSs X body tb) : PS X (.While c body [] pos) (tWhile tc tb) := by
  intro pins s σ H D I h
  obtain ⟨W, ⟨m0, w0⟩, turn⟩ := h
  refine wpAny_While (codeAny_whileLoop (fun n s' => ∃ σ' H', Inv X pins σ' H' s' ∧ W n σ' H') ?_ m0 ⟨σ, H, I, w0⟩)
  rintro n s1 ⟨σ1, H1, I1, w1⟩
  refine wpAny_passesOwn hp (thn (hc pins s1 σ1 H1 _ I1 (turn n σ1 H1 w1)) fun b s2 ⟨H2, I2, q2⟩ => ?_)
  cases b with
  | true =>
    obtain ⟨N, hN, q2⟩ := q2
    rw [if_pos rfl]
    refine wpAny_passesOwn hp (thn (hb pins s2 σ1 H2 _ I2 q2) fun f s3 q3 => ?_)
    cases f with
    | next =>
      obtain ⟨σ3, H3, I3, n3⟩ := q3
      obtain ⟨m', hm, w3⟩ := hN σ3 H3 n3
      exact ⟨m', hm, σ3, H3, I3, w3⟩
    | cont =>
      obtain ⟨σ3, H3, I3, n3⟩ := q3
      obtain ⟨m', hm, w3⟩ := hN σ3 H3 n3
      exact ⟨m', hm, σ3, H3, I3, w3⟩
    | brk => exact q3
    | ret v => exact q3
  | false =>
    rw [if_neg Bool.false_ne_true]
    exact wpAny_execs_nil ⟨σ1, H2, I2, q2⟩
end

structure It where
  go : Nat → Hp → Prop
  yld : Nat → Hp → V → Hp → Prop
  stop : Nat → Hp → Prop
def FpOk (X : Cx) (pins : List (Addr × Obj)) (H : Hp) (b : Addr) : Prop :=
  H b = none ∧ b ≠ X.env.locals ∧ b ∉ X.fs ∧ (b ∈ X.ex ∨ X.s₀.heap.objs.size ≤ b) ∧ (∀ x c, X.env.cells.lookup x = some c → c ≠ b) ∧ ∀ p ∈ X.pn ++ pins, p.1 ≠ b
theorem Inv.fpOk {X : Cx} {pins : List (Addr × Obj)} {σ : St} {H H' : Hp} {s : Shared} {b : Addr} (I : Inv X pins σ H s) (hb : s.heap.objs.size ≤ b) (hn : H' b = none) : FpOk X pins H' b := by
  refine ⟨hn, Nat.ne_of_gt (Nat.lt_of_lt_of_le I.lt hb), I.nofs hb, .inr (Nat.le_trans I.sz hb), fun x c e z => ?_, fun p hp z => ?_⟩
  · obtain ⟨v, q⟩ := I.cell x c e
    exact absurd (Nat.lt_of_lt_of_le q.lt (by rw [z]; exact hb)) (Nat.lt_irrefl _)
  · exact absurd (Nat.lt_of_lt_of_le (Heap.lt_size (I.pin p hp).1) (by rw [z]; exact hb)) (Nat.lt_irrefl _)
structure Turn (P : Program) (w : World) (K : PySem.W.Frag) (tg : Expr) (J : It) (fp : List Addr) (it : Addr) (tn : Nat → Heap → Prop) : Prop where
  mem : it ∈ fp
  obj : ∀ i h, tn i h → ∀ b ∈ fp, ∃ o, h.get? b = some o ∧ ∀ v, o.data ≠ .cell v
  keep : ∀ i h h', tn i h → (∀ b ∈ fp, ∀ o, h.get? b = some o → h'.get? b = some o) → tn i h'
  item : ∀ (X : Cx), X.prog = P → X.w = w → X.K = K → X.calm = true → ∀ (i : Nat) (pins : List (Addr × Obj)) (s : Shared) (σ : St) (H : Hp) (E : Value → Shared → Prop), Inv X pins σ H s → (∀ b ∈ fp, FpOk X pins H b) → tn i s.heap → J.go i H →
    wpAny (model P w) X.A (pyNext (.ref it)) (fun r s1 => ∃ u, r = some u ∧
      wpAny (model P w) X.A (letOwnedTupleGo tg (.ref it) u) (fun _ s2 => ∃ x H', Inv X pins σ H' s2 ∧ RelV x u ∧ J.yld i H x H' ∧ tn (i + 1) s2.heap ∧ ∀ b ∈ fp, H' b = none) E s1) E s
  done : ∀ (X : Cx), X.prog = P → X.w = w → X.K = K → X.calm = true → ∀ (i : Nat) (pins : List (Addr × Obj)) (s : Shared) (σ : St) (H : Hp) (E : Value → Shared → Prop), Inv X pins σ H s → (∀ b ∈ fp, FpOk X pins H b) → tn i s.heap → J.stop i H →
    wpAny (model P w) X.A (pyNext (.ref it)) (fun r s1 => r = none ∧ Inv X pins σ H s1) E s
  self : ∀ (A : Around) (i : Nat) (s : Shared) (Q : Value → Shared → Prop) (E : Value → Shared → Prop), tn i s.heap → Q (.ref it) s → wpAny (model P w) A (pyIter (.ref it)) Q E s
abbrev TI := St → Hp → (It → Hp → Prop) → Prop
def PIE (X : Cx) (pins : List (Addr × Obj)) (σ : St) (tg : Expr) (R : It → Hp → Prop) (itv : Value) (s2 : Shared) : Prop :=
  ∃ (it : Addr) (fp : List Addr) (tn : Nat → Heap → Prop) (J : It) (H' : Hp), itv = .ref it ∧ Inv X pins σ H' s2 ∧ Turn X.prog X.w X.K tg J fp it tn ∧ tn 0 s2.heap ∧ (∀ b ∈ fp, FpOk X pins H' b) ∧ R J H'
def PI (X : Cx) (tg iter : Expr) (wi : TI) : Prop :=
  ∀ (pins : List (Addr × Obj)) (s : Shared) (σ : St) (H : Hp) (R : It → Hp → Prop), Inv X pins σ H s → wi σ H R →
    wpAny (model X.prog X.w) X.A (eval iter X.env) (fun v s1 => wpAny (model X.prog X.w) X.A (pyIter v) (PIE X pins σ tg R) X.xe s1) X.xe s

theorem go_of {M : Model} {A : Around} {E : Value → Shared → Prop} {s : Shared} {tg : Expr} {it : Addr} {u : Value} {o : Obj} {n : String} {vs : Array Value} {Q : Unit → Shared → Prop} (ho : s.heap.get? it = some o) (hc : o.cls = .type n) (hd : o.data = .fields vs)
    (hn : ["enumerate", "zip", "dict_itemiterator", "dict_reverseitemiterator", "odict_iterator", "itertools.zip_longest", "itertools.pairwise"].contains n = false) (hQ : Q () s) : wpAny M A (letOwnedTupleGo tg (.ref it) u) Q E s := by
  unfold letOwnedTupleGo
  cases tg <;> first
    | exact wpAny_pure hQ
    | (cases u <;> first
        | exact wpAny_pure hQ
        | (refine wpAny_bind (wpAny_load ho ?_)
           rw [hc, hd]
           show wpAny M A (if (["enumerate", "zip", "dict_itemiterator", "dict_reverseitemiterator", "odict_iterator", "itertools.zip_longest", "itertools.pairwise"].contains n && vs[0]? == some (rawInt _)) = true then _ else _) Q E s
           rw [if_neg (by intro h; rw [hn, Bool.false_and] at h; cases h)]
           exact wpAny_pure hQ))

def Itl (K : PySem.W.Frag) (a : Addr) : It :=
  ⟨fun i H => ∃ xs x, SqL K H a xs ∧ xs[i]? = some x, fun i H x H' => H' = H ∧ ∀ xs, SqL K H a xs → xs[i]? = some x, fun i H => ∃ xs, SqL K H a xs ∧ xs.length ≤ i⟩
def Itr (lo : Int) (n : Nat) : It := ⟨fun i _ => i < n, fun i H x H' => H' = H ∧ x = .int (lo + i), fun i _ => n ≤ i⟩
theorem turn_list {P : Program} {w : World} {K : PySem.W.Frag} {tg : Expr} (a it : Addr) : Turn P w K tg (Itl K a) [it] it (fun i h => h.IsListIter it a i) where
  mem := by simp
  obj := fun i h st b hb => by
    have e : b = it := by simpa using hb
    subst e
    obtain ⟨o, e, c, d⟩ := st
    exact ⟨o, e, fun v z => by rw [d] at z; cases z⟩
  keep := fun i h h' st k => st.at fun o e => k it (by simp) o e
  item := by
    intro X hP hw hK hc i pins s σ H E I hf st hg
    subst hP hw hK
    obtain ⟨xs, x, hq, hx⟩ := hg
    obtain ⟨its, rv, p, hz⟩ := I.list hq
    obtain ⟨u, hu, ru⟩ := rv.get hx
    obtain ⟨f0, f1, f2, f3, f4, f5⟩ := hf it (by simp)
    refine wpAny_pyNext_list_item st p.isList (x := u) (by simpa using hu) fun h' st' sb => ?_
    have I1 : Inv X pins σ H { s with heap := h' } := I.turned (t' := s.toks) (fun b o hb e => (sb.2 b hb).trans e) f0 f1 f3 f4 f5
    obtain ⟨o, e, c, d⟩ := id st'
    exact ⟨u, rfl, go_of (s := { s with heap := h' }) e c d (by decide) ⟨x, H, I1, ru, ⟨rfl, fun ys hy => by rw [I.list_inj hy hq]; exact hx⟩, st', fun b hb => (hf b hb).1⟩⟩
  done := by
    intro X hP hw hK hc i pins s σ H E I hf st hg
    subst hP hw hK
    obtain ⟨xs, hq, hx⟩ := hg
    obtain ⟨its, rv, p, hz⟩ := I.list hq
    obtain ⟨f0, f1, f2, f3, f4, f5⟩ := hf it (by simp)
    have hl := rv.length
    exact wpAny_pyNext_list_end (I.ok.hd hc) st p.isList (by simp; omega) fun h' eb => ⟨rfl, I.turned (t' := s.toks) (fun b o hb e => eb b o hb e) f0 f1 f3 f4 f5⟩
  self := fun _ _ _ _ _ st h => wpAny_pyIter_listiter st h
theorem turn_range {P : Program} {w : World} {K : PySem.W.Frag} {tg : Expr} (it : Addr) (lo : Int) (n : Nat) : Turn P w K tg (Itr lo n) [it] it (fun i h => IsRangeIter h it (lo + (i : Nat) * 1) ((n : Int) - (i : Nat)) 1) where
  mem := by simp
  obj := fun i h st b hb => by
    have e : b = it := by simpa using hb
    subst e
    exact ⟨_, st, fun v z => by
      have z' : Data.fields _ = Data.cell v := z
      cases z'⟩
  keep := fun i h h' st k => k it (by simp) _ st
  item := by
    intro X hP hw hK hc i pins s σ H E I hf st hg
    subst hP hw hK
    obtain ⟨f0, f1, f2, f3, f4, f5⟩ := hf it (by simp)
    have W := Walks.range (prog := X.prog) (w := X.w) (I.ok.hd hc) it lo 1 n
    refine W.item i s _ _ hg st fun v h' tk hv st' kk => ?_
    obtain ⟨t, rfl⟩ := hv
    have I1 : Inv X pins σ H { s with heap := h', toks := tk } := I.turned (fun b o hb e => kk b o (by simpa using hb) e) f0 f1 f3 f4 f5
    refine ⟨_, rfl, go_of (s := { s with heap := h', toks := tk }) (n := "range_iterator") st' rfl rfl (by decide) ⟨.int (lo + i), H, I1, ⟨t, ?_⟩, ⟨rfl, rfl⟩, st', fun b hb => (hf b hb).1⟩⟩
    rw [Int.mul_one]
  done := by
    intro X hP hw hK hc i pins s σ H E I hf st hg
    subst hP hw hK
    obtain ⟨f0, f1, f2, f3, f4, f5⟩ := hf it (by simp)
    exact wpAny_pyNext_range_end (I.ok.hd hc) st (by have : n ≤ i := hg; omega) fun h' eb => ⟨rfl, I.turned (t' := s.toks) (fun b o hb e => eb b o hb e) f0 f1 f3 f4 f5⟩
  self := fun _ _ _ _ _ st h => wpAny_pyIter_rangeiter st h
end L2

namespace L2
open PySem PySem.Spec PyProof.Rows
section
variable {X : Cx} {tg : Expr}
def iList (K : PySem.W.Frag) (tl : TE) : TI := fun σ H R => tl σ H fun x H1 => ∃ a, x = .ref a ∧ (∃ xs, SqL K H1 a xs) ∧ R (Itl K a) H1
theorem pi_list {l : Expr} {tl : TE} (hl : PE X l tl) : PI X tg l (iList X.K tl) := by
  intro pins s σ H R I h
  refine thn (hl pins s σ H _ I h) fun v s1 ⟨x, H1, I1, r1, q1⟩ => ?_
  obtain ⟨a, e, ⟨xs, hq⟩, q⟩ := q1
  subst e
  cases r1
  obtain ⟨its, rv, p, hz⟩ := I1.list hq
  refine wpAny_pyIter_list p.isList ?_
  refine ⟨s1.heap.objs.size, [s1.heap.objs.size], _, _, H1, rfl, I1.kept (t' := s1.toks) fun b o e => Heap.get?_push_of_some _ e, turn_list a _, ⟨_, Heap.get?_push_size _ rfl, rfl, rfl⟩, fun b hb => ?_, q⟩
  have e : b = s1.heap.objs.size := by simpa using hb
  subst e
  exact I1.fpOk (Nat.le_refl _) (I1.hok.fresh (Nat.le_refl _))
theorem range_it {pins : List (Addr × Obj)} {σ : St} {H : Hp} {s : Shared} {R : It → Hp → Prop} {E : Value → Shared → Prop} {lo hi : Int} {t u v : Tok} {tk : Nat} (I : Inv X pins σ H s) (h1 : -(2 ^ 62) ≤ lo) (h2 : lo < 2 ^ 62) (h3 : -(2 ^ 62) ≤ hi) (h4 : hi < 2 ^ 62)
    (q : R (Itr lo (hi - lo).toNat) H) : wpAny (model X.prog X.w) X.A (pyIter (.ref s.heap.objs.size)) (PIE X pins σ tg R) E { s with heap := s.heap.push { cls := .type "range", data := .fields #[.int lo t, .int hi u, .int 1 v] }, toks := tk } := by
  refine wpAny_pyIter_range (IsRange.new ..) (small_one h1 h2 h3 h4) ?_
  have I1 : Inv X pins σ H { s with heap := s.heap.push { cls := .type "range", data := .fields #[.int lo t, .int hi u, .int 1 v] }, toks := tk } := I.kept fun b o e => Heap.get?_push_of_some _ e
  refine ⟨(s.heap.push { cls := .type "range", data := .fields #[.int lo t, .int hi u, .int 1 v] }).objs.size, [(s.heap.push { cls := .type "range", data := .fields #[.int lo t, .int hi u, .int 1 v] }).objs.size], _, _, H, rfl,
    I1.kept (t' := tk) fun b o e => Heap.get?_push_of_some _ e, turn_range _ lo (hi - lo).toNat, ?_, fun b hb => ?_, q⟩
  · have e1 : lo + ((0 : Nat) : Int) * 1 = lo := by simp
    have e2 : (((hi - lo).toNat : Nat) : Int) - ((0 : Nat) : Int) = Builtin.Range.rangeSize lo hi 1 := by rw [rangeSize_one]; split <;> omega
    show IsRangeIter _ _ (lo + ((0 : Nat) : Int) * 1) ((((hi - lo).toNat : Nat) : Int) - ((0 : Nat) : Int)) 1
    rw [e1, e2]
    exact Heap.get?_push_size _ rfl
  · have e : b = (s.heap.push { cls := .type "range", data := .fields #[.int lo t, .int hi u, .int 1 v] }).objs.size := by simpa using hb
    subst e
    exact I1.fpOk (Nat.le_refl _) (I1.hok.fresh (Nat.le_refl _))
def iRng1 (ta : TA) : TI := fun σ H R => ta σ H fun vs H1 => ∃ j : Int, vs = [.int j] ∧ -(2 ^ 62) ≤ j ∧ j < 2 ^ 62 ∧ R (Itr 0 j.toNat) H1
def iRng2 (ta : TA) : TI := fun σ H R => ta σ H fun vs H1 => ∃ i j : Int, vs = [.int i, .int j] ∧ (-(2 ^ 62) ≤ i ∧ i < 2 ^ 62 ∧ -(2 ^ 62) ≤ j ∧ j < 2 ^ 62) ∧ R (Itr i (j - i).toNat) H1
theorem pi_range1 {a : Expr} {ta : TA} {p pos : Pos} (hg : Gl X "range") (hm : X.mg "range" = none) (ha : PA X [a] ta) (hs : starEach [a] X.env = [(false, eval a X.env)] := by rfl) : PI X tg (.Call (.Name "range" p) [a] [] pos) (iRng1 ta) := by
  intro pins s σ H R I h
  refine Call_ (ld_blt I hg hm boot_range (PyProof.Rows.callWith_type1 (thn (ha pos pins s σ H _ I h) fun us s1 ⟨vs, H1, I1, r1, q1⟩ => ?_) hs rfl))
  obtain ⟨j, e, q1, q2, q⟩ := q1
  subst e
  cases r1 with
  | cons r rr =>
    cases rr
    obtain ⟨t, rfl⟩ := r
    exact call_range_1 (range_it I1 (by omega) (by omega) q1 q2 (by simpa using q))
theorem pi_range2 {a b : Expr} {ta : TA} {p pos : Pos} (hg : Gl X "range") (hm : X.mg "range" = none) (ha : PA X [a, b] ta) (hs : starEach [a, b] X.env = [(false, eval a X.env), (false, eval b X.env)] := by rfl) (hs2 : starEach [b] X.env = [(false, eval b X.env)] := by rfl) :
    PI X tg (.Call (.Name "range" p) [a, b] [] pos) (iRng2 ta) := by
  intro pins s σ H R I h
  refine Call_ (ld_blt I hg hm boot_range (PyProof.Rows.callWith_type1 (thn (ha pos pins s σ H _ I h) fun us s1 ⟨vs, H1, I1, r1, q1⟩ => ?_) (by rw [hs, hs2]) (by rw [hs2]; rfl)))
  obtain ⟨i, j, e, ⟨q1, q2, q3, q4⟩, q⟩ := q1
  subst e
  cases r1 with
  | cons r rr =>
    cases rr with
    | cons r' rr =>
      cases rr
      obtain ⟨t, rfl⟩ := r
      obtain ⟨t', rfl⟩ := r'
      exact call_range_2 (range_it I1 q1 q2 q3 q4 q)

def tFor (wi : TI) (g : TG) (tb : TS) : TS := fun D σ H => wi σ H fun J H1 => ∃ W : Nat → Nat → St → Hp → Prop, (∃ m, W 0 m σ H1) ∧ ∀ i m σ H, W i m σ H →
  (J.stop i H ∧ D.nx σ H) ∨ (J.go i H ∧ ∃ N : St → Hp → Prop, (∀ σ' H', N σ' H' → ∃ m', m' < m ∧ W (i + 1) m' σ' H') ∧ ∀ x H', J.yld i H x H' → g x σ H' fun σ2 H2 => tb { D with nx := N, ct := N, bk := D.nx } σ2 H2)
def pinsAt (fp : List Addr) (h : Heap) : List (Addr × Obj) := fp.filterMap fun b => (h.get? b).map fun o => (b, o)
theorem mem_pinsAt {fp : List Addr} {h : Heap} {b : Addr} {o : Obj} (hb : b ∈ fp) (e : h.get? b = some o) : (b, o) ∈ pinsAt fp h := List.mem_filterMap.mpr ⟨b, hb, by rw [e]; rfl⟩
theorem of_pinsAt {fp : List Addr} {h : Heap} {p : Addr × Obj} (hp : p ∈ pinsAt fp h) : p.1 ∈ fp ∧ h.get? p.1 = some p.2 := by
  obtain ⟨b, hb, e⟩ := List.mem_filterMap.mp hp
  cases q : h.get? b with
  | none => rw [q] at e; cases e
  | some o =>
    rw [q] at e
    have e' : (b, o) = p := Option.some.inj e
    subst e'
    exact ⟨hb, q⟩
theorem Inv.pinned {pins : List (Addr × Obj)} {σ : St} {H : Hp} {s : Shared} {fp : List Addr} (I : Inv X pins σ H s) (hf : ∀ b ∈ fp, FpOk X pins H b) (ho : ∀ b ∈ fp, ∃ o, s.heap.get? b = some o ∧ ∀ v, o.data ≠ .cell v) : Inv X (pins ++ pinsAt fp s.heap) σ H s :=
  I.pins_of fun p hp => (List.mem_append.mp hp).elim (fun z => I.pin p (List.mem_append_right _ z)) fun z => by
    obtain ⟨hb, e⟩ := of_pinsAt z
    obtain ⟨f0, f1, f2, _⟩ := hf p.1 hb
    obtain ⟨o, e', d⟩ := ho p.1 hb
    rw [e] at e'; cases e'
    exact ⟨e, f0, f1, f2, d⟩
theorem Inv.unpinned {pins pl : List (Addr × Obj)} {σ : St} {H : Hp} {s : Shared} (I : Inv X (pins ++ pl) σ H s) : Inv X pins σ H s := I.pins_of fun p hp => I.pin p (List.mem_append_right _ (List.mem_append_left _ hp))
theorem ps_for {iter : Expr} {body : List Stmt} {wi : TI} {g : TG} {tb : TS} {pos : Pos} (hp : PassesOwn (model X.prog X.w) X.A X.env X.xe) (hc : X.calm = true) (hi : PI X tg iter wi) (hg : PG X tg g) (hb : PSs X body tb)
    (hs : ∀ x, foldedSetIterable iter X.env x = pure x := by intro _; rfl) : PS X (.For tg iter body [] pos) (tFor wi g tb) := by
  intro pins s σ H D I h
  refine wpAny_For (thn (hi pins s σ H _ I h) fun v s1 h1 => thn h1 fun itv s2 h2 => ?_) hs
  obtain ⟨it, fp, tn, J, H2, e, I2, T, st2, f2, W, ⟨m0, w0⟩, turn⟩ := h2
  subst e
  -- what stays true of the iterator's objects through the loop
  have stat : ∀ {H' : Hp}, (∀ b ∈ fp, H' b = none) → ∀ b ∈ fp, FpOk X pins H' b := fun hn b hb => ⟨hn b hb, (f2 b hb).2⟩
  refine codeAny_forLoop_any (fun n s' => ∃ i σ' H', Inv X pins σ' H' s' ∧ tn i s'.heap ∧ (∀ b ∈ fp, H' b = none) ∧ W i n σ' H') ?_ m0 ⟨0, σ, H2, I2, st2, fun b hb => (f2 b hb).1, w0⟩
  rintro n s3 ⟨i, σ3, H3, I3, st3, fr3, w3⟩
  rcases turn i n σ3 H3 w3 with ⟨stop, qn⟩ | ⟨go, N, hN, step⟩
  · refine wpAny_passesOwn hp (thn (T.done X rfl rfl rfl hc i pins s3 σ3 H3 X.xe I3 (stat fr3) st3 stop) fun r s4 ⟨hr, I4⟩ => ?_)
    subst hr
    exact wpAny_execs_nil ⟨σ3, H3, I4, qn⟩
  · refine wpAny_passesOwn hp (thn (T.item X rfl rfl rfl hc i pins s3 σ3 H3 X.xe I3 (stat fr3) st3 go) fun r s4 ⟨u, hr, h4⟩ => ?_)
    subst hr
    refine wpAny_passesOwn hp (thn h4 fun _ s5 ⟨x, H5, I5, r5, y5, st5, fr5⟩ => ?_)
    have I5' := I5.pinned (stat fr5) (T.obj _ _ st5)
    refine wpAny_passesOwn hp (thn (hg _ s5 σ3 H5 x u _ I5' r5 (step x H5 y5)) fun _ s6 ⟨σ6, H6, I6, q6⟩ => ?_)
    refine wpAny_passesOwn hp (thn (hb _ s6 σ6 H6 _ I6 q6) fun f s7 q7 => ?_)
    have again : ∀ {σ7 : St} {H7 : Hp}, Inv X (pins ++ pinsAt fp s5.heap) σ7 H7 s7 → N σ7 H7 → ∃ m, m < n ∧ ∃ i σ' H', Inv X pins σ' H' s7 ∧ tn i s7.heap ∧ (∀ b ∈ fp, H' b = none) ∧ W i m σ' H' := fun {σ7 H7} I7 n7 => by
      obtain ⟨m', hm, w7⟩ := hN σ7 H7 n7
      refine ⟨m', hm, i + 1, σ7, H7, I7.unpinned, T.keep _ _ _ st5 fun b hb o e => (I7.pin (b, o) (List.mem_append_right _ (List.mem_append_right _ (mem_pinsAt hb e)))).1, fun b hb => ?_, w7⟩
      obtain ⟨o, e, d⟩ := T.obj _ _ st5 b hb
      exact (I7.pin (b, o) (List.mem_append_right _ (List.mem_append_right _ (mem_pinsAt hb e)))).2.1
    cases f with
    | next => obtain ⟨σ7, H7, I7, n7⟩ := q7; exact again I7 n7
    | cont => obtain ⟨σ7, H7, I7, n7⟩ := q7; exact again I7 n7
    | brk => obtain ⟨σ7, H7, I7, q7⟩ := q7; exact ⟨σ7, H7, I7.unpinned, q7⟩
    | ret v => obtain ⟨x7, σ7, H7, I7, r7, q7⟩ := q7; exact ⟨x7, σ7, H7, I7.unpinned, r7, q7⟩
end

theorem for_list {K : PySem.W.Frag} {a : Addr} {xs : List V} {g : TG} {tb : TS} {D : Ends} {σ : St} {H : Hp} (Pv : Nat → St → Hp → Prop) (h0 : Pv 0 σ H) (hl : ∀ i σ H, i ≤ xs.length → Pv i σ H → SqL K H a xs)
    (hs : ∀ i x σ H, xs[i]? = some x → Pv i σ H → g x σ H fun σ2 H2 => tb { D with nx := Pv (i + 1), ct := Pv (i + 1), bk := D.nx } σ2 H2) (hd : ∀ σ H, Pv xs.length σ H → D.nx σ H) :
    ∃ W : Nat → Nat → St → Hp → Prop, (∃ m, W 0 m σ H) ∧ ∀ i m σ H, W i m σ H →
      ((Itl K a).stop i H ∧ D.nx σ H) ∨ ((Itl K a).go i H ∧ ∃ N : St → Hp → Prop, (∀ σ' H', N σ' H' → ∃ m', m' < m ∧ W (i + 1) m' σ' H') ∧ ∀ x H', (Itl K a).yld i H x H' → g x σ H' fun σ2 H2 => tb { D with nx := N, ct := N, bk := D.nx } σ2 H2) := by
  refine ⟨fun i m σ H => m = xs.length - i ∧ i ≤ xs.length ∧ Pv i σ H, ⟨xs.length, by simp, Nat.zero_le _, h0⟩, ?_⟩
  rintro i m σ H ⟨rfl, hi, p⟩
  have q := hl i σ H hi p
  by_cases hlt : i < xs.length
  · refine .inr ⟨⟨xs, xs[i], q, by simp [hlt]⟩, Pv (i + 1), fun σ' H' p' => ⟨xs.length - (i + 1), by omega, rfl, hlt, p'⟩, fun x H' y => ?_⟩
    obtain ⟨e, y⟩ := y
    subst e
    exact hs i x σ _ (y xs q) p
  · have e : i = xs.length := by omega
    subst e
    exact .inl ⟨⟨xs, q, Nat.le_refl _⟩, hd σ H p⟩
theorem for_range {lo : Int} {n : Nat} {g : TG} {tb : TS} {D : Ends} {σ : St} {H : Hp} (Pv : Nat → St → Hp → Prop) (h0 : Pv 0 σ H)
    (hs : ∀ i σ H, i < n → Pv i σ H → g (.int (lo + i)) σ H fun σ2 H2 => tb { D with nx := Pv (i + 1), ct := Pv (i + 1), bk := D.nx } σ2 H2) (hd : ∀ σ H, Pv n σ H → D.nx σ H) :
    ∃ W : Nat → Nat → St → Hp → Prop, (∃ m, W 0 m σ H) ∧ ∀ i m σ H, W i m σ H →
      ((Itr lo n).stop i H ∧ D.nx σ H) ∨ ((Itr lo n).go i H ∧ ∃ N : St → Hp → Prop, (∀ σ' H', N σ' H' → ∃ m', m' < m ∧ W (i + 1) m' σ' H') ∧ ∀ x H', (Itr lo n).yld i H x H' → g x σ H' fun σ2 H2 => tb { D with nx := N, ct := N, bk := D.nx } σ2 H2) := by
  refine ⟨fun i m σ H => m = n - i ∧ i ≤ n ∧ Pv i σ H, ⟨n, by simp, Nat.zero_le _, h0⟩, ?_⟩
  rintro i m σ H ⟨rfl, hi, p⟩
  by_cases hlt : i < n
  · refine .inr ⟨hlt, Pv (i + 1), fun σ' H' p' => ⟨n - (i + 1), by omega, rfl, hlt, p'⟩, fun x H' y => ?_⟩
    obtain ⟨e, y⟩ := y
    subst e y
    exact hs i σ _ hlt p
  · have e : i = n := by omega
    subst e
    exact .inl ⟨Nat.le_refl _, hd σ H p⟩
theorem while_by {c : TT} {tb : TS} {D : Ends} {σ : St} {H : Hp} (Pv : St → Hp → Prop) (μ : St → Hp → Nat) (h0 : Pv σ H)
    (hs : ∀ σ H, Pv σ H → c σ H fun b H1 => if b = true then tb { D with nx := fun σ' H' => Pv σ' H' ∧ μ σ' H' < μ σ H, ct := fun σ' H' => Pv σ' H' ∧ μ σ' H' < μ σ H, bk := D.nx } σ H1 else D.nx σ H1)
    (mono : ∀ σ H Q Q', (∀ b H1, Q b H1 → Q' b H1) → c σ H Q → c σ H Q') : tWhile c tb D σ H := by
  refine ⟨fun m σ H => m = μ σ H ∧ Pv σ H, ⟨_, rfl, h0⟩, ?_⟩
  rintro m σ H ⟨rfl, p⟩
  refine mono σ H _ _ (fun b H1 q => ?_) (hs σ H p)
  cases b with
  | true => exact ⟨_, fun σ' H' ⟨p', l⟩ => ⟨_, l, rfl, p'⟩, q⟩
  | false => exact q
end L2

namespace L2
open PySem PySem.Spec PyProof.Rows

abbrev R2 := V → V → Hp → VK → Prop
def OpR (X : Cx) (f : Value → Value → Sem Value) (r : R2) : Prop :=
  ∀ (pins : List (Addr × Obj)) (s : Shared) (σ : St) (H : Hp) (x y : V) (v u : Value) (Q : VK), Inv X pins σ H s → RelV x v → RelV y u → r x y H Q →
    wpAny (model X.prog X.w) X.A (f v u) (EP X pins σ Q) X.xe s
def UnR (X : Cx) (f : Value → Sem Value) (r : V → Hp → VK → Prop) : Prop :=
  ∀ (pins : List (Addr × Obj)) (s : Shared) (σ : St) (H : Hp) (x : V) (v : Value) (Q : VK), Inv X pins σ H s → RelV x v → r x H Q →
    wpAny (model X.prog X.w) X.A (f v) (EP X pins σ Q) X.xe s
def CallR (X : Cx) (f : Value) (r : List V → Hp → VK → Prop) : Prop :=
  ∀ (pins : List (Addr × Obj)) (s : Shared) (σ : St) (H : Hp) (xs : List V) (us : List Value) (Q : VK), Inv X pins σ H s → Vals xs us → r xs H Q →
    wpAny (model X.prog X.w) X.A (call f us) (EP X pins σ Q) X.xe s
def TruR (X : Cx) (r : V → Hp → (Bool → Hp → Prop) → Prop) : Prop :=
  ∀ (pins : List (Addr × Obj)) (s : Shared) (σ : St) (H : Hp) (x : V) (v : Value) (Q : Bool → Hp → Prop), Inv X pins σ H s → RelV x v → r x H Q →
    wpAny (model X.prog X.w) X.A (truthy v) (TP X pins σ Q) X.xe s

def tOp (r : R2) (ta tb : TE) : TE := fun σ H Q => ta σ H fun x H1 => tb σ H1 fun y H2 => r x y H2 Q
def tUn (r : V → Hp → VK → Prop) (ta : TE) : TE := fun σ H Q => ta σ H fun x H1 => r x H1 Q
def rI (C : Int → Int → Prop) (g : Int → Int → V) : R2 := fun x y H Q => ∃ i j, x = .int i ∧ y = .int j ∧ C i j ∧ Q (g i j) H
def rI0 (g : Int → Int → V) : R2 := fun x y H Q => ∃ i j, x = .int i ∧ y = .int j ∧ Q (g i j) H
def rU (g : Int → V) : V → Hp → VK → Prop := fun x H Q => ∃ i, x = .int i ∧ Q (g i) H

section
variable {X : Cx} {a b c : Expr} {ta tb tc : TE} {pos : Pos}

theorem binT (ha : PE X a ta) (hb : PE X b tb) {pins : List (Addr × Obj)} {s : Shared} {σ : St} {H : Hp} {R : V → V → Hp → Prop} (I : Inv X pins σ H s)
    (h : ta σ H fun x H1 => tb σ H1 fun y H2 => R x y H2) {Q : Value → Shared → Prop} {f : Value → Value → Sem Value}
    (hf : ∀ v u s2 x y H2, Inv X pins σ H2 s2 → RelV x v → RelV y u → R x y H2 → wpAny (model X.prog X.w) X.A (f v u) Q X.xe s2) :
    wpAny (model X.prog X.w) X.A (eval a X.env) (fun v s₁ => wpAny (model X.prog X.w) X.A (eval b X.env) (fun u s₂ => wpAny (model X.prog X.w) X.A (f v u) Q X.xe s₂) X.xe s₁) X.xe s := by
  refine thn (ha pins s σ H _ I h) fun v s1 ⟨x, H1, I1, r1, q1⟩ => ?_
  refine thn (hb pins s1 σ H1 _ I1 q1) fun u s2 ⟨y, H2, I2, r2, q2⟩ => ?_
  exact hf v u s2 x y H2 I2 r1 r2 q2

theorem pe_op {op : Operator} {r : R2} (ho : OpR X (binaryOp op) r) (ha : PE X a ta) (hb : PE X b tb) : PE X (.BinOp a op b pos) (tOp r ta tb) := by
  intro pins s σ H Q I h
  exact wpAny_BinOp (binT ha hb I h fun v u s2 x y H2 I2 rx ry q => ho pins s2 σ H2 x y v u Q I2 rx ry q)
theorem pe_un {op : UnaryOp} {r : V → Hp → VK → Prop} (ho : UnR X (unaryOp op) r) (ha : PE X a ta) : PE X (.UnaryOp op a pos) (tUn r ta) := by
  intro pins s σ H Q I h
  exact UnaryOp_ (thn (ha pins s σ H _ I h) fun v s1 ⟨x, H1, I1, r1, q1⟩ => ho pins s1 σ H1 x v Q I1 r1 q1)
theorem opI {f : Value → Value → Sem Value} {C : Int → Int → Prop} {g : Int → Int → Int}
    (rule : ∀ (i j : Int) (t u : Tok) (s : Shared) (Q : Value → Shared → Prop) (E : Value → Shared → Prop), C i j → Q (.int (g i j) s.toks) { s with toks := s.toks + 1 } → wpAny (model X.prog X.w) X.A (f (.int i t) (.int j u)) Q E s) :
    OpR X f (rI C fun i j => .int (g i j)) := by
  intro pins s σ H x y v u Q I rx ry h
  obtain ⟨i, j, rfl, rfl, hc, q⟩ := h
  obtain ⟨t, rfl⟩ := rx
  obtain ⟨t', rfl⟩ := ry
  exact rule i j t t' s _ _ hc ⟨.int (g i j), H, I.tok _, ⟨_, rfl⟩, q⟩
theorem opI0 {f : Value → Value → Sem Value} {g : Int → Int → Int}
    (rule : ∀ (i j : Int) (t u : Tok) (s : Shared) (Q : Value → Shared → Prop) (E : Value → Shared → Prop), Q (.int (g i j) s.toks) { s with toks := s.toks + 1 } → wpAny (model X.prog X.w) X.A (f (.int i t) (.int j u)) Q E s) :
    OpR X f (rI0 fun i j => .int (g i j)) := by
  intro pins s σ H x y v u Q I rx ry h
  obtain ⟨i, j, rfl, rfl, q⟩ := h
  obtain ⟨t, rfl⟩ := rx
  obtain ⟨t', rfl⟩ := ry
  exact rule i j t t' s _ _ ⟨.int (g i j), H, I.tok _, ⟨_, rfl⟩, q⟩
theorem opB0 {f : Value → Value → Sem Value} {g : Int → Int → Bool}
    (rule : ∀ (i j : Int) (t u : Tok) (s : Shared) (Q : Value → Shared → Prop) (E : Value → Shared → Prop), Q (.bool (g i j)) s → wpAny (model X.prog X.w) X.A (f (.int i t) (.int j u)) Q E s) :
    OpR X f (rI0 fun i j => .bl (g i j)) := by
  intro pins s σ H x y v u Q I rx ry h
  obtain ⟨i, j, rfl, rfl, q⟩ := h
  obtain ⟨t, rfl⟩ := rx
  obtain ⟨t', rfl⟩ := ry
  exact rule i j t t' s _ _ ⟨.bl (g i j), H, I, rfl, q⟩

def CPow (i j : Int) : Prop := 0 ≤ j ∧ j ≤ 1000000 ∧ i.natAbs < 2 ^ 64
theorem op_add : OpR X (binaryOp .Add) (rI0 fun i j => .int (i + j)) := opI0 fun _ _ _ _ _ _ _ q => add_int q
theorem op_sub : OpR X (binaryOp .Sub) (rI0 fun i j => .int (i - j)) := opI0 fun _ _ _ _ _ _ _ q => sub_int q
theorem op_modN : OpR X (binaryOp .Mod) (rI (fun _ j => j ≠ 0) fun i j => .int (i.fmod j)) := opI fun _ _ _ _ _ _ _ hc q => mod_int' hc q
theorem op_pow : OpR X (binaryOp .Pow) (rI CPow fun i j => .int (i ^ j.toNat)) := opI fun _ _ _ _ _ _ _ hc q => pow_int_small hc.1 hc.2.1 hc.2.2 q
theorem unI {f : Value → Sem Value} {g : Int → Int}
    (rule : ∀ (i : Int) (t : Tok) (s : Shared) (Q : Value → Shared → Prop) (E : Value → Shared → Prop), Q (.int (g i) s.toks) { s with toks := s.toks + 1 } → wpAny (model X.prog X.w) X.A (f (.int i t)) Q E s) :
    UnR X f (rU fun i => .int (g i)) := by
  intro pins s σ H x v Q I rx h
  obtain ⟨i, rfl, q⟩ := h
  obtain ⟨t, rfl⟩ := rx
  exact rule i t s _ _ ⟨.int (g i), H, I.tok _, ⟨_, rfl⟩, q⟩
theorem un_neg : UnR X (unaryOp .USub) (rU fun i => .int (-i)) := unI fun _ _ _ _ _ q => neg_int q
end

def scal : V → V → Bool
  | .non, .non => true | .non, .int _ => true | .int _, .non => true | .non, .bl _ => true | .bl _, .non => true | .non, .str _ => true | .str _, .non => true
  | .int _, .int _ => true | .bl _, .bl _ => true | .str _, .str _ => true | .byt _, .byt _ => true
  | .int _, .str _ => true | .str _, .int _ => true | .bl _, .str _ => true | .str _, .bl _ => true
  | _, _ => false
def rEq : R2 := fun x y H Q => scal x y = true ∧ Q (.bl (decide (x = y))) H
def rNe : R2 := fun x y H Q => scal x y = true ∧ Q (.bl (!decide (x = y))) H

theorem dec_int {i j : Int} : decide (V.int i = V.int j) = (i == j) := by
  rw [Bool.eq_iff_iff]
  simp
theorem dec_bl {i j : Bool} : decide (V.bl i = V.bl j) = (i == j) := by
  rw [Bool.eq_iff_iff]
  simp
theorem dec_str {i j : Str} : decide (V.str i = V.str j) = (i == j) := by
  rw [Bool.eq_iff_iff]
  simp
theorem dec_byt {i j : Array UInt8} : decide (V.byt i = V.byt j) = (i.toList == j.toList) := by
  rw [Bool.eq_iff_iff]
  cases i
  cases j
  simp

section
variable {X : Cx} {a b c : Expr} {ta tb tc : TE} {pos : Pos}
theorem fin_bl {pins : List (Addr × Obj)} {σ : St} {H : Hp} {s : Shared} {Q : VK} {k k' : Bool} (I : Inv X pins σ H s) (q : Q (.bl k) H) (e : k = k') : EP X pins σ Q (.bool k') s := by
  subst e
  exact ⟨.bl k, H, I, rfl, q⟩
theorem op_eq : OpR X (compareOp .Eq) rEq := by
  intro pins s σ H x y v u Q I rx ry h
  obtain ⟨hs, q⟩ := h
  cases x with
  | non =>
    cases rx
    cases y with
    | non => cases ry; exact PySem.EqNone.eq_none_none (fin_bl I q (by simp))
    | bl j => cases ry; exact PySem.EqNone.eq_none_bool (fin_bl I q (by simp))
    | int j => obtain ⟨t', rfl⟩ := ry; exact PySem.EqNone.eq_none_int (fin_bl I q (by simp))
    | str j => obtain ⟨t', rfl⟩ := ry; exact PySem.EqNone.eq_none_str (fin_bl I q (by simp))
    | _ => exact absurd (show false = true from hs) Bool.false_ne_true
  | bl i =>
    cases rx
    cases y with
    | non => cases ry; exact PySem.EqNone.eq_bool_none (fin_bl I q (by simp))
    | bl j => cases ry; exact eq_bool (fin_bl I q dec_bl)
    | str j => obtain ⟨t', rfl⟩ := ry; exact PySem.EqMixed.eq_bool_str (fin_bl I q (by simp))
    | _ => exact absurd (show false = true from hs) Bool.false_ne_true
  | int i =>
    obtain ⟨t, rfl⟩ := rx
    cases y with
    | non => cases ry; exact PySem.EqNone.eq_int_none (fin_bl I q (by simp))
    | int j => obtain ⟨t', rfl⟩ := ry; exact eq_int (fin_bl I q dec_int)
    | str j => obtain ⟨t', rfl⟩ := ry; exact PySem.EqMixed.eq_int_str (fin_bl I q (by simp))
    | _ => exact absurd (show false = true from hs) Bool.false_ne_true
  | str i =>
    obtain ⟨t, rfl⟩ := rx
    cases y with
    | non => cases ry; exact PySem.EqNone.eq_str_none (fin_bl I q (by simp))
    | bl j => cases ry; exact PySem.EqMixed.eq_str_bool (fin_bl I q (by simp))
    | int j => obtain ⟨t', rfl⟩ := ry; exact PySem.EqMixed.eq_str_int (fin_bl I q (by simp))
    | str j => obtain ⟨t', rfl⟩ := ry; exact eq_str (fin_bl I q dec_str)
    | _ => exact absurd (show false = true from hs) Bool.false_ne_true
  | byt i =>
    obtain ⟨t, rfl⟩ := rx
    cases y with
    | byt j => obtain ⟨t', rfl⟩ := ry; exact PySem.W.eq_bytes (fin_bl I q dec_byt)
    | _ => exact absurd (show false = true from hs) Bool.false_ne_true
  | _ => cases y <;> exact absurd (show false = true from hs) Bool.false_ne_true
theorem op_ne : OpR X (compareOp .NotEq) rNe := by
  intro pins s σ H x y v u Q I rx ry h
  obtain ⟨hs, q⟩ := h
  cases x with
  | non =>
    cases rx
    cases y with
    | non => cases ry; exact PySem.EqNone.ne_none_none (fin_bl I q (by simp))
    | bl j => cases ry; exact PySem.EqNone.ne_none_bool (fin_bl I q (by simp))
    | int j => obtain ⟨t', rfl⟩ := ry; exact PySem.EqNone.ne_none_int (fin_bl I q (by simp))
    | str j => obtain ⟨t', rfl⟩ := ry; exact PySem.EqNone.ne_none_str (fin_bl I q (by simp))
    | _ => exact absurd (show false = true from hs) Bool.false_ne_true
  | bl i =>
    cases rx
    cases y with
    | non => cases ry; exact PySem.EqNone.ne_bool_none (fin_bl I q (by simp))
    | bl j => cases ry; exact ne_bool (fin_bl I q (congrArg not dec_bl))
    | str j => obtain ⟨t', rfl⟩ := ry; exact PySem.EqMixed.ne_bool_str (fin_bl I q (by simp))
    | _ => exact absurd (show false = true from hs) Bool.false_ne_true
  | int i =>
    obtain ⟨t, rfl⟩ := rx
    cases y with
    | non => cases ry; exact PySem.EqNone.ne_int_none (fin_bl I q (by simp))
    | int j => obtain ⟨t', rfl⟩ := ry; exact ne_int (fin_bl I q (congrArg not dec_int))
    | str j => obtain ⟨t', rfl⟩ := ry; exact PySem.EqMixed.ne_int_str (fin_bl I q (by simp))
    | _ => exact absurd (show false = true from hs) Bool.false_ne_true
  | str i =>
    obtain ⟨t, rfl⟩ := rx
    cases y with
    | non => cases ry; exact PySem.EqNone.ne_str_none (fin_bl I q (by simp))
    | bl j => cases ry; exact PySem.EqMixed.ne_str_bool (fin_bl I q (by simp))
    | int j => obtain ⟨t', rfl⟩ := ry; exact PySem.EqMixed.ne_str_int (fin_bl I q (by simp))
    | str j => obtain ⟨t', rfl⟩ := ry; exact ne_str (fin_bl I q (congrArg not dec_str))
    | _ => exact absurd (show false = true from hs) Bool.false_ne_true
  | byt i =>
    obtain ⟨t, rfl⟩ := rx
    cases y with
    | byt j => obtain ⟨t', rfl⟩ := ry; exact PySem.W.ne_bytes (fin_bl I q (congrArg not dec_byt))
    | _ => exact absurd (show false = true from hs) Bool.false_ne_true
  | _ => cases y <;> exact absurd (show false = true from hs) Bool.false_ne_true

theorem op_lt : OpR X (compareOp .Lt) (rI0 fun i j => .bl (decide (i < j))) := opB0 fun _ _ _ _ _ _ _ q => lt_int q
theorem op_gt : OpR X (compareOp .Gt) (rI0 fun i j => .bl (decide (j < i))) := opB0 fun _ _ _ _ _ _ _ q => gt_int q
theorem op_ge : OpR X (compareOp .GtE) (rI0 fun i j => .bl (decide (j ≤ i))) := opB0 fun _ _ _ _ _ _ _ q => ge_int q
theorem op_isN : OpR X (compareOp .Is) (fun x y H Q => y = .non ∧ Q (.bl (decide (x = .non))) H) := by
  intro pins s σ H x y v u Q I rx ry h
  obtain ⟨rfl, q⟩ := h
  cases ry
  refine is_none_gen (fin_bl I q ?_)
  cases x <;> first
    | (cases rx; rfl)
    | (obtain ⟨t, rfl⟩ := rx; rfl)
theorem nomark (b : Expr) {op : CmpOp} (h : op ≠ .In := by decide) (h2 : op ≠ .NotIn := by decide) : behindInMarks op b = false := by
  have e1 : (op == CmpOp.In) = false := by cases op <;> first | rfl | exact absurd rfl h
  have e2 : (op == CmpOp.NotIn) = false := by cases op <;> first | rfl | exact absurd rfl h2
  cases b <;> simp [behindInMarks, e1, e2]
theorem pe_cmpR {op : CmpOp} {r : R2} (ho : OpR X (compareOp op) r) (ha : PE X a ta) (hb : PE X b tb) (hm : behindInMarks op b = false) : PE X (.Compare a [op] [b] pos) (tOp r ta tb) := by
  intro pins s σ H Q I h
  exact wpAny_Compare1 (binT ha hb I h fun v u s2 x y H2 I2 rx ry q => ho pins s2 σ H2 x y v u Q I2 rx ry q) hm
def tTest (t : TE) : TT := fun σ H Q => t σ H fun x H' => ∃ k, x = .bl k ∧ Q k H'
theorem pt_cmpR {op : CmpOp} {r : R2} (ho : OpR X (compareOp op) r) (ha : PE X a ta) (hb : PE X b tb) (hm : behindInMarks op b = false) : PT X (.Compare a [op] [b] pos) (tTest (tOp r ta tb)) := by
  intro pins s σ H Q I h
  refine wpAny_isTrue_Compare1 (thn (ha pins s σ H _ I h) fun v s1 ⟨x, H1, I1, r1, q1⟩ => thn (hb pins s1 σ H1 _ I1 q1) fun u s2 ⟨y, H2, I2, r2, q2⟩ =>
    thn (ho pins s2 σ H2 x y v u _ I2 r1 r2 q2) fun c s3 ⟨z, H3, I3, r3, k, e, q3⟩ => ?_) hm
  subst e
  cases r3
  exact wpAny_truthy_bool ⟨H3, I3, q3⟩
def TruV (K : PySem.W.Frag) (x : V) (H : Hp) (k : Bool) : Prop :=
  match x with
  | .non => k = false
  | .bl b => k = b
  | .int i => k = (i != 0)
  | .str y => y.length ≤ sizeLine ∧ k = ((y.length : Int) != 0)
  | .byt y => y.size ≤ sizeLine ∧ k = ((y.size : Int) != 0)
  | .ref p => (∃ xs, SqL K H p xs ∧ k = !xs.isEmpty) ∨ (∃ xs, SqT K H p xs ∧ k = !xs.isEmpty) ∨ ∃ kvs, H p = some (.dK kvs) ∧ k = !kvs.isEmpty
  | _ => False
theorem isEmpty_kv {κ : Type} {kvs : List (κ × V)} {vs : List (κ × Value)} (r : KV kvs vs) : (!vs.isEmpty) = !kvs.isEmpty := by
  cases r <;> rfl
theorem isEmpty_of {xs : List V} {its : List Value} (r : Vals xs its) : (!its.toArray.isEmpty) = !xs.isEmpty := by
  cases r <;> simp
theorem line63 : (sizeLine : Nat) < 2 ^ 63 := by rw [sizeLine_eq]; decide
theorem tru_ok : TruR X (fun x H Q => ∃ k, TruV X.K x H k ∧ Q k H) := by
  intro pins s σ H x v Q I rx h
  obtain ⟨k, e, q⟩ := h
  have hl := line63
  have hs : sizeLine = 16777216 := sizeLine_eq
  cases x with
  | non =>
    cases rx
    have e' : k = false := e
    subst e'
    exact truthy_none ⟨H, I, q⟩
  | bl b =>
    cases rx
    have e' : k = b := e
    subst e'
    exact wpAny_truthy_bool ⟨H, I, q⟩
  | int i =>
    obtain ⟨t, rfl⟩ := rx
    have e' : k = (i != 0) := e
    subst e'
    exact PySem.P.truthy_int ⟨H, I, q⟩
  | str y =>
    obtain ⟨t, rfl⟩ := rx
    obtain ⟨hy, e'⟩ : y.length ≤ sizeLine ∧ k = ((y.length : Int) != 0) := e
    subst e'
    exact PySem.P.truthy_str (by omega) ⟨H, I.tok _, q⟩
  | byt y =>
    obtain ⟨t, rfl⟩ := rx
    obtain ⟨hy, e'⟩ : y.size ≤ sizeLine ∧ k = ((y.size : Int) != 0) := e
    subst e'
    exact PySem.W.truthy_bytes (by omega) ⟨H, I.tok _, q⟩
  | ref p =>
    cases rx
    have e' : (∃ xs, SqL X.K H p xs ∧ k = !xs.isEmpty) ∨ (∃ xs, SqT X.K H p xs ∧ k = !xs.isEmpty) ∨ ∃ kvs, H p = some (.dK kvs) ∧ k = !kvs.isEmpty := e
    rcases e' with ⟨xs, hx, e'⟩ | ⟨xs, hx, e'⟩ | ⟨kvs, hx, e'⟩
    · subst e'
      obtain ⟨its, r, pl, hz⟩ := I.list hx
      have hlen := r.length
      exact wpAny_truthy_list pl.isList (by simp only [List.size_toArray]; omega) ⟨H, I.tok _, by rw [isEmpty_of r]; exact q⟩
    · subst e'
      obtain ⟨its, r, pl, hz⟩ := I.tuple hx
      have hlen := r.length
      exact truthy_tuple pl (by simp only [List.size_toArray]; omega) ⟨H, I.tok _, by rw [isEmpty_of r]; exact q⟩
    · subst e'
      obtain ⟨hz, hS, vs, r, m⟩ : kvs.length ≤ sizeLine ∧ (p == sysModules) = false ∧ ∃ vs, KV kvs vs ∧ s.heap.DictOf (mixKind X.prog X.w) p vs := I.hok p _ hx
      have hlen : kvs.length = vs.length := Paired.length r
      exact wpAny_truthy_dict hS m (by omega) ⟨H, I.tok _, by rw [isEmpty_kv r]; exact q⟩
  | _ => exact (show False from e).elim
theorem pt_truth (ha : PE X a ta) (he : ∀ whole, isTrue a X.env whole = (do let v ← whole; standAt a.pos; holding [v] (truthy v))) :
    PT X a (fun σ H Q => ta σ H fun x H' => ∃ k, TruV X.K x H' k ∧ Q k H') := by
  intro pins s σ H Q I h
  exact isTrue_plain (thn (ha pins s σ H _ I h) fun v s1 ⟨x, H1, I1, r1, q1⟩ => tru_ok pins s1 σ H1 x v Q I1 r1 q1) (he _)

theorem vals1 {x : V} {us : List Value} (r : Vals [x] us) : ∃ u, us = [u] ∧ RelV x u := by
  cases r with
  | cons r1 r2 => cases r2; exact ⟨_, rfl, r1⟩
theorem vals2 {x y : V} {us : List Value} (r : Vals [x, y] us) : ∃ u w', us = [u, w'] ∧ RelV x u ∧ RelV y w' := by
  cases r with
  | cons r1 r2 =>
    cases r2 with
    | cons r3 r4 => cases r4; exact ⟨_, _, rfl, r1, r3⟩
theorem call_abs : CallR X (.builtin "abs") (fun xs H Q => ∃ i, xs = [.int i] ∧ Q (.int (if i < 0 then -i else i)) H) := by
  intro pins s σ H xs us Q I r h
  obtain ⟨i, rfl, q⟩ := h
  obtain ⟨u, rfl, t, rfl⟩ := vals1 r
  exact call_abs_int fun u tk => ⟨.int (if i < 0 then -i else i), H, I.tok _, ⟨_, rfl⟩, q⟩
theorem call_max2 (hc : X.calm = true) : CallR X (.builtin "max") (fun xs H Q => ∃ i j, xs = [.int i, .int j] ∧ Q (.int (if j > i then j else i)) H) := by
  intro pins s σ H xs us Q I r h
  obtain ⟨i, j, rfl, q⟩ := h
  obtain ⟨u, w', rfl, ⟨t, rfl⟩, ⟨t', rfl⟩⟩ := vals2 r
  refine max_two_ints (I.ok.hd hc) fun h' tk k => ⟨_, H, I.kept k, ?_, q⟩
  by_cases hj : j > i
  · rw [if_pos hj, if_pos hj]; exact ⟨_, rfl⟩
  · rw [if_neg hj, if_neg hj]; exact ⟨_, rfl⟩
theorem call_min2 (hc : X.calm = true) : CallR X (.builtin "min") (fun xs H Q => ∃ i j, xs = [.int i, .int j] ∧ Q (.int (if j < i then j else i)) H) := by
  intro pins s σ H xs us Q I r h
  obtain ⟨i, j, rfl, q⟩ := h
  obtain ⟨u, w', rfl, ⟨t, rfl⟩, ⟨t', rfl⟩⟩ := vals2 r
  refine min_two_ints (I.ok.hd hc) fun h' tk k => ⟨_, H, I.kept k, ?_, q⟩
  by_cases hj : j < i
  · rw [if_pos hj, if_pos hj]; exact ⟨_, rfl⟩
  · rw [if_neg hj, if_neg hj]; exact ⟨_, rfl⟩
theorem call_int1 : CallR X (.type "int") (fun xs H Q => (∃ i, xs = [.int i] ∧ Q (.int i) H) ∨ ∃ k, xs = [.bl k] ∧ Q (.int (if k then 1 else 0)) H) := by
  intro pins s σ H xs us Q I r h
  rcases h with ⟨i, rfl, q⟩ | ⟨k, rfl, q⟩
  · obtain ⟨u, rfl, t, rfl⟩ := vals1 r
    exact call_int_int ⟨.int i, H, I, ⟨_, rfl⟩, q⟩
  · obtain ⟨u, rfl, r1⟩ := vals1 r
    cases r1
    exact call_int_bool ⟨.int (if k then 1 else 0), H, I.tok _, ⟨_, rfl⟩, q⟩
end
end L2

namespace L2
open PySem PySem.Spec PyProof.Rows

structure ObjM (h : Heap) (x dx C : Addr) (mA : Str → Option Value) : Prop where
  obj : h.get? x = some (PySem.W.instObj C dx)
  ns : h.Ns1 dx mA
  ne : dx ≠ x

theorem lookIn_ns {h : Heap} {dx : Addr} {mA : Str → Option Value} (n : h.Ns1 dx mA) : ∃ od, h.get? dx = some od ∧ ∀ name, PySem.W.lookIn name od = some (mA name) := by
  obtain ⟨o, es, ep, ho, hd, hk, _, hm⟩ := n
  refine ⟨o, ho, fun name => ?_⟩
  have e := hm name
  unfold nsFind findBy at e
  rw [← Array.find?_toList] at e
  unfold PySem.W.lookIn
  rw [hd]
  dsimp only
  split
  · rename_i y q
    rw [q] at e
    exact congrArg some e
  · rename_i q
    rw [q] at e
    have a : es.toList.any (·.refKey) = false := by
      rw [List.any_eq_false]
      intro y hy
      obtain ⟨z, t, hkey⟩ := hk y (Array.mem_toList_iff.mp hy)
      simp [DictEntry.refKey, hkey]
    have a' : ¬ es.toList.any (·.refKey) = true := by rw [a]; exact Bool.false_ne_true
    rw [if_neg a']
    exact congrArg some e

theorem ObjM.look {h : Heap} {x dx C : Addr} {mA : Str → Option Value} (I : ObjM h x dx C mA) : ∃ od, PySem.W.InstAt h x (PySem.W.instObj C dx) C (some od) ∧ ∀ name, PySem.W.lookIn name od = some (mA name) :=
  let ⟨od, ho, hl⟩ := lookIn_ns I.ns
  ⟨od, ⟨I.obj, rfl, rfl, ho⟩, hl⟩

section
variable {prog : Program} {w : World} {A : Around} {E : Value → Shared → Prop} {s : Shared} {K : PySem.W.Frag} {x dx C f : Addr} {mA : Str → Option Value} {name : Str} {v : Value}

end

section
variable {P : Program} {w : World} {H H' : Hp} {h h' : Heap} {a C dx : Addr} {fs fs' : List (Str × V)}
theorem ins_get (hok : HOk P w H h) (e : H a = some (.ins C dx fs)) : ∃ mA, ObjM h a dx C mA ∧ (∀ f, RelO (fs.lookup f) (mA f)) ∧ PySem.Within mA (fs.map (·.1)) ∧ fs.length ≤ 1000 ∧ H dx = some (.own a) := by
  obtain ⟨d, z, ne, ob, mA, n, r, q⟩ := (show ObjOk P w H h a (.ins C dx fs) from hok a _ e)
  exact ⟨mA, ⟨ob, n, ne⟩, r, q, z, d⟩
end

structure Cls (K : PySem.W.Frag) (C : Addr) : Prop where
  pg : PySem.W.plainGet K C Str.empty = true
  hd : PySem.W.hasDictIn K C = true
  po : PySem.W.plainOver K C = true
  sa : PySem.W.findIn K (.ref C) "__setattr__" = some (some (.builtin "object.__setattr__"))
theorem Cls.get {K : PySem.W.Frag} {C : Addr} (c : Cls K C) (f : Str) : PySem.W.plainGet K C f = true := c.pg
structure Con (K : PySem.W.Frag) (C : Addr) (f : Str) (v : V) (u : Value) : Prop where
  at_ : PySem.W.findIn K (.ref C) f = some (some u)
  rel : RelV v u
  get : PySem.W.specialIn K u "__get__" = some none
  cp : PySem.W.copiedNames.contains f = false
structure Meth (K : PySem.W.Frag) (C : Addr) (m : Str) (f : Addr) : Prop where
  at_ : PySem.W.findIn K (.ref C) m = some (some (.ref f))
  fn : PySem.W.isFn K (.ref f) = true
  kp : PySem.W.keepIn K (.ref f) = true

section
variable {X : Cx} {pins : List (Addr × Obj)} {σ : St} {H : Hp} {s : Shared} {a C dx : Addr} {fs : List (Str × V)} {f : Str} {v : V} {A : Around} {E : Value → Shared → Prop}

end

section
variable {X : Cx} {o e value : Expr} {f : Str} {pos pos' tpos : Pos} {ta tv : TE}
end

section
variable {X : Cx} {pins : List (Addr × Obj)} {σ : St} {H : Hp} {s : Shared} {A : Around} {E : Value → Shared → Prop} {Q : Value → Shared → Prop} {c : Value} {b : Bool}
inductive TyOf (K : PySem.W.Frag) (H : Hp) : V → Value → Prop where
  | non : TyOf K H .non (.type "NoneType")
  | bl (x : Bool) : TyOf K H (.bl x) (.type "bool")
  | int (i : Int) : TyOf K H (.int i) (.type "int")
  | str (x : Str) : TyOf K H (.str x) (.type "str")
  | flt (x : UInt64) : TyOf K H (.flt x) (.type "float")
  | lst {a : Addr} {xs : List V} (e : H a = some (.lst xs)) : TyOf K H (.ref a) (.type "list")
  | frz {a : Addr} {o : Obj} {xs : List V} (e : H a = some (.frz o (.lst xs))) : TyOf K H (.ref a) (.type "list")
  | tup {a : Addr} {xs : List V} (e : H a = some (.tup xs)) : TyOf K H (.ref a) (.type "tuple")
  | dK {a : Addr} {kvs : List (Key × V)} (e : H a = some (.dK kvs)) : TyOf K H (.ref a) (.type "dict")
  | dT {a : Addr} {kvs : List (List Key × V)} (e : H a = some (.dT kvs)) : TyOf K H (.ref a) (.type "dict")
  | ins {a C dx : Addr} {fs : List (Str × V)} (e : H a = some (.ins C dx fs)) (cl : Cls K C) (ha : PySem.W.findIn K (.ref C) "__class__" = some (some (.builtin "object.__class__")))
      (hn : PySem.W.specialIn K (.builtin "object.__class__") "__get__" = some (some (.builtin "getset_descriptor.__get__"))) (htk : PySem.W.takesIn K (.builtin "object.__class__") = some true)
      (hm : PySem.W.mroIn K C (.type "object") = some true) : TyOf K H (.ref a) (.ref C)
theorem isinst_ok {x : V} {u t : Value} (I : Inv X pins σ H s) (rx : RelV x u) (ty : TyOf X.K H x t) (e : PySem.W.kitOne X.K t c = some b) (h : ∀ tk, Q (.bool b) { s with toks := tk }) :
    wpAny (model X.prog X.w) A (call (.builtin "isinstance") [u, c]) Q E s := by
  cases ty with
  | non => cases (show u = Value.none from rx); exact PySem.W.kia_one PySem.W.kitx_none I.kIn True.intro e (fun z => nomatch z) h
  | bl y => cases (show u = Value.bool y from rx); exact PySem.W.kia_one PySem.W.kitx_bool I.kIn True.intro e (fun z => nomatch z) h
  | int i => obtain ⟨t, q⟩ := (show ∃ t, u = Value.int i t from rx); cases q; exact PySem.W.kia_one PySem.W.kitx_int I.kIn True.intro e (fun z => nomatch z) h
  | str y => obtain ⟨t, q⟩ := (show ∃ t, u = Value.str y t from rx); cases q; exact PySem.W.kia_one PySem.W.kitx_str I.kIn True.intro e (fun z => nomatch z) h
  | flt y => obtain ⟨t, q⟩ := (show ∃ t, u = Value.float y t from rx); cases q; exact PySem.W.kia_one PySem.W.kitx_float I.kIn True.intro e (fun z => nomatch z) h
  | @lst a xs ea =>
    cases (show u = Value.ref a from rx)
    obtain ⟨_, _, n, _, h1⟩ := (show ObjOk X.prog X.w H s.heap a (.lst xs) from I.hok a _ ea)
    exact PySem.W.kia_one PySem.W.kitx_list I.kIn ⟨_, h1, rfl⟩ e (fun z => nomatch z) h
  | @frz a ob xs ea =>
    cases (show u = Value.ref a from rx)
    obtain ⟨_, _, _, n, _, h1⟩ := (show ObjOk X.prog X.w H s.heap a (.frz ob (.lst xs)) from I.hok a _ ea)
    exact PySem.W.kia_one PySem.W.kitx_list I.kIn ⟨_, h1, rfl⟩ e (fun z => nomatch z) h
  | @tup a xs ea =>
    cases (show u = Value.ref a from rx)
    obtain ⟨_, _, _, p⟩ := (show ObjOk X.prog X.w H s.heap a (.tup xs) from I.hok a _ ea)
    obtain ⟨o, h1, h2, _⟩ := p
    exact PySem.W.kia_one PySem.W.kitx_tuple I.kIn ⟨o, h1, h2⟩ e (fun z => nomatch z) h
  | @dK a kvs ea =>
    cases (show u = Value.ref a from rx)
    obtain ⟨_, _, vs, _, p⟩ := (show ObjOk X.prog X.w H s.heap a (.dK kvs) from I.hok a _ ea)
    obtain ⟨o, es, ep, h1, h2, _⟩ := p
    exact PySem.W.kia_one PySem.W.kitx_dict I.kIn ⟨o, h1, h2.1⟩ e (fun z => nomatch z) h
  | @dT a kvs ea =>
    cases (show u = Value.ref a from rx)
    obtain ⟨_, _, xs, _, o, es, ep, h1, h2, _⟩ := (show ObjOk X.prog X.w H s.heap a (.dT kvs) from I.hok a _ ea)
    exact PySem.W.kia_one PySem.W.kitx_dict I.kIn ⟨o, h1, h2.1⟩ e (fun z => nomatch z) h
  | @ins a C dx fs ea cl ha hn htk hm =>
    cases (show u = Value.ref a from rx)
    obtain ⟨mA, O, _⟩ := ins_get I.hok ea
    obtain ⟨od, J, _⟩ := O.look
    exact PySem.W.kia_one (PySem.W.kitx_own (cl.get _) cl.hd ha hn htk hm) I.kIn J e (fun z => nomatch z) h
end
end L2

namespace L2
open PySem PySem.Spec PyProof.Rows

structure Room (k : Nat) (A : Around) : Prop where
  hd : A.handled = none
  dp : A.depth + 3 * k + 5 < recursionLimit
  un : A.units + 16 * k + 200 < cLine
theorem Room.mono {j k : Nat} {A : Around} (r : Room k A) (h : j ≤ k) : Room j A := ⟨r.hd, by have := r.dp; omega, by have := r.un; omega⟩
theorem Room.deeper {k : Nat} {A : Around} (r : Room (k + 1) A) (env : Env) : Room k (A.deeper env) :=
  ⟨r.hd, by have := r.dp; show A.depth + 1 + 3 * k + 5 < _; omega, by have := r.un; show A.units + 3 + 16 * k + 200 < _; omega⟩
theorem Room.depth {k : Nat} {A : Around} (r : Room k A) : A.depth < recursionLimit := by have := r.dp; omega
theorem Room.units {k : Nat} {A : Around} (r : Room k A) : A.units + 64 < cLine := by have := r.un; omega
def tNil : TA := fun _ H Q => Q [] H
def tCons (ta : TE) (tr : TA) : TA := fun σ H Q => ta σ H fun x H1 => tr σ H1 fun xs H2 => Q (x :: xs) H2
section
variable {X : Cx} {e : Expr} {es : List Expr} {te : TE} {t : TA} {pos : Pos}
theorem pa_nil : PA X [] tNil := fun _ _ _ _ H Q I h => Calls.spliced_nil ⟨[], H, I, .nil, h⟩
theorem pa_cons (ha : PE X e te) (hr : PA X es t) (hs : starEach (e :: es) X.env = (false, eval e X.env) :: starEach es X.env := by rfl) : PA X (e :: es) (tCons te t) := by
  intro pos pins s σ H Q I h
  rw [hs]
  show wpAny _ _ (spliced ((false, eval e X.env) :: backTo pos (starEach es X.env))) _ _ s
  refine Calls.spliced_cons (thn (ha pins s σ H _ I h) fun u s1 ⟨x, H1, I1, r1, q1⟩ => ?_)
  exact thn (hr pos pins s1 σ H1 _ I1 q1) fun us s2 ⟨xs, H2, I2, r2, q2⟩ => ⟨x :: xs, H2, I2, .cons r1 r2, q2⟩

def tTup (t : TA) : TE := fun σ H Q => t σ H fun xs H1 => xs.length ≤ sizeLine ∧ ∀ p, H1 p = none → Q (.ref p) (upd H1 p (.tup xs))
def tLst (t : TA) : TE := fun σ H Q => t σ H fun xs H1 => xs.length ≤ sizeLine ∧ ∀ p, H1 p = none → Q (.ref p) (upd H1 p (.lst xs))
theorem pe_tup {x1} (h : PA X es t) : PE X (.Tuple es x1 pos) (tTup t) := by
  intro pins s σ H Q I hq
  refine wpAny_Tuple_spliced (thn (h pos pins s σ H _ I hq) fun us s1 ⟨xs, H1, I1, r, z, q⟩ => ⟨by rw [← r.length]; exact z, ?_⟩)
  have hf : H1 s1.heap.objs.size = none := I1.hok.fresh (Nat.le_refl _)
  refine ⟨.ref s1.heap.objs.size, upd H1 s1.heap.objs.size (.tup xs), I1.laid (t' := s1.toks) (fun b u e => Heap.get?_push_of_some _ e) (Nat.le_refl _) ?_, rfl, q _ hf⟩
  exact ⟨z, us, r, ⟨_, Heap.get?_push_size _ rfl, rfl, _, rfl⟩⟩
theorem pe_lst (h : PA X es t) : PE X (.List es pos) (tLst t) := by
  intro pins s σ H Q I hq
  refine wpAny_List_spliced (thn (h pos pins s σ H _ I hq) fun us s1 ⟨xs, H1, I1, r, z, q⟩ => ⟨by rw [← r.length]; exact z, ?_⟩)
  have hf : H1 s1.heap.objs.size = none := I1.hok.fresh (Nat.le_refl _)
  refine ⟨.ref s1.heap.objs.size, upd H1 s1.heap.objs.size (.lst xs), I1.laid (t' := s1.toks) (fun b u e => Heap.get?_push_of_some _ e) (Nat.le_refl _) ?_, rfl, q _ hf⟩
  exact ⟨z, us, 0, r, Heap.get?_push_size _ rfl⟩
end

abbrev Sp := List V → Hp → VK → XK → Prop
abbrev CXT := List Env → Hp → Shared → XK → Value → Shared → Prop

structure Env0 (P : Program) (w : World) (K : PySem.W.Frag) (mg : Str → Option Value) (base : Heap) (A : Around) (outer : List Env) (s : Shared) (H : Hp) : Prop where
  frames : A.frames = some outer
  mod : Mod K mg base
  bs : ∀ b o, base.get? b = some o → s.heap.get? b = some o ∧ H b = none
  bsz : base.objs.size ≤ s.heap.objs.size
  funs : s.heap.FunFrames base outer
  frf : ∀ b ∈ frs outer, H b = none
  hok : HOk P w H s.heap
  bare : AllBare s.gens
def CE (outer : List Env) (P : Program) (w : World) (H : Hp) (s : Shared) (Q : VK) (u : Value) (s' : Shared) : Prop :=
  ∃ v H', s'.os = s.os ∧ AllBare s'.gens ∧ Un (frs outer) [] H H' s.heap s'.heap ∧ HOk P w H' s'.heap ∧ RelV v u ∧ Q v H'
def CR (CX : CXT) (outer : List Env) (P : Program) (w : World) (H : Hp) (s : Shared) (Q : VK) (E : XK) (r : Result) (s' : Shared) : Prop :=
  match r with
  | .ok (.ret u) => CE outer P w H s Q u s'
  | .ok _ => False
  | .error e => CX outer H s E e s'
structure FnOk (P : Program) (w : World) (K : PySem.W.Frag) (mg : Str → Option Value) (base : Heap) (CX : CXT) (k : Nat) (f : Addr) (fd : FuncData) (ps : List Str) (sp : Sp) : Prop where
  len : ∀ vs H Q E, sp vs H Q E → vs.length = ps.length
  run : ∀ (A : Around) (outer : List Env) (s : Shared) (H : Hp) (args : Args) (us : List Value) (vs : List V) (Q : VK) (E : XK), Room k A → Env0 P w K mg base A outer s H → BindsTo s fd args (ps.zip us) → Vals vs us → sp vs H Q E →
    codeAny (model P w) A (.call (.ref f) args) (CR CX outer P w H s Q E) s
theorem FnOk.mono {P : Program} {w : World} {K : PySem.W.Frag} {mg : Str → Option Value} {base : Heap} {CX : CXT} {j k : Nat} {f : Addr} {fd : FuncData} {ps : List Str} {sp : Sp} (F : FnOk P w K mg base CX j f fd ps sp) (h : j ≤ k) :
    FnOk P w K mg base CX k f fd ps sp := ⟨F.len, fun A outer s H args us vs Q E hr => F.run A outer s H args us vs Q E (hr.mono h)⟩
section
variable {X : Cx} {pins : List (Addr × Obj)} {σ : St} {H : Hp} {s s' : Shared}
theorem Inv.env0 (I : Inv X pins σ H s) : Env0 X.prog X.w X.K X.mg X.base X.A X.stack s H :=
  ⟨I.ok.frames, I.ok.mod, I.bs, Nat.le_trans I.ok.bsz I.sz, I.stack, I.stkFree, I.hok, I.bare⟩
theorem Inv.after {Q : VK} {u : Value} (I : Inv X pins σ H s) (h : CE X.stack X.prog X.w H s Q u s') : EP X pins σ Q u s' := by
  obtain ⟨v, H', os, bare, un, hok, r, q⟩ := h
  obtain ⟨hh, g, d, t, os'⟩ := s'
  obtain rfl : os' = s.os := os
  exact ⟨v, H', I.call (h' := hh) (g' := g) (d' := d) (t' := t) (ch := []) un hok bare (fun b z => absurd z (by simp)), r, q⟩
end

def tCall (sp : Sp) (dvs : List V) (E : XK) (t : TA) : TE := fun σ H Q => t σ H fun vs H1 => sp (vs ++ dvs) H1 Q E
def Binds (K : PySem.W.Frag) (fd : FuncData) (ps : List Str) (ds : List Value) : Prop :=
  ∀ (s : Shared) (us : List Value), K.In s.heap → (us ++ ds).length = ps.length → BindsTo s fd ⟨us, []⟩ (ps.zip (us ++ ds))
theorem Binds.all {K : PySem.W.Frag} {fd : FuncData} {ps : List Str} (h : ∀ us : List Value, us.length = ps.length → bindArgs fd ⟨us, []⟩ = pure (ps.zip us)) : Binds K fd ps [] := fun s us _ hl => by
  rw [List.append_nil] at hl ⊢
  exact .of_eq (h us hl)

def Passes (CX : CXT) (X : Cx) (E : XK) : Prop := ∀ (pins : List (Addr × Obj)) (σ : St) (H : Hp) (s : Shared) (e : Value) (s' : Shared), Inv X pins σ H s → CX X.stack H s E e s' → X.xe e s'

section
variable {X : Cx} {CX : CXT} {k : Nat} {f C : Addr} {fd : FuncData} {ps : List Str} {sp : Sp} {dvs : List V} {ds : List Value} {E : XK} {x m : Str} {p pos apos : Pos} {e o : Expr} {es : List Expr} {ta : TE} {t : TA}

theorem run_fn {pins : List (Addr × Obj)} {σ : St} {H : Hp} {s : Shared} {Q : VK} {us : List Value} {vs : List V} (F : FnOk X.prog X.w X.K X.mg X.base CX k f fd ps sp) (hr : Room k X.A) (hb : Binds X.K fd ps ds) (hd : Vals dvs ds) (hx : Passes CX X E)
    (I : Inv X pins σ H s) (r : Vals vs us) (h : sp (vs ++ dvs) H Q E) : wpAny (model X.prog X.w) X.A (call (.ref f) us) (EP X pins σ Q) X.xe s := by
  have r2 : Vals (vs ++ dvs) (us ++ ds) := r.append hd
  have hl : (us ++ ds).length = ps.length := by rw [← r2.length]; exact F.len _ _ _ _ h
  refine wpAny_call (codeAny_mono (F.run X.A X.stack s H ⟨us, []⟩ (us ++ ds) (vs ++ dvs) Q E hr I.env0 (hb s us I.kIn hl) r2 h) fun r s' hq => ?_)
  cases r with
  | error e => exact hx pins σ H s e s' I hq
  | ok fl =>
    cases fl with
    | ret u => exact I.after hq
    | next => exact False.elim hq
    | brk => exact False.elim hq
    | cont => exact False.elim hq

theorem pe_call (F : FnOk X.prog X.w X.K X.mg X.base CX k f fd ps sp) (hr : Room k X.A) (hg : Gl X x) (hm : X.mg x = some (.ref f)) (hk : PySem.W.keepIn X.K (.ref f) = true) (hb : Binds X.K fd ps ds) (hd : Vals dvs ds) (hx : Passes CX X E)
    (ha : PA X (e :: es) t) (hdb : (x == ("__debug__" : Str)) = false := by decide) (he : starEach (e :: es) X.env = (false, eval e X.env) :: starEach es X.env := by rfl) (hpl : (backTo pos (starEach es X.env)).any (·.1) = false := by rfl) :
    PE X (.Call (.Name x p) (e :: es) [] pos) (tCall sp dvs E t) := by
  intro pins s σ H Q I h
  refine wpAny_Call_Name_kw (ld_glob I hg hm ?_ hdb)
  refine PySem.W.callWith_K (h₀ := X.base) I.ok.mod.kin hk (thn (ha pos pins s σ H _ I h) fun us s1 ⟨vs, H1, I1, r, q⟩ => ⟨I1.kIn, ?_⟩) he hpl
  exact run_fn F hr hb hd hx I1 r q
structure Mk (K : PySem.W.Frag) (C f : Addr) : Prop where
  makes : PySem.W.makesIn K C = true
  init : PySem.W.findIn K (.ref C) "__init__" = some (some (.ref f))
  fn : PySem.W.isFn K (.ref f) = true
  kp : PySem.W.keepIn K (.ref C) = true

end

section
variable {X : Cx} {CX : CXT} {k : Nat} {f C : Addr} {fd : FuncData} {ps ks : List Str} {sp : Sp} {E : XK} {x m : Str} {p pos apos kpos : Pos} {e o : Expr} {es : List Expr} {kws : List Keyword} {te ta : TE} {t tk : TA} {nm : Option Str}
structure KBinds (K : PySem.W.Frag) (fd : FuncData) (ps ks : List Str) (g : List Value → List Value → List Value) (gV : List V → List V → List V) : Prop where
  to : ∀ (s : Shared) (us ws : List Value), K.In s.heap → (g us ws).length = ps.length → BindsTo s fd ⟨us, ks.zip ws⟩ (ps.zip (g us ws))
  rel : ∀ {vs : List V} {us : List Value} {zs : List V} {ws : List Value}, Vals vs us → Vals zs ws → Vals (gV vs zs) (g us ws)
variable {g : List Value → List Value → List Value} {gV : List V → List V → List V}
end

structure FnScope (N P : List Str) (sc : Scope) : Prop where
  kind : sc.kind = .function
  co : sc.isCoroutine = false
  gen : sc.isGenerator = false
  nd : N.Nodup
  pre : N.take P.length = P
  par : ∀ x ∈ P, sc.names.lookup x = some .local ∨ sc.names.lookup x = some .cell
  nofree : ∀ y ∈ sc.names, y.2 ≠ .free

theorem bindL_out {kindOf : Str → Option NameKind} {x : Str} : ∀ {binds : List (Str × Value)} {m : Str → Option Value}, (∀ v, (x, v) ∉ binds) → bindL kindOf binds m x = m x
  | [], _, _ => rfl
  | (n, v) :: r, m, h => by
    unfold bindL
    rw [bindL_out fun w hw => h w (List.mem_cons_of_mem _ hw)]
    split
    · have : x ≠ n := by rintro rfl; exact h v List.mem_cons_self
      simp [this]
    · rfl
theorem bindC_out {kindOf : Str → Option NameKind} {x : Str} : ∀ {binds : List (Str × Value)} {m : Str → Option Value}, (∀ v, (x, v) ∉ binds) → bindC kindOf binds m x = m x
  | [], _, _ => rfl
  | (n, v) :: r, m, h => by
    unfold bindC
    rw [bindC_out fun w hw => h w (List.mem_cons_of_mem _ hw)]
    split
    · rfl
    · have : x ≠ n := by rintro rfl; exact h v List.mem_cons_self
      simp [this]
theorem bindL_get {kindOf : Str → Option NameKind} {x : Str} {v : Value} : ∀ {P : List Str} {vs : List Value} {i : Nat} {m : Str → Option Value}, P.Nodup → P[i]? = some x → vs[i]? = some v → kindOf x = some .local →
    bindL kindOf (P.zip vs) m x = some v
  | [], _, _, _, _, h, _, _ => by simp at h
  | _ :: _, [], _, _, _, _, h, _ => by simp at h
  | p :: P, w :: vs, 0, m, nd, h1, h2, hk => by
    simp at h1 h2; subst h1; subst h2
    show bindL kindOf ((p, w) :: P.zip vs) m p = _
    unfold bindL
    rw [bindL_out fun v hv => (List.nodup_cons.mp nd).1 (List.of_mem_zip hv).1, if_pos hk]
    simp
  | p :: P, w :: vs, i + 1, m, nd, h1, h2, hk => by
    show bindL kindOf ((p, w) :: P.zip vs) m x = _
    unfold bindL
    exact bindL_get (i := i) (List.nodup_cons.mp nd).2 (by simpa using h1) (by simpa using h2) hk
theorem bindC_get {kindOf : Str → Option NameKind} {x : Str} {v : Value} : ∀ {P : List Str} {vs : List Value} {i : Nat} {m : Str → Option Value}, P.Nodup → P[i]? = some x → vs[i]? = some v → kindOf x ≠ some .local →
    bindC kindOf (P.zip vs) m x = some v
  | [], _, _, _, _, h, _, _ => by simp at h
  | _ :: _, [], _, _, _, _, h, _ => by simp at h
  | p :: P, w :: vs, 0, m, nd, h1, h2, hk => by
    simp at h1 h2; subst h1; subst h2
    show bindC kindOf ((p, w) :: P.zip vs) m p = _
    unfold bindC
    rw [bindC_out fun v hv => (List.nodup_cons.mp nd).1 (List.of_mem_zip hv).1, if_neg hk]
    simp
  | p :: P, w :: vs, i + 1, m, nd, h1, h2, hk => by
    show bindC kindOf ((p, w) :: P.zip vs) m x = _
    unfold bindC
    exact bindC_get (i := i) (List.nodup_cons.mp nd).2 (by simpa using h1) (by simpa using h2) hk

def start (N : List Str) (vs : List V) : St := vs.map some ++ List.replicate (N.length - vs.length) none

def cxOf (CX : CXT) (P : Program) (w : World) (K : PySem.W.Frag) (mg : Str → Option Value) (base : Heap) (N : List Str) (qual : Str) (scope : Scope) (f : Addr) (cd : Value) (A : Around) (outer : List Env) (s : Shared) (H : Hp) (E : XK) : Cx where
  prog := P
  w := w
  K := K
  mg := mg
  base := base
  A := A.deeper (envOfC qual scope s.heap.objs.size f cd)
  N := N
  s₀ := s
  H₀ := H
  env := envOfC qual scope s.heap.objs.size f cd
  outer := outer
  stack := envOfC qual scope s.heap.objs.size f cd :: outer
  ex := []
  calm := true
  fn := fun _ => true
  pn := []
  xe := fun e s' => wpAny (model P w) (A.deeper (envOfC qual scope s.heap.objs.size f cd)) (leaving (envOfC qual scope s.heap.objs.size f cd) e) (fun _ s'' => CX outer H s E e s'') (fun e' s'' => CX outer H s E e' s'') s'

theorem cell_has {sc : Scope} {n : Nat} {x : Str} (h : sc.names.lookup x = some .cell) : ∃ c, (cellsFrom n sc.names []).lookup x = some c := by
  have q := PySem.W.cellsFrom_some sc.names n [] (.inl h)
  exact Option.isSome_iff_exists.mp q

theorem inv_start {CX : CXT} {P : Program} {w : World} {K : PySem.W.Frag} {mg : Str → Option Value} {base : Heap} {N ps : List Str} {qual : Str} {scope : Scope} {f : Addr} {cd : Value} {A : Around} {outer : List Env} {s s1 : Shared} {H : Hp} {E : XK} {us : List Value} {vs : List V}
    (S : FnScope N ps scope) (hd : A.handled = none) (e0 : Env0 P w K mg base A outer s H) (hl : vs.length = ps.length) (r : Vals vs us)
    (x : InCallC s s.heap.objs.size (bindL (envOfC qual scope s.heap.objs.size f cd).kindOf (ps.zip us) fun _ => none) (cellsFrom (s.heap.objs.size + 1) scope.names []) (bindC (envOfC qual scope s.heap.objs.size f cd).kindOf (ps.zip us) fun _ => none) s1) :
    Inv (cxOf CX P w K mg base N qual scope f cd A outer s H E) [] (start N vs) H s1 := by
  have hpl : ps.length ≤ N.length := by have := congrArg List.length S.pre; rw [List.length_take] at this; omega
  obtain ⟨h1, tk, rfl, hk⟩ := x.done
  have noA : ∀ b : Addr, b ∉ (cxOf CX P w K mg base N qual scope f cd A outer s H E).ex := fun b z => absurd (show b ∈ ([] : List Addr) from z) (by simp)
  refine ⟨⟨e0.mod, S.kind, rfl, rfl, Nat.le_refl _, fun y z c h1 h2 => ?_, fun y hy => ?_, fun y c _ h => ?_, fun _ => hd, Around.frames_deeper e0.frames, .inr ⟨rfl, rfl⟩, fun b z => absurd z (noA b), e0.bs, e0.bsz, fun b _ _ => noA b, fun b z => absurd z (noA b), e0.funs, e0.frf⟩,
    rfl, e0.bare, Un.kept hk, ⟨_, x.toInCall.ns, fun i y v h1 h2 h3 => ?_⟩, fun y c h => ⟨_, x.cell y c h⟩, e0.hok.fresh (Nat.le_refl _), fun y c h => ?_, fun p hp => absurd (show p ∈ ([] : List (Addr × Obj)) from hp) (by simp), e0.hok.kept hk, ?_⟩
  · exact name_of_addr x.apart (PySem.mem_of_lookup h1) (PySem.mem_of_lookup h2)
  · have hy : scope.names.lookup y = some .cell ∨ scope.names.lookup y = some .free := hy
    rcases hy with hy | hy
    · exact cell_has hy
    · exact absurd rfl (S.nofree _ (PySem.mem_of_lookup hy))
  · exact Nat.le_of_lt (x.above y c (PySem.mem_of_lookup h))
  · have hi : i < vs.length := by
      unfold start at h2
      by_cases hi : i < vs.length
      · exact hi
      · rw [List.getElem?_append_right (by simpa using hi)] at h2
        rw [List.getElem?_replicate] at h2
        split at h2 <;> cases h2
    have ha : vs[i]? = some v := by
      unfold start at h2
      rw [List.getElem?_append_left (by simpa using hi), List.getElem?_map] at h2
      cases e : vs[i]? with
      | none => rw [e] at h2; cases h2
      | some a => rw [e] at h2; cases h2; rfl
    obtain ⟨u, hu, rv⟩ := r.get ha
    have hp : ps[i]? = some y := by
      rw [← S.pre, List.getElem?_take_of_lt (by omega)]; exact h1
    have ndP : ps.Nodup := by rw [← S.pre]; exact S.nd.sublist (List.take_sublist _ _)
    refine ⟨u, rv, ?_⟩
    rcases S.par y (List.mem_of_getElem? hp) with k | k
    · exact .inl ⟨k, bindL_get ndP hp hu k⟩
    · obtain ⟨c, e⟩ := cell_has (n := s.heap.objs.size + 1) k
      refine .inr ⟨.inl k, c, e, ?_⟩
      have q := x.cell y c e
      rw [bindC_get ndP hp hu (by show scope.names.lookup y ≠ _; rw [k]; decide)] at q
      exact q
  · exact e0.hok.fresh (Nat.le_of_lt (x.above y c (PySem.mem_of_lookup h)))
  · unfold start
    show _ = N.length
    rw [List.length_append, List.length_map, List.length_replicate]
    omega

theorem fn_of {CX : CXT} {P : Program} {w : World} {K : PySem.W.Frag} {mg : Str → Option Value} {base : Heap} {k : Nat} {f : Addr} {name qual : Str} {params : Arguments} {body : List Stmt} {scope : Scope} {dV kV doc pm cdv ct oc : Value} {an od : Option Addr}
    {osl : Array (Option Value)} {N ps : List Str} {sp : Sp} (lk : K.lookup f = some ⟨oc, od, .func (PySem.W.fnOf name qual params body scope dV kV doc pm an cdv ct), osl⟩) (hcd : PySem.W.codeIn K cdv qual = true) (S : FnScope N ps scope)
    (len : ∀ vs H Q E, sp vs H Q E → vs.length = ps.length)
    (hbody : ∀ (A : Around) (outer : List Env) (s : Shared) (H : Hp) (vs : List V) (Q : VK) (E : XK), Room k (A.deeper (envOfC qual scope s.heap.objs.size f cdv)) → sp vs H Q E →
      ∃ t, PSs (cxOf CX P w K mg base N qual scope f cdv A outer s H E) body t ∧ t { nx := fun _ H' => Q .non H', rt := Q } (start N vs) H) :
    FnOk P w K mg base CX (k + 1) f (PySem.W.fnOf name qual params body scope dV kV doc pm an cdv ct) ps sp := by
  refine ⟨len, fun A outer s H args us vs Q E hr e0 hb r hsp => ?_⟩
  have hl := len _ _ _ _ hsp
  have KX : K.In s.heap := e0.mod.kin.keeps fun b o e => (e0.bs b o e).1
  have lim : s.heap.NoLimit := e0.mod.nolimit.keeps fun b o e => (e0.bs b o e).1
  have hkind : ∀ y ∈ ps.zip us, scope.names.lookup y.1 = some .local ∨ (scope.names.lookup y.1 = some .cell ∧ ((cellsFrom (s.heap.objs.size + 1) scope.names []).lookup y.1).isSome = true) := fun ⟨n, v⟩ hy => by
    rcases S.par n (List.of_mem_zip hy).1 with q | q
    · exact .inl q
    · exact .inr ⟨q, PySem.W.cellsFrom_some _ _ _ (.inl q)⟩
  refine codeAny_call_function hr.depth (KX _ _ lk) rfl S.co S.gen rfl (PySem.W.codeRec_of KX hcd) (hb _ _ _ _ ?_)
  refine wpAny_newFunctionEnv_cells S.kind hkind fun env he s1 x => ?_
  subst he
  refine ⟨lim.keeps x.toInCall.keep, codeAny_func ?_⟩
  obtain ⟨t, ht, hq⟩ := hbody A outer s H vs Q E (hr.deeper _) hsp
  have I : Inv (cxOf CX P w K mg base N qual scope f cdv A outer s H E) [] (start N vs) H s1 := inv_start S hr.hd e0 hl r x
  refine wpAny_mono (ht [] s1 (start N vs) H _ I hq) (fun fl s' hs => ?_) fun e s' hs => hs
  have fin : ∀ {σ' : St} {H' : Hp} {v : V} {u : Value}, Inv (cxOf CX P w K mg base N qual scope f cdv A outer s H E) [] σ' H' s' → RelV v u → Q v H' → CE outer P w H s Q u s' :=
    fun {σ' H' v u} J rv q => ⟨v, H', J.os, J.bare, J.base, J.hok, rv, q⟩
  cases fl with
  | ret u =>
    obtain ⟨v, σ', H', J, rv, q⟩ := hs
    exact fin J rv q
  | next =>
    obtain ⟨σ', H', J, q⟩ := hs
    exact fin (v := V.non) (u := Value.none) J rfl q
  | brk =>
    obtain ⟨_, _, _, q⟩ := hs
    exact False.elim q
  | cont =>
    obtain ⟨_, _, _, q⟩ := hs
    exact False.elim q
end L2

namespace L2
open PySem PySem.Spec PyProof.Rows
section
variable {X : Cx} {x : Str} {p pos : Pos} {e : Expr} {es : List Expr} {t : TA} {id T : String} {r : List V → Hp → VK → Prop}

def tCB (r : List V → Hp → VK → Prop) (t : TA) : TE := fun σ H Q => t σ H fun vs H1 => r vs H1 Q
theorem pe_callB (hc : CallR X (.builtin id) r) (hg : Gl X x) (hm : X.mg x = none) (hv : bootBuiltins x = some (.builtin id)) (ha : PA X (e :: es) t) (hn : x ≠ "__name__" := by decide) (hdb : (x == ("__debug__" : Str)) = false := by decide)
    (he : starEach (e :: es) X.env = (false, eval e X.env) :: starEach es X.env := by rfl) (hpl : (backTo pos (starEach es X.env)).any (·.1) = false := by rfl) : PE X (.Call (.Name x p) (e :: es) [] pos) (tCB r t) := by
  intro pins s σ H Q I h
  refine wpAny_Call_Name_kw (ld_blt I hg hm hv ?_ hn hdb)
  exact PyProof.Rows.callWith_builtin1 (thn (ha pos pins s σ H _ I h) fun us s1 ⟨vs, H1, I1, r1, q1⟩ => hc pins s1 σ H1 vs us Q I1 r1 q1) he hpl
theorem pe_callTy (hc : CallR X (.type T) r) (hg : Gl X x) (hm : X.mg x = none) (hv : bootBuiltins x = some (.type T)) (ha : PA X (e :: es) t) (hn : x ≠ "__name__" := by decide) (hdb : (x == ("__debug__" : Str)) = false := by decide)
    (he : starEach (e :: es) X.env = (false, eval e X.env) :: starEach es X.env := by rfl) (hpl : (backTo pos (starEach es X.env)).any (·.1) = false := by rfl) : PE X (.Call (.Name x p) (e :: es) [] pos) (tCB r t) := by
  intro pins s σ H Q I h
  refine wpAny_Call_Name_kw (ld_blt I hg hm hv ?_ hn hdb)
  exact PyProof.Rows.callWith_type1 (thn (ha pos pins s σ H _ I h) fun us s1 ⟨vs, H1, I1, r1, q1⟩ => hc pins s1 σ H1 vs us Q I1 r1 q1) he hpl
end
end L2

namespace HT
open PySem PyProof.Rows

section
open PySem.SeqAt
open PySem.AutoSeq1 (wpAny_loadPart')
open PySem.MeetsSeq PySem.MeetsSeq2 PySem.MeetsSeq3

end

section
variable {prog : Program} {w : World} {A : Around} {E : Value → Shared → Prop} {s : Shared}

def sIx (n d : Nat) : Option Int → Nat
  | none => d
  | some v => if v < 0 then (v + (n : Int)).toNat else min v.toNat n
end
end HT

namespace L2
open PySem PySem.Spec PyProof.Rows

abbrev TO := St → Hp → (Option Int → Hp → Prop) → Prop
def PO (X : Cx) (e : Option Expr) (t : TO) : Prop :=
  ∀ (pins : List (Addr × Obj)) (s : Shared) (σ : St) (H : Hp) (Q : Option Int → Hp → Prop), Inv X pins σ H s → t σ H Q →
    wpAny (model X.prog X.w) X.A (evalPart e X.env) (fun u s' => ∃ o H', Inv X pins σ H' s' ∧ IsPart u o ∧ Q o H') X.xe s
def tNoPart : TO := fun _ H Q => Q none H
def tPart (t : TE) : TO := fun σ H Q => t σ H fun x H1 => ∃ i, x = .int i ∧ Q (some i) H1

section
variable {X : Cx} {e : Expr} {te : TE} {lo hi : Option Expr} {tl th : TO} {pos p2 : Pos}

theorem po_none : PO X none tNoPart := by
  intro pins s σ H Q I h
  rw [evalPart_none]
  exact wpAny_pure ⟨none, H, I, .none, h⟩
theorem po_some (h : PE X e te) : PO X (some e) (tPart te) := by
  intro pins s σ H Q I hw
  rw [evalPart_some]
  refine thn (h pins s σ H _ I hw) fun u s1 ⟨x, H1, I1, r1, q1⟩ => ?_
  obtain ⟨i, rfl, q⟩ := q1
  obtain ⟨t, rfl⟩ := r1
  exact ⟨some i, H1, I1, .int i t, q⟩

def SlR (X : Cx) (r : V → Option Int → Option Int → Hp → VK → Prop) : Prop :=
  ∀ (pins : List (Addr × Obj)) (s : Shared) (σ : St) (H : Hp) (x : V) (v vl vu : Value) (lo hi : Option Int) (sl : Addr) (Q : VK), Inv X pins σ H s → RelV x v → s.heap.IsSliceOf sl vl vu .none → IsPart vl lo → IsPart vu hi → r x lo hi H Q →
    ∃ T id, typeLookup (.type T) "__getitem__" = pure (some (.builtin id)) ∧ s.TypeIs v T ∧ wpAny (model X.prog X.w) X.A (getItem v (.ref sl)) (EP X pins σ Q) X.xe s
def tSl (r : V → Option Int → Option Int → Hp → VK → Prop) (te : TE) (tl th : TO) : TE := fun σ H Q => te σ H fun x H1 => tl σ H1 fun l H2 => th σ H2 fun u H3 => r x l u H3 Q
theorem pe_slice {r : V → Option Int → Option Int → Hp → VK → Prop} (hr : SlR X r) (he : PE X e te) (hl : PO X lo tl) (hu : PO X hi th) : PE X (.Subscript e (.Slice lo hi none p2) pos) (tSl r te tl th) := by
  intro pins s σ H Q I h
  refine Subscript_ (thn (he pins s σ H _ I h) fun v s1 ⟨x, H1, I1, r1, q1⟩ => ?_)
  refine wpAny_Slice (thn (hl pins s1 σ H1 _ I1 q1) fun vl s2 ⟨l, H2, I2, pl, q2⟩ => thn (hu pins s2 σ H2 _ I2 q2) fun vu s3 ⟨u, H3, I3, pu, q3⟩ => ?_)
  rw [evalPart_none]
  refine wpAny_pure ?_
  have I4 : Inv X pins σ H3 { s3 with heap := s3.heap.push { cls := .type "slice", data := .fields #[vl, vu, .none] } } := I3.kept (t' := s3.toks) fun b ob q => Heap.get?_push_of_some _ q
  obtain ⟨T, id, hT, ht, hg⟩ := hr pins { s3 with heap := s3.heap.push { cls := .type "slice", data := .fields #[vl, vu, .none] } } σ H3 x v vl vu l u s3.heap.objs.size Q I4 r1 (Heap.IsSliceOf.new ..) pl pu q3
  show wpAny (model X.prog X.w) X.A (subscriptTail e (.Slice lo hi none p2) v (.ref s3.heap.objs.size)) (EP X pins σ Q) X.xe { s3 with heap := s3.heap.push { cls := .type "slice", data := .fields #[vl, vu, .none] } }
  exact tail_any (ops := [.ref s3.heap.objs.size, v]) ht hT hg (by with_unfolding_all rfl)

def cutV (xs : List V) (lo hi : Option Int) : List V := (xs.drop (HT.sIx xs.length 0 lo)).take (HT.sIx xs.length xs.length hi - HT.sIx xs.length 0 lo)
theorem cutV_length (xs : List V) (lo hi : Option Int) : (cutV xs lo hi).length ≤ xs.length := by
  unfold cutV
  rw [List.length_take, List.length_drop]
  omega
end
end L2

namespace L2
open PySem PySem.Spec PyProof.Rows

def ixN (n : Nat) (i : Int) : Option Nat := if 0 ≤ i then (if i < n then some i.toNat else none) else if -(n : Int) ≤ i then some (i + n).toNat else none
def atI {α : Type} (xs : List α) (i : Int) : Option α := (ixN xs.length i).bind fun j => xs[j]?
theorem ixN_seq {n : Nat} {i : Int} {j : Nat} (h : ixN n i = some j) : seqIndex? i n = some j ∧ j < n ∧ -(n : Int) ≤ i ∧ i < n := by
  unfold ixN at h
  by_cases h0 : 0 ≤ i
  · rw [if_pos h0] at h
    by_cases h1 : i < n
    · rw [if_pos h1] at h
      have e : i.toNat = j := Option.some.inj h
      exact ⟨by rw [seqIndex_of h0 h1, e], by omega, by omega, h1⟩
    · rw [if_neg h1] at h; cases h
  · rw [if_neg h0] at h
    by_cases h1 : -(n : Int) ≤ i
    · rw [if_pos h1] at h
      have e : (i + n).toNat = j := Option.some.inj h
      exact ⟨by rw [seqIndex_neg (by omega) h1, e], by omega, h1, by omega⟩
    · rw [if_neg h1] at h; cases h
theorem atI_get {α : Type} {xs : List α} {i : Int} {v : α} (h : atI xs i = some v) : ∃ j, seqIndex? i xs.length = some j ∧ xs[j]? = some v ∧ j < xs.length ∧ -(xs.length : Int) ≤ i ∧ i < xs.length := by
  unfold atI at h
  cases e : ixN xs.length i with
  | none => rw [e] at h; cases h
  | some j =>
    rw [e] at h
    obtain ⟨h1, h2, h3, h4⟩ := ixN_seq e
    exact ⟨j, h1, h, h2, h3, h4⟩
theorem atI_nat {α : Type} {xs : List α} {j : Nat} {v : α} (h : xs[j]? = some v) : atI xs (j : Int) = some v := by
  have hj : j < xs.length := (List.getElem?_eq_some_iff.mp h).1
  have e : ixN xs.length (j : Int) = some j := by
    unfold ixN
    rw [if_pos (by omega), if_pos (by omega)]; simp
  unfold atI; rw [e]; exact h
def PlainIx (b : Expr) : Prop := ∀ o i, subscripted b false o i = operate [o, i] (getItem o i)
def IxR (X : Cx) (r : R2) : Prop :=
  ∀ (value slice : Expr) (pins : List (Addr × Obj)) (s : Shared) (σ : St) (H : Hp) (x y : V) (v u : Value) (Q : VK), Inv X pins σ H s → RelV x v → RelV y u → r x y H Q →
    subscripted slice false v u = operate [v, u] (getItem v u) → wpAny (model X.prog X.w) X.A (subscriptTail value slice v u) (EP X pins σ Q) X.xe s
def MtR (X : Cx) (id : String) (r : V → List V → Hp → VK → Prop) : Prop :=
  ∀ (pins : List (Addr × Obj)) (s : Shared) (σ : St) (H : Hp) (x : V) (xs : List V) (v : Value) (us : List Value) (Q : VK), Inv X pins σ H s → RelV x v → Vals xs us → r x xs H Q →
    wpAny (model X.prog X.w) X.A (call (.builtin id) (v :: us)) (EP X pins σ Q) X.xe s
section
variable {X : Cx} {a b : Expr} {ta tb : TE} {pos : Pos}
theorem pe_ix {r : R2} (hr : IxR X r) (ha : PE X a ta) (hb : PE X b tb) (hs : PlainIx b) : PE X (.Subscript a b pos) (tOp r ta tb) := by
  intro pins s σ H Q I h
  exact Subscript_ (binT ha hb I h fun v u s2 x y H2 I2 rx ry q => hr a b pins s2 σ H2 x y v u Q I2 rx ry q (hs _ _))

def rIxL (K : PySem.W.Frag) : R2 := fun x y H Q => ∃ p xs i v, x = .ref p ∧ y = .int i ∧ SqL K H p xs ∧ atI xs i = some v ∧ Q v H
def rIxT (K : PySem.W.Frag) : R2 := fun x y H Q => ∃ p xs i v, x = .ref p ∧ y = .int i ∧ SqT K H p xs ∧ atI xs i = some v ∧ Q v H
theorem ix_list : IxR X (rIxL X.K) := by
  intro value slice pins s σ H x y v u Q I rx ry h hs
  obtain ⟨p, xs, i, z, rfl, rfl, hq, he, q⟩ := h
  cases rx
  obtain ⟨t, rfl⟩ := ry
  obtain ⟨its, r, pl, hz⟩ := I.list hq
  obtain ⟨j, h1, h2, h3, h4, h5⟩ := atI_get he
  obtain ⟨w, ew, rw'⟩ := r.get h2
  have hl := r.length
  have hn := line63
  have fin : EP X pins σ Q w s := ⟨z, H, I, rw', q⟩
  by_cases h0 : 0 ≤ i
  · have hj : i.toNat = j := by
      rw [seqIndex_of h0 h5] at h1
      exact Option.some.inj h1
    exact item_listR pl.isList h0 (by omega) (by rw [hj]; simpa using ew) fin hs
  · have hj : (i + (its.toArray.size : Int)).toNat = j := by
      rw [seqIndex_neg (by omega) h4] at h1
      rw [List.size_toArray, ← hl]
      exact Option.some.inj h1
    exact subscriptTail_builtinR (x := w) pl.isList.typeIs slot_list_getitem.lookup
      (wpAny_getItem_list_neg (Q := fun r s' => r = w ∧ EP X pins σ Q r s') pl.isList (by omega) (by rw [List.size_toArray] <;> omega) (by omega) (by rw [hj]; simpa using ew) ⟨rfl, fin⟩) hs
theorem ix_tup : IxR X (rIxT X.K) := by
  intro value slice pins s σ H x y v u Q I rx ry h hs
  obtain ⟨p, xs, i, z, rfl, rfl, hq, he, q⟩ := h
  cases rx
  obtain ⟨t, rfl⟩ := ry
  obtain ⟨its, r, pl, hz⟩ := I.tuple hq
  obtain ⟨j, h1, h2, h3, h4, h5⟩ := atI_get he
  obtain ⟨w, ew, rw'⟩ := r.get h2
  have hl := r.length
  have hn := line63
  have fin : EP X pins σ Q w s := ⟨z, H, I, rw', q⟩
  exact subscriptTail_builtinR (x := w) pl.typeIs slot_tuple_getitem.lookup
    (getItem_tuple (j := j) (Q := fun r s' => r = w ∧ EP X pins σ Q r s') pl (by omega) (by omega) (by rw [List.size_toArray, ← hl]; exact h1) (by simpa using ew) ⟨rfl, fin⟩) hs
theorem mapSeq_set (its : List Value) (n j : Nat) (u : Value) : Obj.mapSeq (·.setIfInBounds j u) { cls := .type "list", data := .seq its.toArray n } = { cls := .type "list", data := .seq (its.set j u).toArray n } := by
  simp [Obj.mapSeq]
theorem Inv.lst {pins : List (Addr × Obj)} {σ : St} {H : Hp} {s : Shared} {p : Addr} {xs : List V} (I : Inv X pins σ H s) (h : H p = some (.lst xs)) :
    ∃ (its : List Value) (n : Nat), Vals xs its ∧ s.heap.get? p = some { cls := .type "list", data := .seq its.toArray n } ∧ xs.length ≤ sizeLine := by
  obtain ⟨z, its, n, r, e⟩ := I.hok p _ h
  exact ⟨its, n, r, e, z⟩
theorem Inv.lstUpd {pins : List (Addr × Obj)} {σ : St} {H : Hp} {s : Shared} {p : Addr} {xs ys : List V} {its its' : List Value} {n n' : Nat} {f : Obj → Obj} (I : Inv X pins σ H s) (h : H p = some (.lst xs))
    (ho : s.heap.get? p = some { cls := .type "list", data := .seq its.toArray n }) (hf : f { cls := .type "list", data := .seq its.toArray n } = { cls := .type "list", data := .seq its'.toArray n' }) (r : Vals ys its') (hz : ys.length ≤ sizeLine) (t : Nat) :
    Inv X pins σ (upd H p (.lst ys)) { s with heap := s.heap.update p f, toks := t } := by
  have e : (s.heap.update p f).get? p = some { cls := .type "list", data := .seq its'.toArray n' } := by
    rw [Heap.get?_update_self f ho (by rw [hf] <;> rfl), hf]
  refine I.write (x := p) (e := p) (by rw [h]; trivial) (.inl rfl) (fun b u hb q => (Heap.get?_update_other _ _ (Ne.symm hb)).trans q) ⟨_, e⟩ ?_
  exact ⟨hz, its', n', r, e⟩
def rSetL : V → V → V → Hp → (Hp → Prop) → Prop := fun o i v H Q => ∃ p xs k j, o = .ref p ∧ i = .int k ∧ H p = some (.lst xs) ∧ ixN xs.length k = some j ∧ Q (upd H p (.lst (xs.set j v)))
theorem set_list : PSet X rSetL := by
  intro pins s σ H o i v ov iv u Q I ro ri rv h
  obtain ⟨p, xs, k, j, rfl, rfl, hp, hj, q⟩ := h
  cases ro
  obtain ⟨t, rfl⟩ := ri
  obtain ⟨its, n, r, ho, hz⟩ := I.lst hp
  obtain ⟨h1, h2, h3, h4⟩ := ixN_seq hj
  have hl := r.length
  have hn := line63
  have I' : Inv X pins σ (upd H p (.lst (xs.set j v))) { s with heap := s.heap.update p (Obj.mapSeq (·.setIfInBounds j u)) } :=
    I.lstUpd hp ho (mapSeq_set its n j u) (r.set rv j) (by rw [List.length_set]; exact hz) s.toks
  by_cases h0 : 0 ≤ k
  · have hk : k.toNat = j := by
      rw [seqIndex_of h0 h4] at h1
      exact Option.some.inj h1
    exact PySem.W.ki_setAt ho h0 (by omega) (by rw [List.size_toArray, ← hl]; exact h4) (by rw [hk]; exact ⟨_, I', q⟩)
  · have hk : (k + (its.toArray.size : Int)).toNat = j := by
      rw [seqIndex_neg (by omega) h3] at h1
      rw [List.size_toArray, ← hl]
      exact Option.some.inj h1
    exact PySem.W.ki_setBack ho (by omega) (by rw [List.size_toArray, ← hl]; exact h3) (by omega) (by rw [hk]; exact ⟨_, I', q⟩)

theorem slice_bounds (lo hi : Option Int) (n : Nat) : (sliceBounds lo hi none n).1 = ((HT.sIx n 0 lo : Nat) : Int) ∧ (sliceBounds lo hi none n).2.1 = ((HT.sIx n n hi : Nat) : Int) ∧ (sliceBounds lo hi none n).2.2 = 1 := by
  refine ⟨?_, ?_, rfl⟩
  · cases lo with
    | none => simp [sliceBounds, HT.sIx]
    | some i =>
      simp only [sliceBounds, HT.sIx, Option.getD_none, show (1 : Int) > 0 by decide, if_true]
      by_cases h : i < 0
      · simp only [h, if_true] <;> omega
      · simp only [h, if_false] <;> omega
  · cases hi with
    | none => simp [sliceBounds, HT.sIx]
    | some i =>
      simp only [sliceBounds, HT.sIx, Option.getD_none, show (1 : Int) > 0 by decide, if_true]
      by_cases h : i < 0
      · simp only [h, if_true] <;> omega
      · simp only [h, if_false] <;> omega
theorem slicePick_cut (its : List Value) (lo hi : Option Int) : slicePick its.toArray lo hi none = ((its.drop (HT.sIx its.length 0 lo)).take (HT.sIx its.length its.length hi - HT.sIx its.length 0 lo)).toArray := by
  obtain ⟨h1, h2, h3⟩ := slice_bounds lo hi its.toArray.size
  unfold slicePick
  rw [h1, h2, h3]
  simp only [sliceRange_one, pick_run, List.size_toArray] <;> rfl
def rSlL (K : PySem.W.Frag) : V → Option Int → Option Int → Hp → VK → Prop := fun x lo hi H Q => ∃ a xs, x = .ref a ∧ SqL K H a xs ∧ ∀ p, H p = none → Q (.ref p) (upd H p (.lst (cutV xs lo hi)))
theorem sl_list : SlR X (rSlL X.K) := by
  intro pins s σ H x v vl vu lo hi sl Q I rx hs pl pu h
  obtain ⟨a, xs, rfl, hx, q⟩ := h
  cases rx
  obtain ⟨its, r, ht, hz⟩ := I.list hx
  have hlen := r.length
  refine ⟨"list", _, slot_list_getitem.lookup, ht.isList.typeIs, ?_⟩
  refine wpAny_getItem_list_slice ht.isList hs pl pu .none (by simp) ?_ (by rw [List.size_toArray] <;> omega)
  rw [slicePick_cut, ← hlen]
  refine ⟨.ref s.heap.objs.size, _, I.laid (t' := s.toks) (o := .lst (cutV xs lo hi)) (fun b ob q => Heap.get?_push_of_some _ q) (Nat.le_refl _) ?_, rfl, q _ (I.hok.fresh (Nat.le_refl _))⟩
  exact ⟨Nat.le_trans (cutV_length xs lo hi) hz, _, 0, (r.drop (HT.sIx xs.length 0 lo)).take (HT.sIx xs.length xs.length hi - HT.sIx xs.length 0 lo), Heap.get?_push_size _ rfl⟩

def flatV : V → Bool
  | .non => true
  | .bl _ => true
  | .int _ => true
  | .str _ => true
  | _ => false
def eqV : V → V → Bool
  | .non, .non => true
  | .bl a, .bl b => a == b
  | .bl a, .int b => (if a then 1 else 0) == b
  | .int a, .bl b => a == (if b then 1 else 0)
  | .int a, .int b => a == b
  | .str a, .str b => a == b
  | _, _ => false
theorem eqAt_V {A : Around} {s : Shared} {y x : V} {u v : Value} (ry : RelV y u) (rx : RelV x v) (fy : flatV y = true) (fx : flatV x = true) : SeqAt.EqAt A s u v (eqV y x) := by
  cases y with
  | non =>
    cases ry
    cases x with
    | non => cases rx; exact SeqAt.EqAt.same _
    | bl b => cases rx; exact SeqAt.EqAt.none_bool b
    | int b => obtain ⟨t, rfl⟩ := rx; exact SeqAt.EqAt.none_int b t
    | str b => obtain ⟨t, rfl⟩ := rx; exact SeqAt.EqAt.none_str b t
    | _ => exact absurd (show false = true from fx) Bool.false_ne_true
  | bl a =>
    cases ry
    cases x with
    | non => cases rx; exact SeqAt.EqAt.bool_none a
    | bl b => cases rx; exact SeqAt.EqAt.bool_bool a b
    | int b => obtain ⟨t, rfl⟩ := rx; exact SeqAt.EqAt.bool_int a b t
    | str b => obtain ⟨t, rfl⟩ := rx; exact SeqAt.EqAt.bool_str a b t
    | _ => exact absurd (show false = true from fx) Bool.false_ne_true
  | int a =>
    obtain ⟨t', rfl⟩ := ry
    cases x with
    | non => cases rx; exact SeqAt.EqAt.int_none a t'
    | bl b => cases rx; exact SeqAt.EqAt.int_bool a t' b
    | int b => obtain ⟨t, rfl⟩ := rx; exact SeqAt.EqAt.int_int a t' b t
    | str b => obtain ⟨t, rfl⟩ := rx; exact SeqAt.EqAt.int_str a t' b t
    | _ => exact absurd (show false = true from fx) Bool.false_ne_true
  | str a =>
    obtain ⟨t', rfl⟩ := ry
    cases x with
    | non => cases rx; exact SeqAt.EqAt.str_none a t'
    | bl b => cases rx; exact SeqAt.EqAt.str_bool a t' b
    | int b => obtain ⟨t, rfl⟩ := rx; exact SeqAt.EqAt.str_int a t' b t
    | str b => obtain ⟨t, rfl⟩ := rx; exact SeqAt.EqAt.str_str a t' b t
    | _ => exact absurd (show false = true from fx) Bool.false_ne_true
  | _ => exact absurd (show false = true from fy) Bool.false_ne_true
def eqU (x : V) (u : Value) : Bool := match u with
  | .none => eqV .non x
  | .bool b => eqV (.bl b) x
  | .int i _ => eqV (.int i) x
  | .str z _ => eqV (.str z) x
  | _ => false
theorem eqU_of {x y : V} {u : Value} (r : RelV y u) (f : flatV y = true) : eqU x u = eqV y x := by
  cases y with
  | non => cases r; rfl
  | bl b => cases r; rfl
  | int i => obtain ⟨t, rfl⟩ := r; rfl
  | str z => obtain ⟨t, rfl⟩ := r; rfl
  | _ => exact absurd (show false = true from f) Bool.false_ne_true
theorem mem_eqAt {A : Around} {s : Shared} {x : V} {v : Value} (rx : RelV x v) (fx : flatV x = true) : ∀ {xs : List V} {us : List Value}, Vals xs us → xs.all flatV = true → ∀ u ∈ us, SeqAt.EqAt A s u v (eqU x u)
  | _, _, .nil, _ => fun u hu => by cases hu
  | y :: xs, u :: us, .cons r t, f => fun u' hu => by
    rw [List.all_cons, Bool.and_eq_true] at f
    rcases List.mem_cons.mp hu with rfl | hu
    · rw [eqU_of r f.1]; exact eqAt_V r rx f.1 fx
    · exact mem_eqAt rx fx t f.2 u' hu
theorem call_len_seq : CallR X (.builtin "len") (fun xs H Q => ∃ p ys, xs = [.ref p] ∧ (SqL X.K H p ys ∨ SqT X.K H p ys) ∧ Q (.int ys.length) H) := by
  intro pins s σ H xs us Q I r h
  obtain ⟨p, ys, rfl, hq, q⟩ := h
  obtain ⟨u, rfl, rx⟩ := vals1 r
  cases rx
  have hn := line63
  rcases hq with hq | hq
  · obtain ⟨its, r', pl, hz⟩ := I.list hq
    have hlen := r'.length
    exact Calls.call_len_list pl.isList (by simp only [List.size_toArray] <;> omega) ⟨.int ys.length, H, I.tok _, ⟨s.toks + 1, by rw [List.size_toArray, hlen]⟩, q⟩
  · obtain ⟨its, r', pl, hz⟩ := I.tuple hq
    have hlen := r'.length
    exact len_tuple pl (by simp only [List.size_toArray] <;> omega) ⟨.int ys.length, H, I.tok _, ⟨s.toks + 1, by rw [List.size_toArray, hlen]⟩, q⟩
theorem call_list_of : CallR X (.type "list") (fun xs H Q => ∃ p ys, xs = [.ref p] ∧ (SqL X.K H p ys ∨ SqT X.K H p ys) ∧ ∀ l, H l = none → Q (.ref l) (upd H l (.lst ys))) := by
  intro pins s σ H xs us Q I r h
  obtain ⟨p, ys, rfl, hq, q⟩ := h
  obtain ⟨u, rfl, rx⟩ := vals1 r
  cases rx
  have fin : ∀ (its : List Value), Vals ys its → ys.length ≤ sizeLine → ∀ (h' : Heap) (c' : Nat), (∀ b o', s.heap.get? b = some o' → h'.get? b = some o') →
      h'.get? s.heap.objs.size = some { cls := .type "list", dict := none, data := .seq its.toArray c', slots := #[] } → EP X pins σ Q (.ref s.heap.objs.size) { s with heap := h' } := fun its r' hz h' c' kp e =>
    ⟨.ref s.heap.objs.size, _, I.laid (t' := s.toks) kp (Nat.le_refl _) (show ObjOk X.prog X.w _ h' _ (.lst ys) from ⟨hz, its, c', r', e⟩), rfl, q _ (I.hok.fresh (Nat.le_refl _))⟩
  rcases hq with hq | hq
  · obtain ⟨its, r', pl, hz⟩ := I.list hq
    have hlen := r'.length
    obtain ⟨o, ho, hc, n, hd⟩ := pl.isList
    exact call_list_seq p (.inl rfl) ho hc hd (fun h' c' kp e => fin its r' hz h' c' kp e) (by simp only [List.size_toArray] <;> omega)
  · obtain ⟨its, r', pl, hz⟩ := I.tuple hq
    have hlen := r'.length
    obtain ⟨o, ho, hc, n, hd⟩ := pl
    exact call_list_seq p (.inr rfl) ho hc hd (fun h' c' kp e => fin its r' hz h' c' kp e) (by simp only [List.size_toArray] <;> omega)
def tyV (K : PySem.W.Frag) (T : String) (x : V) (H : Hp) : Prop := match x with
  | .str _ => T = "str"
  | .int _ => T = "int"
  | .ref p => (T = "list" ∧ ∃ xs, SqL K H p xs) ∨ (T = "tuple" ∧ ∃ o, K.lookup p = some o ∧ o.cls = .type "tuple" ∧ o.dict = none) ∨
      (T = "dict" ∧ ((∃ kvs, H p = some (.dK kvs)) ∨ ∃ kvs, H p = some (.dT kvs))) ∨ (T = "set" ∧ ∃ S n, H p = some (.set S n))
  | _ => False
theorem tyV_is {pins : List (Addr × Obj)} {σ : St} {H : Hp} {s : Shared} {T : String} {x : V} {v : Value} (I : Inv X pins σ H s) (r : RelV x v) (ty : tyV X.K T x H) :
    s.TypeIs v T ∧ ∀ a, v = .ref a → ∃ ob, s.heap.get? a = some ob ∧ ob.dict = none := by
  cases x with
  | str z =>
    obtain ⟨t, rfl⟩ := r
    cases (show T = "str" from ty)
    exact ⟨typeIs_str s z t, fun _ e => nomatch e⟩
  | int i =>
    obtain ⟨t, rfl⟩ := r
    cases (show T = "int" from ty)
    exact ⟨typeIs_int s i t, fun _ e => nomatch e⟩
  | ref p =>
    cases r
    rcases ty with ⟨rfl, xs, hq⟩ | ⟨rfl, o, hk, hc, hd⟩ | ⟨rfl, hk⟩ | ⟨rfl, S, n, hk⟩
    · obtain ⟨its, _, pl, _⟩ := I.list hq
      refine ⟨pl.isList.typeIs, fun a e => ?_⟩
      cases e
      obtain ⟨o, n, e, c, hd, _⟩ := pl
      exact ⟨o, e, hd⟩
    · refine ⟨⟨o, I.kIn p o hk, hc⟩, fun a e => ?_⟩
      cases e
      exact ⟨o, I.kIn _ o hk, hd⟩
    · have z : ∃ o, s.heap.get? p = some o ∧ o.ExactDict := by
        rcases hk with ⟨kvs, hk⟩ | ⟨kvs, hk⟩
        · obtain ⟨_, _, _, _, o, _, _, e, ex, _⟩ := I.hok p _ hk
          exact ⟨o, e, ex⟩
        · obtain ⟨_, _, _, _, o, _, _, e, ex, _⟩ := I.hok p _ hk
          exact ⟨o, e, ex⟩
      obtain ⟨o, e, ex⟩ := z
      refine ⟨⟨o, e, ex.1⟩, fun a e2 => ?_⟩
      cases e2
      exact ⟨o, e, ex.2.1⟩
    · obtain ⟨o, _, _, _, e, ex, _⟩ := I.hok p _ hk
      refine ⟨⟨o, e, ex.1⟩, fun a e2 => ?_⟩
      cases e2
      exact ⟨o, e, ex.2.1⟩
  | _ => exact False.elim ty
def tBM0 (K : PySem.W.Frag) (T : String) (r : V → List V → Hp → VK → Prop) (to : TE) : TE := fun σ H Q => to σ H fun x H1 => tyV K T x H1 ∧ r x [] H1 Q
def tBM (K : PySem.W.Frag) (T : String) (r : V → List V → Hp → VK → Prop) (to : TE) (t : TA) : TE := fun σ H Q => to σ H fun x H1 => tyV K T x H1 ∧ t σ H1 fun xs H2 => r x xs H2 Q
variable {o e : Expr} {es : List Expr} {to : TE} {t : TA} {name : Str} {apos cpos : Pos} {T id : String} {r : V → List V → Hp → VK → Prop}
theorem pe_bm0 (pa : PlainAttrs T) (slot : Slot T name id) (hty : typeOf (.builtin id) = pure (.type "method_descriptor")) (hm : MtR X id r) (ho : PE X o to)
    (hbase : attributeBase o name X.env (eval o X.env) = eval o X.env := by rfl) (hline : (apos.endLine == cpos.line) = true := by rfl) : PE X (.Call (.Attribute o name apos) [] [] cpos) (tBM0 X.K T r to) := by
  intro pins s σ H Q I h
  refine wpAny_Call_method0_late hbase hline (thn (ho pins s σ H _ I h) fun v s1 ⟨x, H1, I1, r1, ty, q1⟩ => ?_)
  obtain ⟨h1, h2⟩ := tyV_is I1 r1 ty
  exact ⟨T, id, pa, slot, hty, h1, h2, Calls.callWith_builtin rfl (PySem.evalArgs_none (hm pins s1 σ H1 x [] v [] Q I1 r1 .nil q1))⟩
theorem pe_bm (pa : PlainAttrs T) (slot : Slot T name id) (hty : typeOf (.builtin id) = pure (.type "method_descriptor")) (hm : MtR X id r) (ho : PE X o to) (ha : PA X (e :: es) t)
    (hbase : attributeBase o name X.env (eval o X.env) = eval o X.env := by rfl)
    (hfew : ((backTo cpos (starEach (e :: es) X.env)).all (fun x => !x.1) && (backToKw cpos (keywordEach [] X.env)).all (fun x => x.1.isSome)
      && decide ((e :: es).length + ([] : List Keyword).length + (if ([] : List Keyword).isEmpty then 0 else 1) < 30)) = true := by rfl)
    (hline : (apos.endLine == cpos.line) = true := by rfl) (hs : starEach (e :: es) X.env = (false, eval e X.env) :: starEach es X.env := by rfl) (hplain : (backTo cpos (starEach es X.env)).any (·.1) = false := by rfl) :
    PE X (.Call (.Attribute o name apos) (e :: es) [] cpos) (tBM X.K T r to t) := by
  intro pins s σ H Q I h
  refine wpAny_Call_method_late hbase hfew hline rfl (thn (ho pins s σ H _ I h) fun v s1 ⟨x, H1, I1, r1, ty, q1⟩ => ?_)
  obtain ⟨h1, h2⟩ := tyV_is I1 r1 ty
  refine ⟨T, id, pa, slot, hty, h1, h2, ?_⟩
  have hA := ha cpos pins s1 σ H1 _ I1 q1
  rw [hs] at hA ⊢
  refine Calls.callWith_builtin (by show (false || (backTo cpos (starEach es X.env)).any (·.1)) = false; rw [hplain] <;> rfl) (Calls.evalArgs_plain ?_)
  exact thn hA fun us s2 ⟨vs, H2, I2, r2, q2⟩ => hm pins s2 σ H2 x vs v us Q I2 r1 r2 q2
/- xs.append(e), list.index on a module's tuple .. are MtR facts of 06m -/
end
end L2

namespace L2
open PySem PySem.Spec PyProof.Rows

def MtM (X : Cx) (id : String) (r : V → List V → Hp → VK → Prop) : Prop :=
  ∀ (pins : List (Addr × Obj)) (s : Shared) (σ : St) (H : Hp) (x : V) (xs : List V) (v : Value) (us : List Value) (Q : VK), Inv X pins σ H s → RelV x v → Vals xs us → r x xs H Q →
    wpAny (model X.prog X.w) X.A (call (.builtin id) (v :: us)) (EP X pins σ Q) X.xe s

theorem Vals.one : ∀ {x : V} {us : List Value}, Vals [x] us → ∃ u, us = [u] ∧ RelV x u
  | _, _, .cons r .nil => ⟨_, rfl, r⟩
theorem Vals.two : ∀ {x y : V} {us : List Value}, Vals [x, y] us → ∃ u v, us = [u, v] ∧ RelV x u ∧ RelV y v
  | _, _, _, .cons r (.cons q .nil) => ⟨_, _, rfl, r, q⟩
theorem Vals.zero : ∀ {us : List Value}, Vals [] us → us = []
  | _, .nil => rfl
theorem Vals.rep {xs : List V} {us : List Value} (h : Vals xs us) : ∀ k : Nat, Vals (List.replicate k xs).flatten (List.replicate k us).flatten
  | 0 => .nil
  | k + 1 => by
    rw [List.replicate_succ, List.replicate_succ, List.flatten_cons, List.flatten_cons]
    exact Vals.append h (Vals.rep h k)
theorem foldl_rep (its : List Value) : ∀ (k : Nat) (acc : List Value),
    List.foldl (fun x1 x2 => x1 ++ x2) acc.toArray (List.replicate k its.toArray) = (acc ++ (List.replicate k its).flatten).toArray
  | 0, acc => by simp
  | k + 1, acc => by
    have e : acc.toArray ++ its.toArray = (acc ++ its).toArray := by simp
    have e2 : (acc ++ its) ++ (List.replicate k its).flatten = acc ++ (List.replicate (k + 1) its).flatten := by
      rw [List.replicate_succ, List.flatten_cons, List.append_assoc]
    rw [← e2, ← foldl_rep its k (acc ++ its), ← e, List.replicate_succ, List.foldl_cons]

section
variable {X : Cx} {pins : List (Addr × Obj)} {σ : St} {H : Hp} {s : Shared} {l b : Addr} {xs ys zs : List V}

theorem Inv.lset {its its' : List Value} {n : Nat} {f : Array Value → Array Value} {t' : Nat} (I : Inv X pins σ H s) (hH : H l = some (.lst xs))
    (e : s.heap.get? l = some { cls := .type "list", data := .seq its.toArray n }) (hf : f its.toArray = its'.toArray) (hv : Vals ys its') (hz : ys.length ≤ sizeLine) :
    Inv X pins σ (upd H l (.lst ys)) { s with heap := s.heap.update l (Obj.mapSeq f), toks := t' } := by
  have q := PySem.IsL.update e f
  rw [hf] at q
  refine I.write (x := l) (e := l) (by rw [hH]; exact trivial) (.inl rfl) (fun b' u hb hu => (Heap.get?_update_other s.heap (Obj.mapSeq f) (Ne.symm hb)).trans hu) ⟨_, q⟩ ?_
  exact ⟨hz, its', _, hv, q⟩
theorem Inv.lnew {its : List Value} {t' : Nat} (I : Inv X pins σ H s) (hv : Vals ys its) (hz : ys.length ≤ sizeLine) :
    Inv X pins σ (upd H s.heap.objs.size (.lst ys)) { s with heap := s.heap.push { cls := .type "list", data := .seq its.toArray }, toks := t' } :=
  I.laid (fun _ _ q => Heap.get?_push_of_some _ q) (Nat.le_refl _) ⟨hz, its, 0, hv, Heap.get?_push_size _ rfl⟩
theorem Inv.fresh (I : Inv X pins σ H s) : H s.heap.objs.size = none := I.hok.fresh (Nat.le_refl _)
theorem Inv.lstM (I : Inv X pins σ H s) (hH : H l = some (.lst xs)) : xs.length ≤ sizeLine ∧ ∃ (its : List Value) (n : Nat), Vals xs its ∧ xs.length = its.length ∧ s.heap.get? l = some { cls := .type "list", data := .seq its.toArray n } := by
  obtain ⟨z, its, n, r, e⟩ := I.hok l _ hH
  exact ⟨z, its, n, r, r.length, e⟩

theorem notLongL {n : Nat} (h : n ≤ sizeLine) : Builtin.List.listTooLong n = false := by
  unfold Builtin.List.listTooLong
  exact decide_eq_false (by omega)
end

section
variable {X : Cx}

def rAppend : V → List V → Hp → VK → Prop := fun x vs H Q => ∃ l xs y, x = .ref l ∧ vs = [y] ∧ H l = some (.lst xs) ∧ xs.length < sizeLine ∧ Q .non (upd H l (.lst (xs ++ [y])))
theorem mt_append : MtM X "list.append" rAppend := by
  intro pins s σ H x vs v us Q I rx rv h
  obtain ⟨l, xs, y, rfl, rfl, hH, hz, q⟩ := h
  cases rx
  obtain ⟨u, rfl, ru⟩ := rv.one
  obtain ⟨z, its, n, r, hl, e⟩ := I.lstM hH
  refine call_meets F.slot_list_append ⟨_, e, rfl⟩ F.entry_list_append (F.args_list_append_2 _ _) (PySem.list_append l its.toArray n u (by rw [List.size_toArray]; omega)) ⟨e, ?_⟩
  refine ⟨.non, _, I.lset (its' := its ++ [u]) hH e (by simp) (r.append (.cons ru .nil)) ?_, rfl, q⟩
  rw [List.length_append, List.length_singleton]
  omega

def rExtend : V → List V → Hp → VK → Prop := fun x vs H Q => ∃ l b xs zs, x = .ref l ∧ vs = [.ref b] ∧ H l = some (.lst xs) ∧ H b = some (.lst zs) ∧ xs.length + zs.length ≤ sizeLine ∧ Q .non (upd H l (.lst (xs ++ zs)))
def rCat : R2 := fun x y H Q => ∃ l b xs zs, x = .ref l ∧ y = .ref b ∧ H l = some (.lst xs) ∧ H b = some (.lst zs) ∧ xs.length + zs.length ≤ sizeLine ∧ ∀ p, H p = none → Q (.ref p) (upd H p (.lst (xs ++ zs)))
theorem op_cat : OpR X (binaryOp .Add) rCat := by
  intro pins s σ H x y v u Q I rx ry h
  obtain ⟨l, b, xs, zs, rfl, rfl, hH, hB, hz, q⟩ := h
  cases rx
  cases ry
  obtain ⟨z, its, n, r, hl, e⟩ := I.lstM hH
  obtain ⟨z2, its2, n2, r2, hl2, e2⟩ := I.lstM hB
  refine PySem.P.add_list e e2 ?_ (by rw [List.size_toArray, List.size_toArray]; omega)
  have ea : its.toArray ++ its2.toArray = (its ++ its2).toArray := by simp
  rw [ea]
  exact ⟨.ref _, _, I.lnew (t' := s.toks) (r.append r2) (by rw [List.length_append]; omega), rfl, q _ I.fresh⟩
def rRep : R2 := fun x y H Q => ∃ l k xs, x = .ref l ∧ y = .int k ∧ H l = some (.lst xs) ∧ -(2 ^ 63) ≤ k ∧ k < 2 ^ 63 ∧ xs.length * k.toNat ≤ sizeLine ∧
  ∀ p, H p = none → Q (.ref p) (upd H p (.lst (List.replicate k.toNat xs).flatten))
theorem len_rep {α : Type} (xs : List α) (k : Nat) : (List.replicate k xs).flatten.length = k * xs.length := by
  induction k with
  | zero => simp
  | succ k ih => rw [List.replicate_succ, List.flatten_cons, List.length_append, ih, Nat.succ_mul, Nat.add_comm]
theorem op_rep : OpR X (binaryOp .Mult) rRep := by
  intro pins s σ H x y v u Q I rx ry h
  obtain ⟨l, k, xs, rfl, rfl, hH, h1, h2, hz, q⟩ := h
  cases rx
  obtain ⟨t, rfl⟩ := ry
  obtain ⟨z, its, n, r, hl, e⟩ := I.lstM hH
  have hlen : its.toArray.size * k.toNat ≤ sizeLine := by rw [List.size_toArray, ← hl]; exact hz
  have hcap : ¬ its.toArray.size * k.toNat > (2 ^ 63 - 1) / 8 := by
    have : (sizeLine : Nat) ≤ (2 ^ 63 - 1) / 8 := by decide
    omega
  have hfit : ¬ (!Builtin.List.listFitsIndex k) = true := by
    rw [fitsIndex_both h1 h2]
    exact Bool.false_ne_true
  have hlong : ¬ Builtin.List.listTooLong (its.toArray.size * k.toNat) = true := by
    rw [notLongL hlen]
    exact Bool.false_ne_true
  have hnew : List.foldl (fun x1 x2 => x1 ++ x2) #[] (List.replicate (if its.toArray.isEmpty = true then 0 else k.toNat) its.toArray) = (List.replicate k.toNat its).flatten.toArray := by
    have f0 : ∀ m : Nat, List.foldl (fun x1 x2 => x1 ++ x2) #[] (List.replicate m its.toArray) = (List.replicate m its).flatten.toArray := fun m => by
      have := foldl_rep its m []
      rw [List.nil_append] at this
      exact this
    rw [f0]
    cases its with
    | nil => simp
    | cons a r' => rw [if_neg (by simp)]
  refine wpAny_binaryOp_repeat_ref (T := "list") (U := "int") (by decide) ⟨_, e, rfl⟩ (fun s' => typeIs_int s' k t) noFill_list_mul F.fills_int_mul F.slot_int_rmul repeat_list F.slot_int_index.lookup
    (call_meets F.slot_int_rmul (typeIs_int s k t) F.entry_int_rmul (F.args_int_rmul_2 _ _) (int___rmul___int_list k t l its.toArray n)
      ⟨e, rfl, ⟨_, e, rfl⟩, call_meets F.slot_list_mul ⟨_, e, rfl⟩ F.entry_list_mul (F.args_list_mul_2 _ _) (AutoListH.list___mul___list_int_3 l its.toArray n k t hfit hcap hlong) ⟨e, ?_⟩⟩)
  rw [hnew]
  exact ⟨.ref _, _, I.lnew (t' := s.toks) (r.rep k.toNat) (by rw [len_rep, Nat.mul_comm]; exact hz), rfl, q _ I.fresh⟩

end

section
variable {prog : Program} {w : World} {A : Around} {E : Value → Shared → Prop} {s : Shared}
end

section
variable {X : Cx}
end
end L2

namespace Att
open PySem PySem.W PySem.Calls PyProof.Rows

theorem ints_of_wellAll {P : Params} {h : Heap} : ∀ (ns : List Int) (vs : List Value), WellAll P h vs (ns.map WData.int) → IntsAre vs ns := by
  intro ns
  induction ns with
  | nil =>
    intro vs w
    rw [List.map_nil] at w
    cases w
    exact .nil
  | cons n ns ih =>
    intro vs w
    rw [List.map_cons] at w
    cases w with
    | cons a b =>
      cases a
      exact .cons _ _ (ih _ b)

theorem script_of {l : OpenLaw} {n : Nat} (hn : l.most = some n) {P : Params} {h : Heap} {args : List WData} {vals : List Value}
    (hpre : l.row.toRowW.claim.pre args = true) (hwl : WellAll P h vals args) :
    ∃ a vs ns, vals = [Value.ref a] ∧ args = [WData.list (ns.map WData.int)] ∧ h.get? a = some { cls := .type "list", data := .seq vs.toArray } ∧ IntsAre vs ns ∧ ns.length ≤ n := by
  have hsh : WShape.hasAll [] args [.list .int] = true := (pre_splitW hpre).1
  have hc : l.pre.holds [] { args := args } = true := (pre_splitW hpre).2
  obtain ⟨d, r, rfl, h1, h2⟩ := hasAllW_cons hsh
  obtain rfl := hasAllW_nil h2
  obtain ⟨xs, rfl, h3⟩ := hasW_list h1
  obtain ⟨ns, rfl⟩ := items_int h3
  have hlen : ns.length ≤ n := by
    unfold OpenLaw.pre at hc
    have h4 : (WTm.not (.lt (.lit (.int (n : Int))) (.len (.arg 0)))).holds [] { args := [.list (ns.map .int)] } = true := by
      have h4 := (holds_andW hc).1
      rw [hn] at h4
      exact h4
    have h5 := condW_of h4 (w_not (w_lt w_lit (w_len_list (w_arg rfl))))
    rw [List.length_map] at h5
    refine Nat.le_of_not_lt fun q => ?_
    have q' : (n : Int) < ((ns.length : Nat) : Int) := by omega
    first
      | (rw [decide_eq_true q'] at h5; exact absurd h5 (by decide))
      | (simp at h5; omega)
  cases hwl with
  | cons w1 w2 =>
    cases w2
    cases w1 with
    | list ho hall => exact ⟨_, _, ns, rfl, rfl, ho, ints_of_wellAll ns _ hall, hlen⟩

theorem post_true (l : OpenLaw) (args : List WData) : l.row.toRowW.claim.post args (.bool true) args = true :=
  postW_of (r := l.row.toRowW) (X := (true == true))
    (show WShape.has [] (.bool true) .bool = true by first | rfl | decide | simp [WShape.has, WShape.arms, WShape.armsAll])
    (show (WTm.eq .res (.lit (.bool true))).value [] { args := args, res := some (.bool true), after := args } = some (.bool (true == true)) from w_eq_bool (w_res rfl) w_lit) rfl

theorem attach_call {l : OpenLaw} {n : Nat} {q : Program} {loose : List Str} {XP : (Str → Option Value) → Heap → Prop} {YP : World → Heap → Prop} {d : DefRec}
    (hn : l.most = some n) (hdf : d.params.defaults = [])
    (call : ∀ (w : World) (s₀ s₁ : Shared) (mg mb : Str → Option Value) (fa : Addr) (o : Obj) (pm cd doc : Value) (a : Addr) (vs : List Value) (ns : List Int),
      Ground q loose [] XP w s₀ mg mb s₁.heap → YP w s₁.heap →
      s₁.heap.get? fa = some o → o.data = .func (docDef d.name d.params d.body d.scope pm cd doc) → s₁.heap.CodeRec cd d.name → mg d.name = some (.ref fa) →
      s₁.heap.get? a = some { cls := .type "list", data := .seq vs.toArray } → IntsAre vs ns → ns.length ≤ n → s₁.gens = #[] →
      codeAny (model l.prog w) callerA (.call (.ref fa) ⟨[.ref a], []⟩) (fun r s' => r = .ok (.ret (.bool true)) ∧ OldK s₁.heap s'.heap ∧ s'.os = s₁.os ∧ AllBare s'.gens) s₁) :
    WalkO q loose XP YP l.row.toRowW d [] (fun f vs => PySem.call f vs) := by
  intro w s₀ s₁ mg mb G Y fa o pm cd doc dV kV ho hd hcd hD hmg hg args vals as hpre hlay hrd hwl hlo
  obtain rfl : dV = .none := Dflts.none hD hdf
  obtain rfl : kV = .none := Dflts.noKw hD
  obtain ⟨a, vs, ns, rfl, rfl, hobj, hints, hlen⟩ := script_of hn hpre hwl
  refine enter_call (codeAny_mono (call w s₀ s₁ mg mb fa o pm cd doc a vs ns G Y ho (fd_plain hd) hcd hmg hobj hints hlen hg) fun r s' hq => ?_)
  obtain ⟨rfl, h2, h3, h4⟩ := hq
  exact ⟨.inl ⟨.bool true, .bool true, [], rfl, fun _ => rfl, .bool true, post_true l _, fun _ => ⟨List.Pairwise.nil, fun _ hm => (nomatch hm)⟩⟩, h2, h3, h4⟩

section
variable {prog : Program} {w : World} {A : Around} {E : Value → Shared → Prop} {s : Shared} {K : Frag}

end
end Att

namespace L2
open PySem PySem.Spec PyProof.Rows

theorem vals_ints : ∀ {vs : List Value} {ns : List Int}, IntsAre vs ns → Vals (ns.map V.int) vs
  | _, _, .nil => .nil
  | _, _, .cons n t h => .cons ⟨t, rfl⟩ (vals_ints h)

def Only (H : Hp) : Prop := ∀ b, H b = none ∨ ∃ o xs, H b = some (.frz o (.lst xs))

theorem law_call {P : Program} {w : World} {K : PySem.W.Frag} {mg mb : Str → Option Value} {CX : CXT} {k : Nat} {fa a : Addr} {fd : FuncData} {x : Str} {sp : Sp} {s₁ : Shared} {vs : List Value} {ns : List Int}
    (KX : K.In s₁.heap) (hns : s₁.heap.Ns mainGlobals mg) (hb : s₁.heap.Ns builtinsNs mb) (hbb : ∀ x : Str, x ≠ "__name__" → mb x = bootBuiltins x) (hlim : s₁.heap.NoLimit) (hg : s₁.gens = #[])
    (ha : s₁.heap.get? a = some { cls := .type "list", data := .seq vs.toArray }) (hi : IntsAre vs ns) (hl : ns.length ≤ sizeLine) (hr : Room k callerA)
    (F : ∀ base : Heap, K.In base → base.Ns mainGlobals mg → FnOk P w K mg base CX k fa fd [x] sp) (hbind : ∀ (s : Shared) (u : Value), BindsTo s fd ⟨[u], []⟩ [(x, u)])
    (hsp : ∀ H : Hp, Only H → SqL K H a (ns.map V.int) → sp [.ref a] H (fun v _ => v = .bl true) fun _ _ _ => False)
    (hCX : ∀ H e s', CX [] H s₁ (fun _ _ _ => False) e s' → False) :
    codeAny (model P w) callerA (.call (.ref fa) ⟨[.ref a], []⟩) (fun r s' => r = .ok (.ret (.bool true)) ∧ OldK s₁.heap s'.heap ∧ s'.os = s₁.os ∧ AllBare s'.gens) s₁ := by
  have rv := vals_ints hi
  have lenV := hi.length
  -- from an abstract heap in which nothing but the script may be tracked
  have core : ∀ H : Hp, Only H → SqL K H a (ns.map V.int) → HOk P w H s₁.heap → (∀ b, H b ≠ none → b = a) → (H a ≠ none → K.lookup a = none) →
      codeAny (model P w) callerA (.call (.ref fa) ⟨[.ref a], []⟩) (fun r s' => r = .ok (.ret (.bool true)) ∧ OldK s₁.heap s'.heap ∧ s'.os = s₁.os ∧ AllBare s'.gens) s₁ := by
    intro H hO hS hok hA hK
    have base_of : ∀ {b : Addr} {o : Obj}, s₁.heap.get? b = some o → H b = none → (hidT s₁.heap H).get? b = some o := fun e n => hidT_get e n
    have noA : ∀ {b : Addr} {o : Obj} {es : Array DictEntry} {ep : Nat}, s₁.heap.get? b = some o → o.data = .dict es ep → H b = none := fun {b o es ep} e d => by
      cases q : H b with
      | none => rfl
      | some u =>
        have e' : b = a := hA b (by rw [q]; simp)
        subst e'
        rw [ha] at e; cases e
        have d' : Data.seq vs.toArray _ = Data.dict es ep := d
        cases d'
    have nsK : ∀ {b : Addr} {m : Str → Option Value}, s₁.heap.Ns b m → (hidT s₁.heap H).Ns b m := fun {b m} ⟨o, es, ep, e, d, r⟩ => ⟨o, es, ep, base_of e (noA e d), d, r⟩
    have hKb : K.In (hidT s₁.heap H) := fun b o e => base_of (KX b o e) (by
      cases q : H b with
      | none => rfl
      | some u =>
        have e' : b = a := hA b (by rw [q]; simp)
        subst e'
        rw [hK (by rw [q]; simp)] at e; cases e)
    have hM : Mod K mg (hidT s₁.heap H) := ⟨hKb, nsK hns, ⟨mb, nsK hb, hbb⟩, let ⟨mc, h1, h2⟩ := hlim; ⟨mc, nsK h1, h2⟩⟩
    have e0 : Env0 P w K mg (hidT s₁.heap H) callerA [] s₁ H := ⟨rfl, hM, fun b o e => of_hidT e, Nat.le_of_eq (hidT_size _ _), trivial, fun b hb => absurd (show b ∈ ([] : List Addr) from hb) (by simp), hok, .of_eq hg⟩
    refine codeAny_mono ((F _ hKb (nsK hns)).run callerA [] s₁ H ⟨[.ref a], []⟩ [.ref a] [.ref a] _ _ hr e0 (hbind s₁ (.ref a)) (.cons rfl .nil) (hsp H hO hS)) fun r s' h => ?_
    cases r with
    | error e => exact (hCX H e s' h).elim
    | ok fl =>
      cases fl with
      | next => exact False.elim h
      | brk => exact False.elim h
      | cont => exact False.elim h
      | ret u =>
        obtain ⟨v, H', os, bare, un, hok', r', q⟩ := h
        have q' : v = .bl true := q
        subst q'
        obtain rfl : u = Value.bool true := r'
        refine ⟨rfl, OldK.of_keep fun b o e => ?_, os, bare⟩
        cases q : H b with
        | none => exact un.keep b o e q (by intro z; exact absurd (show b ∈ ([] : List Addr) from z) (by simp)) (by simp)
        | some u =>
          rcases hO b with z | ⟨ob, xs, z⟩
          · rw [q] at z; cases z
          · have z2 := un.frzs b ob _ z
            obtain ⟨e1, _⟩ := hok b _ z
            obtain ⟨e2, _⟩ := hok' b _ z2
            rw [e] at e1; cases e1
            exact e2
  cases hk : K.lookup a with
  | some o =>
    -- the script is one of the module's own objects
    have e := KX a o hk
    rw [ha] at e
    cases e
    refine core (fun _ => none) (fun _ => .inl rfl) (.inr ⟨_, vs.toArray, _, hk, rfl, rfl, rfl, by rw [List.size_toArray, lenV]; exact hl, by simpa using rv⟩) (fun b u z => by have z' : (none : Option HO) = some u := z; cases z') (fun b z => absurd rfl z) fun z => absurd rfl z
  | none =>
    refine core (fun b => if b = a then some (.frz { cls := .type "list", data := .seq vs.toArray } (.lst (ns.map V.int))) else none) (fun b => ?_) (.inl (.inr ⟨{ cls := .type "list", data := .seq vs.toArray }, if_pos rfl⟩)) (fun b u z => ?_) (fun b z => ?_) fun _ => hk
    · by_cases hb : b = a
      · exact .inr ⟨_, _, if_pos hb⟩
      · exact .inl (if_neg hb)
    · by_cases hb : b = a
      · have z' := (if_pos hb).symm.trans z
        cases z'
        subst hb
        exact ⟨ha, by rw [List.length_map]; exact hl, vs, _, rv, ha⟩
      · have z' := (if_neg hb).symm.trans z
        cases z'
    · by_cases hb : b = a
      · exact hb
      · exact absurd (if_neg hb) z
end L2

namespace L2
open PySem PySem.Spec PyProof.Rows

abbrev KOf {K : PySem.W.Frag} {h : Heap} (_ : K.In h) : PySem.W.Frag := K

theorem walk_of {l : PySem.W.OpenLaw} {n k : Nat} {q : Program} {loose : List Str} {XP : (Str → Option Value) → Heap → Prop} {YP : World → Heap → Prop} {d : DefRec} {K : Params → PySem.W.Frag} {CX : World → CXT} {sp : World → Sp} {x : Str}
    (hn : l.most = some n) (hn2 : n ≤ sizeLine) (hdf : d.params.defaults = []) (hr : Room k callerA)
    (hY : ∀ (w : World) (h : Heap), YP w h → (K w.params).In h)
    (F : ∀ (w : World) (mg : Str → Option Value) (fa : Addr) (h : Heap), (K w.params).In h → h.Ns mainGlobals mg → mg d.name = some (.ref fa) →
      ∃ fd : FuncData, (∀ (s : Shared) (u : Value), BindsTo s fd ⟨[u], []⟩ [(x, u)]) ∧
        ∀ base : Heap, (K w.params).In base → base.Ns mainGlobals mg → FnOk l.prog w (K w.params) mg base (CX w) k fa fd [x] (sp w))
    (hsp : ∀ (w : World) (H : Hp) (a : Addr) (ns : List Int), ns.length ≤ n → Only H → SqL (K w.params) H a (ns.map V.int) → sp w [.ref a] H (fun v _ => v = .bl true) fun _ _ _ => False)
    (hCX : ∀ (w : World) (H : Hp) (s : Shared) (e : Value) (s' : Shared), CX w [] H s (fun _ _ _ => False) e s' → False) :
    PySem.W.WalkO q loose XP YP l.row.toRowW d [] (fun f vs => PySem.call f vs) := by
  refine Att.attach_call hn hdf fun w s₀ s₁ mg mb fa o pm cd doc a vs ns G Y ho hd hcd hmg hobj hints hlen hg => ?_
  have KX := hY w _ Y
  obtain ⟨fd, hb, hF⟩ := F w mg fa _ KX G.T.g hmg
  exact law_call KX G.T.g G.T.b G.T.builtins G.T.nolimit hg hobj hints (Nat.le_trans hlen hn2) hr hF hb (fun H hO hS => hsp w H a ns hlen hO hS) fun H e s' => hCX w H s₁ e s'
end L2

/- THE LAST THEOREM (shape; LID, My.* are yours):
   My.Adr: a structure of the addresses that your layer names (classes, functions); My.Txt K t: a structure (Prop) of the equations over K;
   My.txt_mk : {K} {implicit addresses ..} (e1 : nsIn K mainGlobals "law" = some (some (.ref f))) (e2 : K.lookup f = some ⟨oc, od, .func (fnOf "law" "law" params body scope dV kV doc pm an cdv ct), sl⟩) (e3 : codeIn K cdv "law" = true) .. : ∃ t, My.Txt K t

set_option maxRecDepth 100000 in
set_option maxHeartbeats 0 in
theorem PySem.Challenge.cw_LID_holds : PySem.Challenge.rw_LID.Holds := by
  w_on; o_law; k_head; (case hw => w_witness2)
  k_fill
  refine L2.walk_of (l := PySem.Challenge.rw_LID) (n := 63) (k := 40) (x := "script") (CX := fun w => ..) (sp := fun _ => My.sp_law) rfl (by decide) rfl ⟨rfl, by decide, by decide⟩ (fun w h Y => PySem.W.kIn_of Y) ?F ?S ?C
  case F =>
    intro w mg fa h KX G hmg
    have T : ∃ t, My.Txt (L2.KOf KX) t := by
      dsimp only [L2.KOf]                          -- K must stand as «<heap const> w.params» for k_is
      refine' My.txt_mk ?e1 ?e2 ?e3 ..
      (case e1 => PySem.W.k_is)                    -- in the order: a name -> its address -> its object -> its parts
      (case e2 => PySem.W.k_is)
      ..
    obtain ⟨t, T⟩ := T
    have e0 := hmg.symm.trans (PySem.W.mg_of KX G T.law)
    cases e0                                       -- fa is the law's own address
    exact ⟨_, fun s u => .of_eq rfl, fun base kb nb => My.law_fn T kb nb⟩     -- if «.of_eq rfl» comes too early: refine' ⟨_, ?b, fun base kb nb => My.law_fn T kb nb⟩; exact fun s u => .of_eq rfl
  case S => exact fun w H a ns hl hO hS => ..
  case C => exact ..
(the tactic k_is has no namespace: write k_is) -/

namespace L2
open PySem PySem.Spec PyProof.Rows

def defArgs (s : Stmt) : Arguments := match s with
  | .FunctionDef _ a _ _ _ _ _ _ _ _ => a
  | _ => { posonlyargs := [], args := [], vararg := none, kwonlyargs := [], kw_defaults := [], kwarg := none, defaults := [] }
def defBody (s : Stmt) : List Stmt := match s with
  | .FunctionDef _ _ b _ _ _ _ _ _ _ => b
  | _ => []
def defScope (s : Stmt) : Scope := match s with
  | .FunctionDef _ _ _ _ _ _ sc _ _ _ => sc
  | _ => { kind := .function, names := [], isGenerator := false, isCoroutine := false }

abbrev CX0 : CXT := fun _ _ _ _ _ _ => False
abbrev E0 : XK := fun _ _ _ => False
theorem pass0 {X : Cx} : Passes CX0 X E0 := fun _ _ _ _ _ _ _ h => h.elim

structure Fun (K : PySem.W.Frag) (x qual : Str) (st : Stmt) (f : Addr) (fd : FuncData) : Prop where
  ex : ∃ (oc : Value) (od : Option Addr) (kV doc pm : Value) (an : Option Addr) (cdv ct : Value) (osl : Array (Option Value)),
    fd = PySem.W.fnOf x qual (defArgs st) (defBody st) (defScope st) .none kV doc pm an cdv ct ∧ K.lookup f = some ⟨oc, od, .func fd, osl⟩ ∧ PySem.W.codeIn K cdv qual = true
  kp : PySem.W.keepIn K (.ref f) = true
section
variable {P : Program} {w : World} {K : PySem.W.Frag} {mg : Str → Option Value} {base : Heap}
theorem Fun.ok {x qual : Str} {st : Stmt} {f : Addr} {fd : FuncData} {N ps : List Str} {k : Nat} {sp : Sp} (F : Fun K x qual st f fd) (S : FnScope N ps (defScope st)) (len : ∀ vs H Q E, sp vs H Q E → vs.length = ps.length)
    (hbody : ∀ (cdv : Value) (A : Around) (outer : List Env) (s : Shared) (H : Hp) (vs : List V) (Q : VK) (E : XK), Room k (A.deeper (envOfC qual (defScope st) s.heap.objs.size f cdv)) → sp vs H Q E →
      ∃ t, PSs (cxOf CX0 P w K mg base N qual (defScope st) f cdv A outer s H E).nox (defBody st) t ∧ t { nx := fun _ H' => Q .non H', rt := Q } (start N vs) H) : FnOk P w K mg base CX0 (k + 1) f fd ps sp := by
  obtain ⟨oc, od, kV, doc, pm, an, cdv, ct, osl, rfl, lk, hcd⟩ := F.ex
  refine fn_of lk hcd S len fun A outer s H vs Q E hr hsp => ?_
  obtain ⟨t, h, q⟩ := hbody cdv A outer s H vs Q E hr hsp
  exact ⟨t, h.nox, q⟩
theorem Fun.binds {x qual : Str} {st : Stmt} {f : Addr} {fd : FuncData} {ps : List Str} (F : Fun K x qual st f fd)
    (h : ∀ (kV doc pm : Value) (an : Option Addr) (cdv ct : Value) (us : List Value), us.length = ps.length → bindArgs (PySem.W.fnOf x qual (defArgs st) (defBody st) (defScope st) .none kV doc pm an cdv ct) ⟨us, []⟩ = pure (ps.zip us)) : Binds K fd ps [] := by
  obtain ⟨oc, od, kV, doc, pm, an, cdv, ct, osl, rfl, lk, hcd⟩ := F.ex
  exact .all (h kV doc pm an cdv ct)
theorem fun_mk {x qual : Str} {st : Stmt} {f : Addr} {oc : Value} {od an : Option Addr} {osl : Array (Option Value)} {kV doc pm cdv ct : Value} (l : K.lookup f = some ⟨oc, od, .func (PySem.W.fnOf x qual (defArgs st) (defBody st) (defScope st) .none kV doc pm an cdv ct), osl⟩)
    (c : PySem.W.codeIn K cdv qual = true) (k : PySem.W.keepIn K (.ref f) = true) : Fun K x qual st f (PySem.W.fnOf x qual (defArgs st) (defBody st) (defScope st) .none kV doc pm an cdv ct) := ⟨⟨oc, od, kV, doc, pm, an, cdv, ct, osl, rfl, l, c⟩, k⟩
end
section
variable {X : Cx}
theorem pv (i : Nat) {x : Str} {pos : Pos} (hN : X.N[i]? = some x := by rfl) (hv : Vis X.env.scope x := by first | exact Or.inl rfl | exact Or.inr (Or.inl rfl) | exact Or.inr (Or.inr rfl)) (hd : (x == ("__debug__" : Str)) = false := by decide)
    (hcd : (x == ("__classdict__" : Str)) = false := by decide) : PE X (.Name x pos) (tVar i) := pe_var hN hv hd hcd
end

theorem iteT {A B : Prop} (h : A) : if true = true then A else B := by
  rw [if_pos rfl]
  exact h
theorem ite2 {c A B : Prop} [Decidable c] (h1 : c → A) (h2 : ¬ c → B) : if c then A else B := by
  by_cases h : c
  · rw [if_pos h]
    exact h1 h
  · rw [if_neg h]
    exact h2 h
def Same (H H' : Hp) : Prop := ∀ b o, H b = some o → H' b = some o
theorem Same.refl (H : Hp) : Same H H := fun _ _ h => h
theorem Same.trans {H H1 H2 : Hp} (a : Same H H1) (b : Same H1 H2) : Same H H2 := fun c o h => b c o (a c o h)
theorem Same.free {H H' : Hp} (e : Same H H') {l : Addr} (h : H' l = Option.none) : H l = Option.none := by
  cases q : H l with
  | none => rfl
  | some o =>
    rw [e l o q] at h
    cases h
theorem Same.seq {K : PySem.W.Frag} {H H' : Hp} {a : Addr} {xs : List V} (e : Same H H') (h : SqL K H a xs) : SqL K H' a xs := by
  rcases h with (h | ⟨o, h⟩) | h
  · exact .inl (.inl (e _ _ h))
  · exact .inl (.inr ⟨o, e _ _ h⟩)
  · exact .inr h

end L2

set_option maxRecDepth 100000
namespace L2
open PySem PySem.Spec PyProof.Rows

section
variable {P : Program} {w : World} {H : Hp} {h : Heap} {a : Addr} {o : HO}
theorem ObjOk.there (x : ObjOk P w H h a o) : ∃ ob, h.get? a = some ob := by
  cases o with
  | lst xs => obtain ⟨_, _, _, _, e⟩ := x; exact ⟨_, e⟩
  | tup xs => obtain ⟨_, _, _, ob, e, _⟩ := x; exact ⟨_, e⟩
  | dK kvs => obtain ⟨_, _, _, _, o, _, _, e, _⟩ := x; exact ⟨_, e⟩
  | dT kvs => obtain ⟨_, _, _, _, o, _, _, e, _⟩ := x; exact ⟨_, e⟩
  | set S n => obtain ⟨o, _, _, _, e, _⟩ := x; exact ⟨_, e⟩
  | ins C dx fs => obtain ⟨_, _, _, e, _⟩ := x; exact ⟨_, e⟩
  | own y => obtain ⟨_, e⟩ := x; exact ⟨_, e⟩
  | xd fs => obtain ⟨_, ⟨_, _, _, e, _⟩, _⟩ := x; exact ⟨_, e⟩
  | rng lo hi => obtain ⟨_, _, _, e⟩ := x; exact ⟨_, e⟩
  | frz ob u => obtain ⟨e, _⟩ := x; exact ⟨_, e⟩
  | tbl ps => exact ⟨_, (show h.get? a = some _ from x)⟩
  | met f y => exact ⟨_, (show h.get? a = some _ from x)⟩
  | ext φ => obtain ⟨_, e, _⟩ := x; exact e
end

def CXR (P : Program) (w : World) : CXT := fun outer H s E e s' => ∃ (a : Addr) (cls a0 : Value) (H' : Hp) (B : Heap), e = .ref a ∧ s'.os = s.os ∧ AllBare s'.gens ∧
  Heap.FlyingW B outer a cls a0 s'.heap ∧ (∀ b o, s.heap.get? b = some o → H b = none → b ∉ frs outer → B.get? b = some o) ∧ (∀ b o, s.heap.get? b = some o → b ∉ frs outer → ∃ o', B.get? b = some o') ∧
  HOk P w H' B ∧ Un (frs outer) [] H H' s.heap s'.heap ∧ H' a = none ∧ E cls none H'

def Raises (X : Cx) (R : Value → Hp → Prop) : Prop := ∀ (pins : List (Addr × Obj)) (σ : St) (H : Hp) (s : Shared) (h' : Heap) (e : Addr) (cls : Value) (vs : List Value), Inv X pins σ H s → Heap.MadeExcOf s.heap h' e cls vs → R cls H →
  X.xe (.ref e) { s with heap := h' }
section
variable {CX : CXT} {P : Program} {w : World} {K : PySem.W.Frag} {mg : Str → Option Value} {base : Heap} {N : List Str} {qual : Str} {scope : Scope} {f : Addr} {cd : Value} {A : Around} {outer : List Env} {s₀ : Shared} {H₀ : Hp} {E : XK}
abbrev cxR (P : Program) (w : World) (K : PySem.W.Frag) (mg : Str → Option Value) (base : Heap) (N : List Str) (qual : Str) (scope : Scope) (f : Addr) (cd : Value) (A : Around) (outer : List Env) (s₀ : Shared) (H₀ : Hp) (E : XK) : Cx := cxOf (CXR P w) P w K mg base N qual scope f cd A outer s₀ H₀ E

theorem hid_ok {X : Cx} {pins : List (Addr × Obj)} {σ : St} {H : Hp} {s : Shared} (I : Inv X pins σ H s) : HOk X.prog X.w H (PySem.W.hideAll s.heap (frs X.stack)) := fun b u e => by
  refine (I.hok b u e).stay (fun c v hc q => PySem.W.hideAll_get _ q fun hm => ?_) (fun _ q => q) fun _ _ q => q
  have z := I.stkFree c hm
  rcases hc with rfl | hc
  · rw [z] at e; cases e
  · rw [z] at hc; cases hc
theorem raises_cx : Raises (cxR P w K mg base N qual scope f cd A outer s₀ H₀ E) (fun cls H' => E cls none H') := by
  intro pins σ H s h' e cls vs I hx hE
  have frS := I.stack
  have hin : ∀ env ∈ (cxR P w K mg base N qual scope f cd A outer s₀ H₀ E).stack, ∀ b, env.frame = some b → b ∈ frs (cxR P w K mg base N qual scope f cd A outer s₀ H₀ E).stack := fun env he b hb => List.mem_filterMap.mpr ⟨env, he, hb⟩
  have lo : ∀ b o, s₀.heap.get? b = some o → b ∉ frs outer → b ∉ frs (cxR P w K mg base N qual scope f cd A outer s₀ H₀ E).stack := fun b o q hb hm => by
    rcases List.mem_cons.mp (I.stkSub b hm) with z | z
    · exact absurd z (Nat.ne_of_lt (Nat.lt_of_lt_of_le (Heap.lt_size q) I.ok.above))
    · exact hb z
  refine wpAny_leaves_madeW (base := PySem.W.hideAll s.heap (frs (cxR P w K mg base N qual scope f cd A outer s₀ H₀ E).stack)) I.ok.frames rfl (fun b o q => PySem.W.of_hideAll _ q) (PySem.W.funFrames_hide frS hin) hx fun h2 t x1 x2 x3 x4 => ?_
  have hk : ∀ b o, s.heap.get? b = some o → b ∉ frs (cxR P w K mg base N qual scope f cd A outer s₀ H₀ E).stack → h2.get? b = some o := fun b o q hb => x1.1 b o (PySem.W.hideAll_get _ q hb)
  have hfr : ∀ b o, s.heap.get? b = some o → b ∈ frs (cxR P w K mg base N qual scope f cd A outer s₀ H₀ E).stack → ∃ sl, h2.get? b = some { o with slots := sl } := fun b o q hb => by
    obtain ⟨_, ob, hob, hnf⟩ := frS.mem hb
    rw [q] at hob; cases hob
    exact x4 b o (hx.keeps b o q) hnf
  have hany : ∀ b o, s.heap.get? b = some o → ∃ o', h2.get? b = some o' := fun b o q => by
    by_cases hb : b ∈ frs (cxR P w K mg base N qual scope f cd A outer s₀ H₀ E).stack
    · obtain ⟨sl, z⟩ := hfr b o q hb; exact ⟨_, z⟩
    · exact ⟨_, hk b o q hb⟩
  have nx : ∀ b : Addr, b ∉ (cxR P w K mg base N qual scope f cd A outer s₀ H₀ E).ex := fun b z => absurd (show b ∈ ([] : List Addr) from z) (by simp)
  refine ⟨e, cls, .ref t, H, _, rfl, I.os, I.bare, x1, fun b o q n hb => PySem.W.hideAll_get _ (I.base.keep b o q n hb (nx b)) (lo b o q hb), fun b o q hb => ?_, hid_ok I, ⟨fun b o q n hb _ => ?_, fun b o q n hb _ => ?_, fun b o q n _ => I.base.free b o q n (nx b), fun b o q _ => ?_, I.base.tups, I.base.frzs, I.base.tbls⟩, ?_, hE⟩
  · obtain ⟨o', z⟩ := I.base.there b o q (nx b)
    exact ⟨o', PySem.W.hideAll_get _ z (lo b o q hb)⟩
  · exact hk b o (I.base.keep b o q n hb (nx b)) (lo b o q hb)
  · obtain ⟨sl, z⟩ := I.base.slot b o q n hb (nx b)
    have hm : b ∈ frs (cxR P w K mg base N qual scope f cd A outer s₀ H₀ E).stack := by
      show b ∈ frs (_ :: outer)
      unfold frs at hb ⊢
      rw [List.filterMap_cons]
      exact List.mem_cons_of_mem _ hb
    obtain ⟨sl', z'⟩ := hfr b _ z hm
    exact ⟨sl', z'⟩
  · obtain ⟨o', z⟩ := I.base.there b o q (nx b)
    exact hany b o' z
  · cases q : H e with
    | none => rfl
    | some u =>
      obtain ⟨ob, z⟩ := (I.hok e u q).there
      rw [hx.new] at z; cases z

end

structure OwnX (K : PySem.W.Frag) (C : Addr) (bm : List Value) (newId : String) : Prop where
  ok : PySem.W.excIn K C bm newId = true
theorem OwnX.obj {K : PySem.W.Frag} {C : Addr} {bm : List Value} {newId : String} (O : OwnX K C bm newId) {h : Heap} (X : K.In h) :
    ∃ tl N nm q bs hdct sn sub ab col dd k0 k1 k2 k3 k5 mN, h.get? C = some (excClassObj nm q C N bs tl hdct sn sub ab col dd k0 k1 k2 k3 k5 newId) ∧ h.Ns N mN ∧ mN "__init__" = none ∧ OwnTail h bm tl := by
  have q := O.ok
  unfold PySem.W.excIn at q
  split at q
  · rename_i dd cd sl ho
    split at q
    · rename_i C' bm' k0 k1 k2 k3 n k5 hm hs
      simp only [Bool.and_eq_true, beq_iff_eq, Bool.not_eq_true'] at q
      obtain ⟨⟨⟨⟨⟨rfl, rfl⟩, hdel⟩, ht⟩, hok⟩, hni⟩ := q
      obtain ⟨nm, bs, mro, ns, qn, hd, sn, sub, ab, col, del⟩ := cd
      dsimp only at hm hdel hok hni
      subst hm hdel
      have hsl : sl = #[k0, k1, k2, k3, some (.builtin n), k5] := by
        obtain ⟨l⟩ := sl
        simp only at hs
        rw [hs]
      subst hsl
      exact ⟨bm', ns, nm, qn, bs, hd, sn, sub, ab, col, dd, k0, k1, k2, k3, k5, _, X _ _ ho, .of_isNs (PySem.W.isNs_of_in X hok), PySem.W.nsMap_none_of_in X hok hni, PySem.W.tail_of_in X ht⟩
    · cases q
  · cases q
section
variable {X : Cx} {x : Str} {C : Addr} {bm : List Value} {newId B initId : String} {e : Expr} {es : List Expr} {te : TA} {np cpos pos : Pos} {R : Value → Hp → Prop}
def tRaise (C : Addr) (te : TA) (R : Value → Hp → Prop) : TS := fun _ σ H => te σ H fun vs H1 => vs.length ≤ sizeLine ∧ R (.ref C) H1
theorem ps_raise (O : OwnX X.K C bm newId) (FB : ExcBaseFacts B newId initId bm) (hc : X.calm = true) (hg : Gl X x) (hm : X.mg x = some (.ref C)) (hr : Raises X R) (he : PA X (e :: es) te)
    (hst : starEach (e :: es) X.env = (false, eval e X.env) :: starEach es X.env := by rfl) (hplain : (backTo cpos (starEach es X.env)).any (·.1) = false := by rfl) (hd : (x == ("__debug__" : Str)) = false := by decide) :
    PS X (.Raise (some (.Call (.Name x np) (e :: es) [] cpos)) none pos) (tRaise C te R) := by
  intro pins s σ H D I h
  obtain ⟨tl, N, nm, q, bs, hdct, sn, sub, ab, col, dd, k0, k1, k2, k3, k5, mN, hC, hN, hni, T⟩ := O.obj I.ok.mod.kin
  refine wpAny_Raise_call_subT (C := C) (nm := nm) (q := q) (N := N) (bs := bs) (bm := tl) (hdct := hdct) (sn := sn) (sub := sub) (ab := ab) (col := col) (dd := dd) (k0 := k0) (k1 := k1) (k2 := k2) (k3 := k3) (k5 := k5)
    FB (mN := mN) (T.hasType FB.hasBase) (I.ok.hd hc) (by rw [hst]; show (false || (backTo cpos (starEach es X.env)).any (·.1)) = false; rw [hplain]; rfl) hni (ld_glob I hg hm ⟨rfl, ?_⟩ hd)
  have hA := he cpos pins s σ H _ I h
  rw [hst] at hA ⊢
  refine Calls.evalArgs_plain (thn hA fun us s2 ⟨vs, H1, I1, r1, hl, q1⟩ => ⟨rfl, ?_, I1.bk _ _ hC, hN.keeps I1.bk, T.keeps I1.bk, fun h' a hx => hr pins σ H1 s2 h' a _ us I1 hx q1⟩)
  show us.length ≤ sizeLine
  rw [← r1.length]; exact hl
end
end L2

set_option maxRecDepth 100000
namespace L2
open PySem PySem.Spec PyProof.Rows

section
variable {X : Cx} {pins : List (Addr × Obj)} {σ : St} {H H' : Hp} {s s' : Shared}
theorem Inv.reA {A2 : Around} {c2 : Bool} {E2 : Value → Shared → Prop} (I : Inv X pins σ H s) (hf : A2.frames = X.A.frames) (hc : c2 = true → A2.handled = none) : Inv { X with A := A2, calm := c2, xe := E2 } pins σ H s :=
  ⟨⟨I.ok.mod, I.ok.kind, I.ok.glob, I.ok.blt, I.ok.above, I.ok.inj, I.ok.has, I.ok.cab, hc, hf.trans I.ok.frames, I.ok.stk, I.ok.exf, I.ok.bs, I.ok.bsz, I.ok.noex, I.ok.exfs, I.ok.funs, I.ok.frf⟩,
    I.os, I.bare, I.base, I.loc, I.cell, I.free, I.freeC, I.pin, I.hok, I.len⟩
theorem Inv.unA {A2 : Around} {c2 : Bool} {E2 : Value → Shared → Prop} (I : Inv { X with A := A2, calm := c2, xe := E2 } pins σ H s) (ok : X.Ok) : Inv X pins σ H s :=
  ⟨ok, I.os, I.bare, I.base, I.loc, I.cell, I.free, I.freeC, I.pin, I.hok, I.len⟩
theorem Inv.bear {E2 : Value → Shared → Prop} (I : Inv X pins σ H s) : Inv { X with xe := E2, pn := X.pn ++ pins } [] σ H s :=
  ⟨⟨I.ok.mod, I.ok.kind, I.ok.glob, I.ok.blt, I.ok.above, I.ok.inj, I.ok.has, I.ok.cab, I.ok.hd, I.ok.frames, I.ok.stk, I.ok.exf, I.ok.bs, I.ok.bsz, I.ok.noex, I.ok.exfs, I.ok.funs, I.ok.frf⟩,
    I.os, I.bare, I.base, I.loc, I.cell, I.free, I.freeC, fun p hp => I.pin p (by simpa using hp), I.hok, I.len⟩
theorem Inv.unbear {E2 : Value → Shared → Prop} {pins' : List (Addr × Obj)} (I : Inv { X with xe := E2, pn := X.pn ++ pins } pins' σ H s) : Inv X pins σ H s :=
  ⟨⟨I.ok.mod, I.ok.kind, I.ok.glob, I.ok.blt, I.ok.above, I.ok.inj, I.ok.has, I.ok.cab, I.ok.hd, I.ok.frames, I.ok.stk, I.ok.exf, I.ok.bs, I.ok.bsz, I.ok.noex, I.ok.exfs, I.ok.funs, I.ok.frf⟩,
    I.os, I.bare, I.base, I.loc, I.cell, I.free, I.freeC, fun p hp => I.pin p (List.mem_append_left _ hp), I.hok, I.len⟩
def nones (X : Cx) : St := List.replicate X.N.length none
theorem Inv.forget (I : Inv X pins σ H s) : Inv X pins (nones X) H s :=
  I.weak (by unfold nones; rw [List.length_replicate]; exact I.len.symm) fun i v e => by
    unfold nones at e
    rw [List.getElem?_replicate] at e
    split at e <;> cases e
theorem Inv.relocal {h' : Heap} {m' : Str → Option Value} {t' : Nat} (I : Inv X pins σ H s) (hn' : h'.Ns X.env.locals m') (hs : Heap.SameBut X.env.locals s.heap h') : Inv X pins (nones X) H { s with heap := h', toks := t' } := by
  have cne := I.cne
  refine ⟨I.ok, I.os, I.bare, ⟨fun b o e n hb hx => ?_, fun b o e n hb hx => ?_, I.base.free, fun b o e hx => ?_, I.base.tups, I.base.frzs, I.base.tbls⟩, ⟨_, hn', fun j y v' e1 e2 e3 => ?_⟩, fun y c e => ?_, I.free, I.freeC, fun p hp => ?_, fun b ob e => ?_, ?_⟩
  · exact (hs.2 b (Nat.ne_of_lt (Nat.lt_of_lt_of_le (Heap.lt_size e) I.ok.above))).trans (I.base.keep b o e n hb hx)
  · obtain ⟨sl, e1⟩ := I.base.slot b o e n hb hx
    exact ⟨sl, (hs.2 b (Nat.ne_of_lt (Nat.lt_of_lt_of_le (Heap.lt_size e) I.ok.above))).trans e1⟩
  · obtain ⟨o', e1⟩ := I.base.there b o e hx
    exact ⟨o', (hs.2 b (Nat.ne_of_lt (Nat.lt_of_lt_of_le (Heap.lt_size e) I.ok.above))).trans e1⟩
  · unfold nones at e2
    rw [List.getElem?_replicate] at e2
    split at e2 <;> cases e2
  · obtain ⟨w', z⟩ := I.cell y c e
    exact ⟨w', z.sameBut hs (cne y c e)⟩
  · obtain ⟨e, n, ne, nf, d⟩ := I.pin p hp
    exact ⟨(hs.2 p.1 ne).trans e, n, ne, nf, d⟩
  · refine (I.hok b ob e).stay (fun c w' hc q => (hs.2 c ?_).trans q) (fun _ q => q) fun _ _ q => q
    rintro rfl
    rcases hc with rfl | hc
    · rw [I.free] at e; cases e
    · rw [I.free] at hc; cases hc
  · show (List.replicate X.N.length none).length = _
    exact List.length_replicate
def Exc (cls : Value) (a : Addr) : HO := .ext fun h => ∃ o vs, h.get? a = some o ∧ o.cls = cls ∧ o.data = .fields vs
end

theorem Exc.ok {P : Program} {w : World} {H : Hp} {h : Heap} {cls : Value} {a : Addr} {o : Obj} {vs : Array Value} (h1 : h.get? a = some o) (h2 : o.cls = cls) (h3 : o.data = .fields vs) : ObjOk P w H h a (Exc cls a) :=
  ⟨⟨o, vs, h1, h2, h3⟩, ⟨o, h1⟩, fun _ _ ⟨o, vs, q1, q2, q3⟩ k => ⟨o, vs, k o q1, q2, q3⟩⟩
theorem Inv.track {X : Cx} {pins : List (Addr × Obj)} {σ : St} {H : Hp} {s : Shared} {o : HO} {a : Addr} (I : Inv X pins σ H s) (hn : H a = none) (new : ObjOk X.prog X.w (upd H a o) s.heap a o)
    (h1 : ∀ b ob, X.s₀.heap.get? b = some ob → X.H₀ b = none → b ∉ X.ex → b ≠ a) (h2 : X.env.locals ≠ a) (h3 : ∀ x c, X.env.cells.lookup x = some c → c ≠ a) (h4 : ∀ p ∈ X.pn ++ pins, p.1 ≠ a) : Inv X pins σ (upd H a o) s :=
  ⟨I.ok, I.os, I.bare, ⟨I.base.keep, I.base.slot, fun b ob q n hx => by rw [upd_ne (h1 b ob q n hx)]; exact I.base.free b ob q n hx, I.base.there, fun b xs q => by rw [upd_ne (ne_of_none (I.base.tups b xs q) hn)]; exact I.base.tups b xs q,
      fun b ob u q => by rw [upd_ne (ne_of_none (I.base.frzs b ob u q) hn)]; exact I.base.frzs b ob u q, fun b ps q => by obtain ⟨m, z⟩ := I.base.tbls b ps q; exact ⟨m, by rw [upd_ne (ne_of_none z hn)]; exact z⟩⟩,
    I.loc, I.cell, by rw [upd_ne h2]; exact I.free, fun x c q => by rw [upd_ne (h3 x c q)]; exact I.freeC x c q, fun p hp => let ⟨e1, e2, e3⟩ := I.pin p hp; ⟨e1, by rw [upd_ne (h4 p hp)]; exact e2, e3⟩,
    fun b u e => by
      by_cases hb : b = a
      · subst hb; rw [upd_same] at e; cases e; exact new
      · rw [upd_ne hb] at e
        exact (I.hok b u e).stay (fun _ _ _ q => q) (fun c q => by rw [upd_ne (ne_of_none q hn)]; exact q) fun c xs q => by rw [upd_ne (ne_of_none q hn)]; exact q,
    I.len⟩

theorem Inv.caught {X : Cx} {pins : List (Addr × Obj)} {σ : St} {H : Hp} {s s' : Shared} {a : Addr} {cls a0 : Value} {H' : Hp} {B h6 : Heap} (I : Inv X pins σ H s) (os : s'.os = s.os) (bare : AllBare s'.gens) (fl : Heap.FlyingW B X.stack a cls a0 s'.heap)
    (hB : ∀ b o, s.heap.get? b = some o → H b = none → b ∉ frs X.stack → B.get? b = some o) (hth : ∀ b o, s.heap.get? b = some o → b ∉ frs X.stack → ∃ o', B.get? b = some o') (hok : HOk X.prog X.w H' B)
    (un : Un (frs X.stack) [] H H' s.heap s'.heap) (st : B.StaysIn h6) (up : s'.heap.UpToSlots h6) : Inv X pins σ H' { s' with heap := h6 } := by
  have hfr : ∀ b o, s'.heap.get? b = some o → b ∈ frs X.stack → ∃ sl, h6.get? b = some { o with slots := sl } := fun b o q hb => by
    obtain ⟨_, ob, hob, hnf⟩ := fl.2.2.1.mem hb
    rw [q] at hob; cases hob
    exact up b o q hnf
  refine I.call' (s' := { s' with heap := h6 }) (ch := []) os ⟨fun b o q n hb _ => st b o (hB b o q n hb), fun b o q n hb _ => ?_, un.free, fun b o q _ => ?_, un.tups, un.frzs, un.tbls⟩ (hok.kept fun b u q => st b u q) bare (fun b z => absurd z (by simp))
  · obtain ⟨sl, z⟩ := un.slot b o q n hb (by simp)
    obtain ⟨sl2, z2⟩ := hfr b _ z hb
    exact ⟨sl2, z2⟩
  · by_cases hb : b ∈ frs X.stack
    · obtain ⟨o2, z2⟩ := un.there b o q (by simp)
      obtain ⟨sl, z3⟩ := hfr b o2 z2 hb
      exact ⟨_, z3⟩
    · obtain ⟨o2, z2⟩ := hth b o q hb
      exact ⟨o2, st b o2 z2⟩

abbrev Cx.body (X : Cx) (xe : Value → Shared → Prop) (pn : List (Addr × Obj)) : Cx := { X with xe := xe, pn := pn }
abbrev Cx.suite (X : Cx) (a : Addr) : Cx := { X with A := X.A.mark (some (.ref a)), calm := false, xe := fun _ _ => False }
def tTry (K : PySem.W.Frag) (n C i : Nat) (tb : XK → TS) (th : Addr → TS) : TS := fun D σ H =>
  tb (fun cls _ H' => PySem.W.exmOne K cls (.ref C) = some true ∧ ∀ a, H' a = none → th a { nx := fun _ _ => False, rt := D.rt } ((List.replicate n none).set i (some (.ref a))) (upd H' a (Exc cls a))) D σ H
section
variable {X : Cx}
theorem ps_try {body : List Stmt} {x n : Str} {C : Addr} {i : Nat} {b₀ : Stmt} {suite : List Stmt} {tb : XK → TS} {th : Addr → TS} {np hpos pos : Pos} {l : List Env} (hst : X.stack = X.env :: l) (hfr : X.env.frame = some X.env.locals)
    (hex0 : X.ex = []) (hN : X.N.Nodup) (hi : X.N[i]? = some n) (hl : X.env.kindOf n = some .local) (hg : Gl X x) (hm : X.mg x = some (.ref C)) 
    (hb : ∀ (E : XK) (xe : Value → Shared → Prop) (pn : List (Addr × Obj)), Passes (CXR X.prog X.w) (X.body xe pn) E → PSs (X.body xe pn) body (tb E))
    (hs : ∀ a, PSs (X.suite a) (b₀ :: suite) (th a)) (hd : (x == ("__debug__" : Str)) = false := by decide) :
    PS X (.Try body [.ExceptHandler (some (.Name x np)) (some n) (b₀ :: suite) hpos] [] [] pos) (tTry X.K X.N.length C i tb th) := by
  intro pins s σ H D I h
  refine wpAny_Try_except ?_
  refine wpAny_mono (hb _ (fun e s₁ => wpAny (model X.prog X.w) X.A (noteFrame e X.env) (fun _ s₂ => wpAny (model X.prog X.w) X.A (setFlight e none) (fun _ s₃ => wpAny (model X.prog X.w) X.A (handleBy e X.env [.ExceptHandler (some (.Name x np)) (some n) (b₀ :: suite) hpos]) (SP X pins D) X.xe s₃) X.xe s₂) X.xe s₁) (X.pn ++ pins) ?_ [] s σ H D I.bear h) ?_ fun _ _ z => z
  case refine_2 =>
    intro f s1 hf
    cases f with
    | next =>
      obtain ⟨σ', H', J, q⟩ := hf
      exact wpAny_execs_nil ⟨σ', H', J.unbear, q⟩
    | brk =>
      obtain ⟨σ', H', J, q⟩ := hf
      exact ⟨σ', H', J.unbear, q⟩
    | cont =>
      obtain ⟨σ', H', J, q⟩ := hf
      exact ⟨σ', H', J.unbear, q⟩
    | ret u =>
      obtain ⟨v, σ', H', J, r, q⟩ := hf
      exact ⟨v, σ', H', J.unbear, r, q⟩
  case refine_1 =>
    intro pins' σ' H1 s1 e s2 J0 hcx
    have J : Inv X pins σ' H1 s1 := J0.unbear
    obtain ⟨a, cls, a0, H2, B, rfl, os, bare, fl, hB, hth, hok, un, hn, hE⟩ := hcx
    obtain ⟨hex, hsu⟩ := hE
    have fl' : Heap.FlyingW B (X.env :: l) a cls a0 s2.heap := by rw [← hst]; exact fl
    refine wpAny_looks_onW (by rw [J.ok.frames, hst]) hfr fl' fun h4 held4 up4 => ?_
    refine wpAny_landsW held4 fun h5 fl5 up5 => ?_
    have J5 : Inv X pins σ' H2 { s2 with heap := h5 } := J.caught os bare fl hB hth hok un fl5.1 (up4.trans up5)
    obtain ⟨ob, hob, hobc⟩ := fl5.there
    have LT : PySem.W.Looks (model X.prog X.w) h5 (typeOf (.ref a)) cls := hobc ▸ (PySem.W.Looks.ld hob).andThen .now
    have J5h : Inv (X.suite a) pins σ' H2 { s2 with heap := h5 } := J5.reA rfl (fun z => nomatch z)
    refine wpAny_handleBy_cons (codeAny_handlers_test (ld_glob (X := X.suite a) J5h hg hm ?_ hd)) (by intro q; cases q)
    refine (PySem.W.exm_one (M := model X.prog X.w) J5.kIn LT hex).at ?_
    refine codeAny_handlers_suite_as ?_
    refine lands_againW fl5 fun h6 fl6 up6 => ?_
    have J6 : Inv X pins σ' H2 { s2 with heap := h6 } := J.caught os bare fl hB hth hok un fl6.1 ((up4.trans up5).trans up6)
    have J6h : Inv (X.suite a) pins (nones X) H2 { s2 with heap := h6 } := (show Inv (X.suite a) pins σ' H2 { s2 with heap := h6 } from J6.reA rfl (fun z => nomatch z)).forget
    -- the exception is tracked
    obtain ⟨oe, ws, hoe, hoec, hoed, _⟩ := fl6.first
    have nfr : ∀ b ∈ frs X.stack, b ≠ a := fun b hb z => by
      obtain ⟨_, o', ho', hnf⟩ := fl6.2.2.1.mem (show b ∈ frs (X.env :: l) from hst ▸ hb)
      subst z
      have ho6 : h6.get? b = some o' := ho'
      rw [hoe] at ho6; cases ho6
      exact hnf ws hoed
    have nB : ∀ b o, B.get? b = some o → b ≠ a := fun b o q z => by rw [z, fl.2.1] at q; cases q
    have nL : X.env.locals ≠ a := nfr _ (by rw [hst]; unfold frs; rw [List.filterMap_cons, hfr]; exact List.mem_cons_self)
    have J7 : Inv (X.suite a) pins (nones X) (upd H2 a (Exc cls a)) { s2 with heap := h6 } := by
      refine J6h.track hn (Exc.ok hoe hoec hoed) (fun b ob q n hx => ?_) nL (fun y c q => ?_) (fun p hp => ?_)
      · have hx' : b ∉ X.ex := hx
        by_cases hbf : b ∈ frs X.stack
        · exact nfr b hbf
        · have z1 : b ∉ X.fs := fun z => hbf (by
            rcases J.ok.stk with e | ⟨e, _⟩
            · rw [e]; exact z
            · rw [e]; unfold frs; rw [List.filterMap_cons, hfr]; exact List.mem_cons_of_mem _ z)
          exact nB b ob (hB b ob (J.base.keep b ob q n z1 hx') (J.base.free b ob q n hx') hbf)
      · obtain ⟨v, o', ho', hd'⟩ := J6h.cell y c q
        intro z
        subst z
        have z1 : h6.get? c = some o' := ho'
        rw [hoe] at z1; cases z1
        rw [hoed] at hd'; cases hd'
      · have hp' : p ∈ X.pn ++ pins := hp
        obtain ⟨e1, e2, e3, e4, _⟩ := J.pin p hp'
        refine nB p.1 p.2 (hB p.1 p.2 e1 e2 fun z => ?_)
        rcases List.mem_cons.mp (J.stkSub p.1 z) with y | y
        · exact e3 y
        · exact e4 y
    refine store_ok (X := X.suite a) J7 hN hi (.inl hl) (v := .ref a) (u := .ref a) rfl (fun s8 J8 => ?_) (.inr hl)
    refine wpAny_mono (hs a pins s8 _ _ { nx := fun _ _ => False, rt := D.rt } J8 (hsu a hn)) (fun f s9 hf => ?_) fun _ _ z => False.elim z
    cases f with
    | next => obtain ⟨_, _, _, q⟩ := hf; exact False.elim q
    | brk => obtain ⟨_, _, _, q⟩ := hf; exact False.elim q
    | cont => obtain ⟨_, _, _, q⟩ := hf; exact False.elim q
    | ret u =>
      obtain ⟨v, σ9, H9, J9, r9, q9⟩ := hf
      obtain ⟨m9, hn9, _⟩ := id J9.loc
      have J9' : Inv X pins σ9 H9 s9 := J9.unA J.ok
      refine wpAny_nameGoes hl hn9 (by rw [J.ok.kind]; rfl) fun h' m' hn' hs' => ?_
      exact ⟨v, nones X, H9, J9'.relocal hn' hs', r9, q9⟩
end
end L2

set_option maxRecDepth 100000
namespace L2
open PySem PySem.Spec PyProof.Rows

structure RoomX (k : Nat) (A : Around) : Prop where
  dp : A.depth + 3 * k + 5 < recursionLimit
  un : A.units + 16 * k + 200 < cLine
theorem Room.toX {k : Nat} {A : Around} (r : Room k A) : RoomX k A := ⟨r.dp, r.un⟩
theorem RoomX.mono {j k : Nat} {A : Around} (r : RoomX k A) (h : j ≤ k) : RoomX j A := ⟨by have := r.dp; omega, by have := r.un; omega⟩
theorem RoomX.deeper {k : Nat} {A : Around} (r : RoomX (k + 1) A) (env : Env) : RoomX k (A.deeper env) :=
  ⟨by have := r.dp; show A.depth + 1 + 3 * k + 5 < _; omega, by have := r.un; show A.units + 3 + 16 * k + 200 < _; omega⟩
theorem RoomX.mark {k : Nat} {A : Around} (r : RoomX k A) (v : Option Value) : RoomX k (A.mark v) := ⟨r.dp, r.un⟩
theorem RoomX.depth {k : Nat} {A : Around} (r : RoomX k A) : A.depth < recursionLimit := by have := r.dp; omega
structure FnOkX (P : Program) (w : World) (K : PySem.W.Frag) (mg : Str → Option Value) (base : Heap) (k : Nat) (f : Addr) (fd : FuncData) (ps : List Str) (sp : Sp) : Prop where
  len : ∀ vs H Q E, sp vs H Q E → vs.length = ps.length
  run : ∀ (A : Around) (outer : List Env) (s : Shared) (H : Hp) (args : Args) (us : List Value) (vs : List V) (Q : VK) (E : XK), RoomX k A → Env0 P w K mg base A outer s H → BindsTo s fd args (ps.zip us) → Vals vs us → sp vs H Q E →
    codeAny (model P w) A (.call (.ref f) args) (CR CX0 outer P w H s Q E) s
abbrev cxX (P : Program) (w : World) (K : PySem.W.Frag) (mg : Str → Option Value) (base : Heap) (N : List Str) (qual : Str) (scope : Scope) (f : Addr) (cd : Value) (A : Around) (outer : List Env) (s₀ : Shared) (H₀ : Hp) (E : XK) : Cx :=
  { cxOf CX0 P w K mg base N qual scope f cd A outer s₀ H₀ E with calm := false, xe := fun _ _ => False }
theorem Fun.okX {P : Program} {w : World} {K : PySem.W.Frag} {mg : Str → Option Value} {base : Heap} {x qual : Str} {st : Stmt} {f : Addr} {fd : FuncData} {N ps : List Str} {k : Nat} {sp : Sp} (F : Fun K x qual st f fd) (S : FnScope N ps (defScope st)) (len : ∀ vs H Q E, sp vs H Q E → vs.length = ps.length)
    (hbody : ∀ (cdv : Value) (A : Around) (outer : List Env) (s : Shared) (H : Hp) (vs : List V) (Q : VK) (E : XK), RoomX k (A.deeper (envOfC qual (defScope st) s.heap.objs.size f cdv)) → sp vs H Q E →
      ∃ t, PSs (cxX P w K mg base N qual (defScope st) f cdv A outer s H E) (defBody st) t ∧ t { nx := fun _ H' => Q .non H', rt := Q } (start N vs) H) : FnOkX P w K mg base (k + 1) f fd ps sp := by
  obtain ⟨oc, od, kV, doc, pm, an, cdv, ct, osl, rfl, lk, hcd⟩ := F.ex
  refine ⟨len, fun A outer s H args us vs Q E hr e0 hb r hsp => ?_⟩
  have hl := len _ _ _ _ hsp
  have KX : K.In s.heap := e0.mod.kin.keeps fun b o e => (e0.bs b o e).1
  have lim : s.heap.NoLimit := e0.mod.nolimit.keeps fun b o e => (e0.bs b o e).1
  have hkind : ∀ y ∈ ps.zip us, (defScope st).names.lookup y.1 = some .local ∨ ((defScope st).names.lookup y.1 = some .cell ∧ ((cellsFrom (s.heap.objs.size + 1) (defScope st).names []).lookup y.1).isSome = true) := fun ⟨n, v⟩ hy => by
    rcases S.par n (List.of_mem_zip hy).1 with q | q
    · exact .inl q
    · exact .inr ⟨q, PySem.W.cellsFrom_some _ _ _ (.inl q)⟩
  refine codeAny_call_function hr.depth (KX _ _ lk) rfl S.co S.gen rfl (PySem.W.codeRec_of KX hcd) (hb _ _ _ _ ?_)
  refine wpAny_newFunctionEnv_cells S.kind hkind fun env he s1 x => ?_
  subst he
  refine ⟨lim.keeps x.toInCall.keep, codeAny_func ?_⟩
  obtain ⟨t, ht, hq⟩ := hbody cdv A outer s H vs Q E (hr.deeper _) hsp
  have e0' : Env0 P w K mg base { A with handled := none } outer s H := ⟨e0.frames, e0.mod, e0.bs, e0.bsz, e0.funs, e0.frf, e0.hok, e0.bare⟩
  have I0 : Inv (cxOf CX0 P w K mg base N qual (defScope st) f cdv { A with handled := none } outer s H E) [] (start N vs) H s1 := inv_start S rfl e0' hl r x
  have I : Inv (cxX P w K mg base N qual (defScope st) f cdv A outer s H E) [] (start N vs) H s1 := I0.reA (A2 := A.deeper (envOfC qual (defScope st) s.heap.objs.size f cdv)) (by rfl) (fun z => nomatch z)
  refine wpAny_mono (ht [] s1 (start N vs) H _ I hq) (fun fl s' hs => ?_) fun e s' hs => False.elim hs
  have fin : ∀ {σ' : St} {H' : Hp} {v : V} {u : Value}, Inv (cxX P w K mg base N qual (defScope st) f cdv A outer s H E) [] σ' H' s' → RelV v u → Q v H' → CE outer P w H s Q u s' :=
    fun {σ' H' v u} J rv q => ⟨v, H', J.os, J.bare, J.base, J.hok, rv, q⟩
  cases fl with
  | ret u =>
    obtain ⟨v, σ', H', J, rv, q⟩ := hs
    exact fin J rv q
  | next =>
    obtain ⟨σ', H', J, q⟩ := hs
    exact fin (v := V.non) (u := Value.none) J rfl q
  | brk =>
    obtain ⟨_, _, _, q⟩ := hs
    exact False.elim q
  | cont =>
    obtain ⟨_, _, _, q⟩ := hs
    exact False.elim q
section
variable {X : Cx} {CX : CXT} {k : Nat} {f : Addr} {fd : FuncData} {ps : List Str} {sp : Sp} {E : XK} {x : Str} {p pos : Pos} {e : Expr} {es : List Expr} {t : TA}
theorem run_fnX {pins : List (Addr × Obj)} {σ : St} {H : Hp} {s : Shared} {Q : VK} {us : List Value} {vs : List V} (F : FnOkX X.prog X.w X.K X.mg X.base k f fd ps sp) (hr : RoomX k X.A) (hb : Binds X.K fd ps [])
    (I : Inv X pins σ H s) (r : Vals vs us) (h : sp vs H Q E) : wpAny (model X.prog X.w) X.A (call (.ref f) us) (EP X pins σ Q) X.xe s := by
  have hl : (us ++ []).length = ps.length := by rw [List.append_nil, ← r.length]; exact F.len _ _ _ _ h
  have hb' := hb s us I.kIn hl
  rw [List.append_nil] at hb'
  refine wpAny_call (codeAny_mono (F.run X.A X.stack s H ⟨us, []⟩ us vs Q E hr I.env0 hb' r h) fun r s' hq => ?_)
  cases r with
  | error e => exact False.elim hq
  | ok fl =>
    cases fl with
    | ret u => exact I.after hq
    | next => exact False.elim hq
    | brk => exact False.elim hq
    | cont => exact False.elim hq
def tCallX (sp : Sp) (t : TA) : TE := fun σ H Q => t σ H fun vs H1 => sp vs H1 Q E0
theorem pe_callX (F : FnOkX X.prog X.w X.K X.mg X.base k f fd ps sp) (hr : RoomX k X.A) (hg : Gl X x) (hm : X.mg x = some (.ref f)) (hk : PySem.W.keepIn X.K (.ref f) = true) (hb : Binds X.K fd ps [])
    (ha : PA X (e :: es) t) (hdb : (x == ("__debug__" : Str)) = false := by decide) (he : starEach (e :: es) X.env = (false, eval e X.env) :: starEach es X.env := by rfl) (hpl : (backTo pos (starEach es X.env)).any (·.1) = false := by rfl) :
    PE X (.Call (.Name x p) (e :: es) [] pos) (tCallX sp t) := by
  intro pins s σ H Q I h
  refine wpAny_Call_Name_kw (ld_glob I hg hm ?_ hdb)
  refine PySem.W.callWith_K (h₀ := X.base) I.ok.mod.kin hk (thn (ha pos pins s σ H _ I h) fun us s1 ⟨vs, H1, I1, r, q⟩ => ⟨I1.kIn, ?_⟩) he hpl
  exact run_fnX F hr hb I1 r q

structure FnV (P : Program) (w : World) (K : PySem.W.Frag) (mg : Str → Option Value) (base : Heap) (k : Nat) (f : Addr) (sp : Sp) : Prop where
  ex : ∃ fd ps, FnOk P w K mg base (CXR P w) k f fd ps sp ∧ Binds K fd ps []
  kp : PySem.W.keepIn K (.ref f) = true
end
end L2

-- the class of an exception, isinstance, great numbers
set_option maxRecDepth 100000
namespace L2
open PySem PySem.W PySem.Spec PyProof.Rows Builtin Builtin.ObjectAttr Builtin.Getset_descriptor
section
variable {prog : Program} {w : World} {A : Around} {E : Value → Shared → Prop} {s : Shared} {K : Frag} {a C : Addr} {o : Obj}
theorem exc_class_get {R : Result → Shared → Prop} {tp : Value} (X : K.In s.heap) (hx : s.heap.get? a = some o) (hc : o.cls = .ref C) (hm : mroIn K C (.type "object") = some true)
    (h : R (.ok (.ret (.ref C))) s) : codeAny (model prog w) A (.call (.builtin "getset_descriptor.__get__") ⟨[.builtin "object.__class__", .ref a, tp], []⟩) R s := by
  obtain ⟨hh, g, dr, t, os⟩ := s
  have L0 : Looks (model prog w) hh (typeOf (.ref a)) (.ref C) := hc ▸ (Looks.ld hx).andThen .now
  have L1 := looks_mroIn (M := model prog w) X hm
  refine codeAny_call_builtin KF.slot_gs.plain KF.entry_gs (KF.slot_gs.check _ _ _ _ _ _ _ _ KF.type_class (KF.args_gs _ _ _) ?_)
  unfold Builtin.«getset_descriptor.__get__» descrGet
  rw [dga_obj]
  refine wpAny_bind (wpAny_pure ?_)
  unfold descrGetter descrCheckInstance descrNameAndClass isInstance
  simp only [KF.owner_class]
  repeat lk
  refine ⟨Code.quiet_builtin _ (by decide +kernel), codeAny_builtin KF.entry_class ?_⟩
  unfold Builtin.«object.__class__» shownTypeOf
  repeat lk
  exact h
theorem exc_entry {tk : Tok} {Q : Fin → Shared → Prop} (X : K.In s.heap) (hx : s.heap.get? a = some o) (hc : o.cls = .ref C) (g3 : findIn K (.ref C) "__class__" = some (some (.builtin "object.__class__"))) (hm : mroIn K C (.type "object") = some true)
    (hq : Q (.done (.ret (.ref C))) s) : wpAny (model prog w) A (Builtin.«object.__getattribute__» ⟨[.ref a, .str "__class__" tk], []⟩) Q E s := by
  obtain ⟨hh, g, dr, t, os⟩ := s
  have L0 : Looks (model prog w) hh (typeOf (.ref a)) (.ref C) := hc ▸ (Looks.ld hx).andThen .now
  have L1 := looks_findIn (M := model prog w) X g3
  have f5 : typeOf (.builtin "object.__class__") = pure (.type "getset_descriptor") := KF.type_class
  have f6 := F.slot_gs_get.lookup
  have f7 := F.slot_gs_set.lookup
  repeat (any_goals (first | assumption | (with_reducible refine wpAny_loadPart_at hx ?_; rw [hc]) | with_reducible refine L1.at ?_ | wp_step))
  refine exc_class_get X hx hc hm ?_
  repeat (any_goals (first | assumption | wp_step))
theorem exc_check {M : Model} {nameV : Value} {Q : Unit → Shared → Prop} (X : K.In s.heap) (hx : s.heap.get? a = some o) (hc : o.cls = .ref C) (hmB : mroIn K C (.type "BaseException") = some true) (hq : Q () s) :
    wpAny M A (checkBuiltinCall "BaseException.__getattribute__" ⟨[.ref a, nameV], []⟩) Q E s := by
  obtain ⟨hh, g, d, t, os⟩ := s
  have L3 := looks_mroIn (M := M) X hmB
  have hk : builtinKind "BaseException.__getattribute__" = some .slot := by decide +kernel
  have hsplit : splitId "BaseException.__getattribute__" = some ("BaseException", "__getattribute__") := by decide +kernel
  have ha := F.args_bexc_ga (.ref a) nameV
  simp only [checkBuiltinCall, hk, hsplit]
  refine wpAny_bind ?_
  · unfold isInstance
    repeat (first | (with_reducible refine wpAny_loadPart_at hx ?_; rw [hc]) | with_reducible refine L3.at ?_ | wp_step)
    exact hq
theorem exc_class {Q : Option Value → Shared → Prop} (X : K.In s.heap) (hx : s.heap.get? a = some o) (hc : o.cls = .ref C) (g1 : findIn K (.ref C) "__getattribute__" = some (some (.builtin "BaseException.__getattribute__"))) (g2 : findIn K (.ref C) "__getattr__" = some none)
    (g3 : findIn K (.ref C) "__class__" = some (some (.builtin "object.__class__"))) (hm : mroIn K C (.type "object") = some true) (hmB : mroIn K C (.type "BaseException") = some true) 
    (h : Q (some (.ref C)) { s with toks := s.toks + 1 }) : wpAny (model prog w) A (getAttr? (.ref a) "__class__") Q E s := by
  obtain ⟨hh, g, d, t, os⟩ := s
  have L0 : Looks (model prog w) hh (typeOf (.ref a)) (.ref C) := hc ▸ (Looks.ld hx).andThen .now
  have L1 := looks_findIn (M := model prog w) X g1
  have L2 := looks_findIn (M := model prog w) X g2
  have L3 := looks_mroIn (M := model prog w) X hmB
  unfold getAttr? getAttrBy? getAttrBy
  refine wpAny_bind (wpAny_mkText (wpAny_bind (wpAny_attempt (wpAny_holding (wpAny_bind (L0.at (wpAny_bind (L1.at ?_))))))))
  have hx2 : (Value.builtin "BaseException.__getattribute__" == Value.builtin "object.__getattribute__") = false := by decide +kernel
  have hx1 : (onTheHeap (Value.ref C) && Value.builtin "BaseException.__getattribute__" == Value.builtin "object.__getattribute__") = false := by rw [hx2]; rfl
  show wpAny _ _ (if (onTheHeap (Value.ref C) && Value.builtin "BaseException.__getattribute__" == Value.builtin "object.__getattribute__") = true then _ else _) _ _ _
  rw [if_neg (by rw [hx1]; decide)]
  have f3 := PySem.F.attr_ValueError.ga.bind (.ref a)
  have hx0 : (false && onTheHeap (Value.builtin "BaseException.__getattribute__")) = false := rfl
  unfold getAttrByItsOwn hookBefore
  repeat (any_goals (first | assumption | (with_reducible refine wpAny_loadPart_at hx ?_; rw [hc]) | with_reducible refine L1.at ?_ | with_reducible refine L2.at ?_ | wp_step))
  refine codeAny_call_builtin PySem.F.attr_ValueError.ga.plain F.entry_bexc_ga (exc_check X hx hc hmB (exc_entry X hx hc g3 hm ?_))
  dsimp only
  unfold handedOut
  exact wpAny_pure (wpAny_pure h)

structure ExcCls (K : Frag) (C : Addr) : Prop where
  cl : (clsIn K C).isSome = true
  g1 : findIn K (.ref C) "__getattribute__" = some (some (.builtin "BaseException.__getattribute__"))
  g2 : findIn K (.ref C) "__getattr__" = some none
  g3 : findIn K (.ref C) "__class__" = some (some (.builtin "object.__class__"))
  hm : mroIn K C (.type "object") = some true
  hB : mroIn K C (.type "BaseException") = some true
theorem kitx_exc (c : ExcCls K C) : KitX K (.ref a) (.ref C) (fun h => ∃ o, h.get? a = some o ∧ o.cls = .ref C) where
  ty := fun _ _ _ ⟨o, hx, hc⟩ => hc ▸ (Looks.ld hx).andThen .now
  it := fun _ _ X _ => by
    obtain ⟨cdD, hcD⟩ := Option.isSome_iff_exists.mp c.cl
    unfold clsIn at hcD
    split at hcD
    · rename_i c' d' cd' sl' ho
      intro A' Q' E' s' k q
      unfold isType loadHead
      exact wpAny_bind (wpAny_loadPart (k _ _ (X _ _ ho)) (wpAny_pure q))
    · cases hcD
  ne := fun h tp dd its n sl X htp => by
    obtain ⟨cdD, hcD⟩ := Option.isSome_iff_exists.mp c.cl
    refine Bool.eq_false_iff.mpr fun q => ?_
    have e : C = tp := Value.ref.inj (beq_iff_eq.mp q)
    subst e
    unfold clsIn at hcD
    split at hcD
    · rename_i c' d' cd' sl' ho
      have z := (X _ _ ho).symm.trans htp
      cases z
    · cases hcD
  ca := fun X ⟨o, hx, hc⟩ k => exc_class X hx hc c.g1 c.g2 c.g3 c.hm c.hB k
end

section
variable {X : Cx}
def clsV : V → Value
  | .ty n => .type n
  | .ref a => .ref a
  | _ => .none
def isC : V → Prop
  | .ty _ => True
  | .ref _ => True
  | _ => False
inductive TyX (K : Frag) (H : Hp) : V → Value → Prop where
  | of {x : V} {t : Value} (h : TyOf K H x t) : TyX K H x t
  | exc {a C : Addr} (e : H a = some (Exc (.ref C) a)) (c : ExcCls K C) : TyX K H (.ref a) (.ref C)
  | sqt {a : Addr} {xs : List V} (h : SqT K H a xs) : TyX K H (.ref a) (.type "tuple")
  | sql {a : Addr} {xs : List V} (h : SqL K H a xs) : TyX K H (.ref a) (.type "list")
def rIsI (K : Frag) : List V → Hp → VK → Prop := fun xs H Q => ∃ x c t b, xs = [x, c] ∧ isC c ∧ TyX K H x t ∧ kitOne K t (clsV c) = some b ∧ Q (.bl b) H
theorem call_isinst : CallR X (.builtin "isinstance") (rIsI X.K) := by
  intro pins s σ H us vs Q I r h
  obtain ⟨x, c, t, b, rfl, ic, ty, e, q⟩ := h
  obtain ⟨u, cu, rfl, rx, rc⟩ := Vals.two r
  have ec : cu = clsV c := by
    cases c with
    | ty n => exact rc
    | ref a => exact rc
    | _ => exact False.elim ic
  subst ec
  have fin : ∀ tk, EP X pins σ Q (.bool b) { s with toks := tk } := fun tk => ⟨.bl b, H, I.tok tk, rfl, q⟩
  cases ty with
  | of ty => exact isinst_ok I rx ty e fin
  | @exc a C ea cl =>
    cases (show u = Value.ref a from rx)
    obtain ⟨⟨o, _, h1, h2, _⟩, _⟩ := (show ObjOk X.prog X.w H s.heap a (Exc (.ref C) a) from I.hok a _ ea)
    exact kia_one (kitx_exc cl) I.kIn ⟨o, h1, h2⟩ e (fun z => nomatch z) fin
  | @sqt a xs h =>
    cases (show u = Value.ref a from rx)
    obtain ⟨_, _, ⟨o, h1, h2, _⟩, _⟩ := I.tuple h
    exact kia_one kitx_tuple I.kIn ⟨o, h1, h2⟩ e (fun z => nomatch z) fin
  | @sql a xs h =>
    cases (show u = Value.ref a from rx)
    obtain ⟨_, _, ⟨o, n, h1, h2, _⟩, _⟩ := I.list h
    exact kia_one kitx_list I.kIn ⟨o, h1, h2⟩ e (fun z => nomatch z) fin

theorem op_mulB : OpR X (binaryOp .Mult) (rI IntMulOk fun i j => .int (i * j)) := opI fun _ _ _ _ _ _ _ hc q => mul_int q hc
def CDivB (_ j : Int) : Prop := j ≠ 0 ∧ j.natAbs.log2 < 9000
theorem op_fdivB : OpR X (binaryOp .FloorDiv) (rI CDivB fun i j => .int (i.fdiv j)) := opI fun _ _ _ _ _ _ _ hc q => floordiv_int hc.1 q (.inl (PyProof.noPylong_of_log2 hc.2))
end
end L2

set_option maxRecDepth 100000
namespace L2
open PySem PySem.Spec PyProof.Rows

inductive D where
  | v (x : V)
  | tup (ds : List D)
  | lst (ds : List D)
mutual
def eqD : D → D → Bool
  | .v x, .v y => eqV x y
  | .tup a, .tup b => eqDs a b
  | .lst a, .lst b => eqDs a b
  | _, _ => false
def eqDs : List D → List D → Bool
  | [], [] => true
  | x :: xs, y :: ys => eqD x y && eqDs xs ys
  | _, _ => false
end
mutual
def okD : D → D → Bool
  | .v _, .v _ => true
  | .tup a, .tup b => okDs a b
  | .lst a, .lst b => okDs a b
  | _, _ => false
def okDs : List D → List D → Bool
  | x :: xs, y :: ys => okD x y && okDs xs ys
  | _, _ => true
end
mutual
def dpD : D → Nat
  | .v _ => 0
  | .tup a => dpDs a + 1
  | .lst a => dpDs a + 1
def dpDs : List D → Nat
  | [] => 0
  | x :: xs => max (dpD x) (dpDs xs)
end
mutual
inductive IsD (K : PySem.W.Frag) (H : Hp) : V → D → Prop where
  | v {x : V} (f : flatV x = true) : IsD K H x (.v x)
  | tup {p : Addr} {xs : List V} {ds : List D} (h : SqT K H p xs) (t : IsDs K H xs ds) : IsD K H (.ref p) (.tup ds)
  | lst {p : Addr} {xs : List V} {ds : List D} (h : SqL K H p xs) (t : IsDs K H xs ds) : IsD K H (.ref p) (.lst ds)
inductive IsDs (K : PySem.W.Frag) (H : Hp) : List V → List D → Prop where
  | nil : IsDs K H [] []
  | cons {x : V} {xs : List V} {d : D} {ds : List D} (h : IsD K H x d) (t : IsDs K H xs ds) : IsDs K H (x :: xs) (d :: ds)
end
theorem IsDs.length {K : PySem.W.Frag} {H : Hp} : ∀ {xs : List V} {ds : List D}, IsDs K H xs ds → xs.length = ds.length
  | _, _, .nil => rfl
  | _, _, .cons _ t => congrArg (· + 1) t.length
theorem eqV_refl : ∀ {x : V}, flatV x = true → eqV x x = true
  | .non, _ => rfl
  | .bl a, _ => by simp [eqV]
  | .int a, _ => by simp [eqV]
  | .str a, _ => by simp [eqV]
  | .byt _, h => absurd (show false = true from h) Bool.false_ne_true
  | .flt _, h => absurd (show false = true from h) Bool.false_ne_true
  | .ref _, h => absurd (show false = true from h) Bool.false_ne_true
  | .ty _, h => absurd (show false = true from h) Bool.false_ne_true
section
variable {X : Cx} {pins : List (Addr × Obj)} {σ : St} {H : Hp} {s : Shared}
mutual
theorem eqD_same (I : Inv X pins σ H s) : ∀ {x : V} {d d' : D}, IsD X.K H x d → IsD X.K H x d' → okD d d' = true → eqD d d' = true
  | _, _, _, .v f, .v _, _ => by rw [eqD]; exact eqV_refl f
  | _, _, _, .tup h t, .tup h' t', ok => by
    have e := I.tuple_inj h h'
    subst e
    rw [eqD]
    rw [okD] at ok
    exact eqDs_same I t t' ok
  | _, _, _, .lst h t, .lst h' t', ok => by
    have e := I.list_inj h h'
    subst e
    rw [eqD]
    rw [okD] at ok
    exact eqDs_same I t t' ok
  | _, _, _, .v f, .tup _ _, _ => absurd (show false = true from f) Bool.false_ne_true
  | _, _, _, .v f, .lst _ _, _ => absurd (show false = true from f) Bool.false_ne_true
  | _, _, _, .tup _ _, .v f, _ => absurd (show false = true from f) Bool.false_ne_true
  | _, _, _, .lst _ _, .v f, _ => absurd (show false = true from f) Bool.false_ne_true
  | _, _, _, .tup _ _, .lst _ _, ok => by simp [okD] at ok
  | _, _, _, .lst _ _, .tup _ _, ok => by simp [okD] at ok
theorem eqDs_same (I : Inv X pins σ H s) : ∀ {xs : List V} {ds ds' : List D}, IsDs X.K H xs ds → IsDs X.K H xs ds' → okDs ds ds' = true → eqDs ds ds' = true
  | _, _, _, .nil, .nil, _ => by rw [eqDs]
  | _, _, _, .cons h t, .cons h' t', ok => by
    rw [okDs, Bool.and_eq_true] at ok
    rw [eqDs, eqD_same I h h' ok.1, eqDs_same I t t' ok.2]
    rfl
end
def eqAtI (ds ds' : List D) (j : Nat) : Bool := match ds[j]?, ds'[j]? with
  | some d, some d' => eqD d d'
  | _, _ => true
theorem all_range_succ (n : Nat) (e : Nat → Bool) : (List.range (n + 1)).all e = (e 0 && (List.range n).all fun j => e (j + 1)) := by
  rw [List.range_succ_eq_map, List.all_cons, List.all_map]; rfl
theorem all_eqAtI : ∀ (ds ds' : List D), ((List.range (min ds.length ds'.length)).all (eqAtI ds ds') && ds.length == ds'.length) = eqDs ds ds'
  | [], [] => by rw [eqDs]; rfl
  | [], _ :: _ => by simp [eqDs]
  | _ :: _, [] => by simp [eqDs]
  | x :: xs, y :: ys => by
    have ih := all_eqAtI xs ys
    rw [eqDs, ← ih]
    have e1 : min (x :: xs).length (y :: ys).length = min xs.length ys.length + 1 := by simp only [List.length_cons]; omega
    rw [e1, all_range_succ]
    have e2 : ((x :: xs).length == (y :: ys).length) = (xs.length == ys.length) := by
      by_cases h : xs.length = ys.length <;> simp [h]
    rw [e2, Bool.and_assoc]
    rfl
theorem all_eqAtI_len (ds ds' : List D) (h : ds.length = ds'.length) : (List.range ds.length).all (eqAtI ds ds') = eqDs ds ds' := by
  rw [← all_eqAtI, ← h, Nat.min_self]; simp
theorem eqDs_len : ∀ (ds ds' : List D), ds.length ≠ ds'.length → eqDs ds ds' = false
  | [], [], h => absurd rfl h
  | [], _ :: _, _ => by simp [eqDs]
  | _ :: _, [], _ => by simp [eqDs]
  | x :: xs, y :: ys, h => by
    rw [eqDs, eqDs_len xs ys (fun e => h (by simp [e]))]; simp
theorem rcAt_tup0 (I : Inv X pins σ H s) {p p' : Addr} {xs ys : List V} {ds ds' : List D} {A : Around} (h : SqT X.K H p xs) (t : IsDs X.K H xs ds) (h' : SqT X.K H p' ys) (t' : IsDs X.K H ys ds') (hu : A.units < cLine)
    (q : ∀ {us vs : List Value}, Vals xs us → Vals ys vs → ∀ (j : Nat) (h1 : j < us.length) (h2 : j < vs.length), SeqAt.EqAt A.in1 s us[j] vs[j] (eqAtI ds ds' j)) : SeqAt.RcAt A s (.ref p) (.ref p') (eqDs ds ds') := by
    obtain ⟨its, r1, i1, _⟩ := I.tuple h
    obtain ⟨its', r2, i2, _⟩ := I.tuple h'
    have z := SeqAt.RcAt.tuples (A := A) (items := its.toArray) (items2 := its'.toArray) (e := eqAtI ds ds') i1 i2 hu (fun j h1 h2 => q r1 r2 j (by simpa using h1) (by simpa using h2))
    have e1 : its.toArray.size = ds.length := by rw [List.size_toArray, ← r1.length, t.length]
    have e2 : its'.toArray.size = ds'.length := by rw [List.size_toArray, ← r2.length, t'.length]
    rw [e1, e2, all_eqAtI] at z
    exact z
theorem rcAt_lst0 (I : Inv X pins σ H s) {p p' : Addr} {xs ys : List V} {ds ds' : List D} {A : Around} (h : SqL X.K H p xs) (t : IsDs X.K H xs ds) (h' : SqL X.K H p' ys) (t' : IsDs X.K H ys ds') (hu : A.units < cLine)
    (q : ∀ {us vs : List Value}, Vals xs us → Vals ys vs → ∀ (j : Nat) (h1 : j < us.length) (h2 : j < vs.length), SeqAt.EqAt A.in1 s us[j] vs[j] (eqAtI ds ds' j)) : SeqAt.RcAt A s (.ref p) (.ref p') (eqDs ds ds') := by
    obtain ⟨its, r1, i1, _⟩ := I.list h
    obtain ⟨its', r2, i2, _⟩ := I.list h'
    have e1 : its.toArray.size = ds.length := by rw [List.size_toArray, ← r1.length, t.length]
    have e2 : its'.toArray.size = ds'.length := by rw [List.size_toArray, ← r2.length, t'.length]
    by_cases hl : ds.length = ds'.length
    · have z := SeqAt.RcAt.lists (A := A) (items := its.toArray) (items2 := its'.toArray) (e := eqAtI ds ds') i1.isList i2.isList (by rw [e1, e2, hl]) hu (fun j h1 h2 => q r1 r2 j (by simpa using h1) (by simpa using h2))
      rw [e1, all_eqAtI_len ds ds' hl] at z
      exact z
    · rw [eqDs_len ds ds' hl]
      exact SeqAt.RcAt.lists_lengths i1.isList i2.isList (by rw [e1, e2]; simpa using hl) hu
mutual
theorem eqAt_D (I : Inv X pins σ H s) : ∀ {x y : V} {d d' : D} {u v : Value} {A : Around}, IsD X.K H x d → IsD X.K H y d' → okD d d' = true → RelV x u → RelV y v → A.units + dpD d < cLine → SeqAt.EqAt A s u v (eqD d d')
  | _, _, _, _, _, _, _, .v f, .v f', _, r, r', _ => by rw [eqD]; exact eqAt_V r r' f f'
  | _, _, _, _, u, v, A, .tup (p := p) h t, .tup (p := p') h' t', ok, r, r', hu => by
    cases (show u = Value.ref p from r)
    cases (show v = Value.ref p' from r')
    by_cases hp : p = p'
    · subst hp
      rw [eqD_same I (.tup h t) (.tup h' t') ok]
      exact SeqAt.EqAt.same _
    · rw [okD] at ok
      rw [dpD] at hu
      rw [eqD]
      exact SeqAt.EqAt.of_refs hp (rcAt_tup0 I h t h' t' (by omega) fun r1 r2 j h1 h2 => eqAts_D (A := A.in1) I t t' ok r1 r2 (by show A.units + 1 + _ < _; omega) j h1 h2)
  | _, _, _, _, u, v, A, .lst (p := p) h t, .lst (p := p') h' t', ok, r, r', hu => by
    cases (show u = Value.ref p from r)
    cases (show v = Value.ref p' from r')
    by_cases hp : p = p'
    · subst hp
      rw [eqD_same I (.lst h t) (.lst h' t') ok]
      exact SeqAt.EqAt.same _
    · rw [okD] at ok
      rw [dpD] at hu
      rw [eqD]
      exact SeqAt.EqAt.of_refs hp (rcAt_lst0 I h t h' t' (by omega) fun r1 r2 j h1 h2 => eqAts_D (A := A.in1) I t t' ok r1 r2 (by show A.units + 1 + _ < _; omega) j h1 h2)
  | _, _, _, _, _, _, _, .v _, .tup _ _, ok, _, _, _ => by simp [okD] at ok
  | _, _, _, _, _, _, _, .v _, .lst _ _, ok, _, _, _ => by simp [okD] at ok
  | _, _, _, _, _, _, _, .tup _ _, .v _, ok, _, _, _ => by simp [okD] at ok
  | _, _, _, _, _, _, _, .lst _ _, .v _, ok, _, _, _ => by simp [okD] at ok
  | _, _, _, _, _, _, _, .tup _ _, .lst _ _, ok, _, _, _ => by simp [okD] at ok
  | _, _, _, _, _, _, _, .lst _ _, .tup _ _, ok, _, _, _ => by simp [okD] at ok
theorem eqAts_D (I : Inv X pins σ H s) : ∀ {xs ys : List V} {ds ds' : List D} {us vs : List Value} {A : Around}, IsDs X.K H xs ds → IsDs X.K H ys ds' → okDs ds ds' = true → Vals xs us → Vals ys vs → A.units + dpDs ds < cLine →
    ∀ (j : Nat) (h1 : j < us.length) (h2 : j < vs.length), SeqAt.EqAt A s us[j] vs[j] (eqAtI ds ds' j)
  | _, _, _, _, _, _, _, .nil, _, _, .nil, _, _ => fun j h1 _ => absurd h1 (Nat.not_lt_zero _)
  | _, _, _, _, _, _, _, .cons _ _, .nil, _, _, .nil, _ => fun j _ h2 => absurd h2 (Nat.not_lt_zero _)
  | _, _, _, _, _, _, A, .cons h t, .cons h' t', ok, .cons r rs, .cons r' rs', hu => fun j h1 h2 => by
    rw [okDs, Bool.and_eq_true] at ok
    rw [dpDs] at hu
    cases j with
    | zero => exact eqAt_D I h h' ok.1 r r' (by omega)
    | succ j => exact eqAts_D I t t' ok.2 rs rs' (by omega) j (by simpa using h1) (by simpa using h2)
end
def D.isV : D → Bool
  | .v _ => true
  | _ => false
def rEqD (K : PySem.W.Frag) : R2 := fun x y H Q => ∃ d d', d.isV = false ∧ IsD K H x d ∧ IsD K H y d' ∧ okD d d' = true ∧ dpD d ≤ 60 ∧ Q (.bl (eqD d d')) H
theorem op_eqD (hu : X.A.units + 64 < cLine) : OpR X (compareOp .Eq) (rEqD X.K) := by
  intro pins s σ H x y v u Q I rx ry h
  obtain ⟨d, d', nf, h1, h2, ok, dp, q⟩ := h
  have fin : EP X pins σ Q (.bool (eqD d d')) s := ⟨.bl _, H, I, rfl, q⟩
  cases h1 with
  | v f =>
    cases h2 with
    | v f' => exact absurd (show true = false from nf) (by decide)
    | tup _ _ => simp [okD] at ok
    | lst _ _ => simp [okD] at ok
  | @tup p xs ds h t =>
    cases h2 with
    | v f' => simp [okD] at ok
    | @tup p' ys ds' h' t' =>
      cases (show v = Value.ref p from rx)
      cases (show u = Value.ref p' from ry)
      rw [okD] at ok
      rw [dpD] at dp
      rw [eqD] at fin
      exact rcAt_tup0 I h t h' t' (by omega) (fun r1 r2 j h1 h2 => eqAts_D (A := X.A.in1) I t t' ok r1 r2 (by show X.A.units + 1 + _ < _; omega) j h1 h2) X.prog X.w X.xe _ fin
    | lst _ _ => simp [okD] at ok
  | @lst p xs ds h t =>
    cases h2 with
    | v f' => simp [okD] at ok
    | tup _ _ => simp [okD] at ok
    | @lst p' ys ds' h' t' =>
      cases (show v = Value.ref p from rx)
      cases (show u = Value.ref p' from ry)
      rw [okD] at ok
      rw [dpD] at dp
      rw [eqD] at fin
      exact rcAt_lst0 I h t h' t' (by omega) (fun r1 r2 j h1 h2 => eqAts_D (A := X.A.in1) I t t' ok r1 r2 (by show X.A.units + 1 + _ < _; omega) j h1 h2) X.prog X.w X.xe _ fin
end
end L2

set_option maxRecDepth 100000
namespace L2
open PySem PySem.Spec PyProof.Rows
section
variable {X : Cx}
def rBitLen : V → List V → Hp → VK → Prop := fun x vs H Q => ∃ i, x = .int i ∧ vs = [] ∧ Q (.int (Builtin.Int.intBits i)) H
theorem mt_bitlen : MtM X "int.bit_length" rBitLen := by
  intro pins s σ H x vs v us Q I rx rv h
  obtain ⟨i, rfl, rfl, q⟩ := h
  obtain ⟨t, rfl⟩ := rx
  cases Vals.zero rv
  exact call_int_bit_length ⟨.int _, H, I.tok _, ⟨_, rfl⟩, q⟩
theorem count_eqU {x : V} : ∀ {xs : List V} {us : List Value}, Vals xs us → xs.all flatV = true → us.countP (eqU x) = xs.countP fun y => eqV y x
  | _, _, .nil, _ => rfl
  | y :: xs, u :: us, .cons r t, f => by
    rw [List.all_cons, Bool.and_eq_true] at f
    rw [List.countP_cons, List.countP_cons, eqU_of r f.1, count_eqU t f.2]
def rCount : V → List V → Hp → VK → Prop := fun x vs H Q => ∃ l xs y, x = .ref l ∧ vs = [y] ∧ H l = some (.lst xs) ∧ flatV y = true ∧ xs.all flatV = true ∧ Q (.int (xs.countP fun z => eqV z y)) H
theorem mt_count : MtM X "list.count" rCount := by
  intro pins s σ H x vs v us Q I rx rv h
  obtain ⟨l, xs, y, rfl, rfl, hH, fy, fx, q⟩ := h
  cases rx
  obtain ⟨u, rfl, ru⟩ := rv.one
  obtain ⟨z, its, n, r, hl, e⟩ := I.lstM hH
  refine call_meets F.slot_list_count ⟨_, e, rfl⟩ F.entry_list_count (F.args_list_count_2 _ _) (SeqAt.list_countAt l its.toArray n none #[] u (eqU y)) ⟨e, fun w hw => mem_eqAt ru fy r fx w (by simpa using hw), ?_⟩
  refine ⟨.int _, H, I.tok _, ⟨_, rfl⟩, ?_⟩
  rw [show its.toArray.toList = its from rfl, count_eqU r fx]
  exact q
theorem eqU_get {y : V} {xs : List V} {us : List Value} (r : Vals xs us) (f : xs.all flatV = true) (j : Nat) (hj : j < us.length) (hx : j < xs.length) : eqU y us[j] = eqV xs[j] y := by
  obtain ⟨u, e1, e2⟩ := r.get (List.getElem?_eq_getElem hx)
  have e3 : us[j] = u := by rw [List.getElem?_eq_getElem hj] at e1; exact Option.some.inj e1
  rw [e3]
  exact eqU_of e2 (List.all_eq_true.mp f _ (List.getElem_mem hx))
def rIndex : V → List V → Hp → VK → Prop := fun x vs H Q => ∃ l xs y j, x = .ref l ∧ vs = [y] ∧ H l = some (.lst xs) ∧ flatV y = true ∧ xs.all flatV = true ∧ (xs.findIdx? fun z => eqV z y) = some j ∧ Q (.int (j : Nat)) H
theorem mt_index : MtM X "list.index" rIndex := by
  intro pins s σ H x vs v us Q I rx rv h
  obtain ⟨l, xs, y, j, rfl, rfl, hH, fy, fx, hi, q⟩ := h
  cases rx
  obtain ⟨u, rfl, ru⟩ := rv.one
  obtain ⟨z, its, n, r, hl, e⟩ := I.lstM hH
  obtain ⟨hj, h1, h2⟩ := List.findIdx?_eq_some_iff_getElem.mp hi
  have hz : xs.length < 2 ^ 63 := Nat.lt_of_le_of_lt z line63
  refine call_meets F.slot_list_index ⟨_, e, rfl⟩ F.entry_list_index (F.args_list_index_2 _ _) (SeqAt.list_indexAt l its.toArray n none #[] u (eqU y) j (by simpa [← hl] using hj) (by have : (xs.length : Int) < 2 ^ 63 := by exact_mod_cast hz
                                                                                                                                                                                       omega) ?_ ?_) ⟨e, fun w hw => mem_eqAt ru fy r fx w (by simpa using hw), ?_⟩
  · rw [show its.toArray[j]'(by simpa [← hl] using hj) = its[j]'(by rw [← hl]; exact hj) from rfl, eqU_get r fx j _ hj]; exact h1
  · intro m hm hlt
    have hm' : m < its.length := by simpa using hm
    rw [show its.toArray[m]'hm = its[m]'hm' from rfl, eqU_get r fx m _ (by rw [hl]; exact hm')]
    have := h2 m hlt
    simpa using this
  · exact ⟨.int _, H, I.tok _, ⟨_, rfl⟩, q⟩
theorem vals_strs : ∀ (t : Nat) (ps : List Str), Vals (ps.map V.str) (strsFrom t ps)
  | _, [] => .nil
  | t, p :: ps => .cons ⟨_, rfl⟩ (vals_strs (t + 1) ps)
def partsOf (x y : Str) : List Str := Builtin.Str.partsBetween x (Builtin.Str.occurrences x y 0 x.length (x.length + 1)) y.length
def rSplit : V → List V → Hp → VK → Prop := fun v vs H Q => ∃ x y, v = .str x ∧ vs = [.str y] ∧ (decide (x.length < y.length) || decide (Builtin.Str.strKind x < Builtin.Str.strKind y)) = false ∧ (y.length == 0) = false ∧
  (Builtin.Str.occurrences x y 0 x.length (x.length + 1)).isEmpty = false ∧ x.length ≤ sizeLine ∧ (partsOf x y).length ≤ sizeLine ∧ ∀ l, H l = none → Q (.ref l) (upd H l (.lst ((partsOf x y).map V.str)))
theorem mt_split : MtM X "str.split" rSplit := by
  intro pins s σ H x vs v us Q I rx rv h
  obtain ⟨x', y, rfl, rfl, h1, h2, h3, h4, h5, q⟩ := h
  obtain ⟨t, rfl⟩ := rx
  obtain ⟨u, rfl, t', rfl⟩ := rv.one
  refine call_meets F.slot_str_split rfl F.entry_str_split (F.args_str_split_2 _ _) (meets_str_split_sep x' y t t' h1 h2 h3 h4 h5) ?_
  exact ⟨.ref _, _, I.lnew (ys := (partsOf x' y).map V.str) (vals_strs _ _) (by rw [List.length_map]; exact h5), rfl, q _ I.fresh⟩
end
end L2

set_option maxRecDepth 100000
namespace L2
open PySem PySem.Spec PyProof.Rows

structure Df (K : PySem.W.Frag) (mg : Str → Option Value) (x : Str) (st : Stmt) (ps : List Str) (f : Addr) : Prop where
  ex : ∃ fd, Fun K x x st f fd ∧ Binds K fd ps []
  m : mg x = some (.ref f)
structure Def (P : Program) (w : World) (K : PySem.W.Frag) (mg : Str → Option Value) (base : Heap) (CX : CXT) (k : Nat) (x : Str) (f : Addr) (ps : List Str) (sp : Sp) : Prop where
  ex : ∃ fd, FnOk P w K mg base CX k f fd ps sp ∧ Binds K fd ps []
  m : mg x = some (.ref f)
  kp : PySem.W.keepIn K (.ref f) = true
structure DefX (P : Program) (w : World) (K : PySem.W.Frag) (mg : Str → Option Value) (base : Heap) (k : Nat) (x : Str) (f : Addr) (ps : List Str) (sp : Sp) : Prop where
  ex : ∃ fd, FnOkX P w K mg base k f fd ps sp ∧ Binds K fd ps []
  m : mg x = some (.ref f)
  kp : PySem.W.keepIn K (.ref f) = true
section
variable {P : Program} {w : World} {K : PySem.W.Frag} {mg : Str → Option Value} {base : Heap} {k : Nat} {x : Str} {f : Addr} {ps N : List Str} {sp : Sp} {st : Stmt} {CX : CXT}
theorem Df.ok (d : Df K mg x st ps f) (S : FnScope N ps (defScope st)) (len : ∀ vs H Q E, sp vs H Q E → vs.length = ps.length)
    (hbody : ∀ (cdv : Value) (A : Around) (outer : List Env) (s : Shared) (H : Hp) (vs : List V) (Q : VK) (E : XK), Room k (A.deeper (envOfC x (defScope st) s.heap.objs.size f cdv)) → sp vs H Q E →
      ∃ t, PSs (cxOf CX0 P w K mg base N x (defScope st) f cdv A outer s H E).nox (defBody st) t ∧ t { nx := fun _ H' => Q .non H', rt := Q } (start N vs) H) : Def P w K mg base CX0 (k + 1) x f ps sp := by
  obtain ⟨fd, F, b⟩ := d.ex
  exact ⟨⟨fd, F.ok S len hbody, b⟩, d.m, F.kp⟩
theorem Df.okR (d : Df K mg x st ps f) (S : FnScope N ps (defScope st)) (len : ∀ vs H Q E, sp vs H Q E → vs.length = ps.length)
    (hbody : ∀ (cdv : Value) (A : Around) (outer : List Env) (s : Shared) (H : Hp) (vs : List V) (Q : VK) (E : XK), Room k (A.deeper (envOfC x (defScope st) s.heap.objs.size f cdv)) → sp vs H Q E →
      ∃ t, PSs (cxR P w K mg base N x (defScope st) f cdv A outer s H E) (defBody st) t ∧ t { nx := fun _ H' => Q .non H', rt := Q } (start N vs) H) : Def P w K mg base (CXR P w) (k + 1) x f ps sp := by
  obtain ⟨fd, F, b⟩ := d.ex
  have kp := F.kp
  obtain ⟨oc, od, kV, doc, pm, an, cdv, ct, osl, rfl, lk, hcd⟩ := F.ex
  exact ⟨⟨_, fn_of lk hcd S len fun A outer s H vs Q E hr hsp => hbody cdv A outer s H vs Q E hr hsp, b⟩, d.m, kp⟩
theorem Df.okX (d : Df K mg x st ps f) (S : FnScope N ps (defScope st)) (len : ∀ vs H Q E, sp vs H Q E → vs.length = ps.length)
    (hbody : ∀ (cdv : Value) (A : Around) (outer : List Env) (s : Shared) (H : Hp) (vs : List V) (Q : VK) (E : XK), RoomX k (A.deeper (envOfC x (defScope st) s.heap.objs.size f cdv)) → sp vs H Q E →
      ∃ t, PSs (cxX P w K mg base N x (defScope st) f cdv A outer s H E) (defBody st) t ∧ t { nx := fun _ H' => Q .non H', rt := Q } (start N vs) H) : DefX P w K mg base (k + 1) x f ps sp := by
  obtain ⟨fd, F, b⟩ := d.ex
  exact ⟨⟨fd, F.okX S len hbody, b⟩, d.m, F.kp⟩
end
section
variable {X : Cx} {CX : CXT} {k j : Nat} {f : Addr} {ps : List Str} {sp : Sp} {E : XK} {x : Str} {p pos : Pos} {e : Expr} {es : List Expr} {t : TA}
def tDef (sp : Sp) (E : XK) (t : TA) : TE := fun σ H Q => t σ H fun vs H1 => sp vs H1 Q E
theorem pe_def (d : Def X.prog X.w X.K X.mg X.base CX j x f ps sp) (hr : Room k X.A) (ha : PA X (e :: es) t) (hx : Passes CX X E) (hj : j ≤ k := by decide) (hg : Gl X x := by rfl)
    (hdb : (x == ("__debug__" : Str)) = false := by decide) (he : starEach (e :: es) X.env = (false, eval e X.env) :: starEach es X.env := by rfl) (hpl : (backTo pos (starEach es X.env)).any (·.1) = false := by rfl) :
    PE X (.Call (.Name x p) (e :: es) [] pos) (tDef sp E t) := by
  obtain ⟨fd, F, b⟩ := d.ex
  have z := pe_call (E := E) (es := es) (e := e) (p := p) (pos := pos) (F.mono hj) hr hg d.m d.kp b .nil hx ha hdb he hpl
  intro pins s σ H Q I h
  refine z pins s σ H Q I ?_
  unfold tCall
  simpa only [List.append_nil, tDef] using h
theorem pe_defX (d : DefX X.prog X.w X.K X.mg X.base j x f ps sp) (hr : RoomX k X.A) (ha : PA X (e :: es) t) (hj : j ≤ k := by decide) (hg : Gl X x := by rfl)
    (hdb : (x == ("__debug__" : Str)) = false := by decide) (he : starEach (e :: es) X.env = (false, eval e X.env) :: starEach es X.env := by rfl) (hpl : (backTo pos (starEach es X.env)).any (·.1) = false := by rfl) :
    PE X (.Call (.Name x p) (e :: es) [] pos) (tCallX sp t) := by
  obtain ⟨fd, F, b⟩ := d.ex
  exact pe_callX F (hr.mono hj) hg d.m d.kp b ha hdb he hpl
end
theorem Same.new {H : Hp} {p : Addr} (h : H p = none) (o : HO) : Same H (upd H p o) := fun b u q => by rw [upd_ne (ne_of_none q h)]; exact q
theorem Same.tup {K : PySem.W.Frag} {H H' : Hp} {a : Addr} {xs : List V} (e : Same H H') (h : SqT K H a xs) : SqT K H' a xs := by
  rcases h with h | h
  · rcases h with h | ⟨o, h⟩
    · exact .inl (.inl (e _ _ h))
    · exact .inl (.inr ⟨o, e _ _ h⟩)
  · exact .inr h
end L2

set_option maxRecDepth 100000
namespace L2
open PySem PySem.Spec PyProof.Rows

section
variable {prog : Program} {w : World} {A : Around} {R : Result → Shared → Prop} {s : Shared}
theorem comp_loop {elt target iter : Expr} {scope : Scope} {pos : Pos} {it acc : Value} {env : Env} (I : Nat → Shared → Prop)
    (turn : ∀ n s, I n s → wpAny (model prog w) A (pyNext it) (fun r s₁ => match r with
      | none => R (.ok .next) s₁
      | some v => wpAny (model prog w) A (letOwnedTupleGo target it v) (fun _ s₁' => wpAny (model prog w) A (assign target env v) (fun _ s₂ => wpAny (model prog w) A (eval elt env) (fun x s₃ =>
          wpAny (model prog w) A (call (.builtin "list.append") [acc, x]) (fun _ s₄ => ∃ m, m < n ∧ I m s₄) (fun _ _ => False) s₃)
          (fun _ _ => False) s₂) (fun _ _ => False) s₁') (fun _ _ => False) s₁) (fun _ _ => False) s)
    (n : Nat) (h : I n s) :
    codeAny (model prog w) A (.compLoop (.ListComp elt [⟨target, iter, [], 0⟩] scope pos) 0 it acc env) R s := by
  refine codeAny_loop rfl I (fun n s hI => ?_) n h
  show wpAny _ _ ((compTurn (.ListComp elt [⟨target, iter, [], 0⟩] scope pos) 0 it acc env).onRaise (fun x => do noteFrame x env; theTreesLotGoes x)) _ _ s
  refine wpAny_noted ?_
  rw [compTurn_list1]
  have no : ∀ {P : Value → Shared → Prop} (e : Value) (s : Shared), False → P e s := fun _ _ h => h.elim
  refine wpAny_bind (wpAny_standAt (wpAny_bind (wpAny_mono (turn n s hI) (fun r s₁ h₁ => ?_) no)))
  cases r with
  | none => exact wpAny_pure h₁
  | some v =>
    refine wpAny_bind (wpAny_mono h₁ (fun _ s₁' h₁' => ?_) no)
    exact wpAny_bind (wpAny_mono h₁' (fun _ s₂ h₂ => wpAny_bind (wpAny_bind (wpAny_mono h₂ (fun x s₃ h₃ => wpAny_bind (wpAny_mono h₃
      (fun _ s₄ h₄ => wpAny_pure (wpAny_pure ⟨rfl, h₄⟩)) no)) no))) no)
end

abbrev Cx.block (X : Cx) (scope : Scope) (cl : List (Str × Addr)) (C : Addr) (Nc : List Str) (s₂ : Shared) (H₂ : Hp) (fp : List Addr) (pins : List (Addr × Obj)) : Cx :=
  { X with N := Nc, s₀ := s₂, H₀ := H₂, env := compEnvC scope cl C X.env, outer := X.stack, ex := fp, fn := fun _ => false, pn := X.pn ++ pins, xe := fun _ _ => False }
def capSt (caps : List (Option Nat)) (σ : St) : St := caps.map fun o => o.bind fun j => (σ[j]?).join
def tComp (wi : TI) (caps : List (Option Nat)) (g : TG) (te : TE) : TE := fun σ H Q => wi σ H fun J H1 => ∀ D, H1 D = none → ∃ W : Nat → Nat → St → Hp → Prop, (∃ m, W 0 m (capSt caps σ) (upd H1 D (.lst []))) ∧
  ∀ i m σc H2, W i m σc H2 → (J.stop i H2 ∧ Q (.ref D) H2) ∨
    (J.go i H2 ∧ ∀ x H3, J.yld i H2 x H3 → g x σc H3 fun σ4 H4 => te σ4 H4 fun y H5 => ∃ ys, H5 D = some (.lst ys) ∧ ys.length < sizeLine ∧ ∃ m', m' < m ∧ W (i + 1) m' σ4 (upd H5 D (.lst (ys ++ [y]))))
section
variable {X : Cx}
structure Caps (X : Cx) (scope : Scope) (cl : List (Str × Addr)) (Nc : List Str) (caps : List (Option Nat)) : Prop where
  clos : closureFor scope X.env = pure cl
  sub : ∀ x c, cl.lookup x = some c → X.env.cells.lookup x = some c
  has : ∀ x, (relabel scope X.env).names.lookup x = some .cell ∨ (relabel scope X.env).names.lookup x = some .free → ∃ c, cl.lookup x = some c
  nocell : ∀ x ∈ scope.names, x.2 ≠ .cell
  kind : scope.kind = .function
  names : ∀ x ∈ scope.names, x.2 = .local → scope.names.lookup x.1 = some .local
  len : caps.length = Nc.length
  cap : ∀ (i j : Nat) (x : Str), caps[i]? = some (some j) → Nc[i]? = some x → X.N[j]? = some x ∧ Vis X.env.scope x ∧ X.env.kindOf x ≠ some .local ∧ ((relabel scope X.env).names.lookup x = some .cell ∨ (relabel scope X.env).names.lookup x = some .free)
theorem Inv.sameC {pins : List (Addr × Obj)} {σ : St} {H H' : Hp} {s s' : Shared} {h'' : Heap} {fp : List Addr} {C : Addr} (I : Inv X pins σ H s) (hf : ∀ b ∈ fp, FpOk X pins H b) (os : s'.os = s.os) (bare : AllBare s'.gens)
    (un : Un (frs X.stack) fp H H' s.heap s'.heap) (hok : HOk X.prog X.w H' s'.heap) (hC : s.heap.objs.size ≤ C) (hCn : H' C = none) (sb : Heap.SameBut C s'.heap h'') : Inv X pins σ H' { s' with heap := h'' } := by
  have ne : ∀ b o, s.heap.get? b = some o → b ≠ C := fun b o e => Nat.ne_of_lt (Nat.lt_of_lt_of_le (Heap.lt_size e) hC)
  refine I.call' (s' := { s' with heap := h'' }) (ch := fp) os ⟨fun b o e n h1 h2 => (sb.2 b (ne b o e)).trans (un.keep b o e n h1 h2), fun b o e n h1 h2 => ?_, un.free, fun b o e h2 => ?_, un.tups, un.frzs, un.tbls⟩ (fun b u e => ?_) bare (fun b hb => ?_)
  · obtain ⟨sl, z⟩ := un.slot b o e n h1 h2
    exact ⟨sl, (sb.2 b (ne b o e)).trans z⟩
  · obtain ⟨o', z⟩ := un.there b o e h2
    exact ⟨o', (sb.2 b (ne b o e)).trans z⟩
  · refine (hok b u e).stay (fun c v hc q => (sb.2 c ?_).trans q) (fun _ q => q) fun _ _ q => q
    rintro rfl
    rcases hc with rfl | hc
    · rw [hCn] at e; cases e
    · rw [hCn] at hc; cases hc
  · obtain ⟨_, f1, _, f3, f4, f5⟩ := hf b hb
    exact ⟨f3, f1, f4, f5⟩
theorem pe_comp {elt tg iter : Expr} {scope : Scope} {pos : Pos} {cl : List (Str × Addr)} {Nc : List Str} {caps : List (Option Nat)} {wi : TI} {g : TG} {te : TE} (hc : X.calm = true) (cp : Caps X scope cl Nc caps) (hi : PI X tg iter wi)
    (hg : ∀ C s₂ H₂ fp pins, PG (X.block scope cl C Nc s₂ H₂ fp pins) tg g) (he : ∀ C s₂ H₂ fp pins, PE (X.block scope cl C Nc s₂ H₂ fp pins) elt te) (hs : ∀ x, foldedSetIterable iter X.env x = pure x := by intro _; rfl) :
    PE X (.ListComp elt [⟨tg, iter, [], 0⟩] scope pos) (tComp wi caps g te) := by
  intro pins s σ H Q I h
  rw [eval_ListComp]
  refine wpAny_comprehension_free (use := none) rfl hs cp.clos cp.kind cp.names ?_
  refine thn (hi pins s σ H _ I h) fun v s1 h1 => thn h1 fun itv s2 h2 => ?_
  obtain ⟨it, fp, tn, J, H2, e, I2, T, st2, f2, hW⟩ := h2
  subst e
  refine wpAny_newObj_type ?_ (by show 0 ≤ sizeLine; exact Nat.zero_le _)
  refine wpAny_newFunctionEnv cp.nocell (by intro y hy; simp at hy) (fun h4 hns hsb => ?_) cp.kind
  dsimp only at hns hsb ⊢
  generalize hH3 : s2.heap.push { cls := .type "list", dict := none, data := .seq ([] : List Value).toArray } = H3 at hns hsb ⊢
  have hCe : H3.objs.size = s2.heap.objs.size + 1 := by rw [← hH3, Heap.size_push]
  have below : ∀ b o, s2.heap.get? b = some o → b ≠ H3.objs.size := fun b o e => by rw [hCe]; exact Nat.ne_of_lt (Nat.lt_succ_of_lt (Heap.lt_size e))
  have old : ∀ b o, s2.heap.get? b = some o → h4.get? b = some o := fun b o e => hsb.extBut b o (below b o e) (Heap.get?_push_of_some _ (hH3 ▸ Heap.get?_push_of_some _ e))
  have hD : h4.get? s2.heap.objs.size = some { cls := .type "list", dict := none, data := .seq ([] : List Value).toArray } :=
    hsb.extBut _ _ (by rw [hCe]; exact Nat.ne_of_lt (Nat.lt_succ_self _)) (Heap.get?_push_of_some _ (hH3 ▸ Heap.get?_push_size _ rfl))
  have hDn : H2 s2.heap.objs.size = none := I2.fresh
  have hCn : H2 H3.objs.size = none := I2.hok.fresh (by rw [hCe]; exact Nat.le_succ _)
  have hCs : s2.heap.objs.size ≤ H3.objs.size := by rw [hCe]; exact Nat.le_succ _
  have hDC : s2.heap.objs.size ≠ H3.objs.size := by rw [hCe]; exact Nat.ne_of_lt (Nat.lt_succ_self _)
  have fpl : ∀ b ∈ fp, ∃ o, s2.heap.get? b = some o := fun b hb => let ⟨o, e, _⟩ := T.obj _ _ st2 b hb; ⟨o, e⟩
  have fpC : ∀ b ∈ fp, b ≠ H3.objs.size := fun b hb => let ⟨o, e⟩ := fpl b hb; below b o e
  have fpD : ∀ b ∈ fp, b ≠ s2.heap.objs.size := fun b hb => let ⟨o, e⟩ := fpl b hb; Nat.ne_of_lt (Heap.lt_size e)
  have stkN : ∀ b, b ≠ X.env.locals → b ∉ X.fs → b ∉ frs X.stack := fun b h1 h2 z => (List.mem_cons.mp (I2.stkSub b z)).elim h1 h2
  obtain ⟨W, ⟨m0, w0⟩, turn⟩ := hW s2.heap.objs.size hDn
  have okB : (X.block scope cl H3.objs.size Nc s2 H2 fp pins).Ok := by
    refine ⟨I2.ok.mod, ?_, I2.ok.glob, I2.ok.blt, hCs, fun x y c h1 h2 => I2.ok.inj x y c (cp.sub x c h1) (cp.sub y c h2), fun x hx => cp.has x hx, fun x c h => (by cases h), I2.ok.hd, I2.ok.frames, .inl rfl, fun b hb => ⟨fpC b hb, fun x c h => (f2 b hb).2.2.2.2.1 x c (cp.sub x c h)⟩, I2.bs, Nat.le_trans I2.ok.bsz I2.sz, fun b o e hb => ?_, fun b hb => stkN b (f2 b hb).2.1 (f2 b hb).2.2.1, I2.stack, I2.stkFree⟩
    · exact cp.kind
    · rcases (f2 b hb).2.2.2.1 with z | z
      · exact I2.ok.noex b o e z
      · exact absurd (Nat.lt_of_lt_of_le (Heap.lt_size e) (Nat.le_trans I2.ok.bsz z)) (Nat.lt_irrefl _)
  have hokB : HOk X.prog X.w (upd H2 s2.heap.objs.size (.lst [])) h4 := I2.hok.laid old (Nat.le_refl _) ⟨Nat.zero_le _, [], _, .nil, hD⟩
  have IB : Inv (X.block scope cl H3.objs.size Nc s2 H2 fp pins) [] (capSt caps σ) (upd H2 s2.heap.objs.size (.lst [])) { s2 with heap := h4, toks := s2.toks + ([] : List (Str × Value)).length } := by
    refine ⟨okB, rfl, I2.bare, Un.laid old (Nat.le_refl _) hDn, ⟨_, hns, fun i x v e1 e2 e3 => ?_⟩, fun x c e => ?_, (show upd H2 s2.heap.objs.size (.lst []) H3.objs.size = none by rw [upd_ne (Ne.symm hDC)]; exact hCn), fun x c e => ?_, fun p hp => ?_, hokB, ?_⟩
    · unfold capSt at e2
      rw [List.getElem?_map] at e2
      cases hcap : caps[i]? with
      | none => rw [hcap] at e2; cases e2
      | some o =>
        rw [hcap] at e2
        cases o with
        | none => cases e2
        | some j =>
          have hj : σ[j]? = some (some v) := by
            have e2' : (σ[j]?).join = some v := Option.some.inj e2
            cases q : σ[j]? with
            | none => rw [q] at e2'; cases e2'
            | some z => rw [q] at e2'; exact congrArg some e2'
          obtain ⟨n1, n2, n3, n4⟩ := cp.cap i j x hcap e1
          obtain ⟨m, hm, hl⟩ := I2.loc
          obtain ⟨u, r, q⟩ := hl j x v n1 hj n2
          rcases q with ⟨k, _⟩ | ⟨k, c, ec, z⟩
          · exact absurd k n3
          · obtain ⟨c', ec'⟩ := cp.has x n4
            have := cp.sub x c' ec'
            rw [ec] at this; cases this
            obtain ⟨oc, ho, hd⟩ := z
            exact ⟨u, r, .inr ⟨n4, c, ec', oc, old _ _ ho, hd⟩⟩
    · obtain ⟨v, oc, ho, hd⟩ := I2.cell x c (cp.sub x c e)
      exact ⟨v, oc, old _ _ ho, hd⟩
    · obtain ⟨v, oc, ho, hd⟩ := I2.cell x c (cp.sub x c e)
      rw [upd_ne (Nat.ne_of_lt (Heap.lt_size ho))]
      exact I2.freeC x c (cp.sub x c e)
    · have hp' : p ∈ X.pn ++ pins := by simpa using hp
      obtain ⟨e1, e2, e3, e4, e5⟩ := I2.pin p hp'
      exact ⟨old _ _ e1, by rw [upd_ne (Nat.ne_of_lt (Heap.lt_size e1))]; exact e2, below _ _ e1, stkN _ e3 e4, e5⟩
    · show (capSt caps σ).length = Nc.length
      unfold capSt
      rw [List.length_map]; exact cp.len
  have stat : ∀ {H' : Hp}, (∀ b ∈ fp, H' b = none) → ∀ b ∈ fp, FpOk (X.block scope cl H3.objs.size Nc s2 H2 fp pins) [] H' b := fun hn b hb =>
    ⟨hn b hb, fpC b hb, stkN b (f2 b hb).2.1 (f2 b hb).2.2.1, .inl hb, fun x c h => (f2 b hb).2.2.2.2.1 x c (cp.sub x c h), fun p hp => (f2 b hb).2.2.2.2.2 p (by simpa using hp)⟩
  have loop : ∀ s5 : Shared, s5 = { s2 with heap := h4, toks := s2.toks + ([] : List (Str × Value)).length } →
      codeAny (model X.prog X.w) X.A (.compLoop (.ListComp elt [⟨tg, iter, [], 0⟩] scope pos) 0 (.ref it) (.ref s2.heap.objs.size) (compEnvC scope cl H3.objs.size X.env))
        (compPost (model X.prog X.w) X.A X.xe none (EP X pins σ Q) (.ref s2.heap.objs.size) H3.objs.size) s5 := by
    rintro s5 rfl
    refine comp_loop (fun n s' => ∃ i σ' H', Inv (X.block scope cl H3.objs.size Nc s2 H2 fp pins) [] σ' H' s' ∧ tn i s'.heap ∧ (∀ b ∈ fp, H' b = none) ∧ W i n σ' H') ?_ m0 ⟨0, _, _, IB, T.keep _ _ _ st2 fun b hb o e => old b o e, fun b hb => by rw [upd_ne (fpD b hb)]; exact (f2 b hb).1, w0⟩
    rintro n s6 ⟨i, σ6, H6, I6, st6, fr6, w6⟩
    rcases turn i n σ6 H6 w6 with ⟨stop, qn⟩ | ⟨go, step⟩
    · refine thn (T.done (X.block scope cl H3.objs.size Nc s2 H2 fp pins) rfl rfl rfl hc i [] s6 σ6 H6 _ I6 (stat fr6) st6 stop) fun r s7 ⟨hr, I7⟩ => ?_
      subst hr
      obtain ⟨m7, hn7, _⟩ := id I7.loc
      exact ⟨m7, hn7, fun h' sb => ⟨.ref s2.heap.objs.size, H6, I2.sameC f2 I7.os I7.bare I7.base I7.hok hCs I7.free sb, rfl, qn⟩⟩
    · refine thn (T.item (X.block scope cl H3.objs.size Nc s2 H2 fp pins) rfl rfl rfl hc i [] s6 σ6 H6 _ I6 (stat fr6) st6 go) fun r s7 ⟨u, hr, h7⟩ => ?_
      subst hr
      refine thn h7 fun _ s8 ⟨x, H8, I8, r8, y8, st8, fr8⟩ => ?_
      have I8' := I8.pinned (stat fr8) (T.obj _ _ st8)
      refine thn (hg _ _ _ _ _ _ s8 σ6 H8 x u _ I8' r8 (step x H8 y8)) fun _ s9 ⟨σ9, H9, I9, q9⟩ => ?_
      refine thn (he _ _ _ _ _ _ s9 σ9 H9 _ I9 q9) fun u10 s10 ⟨v10, H10, I10, r10, ys, hys, hlen, m', hm', w'⟩ => ?_
      refine thn (mt_append _ s10 σ9 H10 (.ref s2.heap.objs.size) [v10] (.ref s2.heap.objs.size) [u10] (fun _ H11 => H11 = upd H10 s2.heap.objs.size (.lst (ys ++ [v10]))) I10 rfl (.cons r10 .nil) ⟨_, ys, v10, rfl, rfl, hys, hlen, rfl⟩) fun _ s11 ⟨_, H11, I11, _, hH11⟩ => ?_
      subst hH11
      refine ⟨m', hm', i + 1, σ9, _, I11.unpinned, T.keep _ _ _ st8 fun b hb o e => (I11.pin (b, o) (List.mem_append_right _ (List.mem_append_right _ (mem_pinsAt hb e)))).1, fun b hb => ?_, w'⟩
      obtain ⟨o, e, d⟩ := T.obj _ _ st8 b hb
      exact (I11.pin (b, o) (List.mem_append_right _ (List.mem_append_right _ (mem_pinsAt hb e)))).2.1
  exact codeAny_compStart_list (loop _ rfl) (T.self _ 0 _ _ _ (T.keep _ _ _ st2 fun b hb o e => old b o e) (loop _ rfl))
end
end L2

set_option maxRecDepth 100000
namespace L2
open PySem PySem.Spec PyProof.Rows
def relabelS (scope osc : Scope) : List (Str × NameKind) := scope.names.map fun (n, k) => if (k == .free && osc.kind == .function && osc.names.lookup n == some .cell) then (n, .cell) else (n, k)
def isCF (o : Option NameKind) : Bool := o == some .cell || o == some .free
def capsOk (scope osc : Scope) (N ks Nc : List Str) (caps : List (Option Nat)) : Bool :=
  ((relabelS scope osc).all fun y => !(y.2 == .cell || y.2 == .free) || ks.contains y.1) && (scope.names.all fun y => y.2 != .cell) && scope.kind == .function &&
  (scope.names.all fun y => y.2 != .local || scope.names.lookup y.1 == some .local) && caps.length == Nc.length &&
  ((caps.zip Nc).all fun p => match p.1 with
    | none => true
    | some j => N[j]? == some p.2 && isCF (osc.names.lookup p.2) && isCF ((relabelS scope osc).lookup p.2))
theorem lookup_mem {α β : Type} [BEq α] [LawfulBEq α] : ∀ {l : List (α × β)} {x : α} {v : β}, l.lookup x = some v → (x, v) ∈ l
  | [], _, _, h => by simp at h
  | (a, b) :: r, x, v, h => by
    rw [List.lookup_cons] at h
    split at h
    · rename_i e
      have := eq_of_beq e
      subst this
      cases h
      exact List.mem_cons_self
    · exact List.mem_cons_of_mem _ (lookup_mem h)
theorem lookup_of_key {β : Type} : ∀ {l : List (Str × β)} {x : Str}, x ∈ l.map (·.1) → ∃ c, l.lookup x = some c
  | [], _, h => by simp at h
  | (a, b) :: r, x, h => by
    rw [List.lookup_cons]
    by_cases e : x = a
    · subst e; exact ⟨b, by simp⟩
    · have : (x == a) = false := by simpa using e
      rw [this]
      rcases List.mem_cons.mp h with z | z
      · exact absurd z e
      · exact lookup_of_key z
theorem isCF_or {o : Option NameKind} (h : isCF o = true) : o = some .cell ∨ o = some .free := by
  unfold isCF at h
  simp only [Bool.or_eq_true, beq_iff_eq] at h
  exact h
theorem Caps.of {X : Cx} {scope osc : Scope} {cl : List (Str × Addr)} {N ks Nc : List Str} {caps : List (Option Nat)} (clos : closureFor scope X.env = pure cl) (hN : X.N = N) (hosc : X.env.scope = osc) (hks : cl.map (·.1) = ks)
    (sub : ∀ x c, cl.lookup x = some c → X.env.cells.lookup x = some c) (ok : capsOk scope osc N ks Nc caps = true) : Caps X scope cl Nc caps := by
  unfold capsOk at ok
  simp only [Bool.and_eq_true, List.all_eq_true, beq_iff_eq, Bool.or_eq_true, Bool.not_eq_true', bne_iff_ne, ne_eq] at ok
  obtain ⟨⟨⟨⟨⟨o1, o2⟩, o3⟩, o4⟩, o5⟩, o6⟩ := ok
  have er : (relabel scope X.env).names = relabelS scope osc := by subst hosc; rfl
  have kof : ∀ x, X.env.kindOf x = osc.names.lookup x := fun x => by subst hosc; rfl
  refine ⟨clos, sub, fun x h => ?_, fun x hx => o2 x hx, o3, fun x hx hl => ?_, o5, fun i j x h1 h2 => ?_⟩
  · rw [er] at h
    refine lookup_of_key ?_
    rw [hks]
    have key : ∀ k, (relabelS scope osc).lookup x = some k → (k = .cell ∨ k = .free) → x ∈ ks := fun k hk hcf => by
      rcases o1 (x, k) (lookup_mem hk) with z | z
      · rcases hcf with rfl | rfl <;> simp at z
      · simpa using z
    rcases h with h | h
    · exact key _ h (.inl rfl)
    · exact key _ h (.inr rfl)
  · rcases o4 x hx with z | z
    · exact absurd hl z
    · exact z
  · have hm : (some j, x) ∈ caps.zip Nc := by
      have : (caps.zip Nc)[i]? = some (some j, x) := by
        rw [List.getElem?_zip_eq_some]; exact ⟨h1, h2⟩
      exact List.mem_of_getElem? this
    have z := o6 _ hm
    simp only [Bool.and_eq_true, beq_iff_eq] at z
    obtain ⟨⟨z1, z2⟩, z3⟩ := z
    have c2 := isCF_or z2
    have c3 := isCF_or z3
    refine ⟨by rw [hN]; exact z1, ?_, ?_, ?_⟩
    · rw [hosc]
      rcases c2 with c | c
      · exact .inr (.inl c)
      · exact .inr (.inr c)
    · rw [kof]
      rcases c2 with c | c <;> rw [c] <;> decide
    · rw [er]; exact c3
end L2

set_option maxRecDepth 100000
namespace L2
open PySem PySem.Spec PyProof.Rows

section
variable {X : Cx} {pins : List (Addr × Obj)} {σ : St} {H : Hp} {s : Shared}
theorem Inv.turnLaid {h' : Heap} {t' : Nat} {fp : List Addr} {a : Addr} {o : HO} (I : Inv X pins σ H s) (hf : ∀ b ∈ fp, FpOk X pins H b)
    (k : ∀ b u, b ∉ fp → s.heap.get? b = some u → h'.get? b = some u) (hp : s.heap.objs.size ≤ a) (new : ObjOk X.prog X.w (upd H a o) h' a o) : Inv X pins σ (upd H a o) { s with heap := h', toks := t' } := by
  have hn : H a = none := I.hok.fresh hp
  have nf : ∀ b u, H b = some u → b ∉ fp := fun b u e z => by rw [(hf b z).1] at e; cases e
  have ne : ∀ b u, s.heap.get? b = some u → b ≠ a := fun b u e => Nat.ne_of_lt (Nat.lt_of_lt_of_le (Heap.lt_size e) hp)
  refine I.step (g' := s.gens) (d' := s.drawn) (ch := fp) (fun b hb => ?_) (fun b o _ _ hc e _ => k b o hc e) (fun b o _ _ hc e _ => ⟨o.slots, k b o hc e⟩) (fun b o _ e n => by rw [upd_ne (ne b o e)]; exact n)
    (fun b o hc e => ⟨o, k b o hc e⟩) (fun b xs e => by rw [upd_ne (ne_of_none e hn)]; exact e) (fun b o u e => by rw [upd_ne (ne_of_none e hn)]; exact e) (fun b ps e => ⟨#[], by rw [upd_ne (ne_of_none e hn), e]; simp⟩) (fun m hm => ?_) (fun b u e => ?_) I.bare
  · obtain ⟨_, f1, _, f3, f4, f5⟩ := hf b hb
    exact ⟨f3, f1, f4, f5⟩
  · obtain ⟨o, es, ep, ho, r⟩ := hm
    exact ⟨o, es, ep, k _ o (fun z => (hf _ z).2.1 rfl) ho, r⟩
  · by_cases hb : b = a
    · subst hb; rw [upd_same] at e; cases e; exact new
    · rw [upd_ne hb] at e
      refine (I.hok b u e).stay (fun c v hc q => k c v ?_ q) (fun c q => by rw [upd_ne (ne_of_none q hn)]; exact q) fun c xs q => by rw [upd_ne (ne_of_none q hn)]; exact q
      rcases hc with z | z
      · rw [z]; exact nf b u e
      · exact nf c _ z
end

def Ite (K : PySem.W.Frag) (a : Addr) : It :=
  ⟨fun i H => ∃ xs x, SqL K H a xs ∧ xs[i]? = some x, fun i H y H' => ∀ xs, SqL K H a xs → ∃ x p, xs[i]? = some x ∧ H p = none ∧ y = .ref p ∧ H' = upd H p (.tup [.int i, x]), fun i H => ∃ xs, SqL K H a xs ∧ xs.length ≤ i⟩
theorem turn_enum {P : Program} {w : World} {K : PySem.W.Frag} {elts : List Expr} {k : Nat} {tpos : Pos} (a e it : Addr) (hei : e ≠ it) :
    Turn P w K (.Tuple elts k tpos) (Ite K a) [e, it] e (fun i h => (∃ old, IsEnum h e it ((i : Nat) : Int) old) ∧ h.IsListIter it a i) where
  mem := by simp
  obj := fun i h st b hb => by
    obtain ⟨⟨old, he⟩, hit⟩ := st
    rcases (by simpa using hb : b = e ∨ b = it) with z | z
    · subst z
      exact ⟨_, he, fun v z => by cases z⟩
    · subst z
      obtain ⟨o, e, c, d⟩ := hit
      exact ⟨o, e, fun v z => by rw [d] at z; cases z⟩
  keep := fun i h h' st k => ⟨let ⟨old, he⟩ := st.1; ⟨old, k e (by simp) _ he⟩, st.2.at fun o e => k it (by simp) o e⟩
  item := by
    intro X hP hw hK hc i pins s σ H E I hf st hg
    subst hP hw hK
    obtain ⟨xs, x, hq, hx⟩ := hg
    obtain ⟨its, rv, p, hz⟩ := I.list hq
    obtain ⟨u, hu, ru⟩ := rv.get hx
    obtain ⟨⟨old, he⟩, hit⟩ := st
    have helt : e < s.heap.objs.size := Heap.lt_size he
    have hilt : it < s.heap.objs.size := by obtain ⟨_, x, _⟩ := id hit; exact Heap.lt_size x
    refine wpAny_pyNext_enum_item he hit p.isList (x := u) (by simpa using hu) hei fun h' ho hit' hT hsz kk => ?_
    refine ⟨_, rfl, ?_⟩
    refine wpAny_letOwnedTupleGo_enum (s := { s with heap := h', toks := s.toks + 1 }) ho fun h'' he' sb => ?_
    have hT' : h''.get? s.heap.objs.size = some { cls := .type "tuple", data := .seq #[.int i s.toks, u] } := (sb.2 _ (Nat.ne_of_gt helt)).trans hT
    refine ⟨.ref s.heap.objs.size, upd H s.heap.objs.size (.tup [.int i, x]), I.turnLaid (fp := [e, it]) (t' := s.toks + 1) hf (fun b v hb q => ?_) (Nat.le_refl _) ?_, rfl, ?_, ?_, fun b hb => ?_⟩
    · have h1 : b ≠ e := fun z => hb (by simp [z])
      have h2 : b ≠ it := fun z => hb (by simp [z])
      exact (sb.2 b h1).trans (kk b v h1 h2 q)
    · exact ⟨(show 2 ≤ sizeLine by decide +kernel), [.int i s.toks, u], .cons ⟨_, rfl⟩ (.cons ru .nil), _, hT', rfl, _, rfl⟩
    · intro ys hy
      rw [I.list_inj hy hq]
      exact ⟨x, _, hx, I.fresh, rfl, rfl⟩
    · refine ⟨⟨u, by have := he'; simpa using this⟩, hit'.at fun o q => (sb.2 it hei.symm).trans q⟩
    · have hlt : b < s.heap.objs.size := by
        rcases (by simpa using hb : b = e ∨ b = it) with z | z
        · rw [z]; exact helt
        · rw [z]; exact hilt
      rw [upd_ne (Nat.ne_of_lt hlt)]
      exact (hf b hb).1
  done := by
    intro X hP hw hK hc i pins s σ H E I hf st hg
    subst hP hw hK
    obtain ⟨xs, hq, hx⟩ := hg
    obtain ⟨its, rv, p, hz⟩ := I.list hq
    obtain ⟨⟨old, he⟩, hit⟩ := st
    obtain ⟨f0, f1, f2, f3, f4, f5⟩ := hf it (by simp)
    have hl := rv.length
    exact wpAny_pyNext_enum_end (I.ok.hd hc) he hit p.isList (by simp; omega) fun h' eb => ⟨rfl, I.turned (t' := s.toks) (fun b o hb e => eb b o hb e) f0 f1 f3 f4 f5⟩
  self := fun _ _ _ _ _ st h => by
    obtain ⟨⟨old, he⟩, _⟩ := st
    exact wpAny_pyIter_enum he h
section
variable {X : Cx}
def iEnum (K : PySem.W.Frag) (ta : TA) : TI := fun σ H R => ta σ H fun vs H1 => ∃ a, vs = [.ref a] ∧ (∃ xs, SqL K H1 a xs) ∧ R (Ite K a) H1
theorem pi_enum {elts : List Expr} {k : Nat} {tpos : Pos} {l : Expr} {ta : TA} {p pos : Pos} (hg : Gl X "enumerate") (hm : X.mg "enumerate" = none) (ha : PA X [l] ta) (hs : starEach [l] X.env = [(false, eval l X.env)] := by rfl) :
    PI X (.Tuple elts k tpos) (.Call (.Name "enumerate" p) [l] [] pos) (iEnum X.K ta) := by
  intro pins s σ H R I h
  refine Call_ (ld_blt I hg hm (u := .type "enumerate") (by decide +kernel) (PyProof.Rows.callWith_type1 (thn (ha pos pins s σ H _ I h) fun us s1 ⟨vs, H1, I1, r1, q1⟩ => ?_) hs rfl))
  obtain ⟨a, e, ⟨xs, hq⟩, q⟩ := q1
  subst e
  obtain ⟨u, rfl, rx⟩ := vals1 r1
  cases rx
  obtain ⟨its, rv, p, hz⟩ := I1.list hq
  refine call_enumerate_list p.isList fun h' he hit hsz kk => ?_
  refine wpAny_pyIter_enum he ?_
  have I2 : Inv X pins σ H1 { s1 with heap := h' } := I1.kept (t' := s1.toks) kk
  refine ⟨s1.heap.objs.size + 1, [s1.heap.objs.size + 1, s1.heap.objs.size], _, _, H1, rfl, I2, turn_enum a _ _ (Nat.succ_ne_self _), ⟨⟨_, he⟩, hit⟩, fun b hb => ?_, q⟩
  have hb' : s1.heap.objs.size ≤ b := by
    rcases (by simpa using hb : b = s1.heap.objs.size + 1 ∨ b = s1.heap.objs.size) with z | z
    · rw [z]; exact Nat.le_succ _
    · rw [z]; exact Nat.le_refl _
  obtain ⟨f0, f1, f2, f3, f4, f5⟩ := I1.fpOk (H' := H1) hb' (I1.hok.fresh hb')
  exact ⟨f0, f1, f2, f3, f4, f5⟩
end

section
variable {prog : Program} {w : World} {A : Around} {R : Result → Shared → Prop} {s : Shared}
end
def tCompIf (wi : TI) (caps : List (Option Nat)) (g : TG) (tt : TT) (te : TE) : TE := fun σ H Q => wi σ H fun J H1 => ∀ D, H1 D = none → ∃ W : Nat → Nat → St → Hp → Prop, (∃ m, W 0 m (capSt caps σ) (upd H1 D (.lst []))) ∧
  ∀ i m σc H2, W i m σc H2 → (J.stop i H2 ∧ Q (.ref D) H2) ∨
    (J.go i H2 ∧ ∀ x H3, J.yld i H2 x H3 → g x σc H3 fun σ4 H4 => tt σ4 H4 fun b H4' => if b = true then te σ4 H4' fun y H5 => ∃ ys, H5 D = some (.lst ys) ∧ ys.length < sizeLine ∧ ∃ m', m' < m ∧ W (i + 1) m' σ4 (upd H5 D (.lst (ys ++ [y])))
      else ∃ m', m' < m ∧ W (i + 1) m' σ4 H4')
section
variable {X : Cx}
end
end L2

set_option maxRecDepth 100000
namespace L2
open PySem PySem.Spec PyProof.Rows
section
variable {X : Cx}
theorem all_range_get (bs : List Bool) : (List.range bs.length).all (fun i => (bs[i]?).getD true) = bs.all id := by
  induction bs with
  | nil => rfl
  | cons b bs ih =>
    rw [List.length_cons, all_range_succ, List.all_cons, ← ih]
    rfl
theorem call_all (hc : X.calm = true) : CallR X (.builtin "all") (fun xs H Q => ∃ (p : Addr) (bs : List Bool), xs = [.ref p] ∧ SqL X.K H p (bs.map V.bl) ∧ Q (.bl (bs.all id)) H) := by
  intro pins s σ H xs us Q I r h
  obtain ⟨p, bs, rfl, hq, q⟩ := h
  obtain ⟨u, rfl, rx⟩ := vals1 r
  cases rx
  obtain ⟨its, r', pl, hz⟩ := I.list hq
  have hlen : its.length = bs.length := by rw [← r'.length, List.length_map]
  have hp : p ≠ s.heap.objs.size := by
    obtain ⟨o, ho, _⟩ := pl.isList
    exact Nat.ne_of_lt (Heap.lt_size ho)
  refine call_all_walk (wpAny_pyIter_list pl.isList ?_)
  refine ⟨s.heap.objs.size, _, _, _, _, _, fun i => (bs[i]?).getD true, rfl, Walks.list (A := X.A.in1) (I.ok.hd hc) _ p hp its.toArray, ⟨⟨_, Heap.get?_push_size _ rfl, rfl, rfl⟩, pl.isList.at fun o e => Heap.get?_push_of_some _ e⟩, ?_, ?_⟩
  · intro i v s' Q' E' hv hQ
    have hv' : its[i]? = some v := by simpa using hv
    have hi : i < bs.length := by rw [← hlen]; exact (List.getElem?_eq_some_iff.mp hv').1
    obtain ⟨u, hu, ru⟩ := r'.get (i := i) (x := .bl bs[i]) (by rw [List.getElem?_map, List.getElem?_eq_getElem hi]; rfl)
    rw [hv'] at hu
    cases hu
    cases ru
    simp only [List.getElem?_eq_getElem hi] at hQ
    exact wpAny_truthy_bool hQ
  · intro h' tk kk
    have e : (List.range its.toArray.size).all (fun i => (bs[i]?).getD true) = bs.all id := by rw [List.size_toArray, hlen, all_range_get]
    rw [e]
    refine ⟨.bl _, H, I.kept (t' := tk) fun b o e => kk b o ?_ (Heap.get?_push_of_some _ e), rfl, q⟩
    intro z
    have : b = s.heap.objs.size := by simpa using z
    exact absurd (Heap.lt_size e) (by rw [this]; exact Nat.lt_irrefl _)

def rNeD (K : PySem.W.Frag) : R2 := fun x y H Q => ∃ d d', d.isV = false ∧ IsD K H x d ∧ IsD K H y d' ∧ okD d d' = true ∧ dpD d ≤ 60 ∧ Q (.bl (!eqD d d')) H
theorem op_neD (hu : X.A.units + 64 < cLine) : OpR X (compareOp .NotEq) (rNeD X.K) := by
  intro pins s σ H x y v u Q I rx ry h
  obtain ⟨d, d', nf, h1, h2, ok, dp, q⟩ := h
  have fin : EP X pins σ Q (.bool (!eqD d d')) s := ⟨.bl _, H, I, rfl, q⟩
  cases h1 with
  | v f =>
    cases h2 with
    | v f' => exact absurd (show true = false from nf) (by decide)
    | tup _ _ => simp [okD] at ok
    | lst _ _ => simp [okD] at ok
  | @tup p xs ds h t =>
    cases h2 with
    | v f' => simp [okD] at ok
    | @tup p' ys ds' h' t' =>
      cases (show v = Value.ref p from rx)
      cases (show u = Value.ref p' from ry)
      rw [okD] at ok
      rw [dpD] at dp
      rw [eqD] at fin
      obtain ⟨its, r1, i1, _⟩ := I.tuple h
      obtain ⟨its', r2, i2, _⟩ := I.tuple h'
      have q' : ∀ (j : Nat) (h1 : j < its.length) (h2 : j < its'.length), SeqAt.EqAt X.A.in1 s its[j] its'[j] (eqAtI ds ds' j) := fun j h1 h2 => eqAts_D (A := X.A.in1) I t t' ok r1 r2 (by show X.A.units + 1 + _ < _; omega) j h1 h2
      have z := SeqAt.RcNeAt.tuples (A := X.A) (items := its.toArray) (items2 := its'.toArray) (e := eqAtI ds ds') i1 i2 (by omega) (fun j h1 h2 => q' j (by simpa using h1) (by simpa using h2))
      have e1 : its.toArray.size = ds.length := by rw [List.size_toArray, ← r1.length, t.length]
      have e2 : its'.toArray.size = ds'.length := by rw [List.size_toArray, ← r2.length, t'.length]
      rw [e1, e2, all_eqAtI] at z
      exact PySem.EqBoolInt.of_rcne z fin
    | lst _ _ => simp [okD] at ok
  | @lst p xs ds h t =>
    cases h2 with
    | v f' => simp [okD] at ok
    | tup _ _ => simp [okD] at ok
    | @lst p' ys ds' h' t' =>
      cases (show v = Value.ref p from rx)
      cases (show u = Value.ref p' from ry)
      rw [okD] at ok
      rw [dpD] at dp
      rw [eqD] at fin
      obtain ⟨its, r1, i1, _⟩ := I.list h
      obtain ⟨its', r2, i2, _⟩ := I.list h'
      have q' : ∀ (j : Nat) (h1 : j < its.length) (h2 : j < its'.length), SeqAt.EqAt X.A.in1 s its[j] its'[j] (eqAtI ds ds' j) := fun j h1 h2 => eqAts_D (A := X.A.in1) I t t' ok r1 r2 (by show X.A.units + 1 + _ < _; omega) j h1 h2
      have e1 : its.toArray.size = ds.length := by rw [List.size_toArray, ← r1.length, t.length]
      have e2 : its'.toArray.size = ds'.length := by rw [List.size_toArray, ← r2.length, t'.length]
      by_cases hl : ds.length = ds'.length
      · have z := SeqAt.RcNeAt.lists (A := X.A) (items := its.toArray) (items2 := its'.toArray) (e := eqAtI ds ds') i1.isList i2.isList (by rw [e1, e2, hl]) (by omega) (fun j h1 h2 => q' j (by simpa using h1) (by simpa using h2))
        rw [e1, all_eqAtI_len ds ds' hl] at z
        exact PySem.EqBoolInt.of_rcne z fin
      · rw [eqDs_len ds ds' hl] at fin
        exact PySem.EqBoolInt.of_rcne (SeqAt.RcNeAt.lists_lengths (A := X.A) i1.isList i2.isList (by rw [e1, e2]; simpa using hl) (by omega)) fin

end
def CompN (D : Addr) (n : Nat) (Pv : Nat → St → Hp → Prop) (i : Nat) (σ4 : St) (y : V) (H5 : Hp) : Prop :=
  ∃ ys, H5 D = some (.lst ys) ∧ ys.length < sizeLine ∧ ∃ m', m' < n - i ∧ (m' = n - (i + 1) ∧ i + 1 ≤ n ∧ Pv (i + 1) σ4 (upd H5 D (.lst (ys ++ [y]))))
theorem CompN.mk {D : Addr} {n : Nat} {Pv : Nat → St → Hp → Prop} {i : Nat} {σ4 : St} {y : V} {H5 : Hp} {ys : List V} (hi : i < n) (h : H5 D = some (.lst ys)) (hl : ys.length < sizeLine) (p : Pv (i + 1) σ4 (upd H5 D (.lst (ys ++ [y])))) : CompN D n Pv i σ4 y H5 :=
  ⟨ys, h, hl, _, by omega, rfl, hi, p⟩
section
variable {K : PySem.W.Frag} {a D : Addr} {xs : List V} {g : TG} {te : TE} {σ0 : St} {H0 : Hp} {Q : VK}
theorem comp_list (Pv : Nat → St → Hp → Prop) (h0 : Pv 0 σ0 H0) (hl : ∀ i σ H, i ≤ xs.length → Pv i σ H → SqL K H a xs)
    (hs : ∀ i x σ H, xs[i]? = some x → Pv i σ H → g x σ H fun σ4 H4 => te σ4 H4 fun y H5 => CompN D xs.length Pv i σ4 y H5) (hd : ∀ σ H, Pv xs.length σ H → Q (.ref D) H) :
    ∃ W : Nat → Nat → St → Hp → Prop, (∃ m, W 0 m σ0 H0) ∧ ∀ i m σc H2, W i m σc H2 → ((Itl K a).stop i H2 ∧ Q (.ref D) H2) ∨
      ((Itl K a).go i H2 ∧ ∀ x H3, (Itl K a).yld i H2 x H3 → g x σc H3 fun σ4 H4 => te σ4 H4 fun y H5 => ∃ ys, H5 D = some (.lst ys) ∧ ys.length < sizeLine ∧ ∃ m', m' < m ∧ W (i + 1) m' σ4 (upd H5 D (.lst (ys ++ [y])))) := by
  refine ⟨fun i m σ H => m = xs.length - i ∧ i ≤ xs.length ∧ Pv i σ H, ⟨xs.length, by simp, Nat.zero_le _, h0⟩, ?_⟩
  rintro i m σ H ⟨rfl, hi, p⟩
  have q := hl i σ H hi p
  by_cases hlt : i < xs.length
  · refine .inr ⟨⟨xs, xs[i], q, List.getElem?_eq_getElem hlt⟩, ?_⟩
    rintro x H3 ⟨rfl, hx⟩
    exact hs i x σ _ (hx xs q) p
  · have e : i = xs.length := by omega
    subst e
    exact .inl ⟨⟨xs, q, Nat.le_refl _⟩, hd σ H p⟩
theorem comp_range {lo : Int} {n : Nat} (Pv : Nat → St → Hp → Prop) (h0 : Pv 0 σ0 H0)
    (hs : ∀ i σ H, i < n → Pv i σ H → g (.int (lo + i)) σ H fun σ4 H4 => te σ4 H4 fun y H5 => CompN D n Pv i σ4 y H5) (hd : ∀ σ H, Pv n σ H → Q (.ref D) H) :
    ∃ W : Nat → Nat → St → Hp → Prop, (∃ m, W 0 m σ0 H0) ∧ ∀ i m σc H2, W i m σc H2 → ((Itr lo n).stop i H2 ∧ Q (.ref D) H2) ∨
      ((Itr lo n).go i H2 ∧ ∀ x H3, (Itr lo n).yld i H2 x H3 → g x σc H3 fun σ4 H4 => te σ4 H4 fun y H5 => ∃ ys, H5 D = some (.lst ys) ∧ ys.length < sizeLine ∧ ∃ m', m' < m ∧ W (i + 1) m' σ4 (upd H5 D (.lst (ys ++ [y])))) := by
  refine ⟨fun i m σ H => m = n - i ∧ i ≤ n ∧ Pv i σ H, ⟨n, by simp, Nat.zero_le _, h0⟩, ?_⟩
  rintro i m σ H ⟨rfl, hi, p⟩
  by_cases hlt : i < n
  · refine .inr ⟨hlt, ?_⟩
    rintro x H3 ⟨rfl, rfl⟩
    exact hs i σ _ hlt p
  · have e : i = n := by omega
    subst e
    exact .inl ⟨Nat.le_refl _, hd σ H p⟩
end
end L2

namespace R
theorem num_den_of {n d : Int} (hd : 0 < d) (hc : Int.gcd n d = 1) : (Rat.divInt n d).num = n ∧ ((Rat.divInt n d).den : Int) = d := by
  obtain ⟨k, rfl⟩ : ∃ k : Nat, d = k := ⟨d.toNat, by omega⟩
  have hk : k ≠ 0 := by omega
  have hc' : n.natAbs.Coprime k := by
    rw [Int.gcd_eq_natAbs_gcd_natAbs] at hc
    simpa [Nat.Coprime] using hc
  have e : (⟨n, k, hk, hc'⟩ : Rat) = Rat.divInt n k := Rat.mk_eq_divInt
  rw [← e]
  exact ⟨rfl, rfl⟩
theorem eq_of_divInt {n d t b : Int} (hd : 0 < d) (hc : Int.gcd n d = 1) (hb : b ≠ 0) (h : n * b = t * d) : n = (Rat.divInt t b).num ∧ d = ((Rat.divInt t b).den : Int) := by
  have e : Rat.divInt n d = Rat.divInt t b := (Rat.divInt_eq_divInt_iff (by omega) hb).mpr h
  obtain ⟨h1, h2⟩ := num_den_of hd hc
  rw [e] at h1 h2
  exact ⟨h1.symm, h2.symm⟩
theorem fdiv_of_mul {g n : Int} (hg : g ≠ 0) : (g * n).fdiv g = n := by
  rw [Int.mul_comm]; exact Int.mul_fdiv_cancel n hg
theorem gcd_pos {t b : Int} (hb : b ≠ 0) : 0 < Int.gcd t b := Int.gcd_pos_of_ne_zero_right t hb
theorem coprime_parts {t b n d : Int} (hb : b ≠ 0) (h1 : t = (Int.gcd t b : Int) * n) (h2 : b = (Int.gcd t b : Int) * d) : Int.gcd n d = 1 := by
  have hg := gcd_pos (t := t) hb
  have e : Int.gcd ((Int.gcd t b : Int) * n) ((Int.gcd t b : Int) * d) = Int.gcd t b * Int.gcd n d := by
    rw [Int.gcd_mul_left]; simp
  rw [← h1, ← h2] at e
  exact Nat.eq_of_mul_eq_mul_left hg (by rw [← e, Nat.mul_one])
theorem low_eq {t b g : Int} (hb : b ≠ 0) (hg : g = if b < 0 then -(Int.gcd t b : Int) else (Int.gcd t b : Int)) : t.fdiv g = (Rat.divInt t b).num ∧ b.fdiv g = ((Rat.divInt t b).den : Int) := by
  have hp : (0 : Int) < Int.gcd t b := by have := gcd_pos (t := t) hb; omega
  obtain ⟨n, hn⟩ := Int.gcd_dvd_left t b
  obtain ⟨d, hd⟩ := Int.gcd_dvd_right t b
  have hc := coprime_parts hb hn hd
  by_cases hs : b < 0
  · rw [if_pos hs] at hg
    subst hg
    have hg0 : (-(Int.gcd t b : Int)) ≠ 0 := by omega
    have e1 : t = -(Int.gcd t b : Int) * (-n) := by rw [Int.neg_mul_neg]; exact hn
    have e2 : b = -(Int.gcd t b : Int) * (-d) := by rw [Int.neg_mul_neg]; exact hd
    have f1 : t.fdiv (-(Int.gcd t b : Int)) = -n := by conv => lhs; arg 1; rw [e1]
                                                       exact fdiv_of_mul hg0
    have f2 : b.fdiv (-(Int.gcd t b : Int)) = -d := by conv => lhs; arg 1; rw [e2]
                                                       exact fdiv_of_mul hg0
    rw [f1, f2]
    have hd0 : 0 < -d := by
      rcases Int.lt_or_le d 0 with z | z
      · omega
      · have := Int.mul_nonneg (Int.le_of_lt hp) z; omega
    refine eq_of_divInt hd0 (by rw [Int.gcd_neg, Int.neg_gcd]; exact hc) hb ?_
    conv => lhs; rw [hd]
    conv => rhs; rw [hn]
    generalize (Int.gcd t b : Int) = g
    grind
  · rw [if_neg hs] at hg
    subst hg
    have hg0 : ((Int.gcd t b : Int)) ≠ 0 := by omega
    have f1 : t.fdiv (Int.gcd t b : Int) = n := by conv => lhs; arg 1; rw [hn]
                                                   exact fdiv_of_mul hg0
    have f2 : b.fdiv (Int.gcd t b : Int) = d := by conv => lhs; arg 1; rw [hd]
                                                   exact fdiv_of_mul hg0
    rw [f1, f2]
    have hd0 : 0 < d := by
      rcases Int.lt_or_le 0 d with z | z
      · exact z
      · have := Int.mul_nonneg (Int.le_of_lt hp) (show 0 ≤ -d by omega); rw [Int.mul_neg] at this; omega
    refine eq_of_divInt hd0 hc hb ?_
    conv => lhs; rw [hd]
    conv => rhs; rw [hn]
    generalize (Int.gcd t b : Int) = g
    grind
theorem one_of_dvds {x y : Int} (h : ∀ k : Int, k ∣ x → k ∣ y → k ∣ 1) : Int.gcd x y = 1 := by
  have := h (Int.gcd x y : Int) (Int.gcd_dvd_left x y) (Int.gcd_dvd_right x y)
  have h2 := Int.natAbs_dvd_natAbs.mpr this
  simpa using h2
theorem dvd_one_of {x y k : Int} (h : Int.gcd x y = 1) (h1 : k ∣ x) (h2 : k ∣ y) : k ∣ 1 := by
  have := Int.dvd_coe_gcd h1 h2
  rw [h] at this
  simpa using this
theorem cop_mul_right {k m n : Int} (h1 : Int.gcd k m = 1) (h2 : Int.gcd k n = 1) : Int.gcd k (m * n) = 1 := by
  rw [Int.gcd_eq_natAbs_gcd_natAbs] at *
  rw [Int.natAbs_mul]
  exact Nat.Coprime.mul_right h1 h2
theorem cop_symm {k m : Int} (h1 : Int.gcd k m = 1) : Int.gcd m k = 1 := by rw [Int.gcd_comm]; exact h1
theorem cop_dvd {k m n : Int} (h1 : Int.gcd k m = 1) (h : n ∣ m) : Int.gcd k n = 1 := one_of_dvds fun j a b => dvd_one_of h1 a (Int.dvd_trans b h)
theorem rat_gcd (q : Rat) : Int.gcd q.num q.den = 1 := by
  rw [Int.gcd_eq_natAbs_gcd_natAbs]
  simpa using q.reduced
theorem rat_den_pos (q : Rat) : (0 : Int) < q.den := by have := q.den_nz; omega
theorem add_divInt (p q : Rat) : p + q = Rat.divInt (p.num * q.den + q.num * p.den) (p.den * q.den) := by
  have h1 := rat_den_pos p
  have h2 := rat_den_pos q
  conv => lhs; rw [← Rat.num_divInt_den p, ← Rat.num_divInt_den q]
  exact Rat.divInt_add_divInt _ _ (by omega) (by omega)
theorem mul_divInt (p q : Rat) : p * q = Rat.divInt (p.num * q.num) (p.den * q.den) := by
  conv => lhs; rw [← Rat.num_divInt_den p, ← Rat.num_divInt_den q]
  exact Rat.divInt_mul_divInt _ _
theorem gcd_fmod (a b : Int) : Int.gcd b (a.fmod b) = Int.gcd a b := by
  have e := Int.mul_fdiv_add_fmod a b
  rw [Int.gcd_comm a b]
  conv => rhs; rw [← e]
  rw [show b * a.fdiv b + a.fmod b = a.fmod b + a.fdiv b * b by rw [Int.mul_comm, Int.add_comm]]
  simp
theorem natAbs_fmod_lt (a : Int) {b : Int} (hb : b ≠ 0) : (a.fmod b).natAbs < b.natAbs := by
  rcases Int.lt_or_le b 0 with h | h
  · have e := Int.neg_fmod_neg a b
    have h1 := Int.fmod_nonneg_of_pos (-a) (show 0 < -b by omega)
    have h2 := Int.fmod_lt_of_pos (-a) (show 0 < -b by omega)
    omega
  · have h1 := Int.fmod_nonneg_of_pos a (show 0 < b by omega)
    have h2 := Int.fmod_lt_of_pos a (show 0 < b by omega)
    omega
end R

set_option maxRecDepth 100000
namespace R
open PySem L2 PyProof.Rows
section
variable {P : Program} {w : World} {K : PySem.W.Frag} {mg : Str → Option Value} {base : Heap}
theorem intBits_lt {a : Int} {m : Nat} (h : a.natAbs < 2 ^ m) : Builtin.Int.intBits a ≤ m := by
  unfold Builtin.Int.intBits
  split
  · exact Nat.zero_le _
  · rename_i hz
    have h0 : a.natAbs ≠ 0 := by
      intro z
      have : a = 0 := by omega
      simp [this] at hz
    have := (Nat.log2_lt h0).mpr h
    omega
theorem mulOk {a b : Int} {m n : Nat} (ha : a.natAbs < 2 ^ m) (hb : b.natAbs < 2 ^ n) (h : m + n ≤ 134217728 := by decide) : IntMulOk a b := IntMulOk.of_le (intBits_lt ha) (intBits_lt hb) h
theorem divOk {j : Int} (h0 : j ≠ 0) (h : j.natAbs < 2 ^ 9000) : CDivB i j := ⟨h0, (Nat.log2_lt (by omega)).mpr h⟩
theorem pow_le_pow2 {m n : Nat} (h : m ≤ n) : 2 ^ m ≤ 2 ^ n := Nat.pow_le_pow_right (by decide) h
theorem lt_up {a : Nat} {m n : Nat} (h : a < 2 ^ m) (hm : m ≤ n := by decide) : a < 2 ^ n := Nat.lt_of_lt_of_le h (pow_le_pow2 hm)
def numV (q : Rat) : List V := [.int q.num, .int (q.den : Int)]
structure Bd (q : Rat) : Prop where
  n : q.num.natAbs < 2 ^ 3000
  d : q.den < 2 ^ 3000
def Num (K : PySem.W.Frag) (H : Hp) (v : V) (q : Rat) : Prop := ∃ p, v = .ref p ∧ SqT K H p (numV q)
def NumRes (H : Hp) (Q : VK) (q : Rat) : Prop := ∀ r H', Same H H' → H' r = some (.tup (numV q)) → Q (.ref r) H'
theorem small2 : (2 : Nat) ≤ sizeLine := by decide
theorem small1 : (1 : Nat) ≤ sizeLine := by decide
theorem gcd_lt {a b : Int} {n : Nat} (hb : b ≠ 0) (h : b.natAbs < n) : ((Int.gcd a b : Nat) : Int).natAbs < n := by
  have h1 : Int.gcd a b ∣ b.natAbs := by
    have := Int.natAbs_dvd_natAbs.mpr (Int.gcd_dvd_right a b)
    simpa using this
  have h2 := Nat.le_of_dvd (by omega) h1
  simp only [Int.natAbs_natCast]
  omega
theorem gcd_lt_left {a b : Int} {n : Nat} (hb : a ≠ 0) (h : a.natAbs < n) : ((Int.gcd a b : Nat) : Int).natAbs < n := by
  rw [Int.gcd_comm]; exact gcd_lt hb h
theorem fdiv_le {a g : Int} (hg : 0 < g) (hd : g ∣ a) : (a.fdiv g).natAbs ≤ a.natAbs := by
  obtain ⟨n, rfl⟩ := hd
  rw [fdiv_of_mul (by omega), Int.natAbs_mul]
  exact Nat.le_mul_of_pos_left _ (by omega)
theorem at0 (q : Rat) : atI (numV q) 0 = some (.int q.num) := rfl
theorem at1 (q : Rat) : atI (numV q) 1 = some (.int (q.den : Int)) := rfl
theorem mulS {a b : Int} (h : a.natAbs < 2 ^ 64) : IntMulOk a b := IntMulOk.of_left (intBits_lt h)
theorem mulS' {a b : Int} (h : b.natAbs < 2 ^ 64) : IntMulOk a b := IntMulOk.of_right (intBits_lt h)
def spLow : Sp := fun vs H Q _ => ∃ t b : Int, vs = [.int t, .int b] ∧ b ≠ 0 ∧ b.natAbs < 2 ^ 6000 ∧ NumRes H Q (Rat.divInt t b)
def UrnAt (H : Hp) (u : Addr) : Prop := ∃ g m p : Int, H u = some (.lst [.int g, .int m, .int p]) ∧ 0 ≤ g ∧ 0 ≤ m ∧ m < 2 ^ 40 ∧ 0 < p ∧ p < 2 ^ 40
def SameX (u : Addr) (H H' : Hp) : Prop := ∀ b o, H b = some o → b ≠ u → H' b = some o
theorem Same.x {H H' : Hp} (s : Same H H') (u : Addr) : SameX u H H' := fun b o h _ => s b o h
theorem SameX.trans {u : Addr} {H H1 H2 : Hp} (a : SameX u H H1) (b : SameX u H1 H2) : SameX u H H2 := fun c o h n => b c o (a c o h n) n
theorem SameX.upd (u : Addr) (H : Hp) (o : HO) : SameX u H (upd H u o) := fun b p h n => by rw [upd_ne n]; exact h
theorem Same.urn {H H' : Hp} {u : Addr} (s : Same H H') (h : UrnAt H u) : UrnAt H' u := let ⟨g, m, p, h1, r⟩ := h; ⟨g, m, p, s _ _ h1, r⟩
def spUrn (K : PySem.W.Frag) : Sp := fun vs H Q _ => ∃ (a : Addr) (ns : List Int) (k : Int), vs = [.ref a, .int k] ∧ SqL K H a (ns.map V.int) ∧ 0 ≤ k ∧ k < 64 ∧ ∀ r H', Same H H' → H r = none → UrnAt H' r → Q (.ref r) H'
def primes : List V := [.int 1899999979, .int 1899998977, .int 1899997949, .int 1899996929, .int 1899995927, .int 1899994903, .int 1899993877, .int 1899992839]
theorem prime_at {k : Int} (h0 : 0 ≤ k) : ∃ p : Int, atI primes (k.fmod 8) = some (.int p) ∧ 1899992839 ≤ p ∧ p ≤ 1899999979 := by
  have h1 := Int.fmod_nonneg_of_pos k (show (0 : Int) < 8 by decide)
  have h2 := Int.fmod_lt_of_pos k (show (0 : Int) < 8 by decide)
  have h3 : k.fmod 8 = 0 ∨ k.fmod 8 = 1 ∨ k.fmod 8 = 2 ∨ k.fmod 8 = 3 ∨ k.fmod 8 = 4 ∨ k.fmod 8 = 5 ∨ k.fmod 8 = 6 ∨ k.fmod 8 = 7 := by omega
  rcases h3 with h | h | h | h | h | h | h | h <;> rw [h] <;> exact ⟨_, rfl, by decide, by decide⟩
theorem at_script {ns : List Int} {k : Int} (h0 : 0 ≤ k) (h : k < (ns.length : Int)) : ∃ v : Int, atI (ns.map V.int) k = some (.int v) := by
  have hk : k.toNat < ns.length := by omega
  have ek : k = ((k.toNat : Nat) : Int) := by omega
  have q : atI (ns.map V.int) ((k.toNat : Nat) : Int) = some (.int ns[k.toNat]) := atI_nat (by rw [List.getElem?_map, List.getElem?_eq_getElem hk] <;> rfl)
  rw [← ek] at q
  exact ⟨_, q⟩
def spDraw : Sp := fun vs H Q _ => ∃ (u : Addr) (n : Int), vs = [.ref u, .int n] ∧ UrnAt H u ∧ 0 < n ∧ n < 2 ^ 40 ∧ ∀ r H', 0 ≤ r → r < n → SameX u H H' → UrnAt H' u → Q (.int r) H'
structure Sm (q : Rat) : Prop where
  n : q.num.natAbs ≤ 10 ^ 12
  d : q.den ≤ 10 ^ 12
theorem divInt_le {t b : Int} (hb : b ≠ 0) : (Rat.divInt t b).num.natAbs ≤ t.natAbs ∧ (Rat.divInt t b).den ≤ b.natAbs := by
  have hp := gcd_pos (t := t) hb
  obtain ⟨e1, e2⟩ := low_eq (t := t) (b := b) (g := if b < 0 then -(Int.gcd t b : Int) else (Int.gcd t b : Int)) hb rfl
  have key : ∀ x : Int, (Int.gcd t b : Int) ∣ x → (x.fdiv (if b < 0 then -(Int.gcd t b : Int) else (Int.gcd t b : Int))).natAbs ≤ x.natAbs := by
    rintro x ⟨n, hn⟩
    split
    · have : x = -(Int.gcd t b : Int) * (-n) := by rw [Int.neg_mul_neg]; exact hn
      rw [this, fdiv_of_mul (by omega), Int.natAbs_mul]
      exact Nat.le_mul_of_pos_left _ (by omega)
    · rw [hn, fdiv_of_mul (by omega), Int.natAbs_mul]
      exact Nat.le_mul_of_pos_left _ (by omega)
  have k1 := key t (Int.gcd_dvd_left t b)
  have k2 := key b (Int.gcd_dvd_right t b)
  rw [e1] at k1
  rw [e2] at k2
  exact ⟨k1, by omega⟩
theorem sm_of {t b : Int} (hb : b ≠ 0) (h1 : t.natAbs ≤ 10 ^ 12) (h2 : b.natAbs ≤ 10 ^ 12) : Sm (Rat.divInt t b) := by
  obtain ⟨e1, e2⟩ := divInt_le (t := t) hb
  exact ⟨by omega, by omega⟩
theorem urn_ne {H : Hp} {u l : Addr} (hu : UrnAt H u) (hl : H l = none) : l ≠ u := by
  obtain ⟨g, m, p, h, r⟩ := hu
  exact (ne_of_none h hl).symm
theorem urn_new {H : Hp} {u l : Addr} {o : HO} (hu : UrnAt H u) (hl : H l = none) : UrnAt (upd H l o) u := by
  obtain ⟨g, m, p, h, r⟩ := hu
  exact ⟨g, m, p, by rw [upd_ne (ne_of_none h hl)]; exact h, r⟩
def spNumber : Sp := fun vs H Q _ => ∃ u kd, vs = [.ref u, .int kd] ∧ UrnAt H u ∧ ∀ r q H', Sm q → SameX u H H' → UrnAt H' u → H' r = some (.tup (numV q)) → Q (.ref r) H'
def spWhole : Sp := fun vs H Q _ => ∃ i : Int, vs = [.int i] ∧ Q (.bl true) H
theorem kit_int_int : PySem.W.kitOne K (.type "int") (.type "int") = some true := by unfold PySem.W.kitOne; rw [if_pos (by decide)]
theorem kit_int_bool : PySem.W.kitOne K (.type "int") (.type "bool") = some false := by kernel_rfl
theorem kit_tup_tup : PySem.W.kitOne K (.type "tuple") (.type "tuple") = some true := by unfold PySem.W.kitOne; rw [if_pos (by decide)]
def dNum (q : Rat) : D := .tup [.v (.int q.num), .v (.int (q.den : Int))]
theorem isD_num {H : Hp} {a : Addr} {q : Rat} (h : SqT K H a (numV q)) : IsD K H (.ref a) (dNum q) := .tup h (.cons (.v rfl) (.cons (.v rfl) .nil))
theorem eqD_num (q : Rat) : eqD (dNum q) (dNum q) = true := by simp [dNum, eqD, eqDs, eqV]
theorem okD_num (p q : Rat) : okD (dNum p) (dNum q) = true := by simp [dNum, okD, okDs]
theorem dp_num (q : Rat) : dpD (dNum q) ≤ 60 := by simp [dNum, dpD, dpDs]
def spIsNum (K : PySem.W.Frag) : Sp := fun vs H Q _ => ∃ x q, vs = [x] ∧ (∃ p, x = .ref p ∧ SqT K H p (numV q)) ∧ (q.den : Int).natAbs < 2 ^ 6000 ∧ ∀ H', Same H H' → Q (.bl true) H'
end
end R

set_option maxRecDepth 100000
namespace R
open PySem L2 PyProof.Rows
inductive Nums (H : Hp) : List V → List Rat → Prop where
  | nil : Nums H [] []
  | cons {p : Addr} {q : Rat} {vs : List V} {qs : List Rat} (h : H p = some (.tup (numV q))) (t : Nums H vs qs) : Nums H (.ref p :: vs) (q :: qs)
def TupS (H H' : Hp) : Prop := ∀ b xs, H b = some (.tup xs) → H' b = some (.tup xs)
theorem _root_.L2.Same.tups {H H' : Hp} (s : Same H H') : TupS H H' := fun b xs h => s b _ h
theorem SameX.tups {u : Addr} {H H' : Hp} (s : SameX u H H') (hu : UrnAt H u) : TupS H H' := fun b xs h => by
  obtain ⟨g, m, p, e, _⟩ := hu
  exact s b _ h (ne_of h e (by intro z; cases z))
theorem TupS.lst {H : Hp} {a : Addr} {xs : List V} {o : HO} (h : H a = some (.lst xs)) : TupS H (upd H a o) := fun b ys e => by
  rw [upd_ne (ne_of e h (by intro z; cases z))]; exact e
theorem TupS.new {H : Hp} {a : Addr} {o : HO} (h : H a = none) : TupS H (upd H a o) := (Same.new h o).tups
theorem Nums.mono {H H' : Hp} (e : TupS H H') : ∀ {vs : List V} {qs : List Rat}, Nums H vs qs → Nums H' vs qs
  | _, _, .nil => .nil
  | _, _, .cons h t => .cons (e _ _ h) (t.mono e)
theorem Nums.length {H : Hp} : ∀ {vs : List V} {qs : List Rat}, Nums H vs qs → vs.length = qs.length
  | _, _, .nil => rfl
  | _, _, .cons _ t => congrArg (· + 1) t.length
theorem Nums.append {H : Hp} : ∀ {vs ws : List V} {qs rs : List Rat}, Nums H vs qs → Nums H ws rs → Nums H (vs ++ ws) (qs ++ rs)
  | _, _, _, _, .nil, b => b
  | _, _, _, _, .cons h t, b => .cons h (t.append b)
theorem Nums.get {H : Hp} : ∀ {vs : List V} {qs : List Rat} {i : Nat} {q : Rat}, Nums H vs qs → qs[i]? = some q → ∃ p, vs[i]? = some (.ref p) ∧ H p = some (.tup (numV q))
  | _, _, _, _, .nil, e => by simp at e
  | _, _, 0, _, .cons h t, e => by
    have := Option.some.inj e
    subst this
    exact ⟨_, rfl, h⟩
  | _, _, i + 1, _, .cons h t, e => by
    obtain ⟨p, e1, e2⟩ := t.get (i := i) (by simpa using e)
    exact ⟨p, by simpa using e1, e2⟩
theorem Nums.getV {H : Hp} : ∀ {vs : List V} {qs : List Rat} {i : Nat} {v : V}, Nums H vs qs → vs[i]? = some v → ∃ p q, v = .ref p ∧ qs[i]? = some q ∧ H p = some (.tup (numV q))
  | _, _, _, _, .nil, e => by simp at e
  | _, _, 0, _, .cons h t, e => by
    have := Option.some.inj e
    subst this
    exact ⟨_, _, rfl, rfl, h⟩
  | _, _, i + 1, _, .cons h t, e => by
    obtain ⟨p, q, e0, e1, e2⟩ := t.getV (i := i) (by simpa using e)
    exact ⟨p, q, e0, by simpa using e1, e2⟩
theorem Nums.isDs {K : PySem.W.Frag} {H : Hp} : ∀ {vs : List V} {qs : List Rat}, Nums H vs qs → IsDs K H vs (qs.map dNum)
  | _, _, .nil => .nil
  | _, _, .cons h t => .cons (isD_num (SqT.of h)) t.isDs
theorem rat_ext {p q : Rat} (h1 : p.num = q.num) (h2 : p.den = q.den) : p = q := by
  cases p; cases q; simp at h1 h2; subst h1 h2; rfl
theorem eqD_nums (p q : Rat) : eqD (dNum p) (dNum q) = decide (p = q) := by
  by_cases h : p = q
  · subst h; rw [eqD_num]; simp
  · rw [decide_eq_false h]
    simp only [dNum, eqD, eqDs, eqV, Bool.and_true]
    by_cases h1 : p.num = q.num
    · have h2 : p.den ≠ q.den := fun z => h (rat_ext h1 z)
      have : ((p.den : Int) == (q.den : Int)) = false := by
        rw [beq_eq_false_iff_ne]; intro z; exact h2 (by omega)
      rw [this, Bool.and_false]
    · have : (p.num == q.num) = false := by rw [beq_eq_false_iff_ne]; exact h1
      rw [this, Bool.false_and]
theorem eqDs_nums : ∀ ps qs : List Rat, eqDs (ps.map dNum) (qs.map dNum) = decide (ps = qs)
  | [], [] => by simp [eqDs]
  | [], _ :: _ => by simp [eqDs]
  | _ :: _, [] => by simp [eqDs]
  | p :: ps, q :: qs => by
    rw [List.map_cons, List.map_cons, eqDs, eqD_nums, eqDs_nums ps qs]
    by_cases h1 : p = q <;> by_cases h2 : ps = qs <;> simp [h1, h2]
theorem okDs_nums : ∀ ps qs : List Rat, okDs (ps.map dNum) (qs.map dNum) = true
  | [], [] => by simp [okDs]
  | [], _ :: _ => by simp [okDs]
  | _ :: _, [] => by simp [okDs]
  | p :: ps, q :: qs => by rw [List.map_cons, List.map_cons, okDs, okD_num, okDs_nums ps qs]; rfl
theorem dpDs_nums : ∀ qs : List Rat, dpDs (qs.map dNum) ≤ 1
  | [] => by simp [dpDs]
  | q :: qs => by
    have h1 : dpD (dNum q) ≤ 1 := by simp [dNum, dpD, dpDs]
    have h2 := dpDs_nums qs
    rw [List.map_cons, dpDs]
    omega
def dList (qs : List Rat) : D := .lst (qs.map dNum)
theorem isD_list {K : PySem.W.Frag} {H : Hp} {a : Addr} {vs : List V} {qs : List Rat} (h : SqL K H a vs) (n : Nums H vs qs) : IsD K H (.ref a) (dList qs) := .lst h n.isDs
theorem eqD_list (ps qs : List Rat) : eqD (dList ps) (dList qs) = decide (ps = qs) := by unfold dList; rw [eqD, eqDs_nums]
theorem okD_list (ps qs : List Rat) : okD (dList ps) (dList qs) = true := by unfold dList; rw [okD, okDs_nums]
theorem dp_list (qs : List Rat) : dpD (dList qs) ≤ 2 := by unfold dList; rw [dpD]; have := dpDs_nums qs; omega
structure IsTl (qs : List Rat) (m : Nat) : Prop where
  le : m ≤ qs.length
  zero : ∀ (i : Nat) (q : Rat), m ≤ i → qs[i]? = some q → q = 0
  last : m ≠ 0 → ∀ q, qs[m - 1]? = some q → q ≠ 0
theorem cut_take (vs : List V) {m : Nat} (h : m ≤ vs.length) : cutV vs none (some (m : Int)) = vs.take m := by
  unfold cutV
  have e1 : HT.sIx vs.length 0 none = 0 := by simp [HT.sIx]
  have e2 : HT.sIx vs.length vs.length (some (m : Int)) = m := by
    simp only [HT.sIx]
    split <;> omega
  rw [e1, e2]; simp
end R

set_option maxRecDepth 100000
namespace L2
open PySem PySem.Spec PyProof.Rows
theorem Same.over {H H1 : Hp} {l : Addr} (s : Same H H1) (hl : H l = none) (o : HO) : Same H (upd H1 l o) := fun b u h => by
  rw [upd_ne (ne_of_none h hl)]; exact s b u h
def CompW (J : It) (D : Addr) (σ0 : St) (H0 : Hp) (g : TG) (te : TE) (Q : VK) : Prop := ∃ W : Nat → Nat → St → Hp → Prop, (∃ m, W 0 m σ0 H0) ∧
  ∀ i m σc H2, W i m σc H2 → (J.stop i H2 ∧ Q (.ref D) H2) ∨
    (J.go i H2 ∧ ∀ x H3, J.yld i H2 x H3 → g x σc H3 fun σ4 H4 => te σ4 H4 fun y H5 => ∃ ys, H5 D = some (.lst ys) ∧ ys.length < sizeLine ∧ ∃ m', m' < m ∧ W (i + 1) m' σ4 (upd H5 D (.lst (ys ++ [y]))))
theorem tComp_eq (wi : TI) (caps : List (Option Nat)) (g : TG) (te : TE) : tComp wi caps g te = fun σ H Q => wi σ H fun J H1 => ∀ D, H1 D = none → CompW J D (capSt caps σ) (upd H1 D (.lst [])) g te Q := rfl
def CompWI (J : It) (D : Addr) (σ0 : St) (H0 : Hp) (g : TG) (tt : TT) (te : TE) (Q : VK) : Prop := ∃ W : Nat → Nat → St → Hp → Prop, (∃ m, W 0 m σ0 H0) ∧
  ∀ i m σc H2, W i m σc H2 → (J.stop i H2 ∧ Q (.ref D) H2) ∨
    (J.go i H2 ∧ ∀ x H3, J.yld i H2 x H3 → g x σc H3 fun σ4 H4 => tt σ4 H4 fun b H4' => if b = true then te σ4 H4' fun y H5 => ∃ ys, H5 D = some (.lst ys) ∧ ys.length < sizeLine ∧ ∃ m', m' < m ∧ W (i + 1) m' σ4 (upd H5 D (.lst (ys ++ [y])))
      else ∃ m', m' < m ∧ W (i + 1) m' σ4 H4')
theorem tCompIf_eq (wi : TI) (caps : List (Option Nat)) (g : TG) (tt : TT) (te : TE) : tCompIf wi caps g tt te = fun σ H Q => wi σ H fun J H1 => ∀ D, H1 D = none → CompWI J D (capSt caps σ) (upd H1 D (.lst [])) g tt te Q := rfl
section
variable {K : PySem.W.Frag} {a D : Addr} {xs : List V} {g : TG} {te : TE} {σ0 : St} {H0 : Hp} {Q : VK}
theorem cw_list (xs : List V) (Pv : Nat → St → Hp → Prop) (h0 : Pv 0 σ0 H0) (hl : ∀ i σ H, i ≤ xs.length → Pv i σ H → SqL K H a xs)
    (hs : ∀ i x σ H, xs[i]? = some x → Pv i σ H → g x σ H fun σ4 H4 => te σ4 H4 fun y H5 => CompN D xs.length Pv i σ4 y H5) (hd : ∀ σ H, Pv xs.length σ H → Q (.ref D) H) : CompW (Itl K a) D σ0 H0 g te Q := comp_list Pv h0 hl hs hd
theorem cw_range {lo : Int} {n : Nat} (Pv : Nat → St → Hp → Prop) (h0 : Pv 0 σ0 H0)
    (hs : ∀ i σ H, i < n → Pv i σ H → g (.int (lo + i)) σ H fun σ4 H4 => te σ4 H4 fun y H5 => CompN D n Pv i σ4 y H5) (hd : ∀ σ H, Pv n σ H → Q (.ref D) H) : CompW (Itr lo n) D σ0 H0 g te Q := comp_range Pv h0 hs hd
end
theorem sub_nil {cells : List (Str × Addr)} : ∀ (x : Str) (c : Addr), ([] : List (Str × Addr)).lookup x = some c → cells.lookup x = some c := fun x c h => by cases h
theorem sub_cons {cells cl : List (Str × Addr)} {k : Str} {a : Addr} (h : cells.lookup k = some a) (r : ∀ (x : Str) (c : Addr), cl.lookup x = some c → cells.lookup x = some c) : ∀ (x : Str) (c : Addr), ((k, a) :: cl).lookup x = some c → cells.lookup x = some c := fun x c e => by
  rw [List.lookup_cons] at e
  split at e
  · rename_i q
    have := eq_of_beq q
    subst this
    cases e
    exact h
  · exact r x c e
end L2
namespace R
open PySem L2 PyProof.Rows
theorem SameX.over {u : Addr} {H H1 : Hp} {l : Addr} (s : SameX u H H1) (hl : H l = none) (o : HO) : SameX u H (L2.upd H1 l o) := fun b x h n => by
  rw [upd_ne (ne_of_none h hl)]; exact s b x h n
theorem SameX.free {u : Addr} {H H' : Hp} {l : Addr} (s : SameX u H H') (hu : UrnAt H' u) (h : H' l = none) : H l = none := by
  cases e : H l with
  | none => rfl
  | some o =>
    by_cases q : l = u
    · subst q
      obtain ⟨_, _, _, z, _⟩ := hu
      rw [z] at h; cases h
    · rw [s l o e q] at h; cases h
theorem UrnAt.other {H : Hp} {u l : Addr} {o : HO} (h : UrnAt H u) (ne : l ≠ u) : UrnAt (upd H l o) u := by
  obtain ⟨g, m, p, e, r⟩ := h
  exact ⟨g, m, p, by rw [upd_ne ne.symm]; exact e, r⟩
theorem kit_list_list {K : PySem.W.Frag} : PySem.W.kitOne K (.type "list") (.type "list") = some true := by unfold PySem.W.kitOne; rw [if_pos (by decide)]
end R

set_option maxRecDepth 100000
namespace L2
open PySem PySem.Spec PyProof.Rows

def Itz (K : PySem.W.Frag) (a b : Addr) : It :=
  ⟨fun i H => ∃ xs ys x y, SqL K H a xs ∧ SqL K H b ys ∧ xs[i]? = some x ∧ ys[i]? = some y,
   fun i H v H' => ∀ xs ys, SqL K H a xs → SqL K H b ys → ∃ x y p, xs[i]? = some x ∧ ys[i]? = some y ∧ H p = none ∧ v = .ref p ∧ H' = upd H p (.tup [x, y]),
   fun i H => ∃ xs ys, SqL K H a xs ∧ SqL K H b ys ∧ (xs.length ≤ i ∨ ys.length ≤ i)⟩
theorem turn_zip {P : Program} {w : World} {K : PySem.W.Frag} {elts : List Expr} {k : Nat} {tpos : Pos} (a b z TI TO i1 i2 : Addr) (D : ZipApart z TI TO i1 i2 a b) :
    Turn P w K (.Tuple elts k tpos) (Itz K a b) [z, TI, TO, i1, i2] z (fun i h => IsZip h z TI TO .none ∧ IsPair h TI (.ref i1) (.ref i2) ∧ (∃ a b, IsPair h TO a b) ∧ h.IsListIter i1 a i ∧ h.IsListIter i2 b i) where
  mem := by simp
  obj := fun i h st c hc => by
    obtain ⟨hz, hTI, ⟨p, q, hTO⟩, h1, h2⟩ := st
    rcases (by simpa using hc : c = z ∨ c = TI ∨ c = TO ∨ c = i1 ∨ c = i2) with e | e | e | e | e <;> subst e
    · exact ⟨_, hz, fun v z => by cases z⟩
    · exact ⟨_, hTI, fun v z => by cases z⟩
    · exact ⟨_, hTO, fun v z => by cases z⟩
    · obtain ⟨o, e, c, d⟩ := h1
      exact ⟨o, e, fun v z => by rw [d] at z; cases z⟩
    · obtain ⟨o, e, c, d⟩ := h2
      exact ⟨o, e, fun v z => by rw [d] at z; cases z⟩
  keep := fun i h h' st k => by
    obtain ⟨hz, hTI, ⟨p, q, hTO⟩, h1, h2⟩ := st
    exact ⟨k z (by simp) _ hz, k TI (by simp) _ hTI, ⟨p, q, k TO (by simp) _ hTO⟩, h1.at fun o e => k i1 (by simp) o e, h2.at fun o e => k i2 (by simp) o e⟩
  item := by
    intro X hP hw hK hc i pins s σ H E I hf st hg
    subst hP hw hK
    obtain ⟨xs, ys, x, y, hq, hq', hx, hy⟩ := hg
    obtain ⟨its, rv, p, hlz⟩ := I.list hq
    obtain ⟨its', rv', p', hlz'⟩ := I.list hq'
    obtain ⟨u, hu, ru⟩ := rv.get hx
    obtain ⟨u', hu', ru'⟩ := rv'.get hy
    obtain ⟨hz, hTI, ⟨pa, pb, hTO⟩, h1, h2⟩ := st
    have zlt : z < s.heap.objs.size := Heap.lt_size hz
    refine wpAny_pyNext_zip_item D hz hTI hTO h1 h2 p.isList p'.isList (x := u) (y := u') (by simpa using hu) (by simpa using hu') fun h' a1 a2 a3 a4 a5 a6 kk => ?_
    refine ⟨_, rfl, ?_⟩
    refine wpAny_letOwnedTupleGo_zip (s := { s with heap := h' }) a1 fun h'' hz'' sb => ?_
    have up : ∀ c o, c ≠ z → h'.get? c = some o → h''.get? c = some o := fun c o n q => (sb.2 c n).trans q
    have hT' : h''.get? s.heap.objs.size = some { cls := .type "tuple", data := .seq #[u, u'] } := up _ _ (Nat.ne_of_gt zlt) a5
    refine ⟨.ref s.heap.objs.size, upd H s.heap.objs.size (.tup [x, y]), I.turnLaid (fp := [z, TI, TO, i1, i2]) (t' := s.toks) hf (fun c v hb q => ?_) (Nat.le_refl _) ?_, rfl, ?_, ?_, fun c hb => ?_⟩
    · have n1 : c ≠ z := fun e => hb (by simp [e])
      have n2 : c ≠ TO := fun e => hb (by simp [e])
      have n3 : c ≠ i1 := fun e => hb (by simp [e])
      have n4 : c ≠ i2 := fun e => hb (by simp [e])
      exact up c v n1 (kk c v n1 n2 n3 n4 q)
    · exact ⟨(show 2 ≤ sizeLine by decide +kernel), [u, u'], .cons ru (.cons ru' .nil), _, hT', rfl, _, rfl⟩
    · intro vs ws hv hw
      rw [I.list_inj hv hq, I.list_inj hw hq']
      exact ⟨x, y, _, hx, hy, I.fresh, rfl, rfl⟩
    · refine ⟨hz'', up _ _ D.TIz (kk _ _ D.TIz D.TITO D.TIi1 D.TIi2 hTI), ⟨u, u', up _ _ D.TOz a2⟩, a3.at fun o q => up _ o D.i1z q, a4.at fun o q => up _ o D.i2z q⟩
    · have hlt : c < s.heap.objs.size := by
        have l1 : i1 < s.heap.objs.size := by obtain ⟨_, e, _⟩ := h1; exact Heap.lt_size e
        have l2 : i2 < s.heap.objs.size := by obtain ⟨_, e, _⟩ := h2; exact Heap.lt_size e
        rcases (by simpa using hb : c = z ∨ c = TI ∨ c = TO ∨ c = i1 ∨ c = i2) with e | e | e | e | e <;> rw [e]
        · exact zlt
        · exact Heap.lt_size hTI
        · exact Heap.lt_size hTO
        · exact l1
        · exact l2
      rw [upd_ne (Nat.ne_of_lt hlt)]
      exact (hf c hb).1
  done := by
    intro X hP hw hK hc i pins s σ H E I hf st hg
    subst hP hw hK
    obtain ⟨xs, ys, hq, hq', hend⟩ := hg
    obtain ⟨its, rv, p, hlz⟩ := I.list hq
    obtain ⟨its', rv', p', hlz'⟩ := I.list hq'
    obtain ⟨hz, hTI, ⟨pa, pb, hTO⟩, h1, h2⟩ := st
    have l1 := rv.length
    have l2 := rv'.length
    refine wpAny_pyNext_zip_end (I.ok.hd hc) D hz hTI hTO h1 h2 p.isList p'.isList ?_ fun h' kk => ⟨rfl, ?_⟩
    · rcases hend with e | e
      · exact .inl (by simp; omega)
      · exact .inr (by simp; omega)
    · have nf : ∀ b u, H b = some u → b ∉ [z, TI, TO, i1, i2] := fun b u e q => by rw [(hf b q).1] at e; cases e
      have k : ∀ b u, b ∉ [z, TI, TO, i1, i2] → s.heap.get? b = some u → h'.get? b = some u := fun c o hb q => kk c o (fun e => hb (by simp [e])) (fun e => hb (by simp [e])) (fun e => hb (by simp [e])) (fun e => hb (by simp [e])) q
      refine I.step (t' := s.toks) (g' := s.gens) (d' := s.drawn) (ch := [z, TI, TO, i1, i2]) (fun b hb => ?_) (fun b o _ _ hc e _ => k b o hc e) (fun b o _ _ hc e _ => ⟨o.slots, k b o hc e⟩) (fun b o _ e n => n)
        (fun b o hc e => ⟨o, k b o hc e⟩) (fun b xs e => e) (fun b o u e => e) (fun b ps e => ⟨#[], by rw [e]; simp⟩) (fun m hm => ?_) (fun b u e => ?_) I.bare
      · obtain ⟨_, f1, _, f3, f4, f5⟩ := hf b hb
        exact ⟨f3, f1, f4, f5⟩
      · obtain ⟨o, es, ep, ho, r⟩ := hm
        exact ⟨o, es, ep, k _ o (fun q => (hf _ q).2.1 rfl) ho, r⟩
      · refine (I.hok b u e).stay (fun c v hc q => k c v ?_ q) (fun c q => q) fun c xs q => q
        rcases hc with q | q
        · rw [q]; exact nf b u e
        · exact nf c _ q
  self := fun _ _ _ _ _ st h => wpAny_pyIter_zip st.1 h
section
variable {X : Cx}
def iZip (K : PySem.W.Frag) (ta : TA) : TI := fun σ H R => ta σ H fun vs H1 => ∃ a b, vs = [.ref a, .ref b] ∧ (∃ xs, SqL K H1 a xs) ∧ (∃ ys, SqL K H1 b ys) ∧ R (Itz K a b) H1
theorem pi_zip {elts : List Expr} {k : Nat} {tpos : Pos} {l l' : Expr} {ta : TA} {p pos : Pos} (hg : Gl X "zip") (hm : X.mg "zip" = none) (ha : PA X [l, l'] ta) (hs : starEach [l, l'] X.env = [(false, eval l X.env), (false, eval l' X.env)] := by rfl) (hs2 : starEach [l'] X.env = [(false, eval l' X.env)] := by rfl) :
    PI X (.Tuple elts k tpos) (.Call (.Name "zip" p) [l, l'] [] pos) (iZip X.K ta) := by
  intro pins s σ H R I h
  refine Call_ (ld_blt I hg hm (u := .type "zip") (by decide +kernel) (PyProof.Rows.callWith_type1 (thn (ha pos pins s σ H _ I h) fun us s1 ⟨vs, H1, I1, r1, q1⟩ => ?_) (by rw [hs, hs2]) (by rw [hs2]; rfl)))
  obtain ⟨a, b, e, ⟨xs, hq⟩, ⟨ys, hq'⟩, q⟩ := q1
  subst e
  obtain ⟨u, u', rfl, rx, rx'⟩ := Vals.two r1
  cases rx
  cases rx'
  obtain ⟨its, rv, p, hz⟩ := I1.list hq
  obtain ⟨its', rv', p', hz'⟩ := I1.list hq'
  have a1 : a < s1.heap.objs.size := by obtain ⟨_, e, _⟩ := p.isList; exact Heap.lt_size e
  have a2 : b < s1.heap.objs.size := by obtain ⟨_, e, _⟩ := p'.isList; exact Heap.lt_size e
  refine call_zip_2 p.isList p'.isList fun h' hz hTI hTO hi1 hi2 hsz kk => ?_
  refine wpAny_pyIter_zip hz ?_
  have I2 : Inv X pins σ H1 { s1 with heap := h' } := I1.kept (t' := s1.toks) kk
  refine ⟨_, _, _, _, H1, rfl, I2, turn_zip a b _ _ _ _ _ (zipApart_new a1 a2), ⟨hz, hTI, ⟨_, _, hTO⟩, hi1, hi2⟩, fun c hb => ?_, q⟩
  have hb' : s1.heap.objs.size ≤ c := by
    rcases (by simpa using hb : c = s1.heap.objs.size + 4 ∨ c = s1.heap.objs.size + 2 ∨ c = s1.heap.objs.size + 3 ∨ c = s1.heap.objs.size ∨ c = s1.heap.objs.size + 1) with e | e | e | e | e <;> rw [e]
    · exact Nat.le_add_right _ _
    · exact Nat.le_add_right _ _
    · exact Nat.le_add_right _ _
    · exact Nat.le_refl _
    · exact Nat.le_add_right _ _
  obtain ⟨f0, f1, f2, f3, f4, f5⟩ := I1.fpOk (H' := H1) hb' (I1.hok.fresh hb')
  exact ⟨f0, f1, f2, f3, f4, f5⟩
end
end L2

set_option maxRecDepth 100000
namespace L2
open PySem PySem.Spec PyProof.Rows
section
variable {prog : Program} {w : World} {A : Around} {E : Value → Shared → Prop} {s : Shared}
theorem gt_ints {a b : Int} {t u : Tok} {Q : Value → Shared → Prop} (h : Q (.bool (decide (a > b))) s) : wpAny (model prog w) A (richCompare .Gt (.int a t) (.int b u)) Q E s :=
  richCompare_gives (op := .Gt) (typeIs_int s _ t) (typeIs_int s _ u) F.slot_int_gt F.entry_int_gt (F.args_int_gt_2 _ _) (gives_int_gt _ _ t u) (fun x => nomatch x) h
theorem call_tree_kw {id : String} {b : Builtin} {args : List Value} {kw : List (Str × Value)} {Q : Value → Shared → Prop} (hk : builtinKind id = none) (hp : plainId id = true)
    (hb : entryFor table id = some b) (ha : argsOk id ⟨args, kw⟩)
    (hc : wpAny (model prog w) A.in1 (b ⟨args, kw⟩) (fun fin s' => match fin with
      | .done f => (match (Except.ok f : Result) with | .ok (.ret v) => Q v s' | .ok _ => False | .error e => E e s')
      | .again c' => c'.quiet = true ∧ codeAny (model prog w) A c' (fun r s' => match r with | .ok (.ret v) => Q v s' | .ok _ => False | .error e => E e s') s') E s) :
    wpAny (model prog w) A (call (.builtin id) args kw) Q E s := by
  refine wpAny_call (codeAny_call_builtin hp hb ?_)
  simp only [checkBuiltinCall, hk]
  cases hsig : Manifest.signature? id with
  | none => exact wpAny_pure hc
  | some sig =>
    have ha' : Bind.checkArgs id sig ⟨args, kw⟩ = pure () := by simpa only [argsOk, hsig] using ha
    simp only [ha']
    exact wpAny_pure hc
variable {R : Result → Shared → Prop} {I : Addr} {fp wr : List Addr} {n : Nat} {P : Nat → Value → Prop} {St : Nat → Heap → Prop}
theorem max_loopD (W : Walks prog w A.in1 I fp wr n P St) (hint : ∀ i v, P i v → ∃ x t, v = .int x t) (S : Addr) (hSf : S ∉ fp) (d : Value) :
    ∀ (k j : Nat) (s : Shared) (x0 : Int) (t0 : Tok) (c : Nat), n - (j + 1) = k → j + 1 ≤ n → St (j + 1) s.heap →
    s.heap.get? S = some { cls := .type "list", dict := none, data := .seq #[.int x0 t0, .int x0 t0] c, slots := #[] } →
    (∀ x t h' tk, (∀ b o, b ∉ wr → b ≠ S → s.heap.get? b = some o → h'.get? b = some o) → R (.ok (.ret (.int x t))) { s with heap := h', toks := tk }) →
    codeAny (model prog w) A (.builtin "max.loop" ⟨[.ref I, .none, .ref S], [("default", d)]⟩) R s := by
  have hSw : S ∉ wr := fun h => hSf (W.sub _ h)
  have hname : (toString "max" ++ toString ".loop" : String) = "max.loop" := by decide
  intro k
  induction k with
  | zero =>
    intro j s x0 t0 c hk hj hst hS hR
    have hin : j + 1 = n := by omega
    refine codeAny_builtin F.entry_max_loop ?_
    rw [Around.under_plainId F.plain_max_loop _]
    show wpAny _ A.in1 (seqItems? (.ref S) >>= _) _ _ s
    refine wpAny_bind (wpAny_seqItems hS rfl ?_)
    show wpAny _ A.in1 (tryCatch (pyNext (.ref I)) _ >>= _) _ _ s
    refine wpAny_bind (wpAny_tryCatch (W.done s _ _ (hin ▸ hst) fun h' tk hk' => ?_))
    have hS' := hk' S _ hSw hS
    show wpAny _ A.in1 (updateSeq S (fun _ => #[]) >>= _) _ _ _
    refine wpAny_bind ?_
    refine wpAny_updateSeq hS' rfl (wpAny_bind (wpAny_letGo (wpAny_pure ?_)))
    exact hR x0 t0 _ tk fun b o hbw hbS e => (Heap.get?_update_other _ _ (Ne.symm hbS)).trans (hk' b o hbw e)
  | succ k ih =>
    intro j s x0 t0 c hk hj hst hS hR
    have hlt : j + 1 < n := by omega
    refine codeAny_builtin F.entry_max_loop ?_
    rw [Around.under_plainId F.plain_max_loop _]
    show wpAny _ A.in1 (seqItems? (.ref S) >>= _) _ _ s
    refine wpAny_bind (wpAny_seqItems hS rfl ?_)
    show wpAny _ A.in1 (tryCatch (pyNext (.ref I)) _ >>= _) _ _ s
    refine wpAny_bind (wpAny_tryCatch (W.item (j + 1) s _ _ hlt hst fun v h' tk hP hst' hk' => ?_))
    obtain ⟨x1, t1, rfl⟩ := hint _ _ hP
    have hS' := hk' S _ hSw hS
    show wpAny _ A.in1 (tryCatch (holding [.int x1 t1, .int x1 t1] (richCompare .Gt (.int x1 t1) (.int x0 t0) >>= _)) _ >>= _) _ _ _
    refine wpAny_bind (wpAny_tryCatch (wpAny_holding (wpAny_bind (gt_ints ?_))))
    refine wpAny_bind (wpAny_holding (wpAny_truthy_bool ?_))
    refine wpAny_bind (wpAny_letGo (wpAny_pure ?_))
    cases hb : decide (x1 > x0) with
    | true =>
      simp only [if_true]
      refine wpAny_bind ?_
      refine wpAny_updateSeq hS' rfl (wpAny_bind (wpAny_letGo ?_))
      rw [hname]
      refine wpAny_pure ⟨plainId_quiet F.plain_max_loop _, ih (j + 1) _ x1 t1 _ (by omega) hlt (W.frame _ _ _ hst' fun b hbf o e => ?_) (Heap.get?_update_self _ hS' rfl)
        fun x t h'' tk'' hk'' => ?_⟩
      · exact (Heap.get?_update_other _ _ (fun h : S = b => hSf (by rw [h]; exact hbf))).trans e
      · exact hR x t h'' tk'' fun b o hbw hbS e => hk'' b o hbw hbS ((Heap.get?_update_other _ _ (Ne.symm hbS)).trans (hk' b o hbw e))
    | false =>
      simp only [Bool.false_eq_true, if_false]
      refine wpAny_bind (wpAny_letGo ?_)
      rw [hname]
      refine wpAny_pure ⟨plainId_quiet F.plain_max_loop _, ih (j + 1) _ x0 t0 c (by omega) hlt hst' hS' fun x t h'' tk'' hk'' => ?_⟩
      exact hR x t h'' tk'' fun b o hbw hbS e => hk'' b o hbw hbS (hk' b o hbw e)
theorem max_firstD (W : Walks prog w A.in1 I fp wr n P St) (hint : ∀ i v, P i v → ∃ x t, v = .int x t) (S : Addr) (hSf : S ∉ fp) {x0 : Int} {t0 : Tok} {c : Nat} (hst : St 0 s.heap)
    (hS : s.heap.get? S = some { cls := .type "list", dict := none, data := .seq #[] c, slots := #[] })
    (hR : ∀ x t h' tk, (∀ b o, b ∉ wr → b ≠ S → s.heap.get? b = some o → h'.get? b = some o) → R (.ok (.ret (.int x t))) { s with heap := h', toks := tk }) :
    codeAny (model prog w) A (.builtin "max.loop" ⟨[.ref I, .none, .ref S], [("default", .int x0 t0)]⟩) R s := by
  have hSw : S ∉ wr := fun h => hSf (W.sub _ h)
  have hname : (toString "max" ++ toString ".loop" : String) = "max.loop" := by decide
  refine codeAny_builtin F.entry_max_loop ?_
  rw [Around.under_plainId F.plain_max_loop _]
  show wpAny _ A.in1 (seqItems? (.ref S) >>= _) _ _ s
  refine wpAny_bind (wpAny_seqItems hS rfl ?_)
  show wpAny _ A.in1 (tryCatch (pyNext (.ref I)) _ >>= _) _ _ s
  by_cases hn : 0 < n
  · refine wpAny_bind (wpAny_tryCatch (W.item 0 s _ _ hn hst fun v h' tk hP hst' hk' => ?_))
    obtain ⟨x1, t1, rfl⟩ := hint _ _ hP
    have hS' := hk' S _ hSw hS
    show wpAny _ A.in1 (updateSeq S (fun _ => #[.int x1 t1, .int x1 t1]) >>= _) _ _ _
    refine wpAny_bind ?_
    refine wpAny_updateSeq hS' rfl ?_
    rw [hname]
    refine wpAny_pure ⟨plainId_quiet F.plain_max_loop _, max_loopD W hint S hSf _ _ 0 _ x1 t1 _ rfl hn (W.frame _ _ _ hst' fun b hbf o e => ?_) (Heap.get?_update_self _ hS' rfl) fun x t h'' tk'' hk'' => ?_⟩
    · exact (Heap.get?_update_other _ _ (fun h : S = b => hSf (by rw [h]; exact hbf))).trans e
    · exact hR x t h'' tk'' fun b o hbw hbS e => hk'' b o hbw hbS ((Heap.get?_update_other _ _ (Ne.symm hbS)).trans (hk' b o hbw e))
  · have h0 : n = 0 := by omega
    refine wpAny_bind (wpAny_tryCatch (W.done s _ _ (by rw [h0]; exact hst) fun h' tk hk' => ?_))
    show wpAny _ A.in1 (rule _ >>= _) _ _ _
    refine wpAny_bind (wpAny_rule (wpAny_pure ?_))
    exact hR x0 t0 _ tk fun b o hbw hbS e => hk' b o hbw e
theorem args_maxD (a d : Value) : argsOk "max" ⟨[a], [("default", d)]⟩ := by unfold argsOk; kernel_rfl
end
section
variable {X : Cx}
def tMaxD (K : PySem.W.Frag) (ta : TA) : TE := fun σ H Q => ta σ H fun vs H1 => ∃ (a : Addr) (ns : List Int), vs = [.ref a] ∧ SqL K H1 a (ns.map V.int) ∧ ∀ i : Int, Q (.int i) H1
theorem call_maxD (hc : X.calm = true) {pins : List (Addr × Obj)} {s : Shared} {σ : St} {H : Hp} {a : Addr} {ns : List Int} {Q : VK} {x0 : Int} {t0 : Tok} (I : Inv X pins σ H s) (hq : SqL X.K H a (ns.map V.int)) (q : ∀ i : Int, Q (.int i) H) :
    wpAny (model X.prog X.w) X.A (call (.builtin "max") [.ref a] [("default", .int x0 t0)]) (EP X pins σ Q) X.xe s := by
  have hname : (toString "max" ++ toString ".loop" : String) = "max.loop" := by decide
  obtain ⟨its, r', pl, hz⟩ := I.list hq
  have hp : a ≠ s.heap.objs.size := by
    obtain ⟨o, ho, _⟩ := pl.isList
    exact Nat.ne_of_lt (Heap.lt_size ho)
  refine call_tree_kw F.kind_max F.plain_max F.entry_max (args_maxD _ _) ?_
  show wpAny _ X.A.in1 (Builtin.Builtins.bindParams "max" ["key", "default"] 0 ⟨[], [("default", .int x0 t0)]⟩ >>= _) _ _ s
  refine wpAny_bind (wpAny_of_eq (show Builtin.Builtins.bindParams "max" ["key", "default"] 0 ⟨[], [("default", .int x0 t0)]⟩ = pure [none, some (.int x0 t0)] from by with_unfolding_all rfl) ?_)
  refine wpAny_bind (wpAny_pure ?_)
  refine wpAny_bind (wpAny_pyIter_list pl.isList ?_)
  refine wpAny_bind (wpAny_newObj_type ?_)
  have a1 : a < s.heap.objs.size := by obtain ⟨o, ho, _⟩ := pl.isList; exact Heap.lt_size ho
  rw [hname]
  refine wpAny_pure ⟨plainId_quiet F.plain_max_loop _, ?_⟩
  refine max_firstD (Walks.list (A := X.A.in1) (I.ok.hd hc) s.heap.objs.size a hp its.toArray) ?_ _ ?_ ⟨⟨_, Heap.get?_push_of_some _ (Heap.get?_push_size _ rfl), rfl, rfl⟩, pl.isList.at fun o e => Heap.get?_push_of_some _ (Heap.get?_push_of_some _ e)⟩ (Heap.get?_push_size _ rfl) ?_
  · intro i v hv
    have hv' : its[i]? = some v := by simpa using hv
    have hi : i < ns.length := by
      have := (List.getElem?_eq_some_iff.mp hv').1
      rw [← r'.length, List.length_map] at this; exact this
    obtain ⟨u, hu, ru⟩ := r'.get (i := i) (x := .int ns[i]) (by rw [List.getElem?_map, List.getElem?_eq_getElem hi]; rfl)
    rw [hv'] at hu
    cases hu
    obtain ⟨t, rfl⟩ := ru
    exact ⟨_, _, rfl⟩
  · rw [Heap.size_push]
    intro z
    rcases (by simpa using z : s.heap.objs.size + 1 = s.heap.objs.size ∨ s.heap.objs.size + 1 = a) with e | e
    · exact absurd e (Nat.succ_ne_self _)
    · exact absurd a1 (by rw [← e]; exact Nat.not_lt.mpr (Nat.le_succ _))
  · intro x t h' tk kk
    refine ⟨.int x, H, I.kept (t' := tk) fun b o e => kk b o ?_ ?_ (Heap.get?_push_of_some _ (Heap.get?_push_of_some _ e)), ⟨t, rfl⟩, q x⟩
    · intro z
      have : b = s.heap.objs.size := by simpa using z
      exact absurd (Heap.lt_size e) (by rw [this]; exact Nat.lt_irrefl _)
    · rw [Heap.size_push]
      intro z
      exact absurd (Heap.lt_size e) (by rw [z]; exact Nat.not_lt.mpr (Nat.le_succ _))
theorem pe_maxD {l : Expr} {ta : TA} {p pos p1 p2 : Pos} {x0 : Int} {j : Nat} (hc : X.calm = true) (hg : Gl X "max") (hm : X.mg "max" = none) (ha : PA X [l] ta) (hs : starEach [l] X.env = [(false, eval l X.env)] := by rfl) :
    PE X (.Call (.Name "max" p) [l] [⟨some "default", .Constant (.int x0) j p1, p2⟩] pos) (tMaxD X.K ta) := by
  intro pins s σ H Q I h
  refine wpAny_Call_Name_kw (ld_blt I hg hm (u := .builtin "max") (by decide +kernel) ?_ (by decide) (by decide))
  refine callWith_kw (thn (ha pos pins s σ H _ I h) fun us s1 ⟨vs, H1, I1, r1, q1⟩ => ?_) (by rw [hs]; rfl) (by rw [hs]; rfl) rfl rfl
  obtain ⟨a, ns, e, hq, q⟩ := q1
  subst e
  obtain ⟨u, rfl, rx⟩ := vals1 r1
  cases rx
  show wpAny _ _ (evalAll [do let v ← eval (.Constant (.int x0) j p1) X.env; standAt pos; pure v]) _ _ _
  unfold evalAll
  refine wpAny_bind (wpAny_bind (wpAny_Constant_int (wpAny_bind (wpAny_standAt (wpAny_pure ?_)))))
  unfold evalAll
  refine wpAny_bind (wpAny_holding (wpAny_pure (wpAny_pure ?_)))
  exact call_maxD hc (I1.tok _) hq q
end
end L2

set_option maxRecDepth 100000
namespace R
open PySem L2 PyProof.Rows
structure BdN (k : Nat) (q : Rat) : Prop where
  n : q.num.natAbs < 2 ^ k
  d : q.den < 2 ^ k
theorem BdN.mono {m n : Nat} {q : Rat} (h : BdN m q) (l : m ≤ n) : BdN n q := ⟨Nat.lt_of_lt_of_le h.n (pow_le_pow2 l), Nat.lt_of_lt_of_le h.d (pow_le_pow2 l)⟩
theorem Sm.bdN {q : Rat} (s : Sm q) : BdN 40 q := ⟨Nat.lt_of_le_of_lt s.n (by decide), Nat.lt_of_le_of_lt s.d (by decide)⟩
theorem BdN.mul {m n : Nat} {p q : Rat} (a : BdN m p) (b : BdN n q) : BdN (m + n) (p * q) := by
  rw [mul_divInt]
  have hb : (p.den : Int) * q.den ≠ 0 := Int.ne_of_gt (Int.mul_pos (rat_den_pos p) (rat_den_pos q))
  obtain ⟨e1, e2⟩ := divInt_le (t := p.num * q.num) hb
  rw [Int.natAbs_mul] at e1 e2
  refine ⟨Nat.lt_of_le_of_lt e1 ?_, Nat.lt_of_le_of_lt e2 ?_⟩
  · rw [Nat.pow_add]; exact Nat.mul_lt_mul'' a.n b.n
  · rw [Nat.pow_add, Int.natAbs_natCast, Int.natAbs_natCast]; exact Nat.mul_lt_mul'' a.d b.d
structure SmW (q : Rat) : Prop where
  n : q.num.natAbs < 2 ^ 42
  d : q.den < 2 ^ 40
section
variable {α β : Type}
end
def scl (s : Rat) (ws : List Int) : List Rat := ws.map fun w : Int => s * (w : Rat)
theorem scl_len (s : Rat) (ws : List Int) : (scl s ws).length = ws.length := by simp [scl]
def lcmL (qs : List Rat) : Nat := qs.foldl (fun b q => Nat.lcm b q.den) 1
theorem lcmL_snoc (qs : List Rat) (q : Rat) : lcmL (qs ++ [q]) = Nat.lcm (lcmL qs) q.den := by simp [lcmL]
theorem foldlcm_dvd : ∀ (qs : List Rat) (b m : Nat), b ∣ m → (∀ q ∈ qs, q.den ∣ m) → qs.foldl (fun b q => Nat.lcm b q.den) b ∣ m
  | [], _, _, h, _ => h
  | q :: qs, b, m, h, k => foldlcm_dvd qs _ m (Nat.lcm_dvd h (k q List.mem_cons_self)) fun r hr => k r (List.mem_cons_of_mem _ hr)
theorem lcmL_dvd {qs : List Rat} {m : Nat} (h : ∀ q ∈ qs, q.den ∣ m) : lcmL qs ∣ m := foldlcm_dvd qs 1 m (Nat.one_dvd _) h
theorem foldlcm_self : ∀ (qs : List Rat) (b : Nat), b ∣ qs.foldl (fun b q => Nat.lcm b q.den) b
  | [], _ => Nat.dvd_refl _
  | q :: qs, b => Nat.dvd_trans (Nat.dvd_lcm_left _ _) (foldlcm_self qs _)
theorem foldlcm_mem : ∀ (qs : List Rat) (b : Nat) (q : Rat), q ∈ qs → q.den ∣ qs.foldl (fun b q => Nat.lcm b q.den) b
  | r :: qs, b, q, h => by
    rcases List.mem_cons.mp h with e | e
    · subst e; exact Nat.dvd_trans (Nat.dvd_lcm_right _ _) (foldlcm_self qs _)
    · exact foldlcm_mem qs _ q e
theorem den_dvd {qs : List Rat} {q : Rat} (h : q ∈ qs) : q.den ∣ lcmL qs := foldlcm_mem qs 1 q h
def wholesOf (B : Nat) (qs : List Rat) : List Int := qs.map fun q => q.num * (B : Int).fdiv (q.den : Int)
theorem whole_eq {B : Nat} {q : Rat} (hB : 0 < B) (h : q.den ∣ B) : q = Rat.divInt (q.num * (B : Int).fdiv (q.den : Int)) B := by
  obtain ⟨e, he⟩ := h
  have hd : (q.den : Int) ≠ 0 := by have := q.den_nz; omega
  have e1 : (B : Int).fdiv (q.den : Int) = (e : Int) := by
    rw [he, Int.natCast_mul]; exact fdiv_of_mul hd
  rw [e1]
  conv => lhs; rw [← Rat.num_divInt_den q]
  rw [Rat.divInt_eq_divInt_iff hd (by omega), he, Int.natCast_mul]
  grind
end R
namespace L2
open PySem PySem.Spec PyProof.Rows
section
variable {K : PySem.W.Frag} {a b D : Addr} {xs ys : List V} {g : TG} {te : TE} {σ0 : St} {H0 : Hp} {Q : VK}
theorem cw_zip (xs ys : List V) (Pv : Nat → St → Hp → Prop) (h0 : Pv 0 σ0 H0) (hl : ∀ i σ H, Pv i σ H → SqL K H a xs ∧ SqL K H b ys)
    (hs : ∀ i x y σ H p, xs[i]? = some x → ys[i]? = some y → Pv i σ H → H p = none → g (.ref p) σ (upd H p (.tup [x, y])) fun σ4 H4 => te σ4 H4 fun v H5 => CompN D (min xs.length ys.length) Pv i σ4 v H5)
    (hd : ∀ σ H, Pv (min xs.length ys.length) σ H → Q (.ref D) H) : CompW (Itz K a b) D σ0 H0 g te Q := by
  refine ⟨fun i m σ H => m = min xs.length ys.length - i ∧ i ≤ min xs.length ys.length ∧ Pv i σ H, ⟨_, rfl, Nat.zero_le _, h0⟩, ?_⟩
  rintro i m σ H ⟨rfl, hi, p⟩
  obtain ⟨q, q'⟩ := hl i σ H p
  by_cases hlt : i < min xs.length ys.length
  · have h1 : i < xs.length := by omega
    have h2 : i < ys.length := by omega
    refine .inr ⟨⟨xs, ys, xs[i], ys[i], q, q', List.getElem?_eq_getElem h1, List.getElem?_eq_getElem h2⟩, ?_⟩
    intro v H3 hy
    obtain ⟨x, y, r, e1, e2, hr, rfl, rfl⟩ := hy xs ys q q'
    exact hs i x y σ _ r e1 e2 p hr
  · have e : i = min xs.length ys.length := by omega
    subst e
    exact .inl ⟨⟨xs, ys, q, q', by omega⟩, hd σ H p⟩
theorem cw_enum (xs : List V) (Pv : Nat → St → Hp → Prop) (h0 : Pv 0 σ0 H0) (hl : ∀ i σ H, Pv i σ H → SqL K H a xs)
    (hs : ∀ i x σ H p, xs[i]? = some x → Pv i σ H → H p = none → g (.ref p) σ (upd H p (.tup [.int i, x])) fun σ4 H4 => te σ4 H4 fun v H5 => CompN D xs.length Pv i σ4 v H5)
    (hd : ∀ σ H, Pv xs.length σ H → Q (.ref D) H) : CompW (Ite K a) D σ0 H0 g te Q := by
  refine ⟨fun i m σ H => m = xs.length - i ∧ i ≤ xs.length ∧ Pv i σ H, ⟨_, rfl, Nat.zero_le _, h0⟩, ?_⟩
  rintro i m σ H ⟨rfl, hi, p⟩
  have q := hl i σ H p
  by_cases hlt : i < xs.length
  · refine .inr ⟨⟨xs, xs[i], q, List.getElem?_eq_getElem hlt⟩, ?_⟩
    intro x H3 hy
    obtain ⟨y, r, hy1, hr, rfl, rfl⟩ := hy xs q
    exact hs i y σ _ r hy1 p hr
  · have e : i = xs.length := by omega
    subst e
    exact .inl ⟨⟨xs, q, Nat.le_refl _⟩, hd σ H p⟩
theorem for_enum {tb : TS} {E : Ends} {σ : St} {H : Hp} (xs : List V) (Pv : Nat → St → Hp → Prop) (h0 : Pv 0 σ H) (hl : ∀ i σ H, Pv i σ H → SqL K H a xs)
    (hs : ∀ i x σ H p, xs[i]? = some x → Pv i σ H → H p = none → g (.ref p) σ (upd H p (.tup [.int i, x])) fun σ2 H2 => tb { E with nx := Pv (i + 1), ct := Pv (i + 1), bk := E.nx } σ2 H2) (hd : ∀ σ H, Pv xs.length σ H → E.nx σ H) :
    ∃ W : Nat → Nat → St → Hp → Prop, (∃ m, W 0 m σ H) ∧ ∀ i m σ H, W i m σ H →
      ((Ite K a).stop i H ∧ E.nx σ H) ∨ ((Ite K a).go i H ∧ ∃ N : St → Hp → Prop, (∀ σ' H', N σ' H' → ∃ m', m' < m ∧ W (i + 1) m' σ' H') ∧ ∀ x H', (Ite K a).yld i H x H' → g x σ H' fun σ2 H2 => tb { E with nx := N, ct := N, bk := E.nx } σ2 H2) := by
  refine ⟨fun i m σ H => m = xs.length - i ∧ i ≤ xs.length ∧ Pv i σ H, ⟨_, rfl, Nat.zero_le _, h0⟩, ?_⟩
  rintro i m σ H ⟨rfl, hi, p⟩
  have q := hl i σ H p
  by_cases hlt : i < xs.length
  · refine .inr ⟨⟨xs, xs[i], q, List.getElem?_eq_getElem hlt⟩, Pv (i + 1), fun σ' H' n => ⟨_, by omega, rfl, hlt, n⟩, ?_⟩
    intro x H3 hy
    obtain ⟨y, r, hy1, hr, rfl, rfl⟩ := hy xs q
    exact hs i y σ _ r hy1 p hr
  · have e : i = xs.length := by omega
    subst e
    exact .inl ⟨⟨xs, q, Nat.le_refl _⟩, hd σ H p⟩
end
section
variable {X : Cx}
end
end L2

set_option maxRecDepth 100000
namespace L2
open PySem PySem.Spec PyProof.Rows
theorem ns_nocell {h : Heap} {a : Addr} {m : Str → Option Value} {o : Obj} (n : h.Ns a m) (e : h.get? a = some o) (v : Option Value) (z : o.data = .cell v) : False := by
  obtain ⟨o', es, ep, e', r⟩ := n
  rw [e] at e'
  cases e'
  have d := r.1
  rw [d] at z; cases z
section
variable {X : Cx}
theorem ps_setComp {elt tg iter : Expr} {scope : Scope} {pos spos py : Pos} {y : Str} {i₀ : Nat} {cl : List (Str × Addr)} {Nc : List Str} {caps : List (Option Nat)} {wi : TI} {g : TG} {te : TE} (hN : X.N.Nodup) (hi₀ : X.N[i₀]? = some y) (hx : Loc X.env.scope y) (hc : X.calm = true) (cp : Caps X scope cl Nc caps) (hi : PI X tg iter wi)
    (hg : ∀ C s₂ H₂ fp pins, PG (X.block scope cl C Nc s₂ H₂ fp pins) tg g) (he : ∀ C s₂ H₂ fp pins, PE (X.block scope cl C Nc s₂ H₂ fp pins) elt te) (hs : ∀ x, foldedSetIterable iter X.env x = pure x := by intro _; rfl) (hsw : swapsWith (.ListComp elt [⟨tg, iter, [], 0⟩] scope pos) (some (.Name y py)) spos.line X.env = pure true := by rfl)
    (hf : X.fn y = true ∨ X.env.scope.names.lookup y = some .local := by first | exact .inl rfl | exact .inr rfl | assumption) :
    PS X (.Assign [.Name y py] (.ListComp elt [⟨tg, iter, [], 0⟩] scope pos) spos) (tAsg (tComp wi caps g te) (gName i₀)) := by
  intro pins s σ H DD I h
  rw [exec_Assign_Name_used _ _ _ _ hsw]
  refine wpAny_bind (wpAny_standAt (wpAny_bind ?_))
  show wpAny _ X.A (do let _ ← comprehension (.ListComp elt [⟨tg, iter, [], 0⟩] scope pos) scope X.env _ (newList []) false (eval iter X.env) (some (assign (.Name y py) X.env))) _ _ s
  refine wpAny_bind (wpAny_mono (wpAny_comprehension_free (use := some (assign (.Name y py) X.env)) (Q := fun _ s' => SP X pins DD .next s') rfl hs cp.clos cp.kind cp.names ?_) (fun _ s' hq => wpAny_pure (wpAny_pure hq)) fun _ _ e => e)
  refine thn (hi pins s σ H _ I h) fun v s1 h1 => thn h1 fun itv s2 h2 => ?_
  obtain ⟨it, fp, tn, J, H2, e, I2, T, st2, f2, hW⟩ := h2
  subst e
  refine wpAny_newObj_type ?_ (by show 0 ≤ sizeLine; exact Nat.zero_le _)
  refine wpAny_newFunctionEnv cp.nocell (by intro y hy; simp at hy) (fun h4 hns hsb => ?_) cp.kind
  dsimp only at hns hsb ⊢
  generalize hH3 : s2.heap.push { cls := .type "list", dict := none, data := .seq ([] : List Value).toArray } = H3 at hns hsb ⊢
  have hCe : H3.objs.size = s2.heap.objs.size + 1 := by rw [← hH3, Heap.size_push]
  have below : ∀ b o, s2.heap.get? b = some o → b ≠ H3.objs.size := fun b o e => by rw [hCe]; exact Nat.ne_of_lt (Nat.lt_succ_of_lt (Heap.lt_size e))
  have old : ∀ b o, s2.heap.get? b = some o → h4.get? b = some o := fun b o e => hsb.extBut b o (below b o e) (Heap.get?_push_of_some _ (hH3 ▸ Heap.get?_push_of_some _ e))
  have hD : h4.get? s2.heap.objs.size = some { cls := .type "list", dict := none, data := .seq ([] : List Value).toArray } :=
    hsb.extBut _ _ (by rw [hCe]; exact Nat.ne_of_lt (Nat.lt_succ_self _)) (Heap.get?_push_of_some _ (hH3 ▸ Heap.get?_push_size _ rfl))
  have hDn : H2 s2.heap.objs.size = none := I2.fresh
  have hCn : H2 H3.objs.size = none := I2.hok.fresh (by rw [hCe]; exact Nat.le_succ _)
  have hCs : s2.heap.objs.size ≤ H3.objs.size := by rw [hCe]; exact Nat.le_succ _
  have hDC : s2.heap.objs.size ≠ H3.objs.size := by rw [hCe]; exact Nat.ne_of_lt (Nat.lt_succ_self _)
  have fpl : ∀ b ∈ fp, ∃ o, s2.heap.get? b = some o := fun b hb => let ⟨o, e, _⟩ := T.obj _ _ st2 b hb; ⟨o, e⟩
  have fpC : ∀ b ∈ fp, b ≠ H3.objs.size := fun b hb => let ⟨o, e⟩ := fpl b hb; below b o e
  have fpD : ∀ b ∈ fp, b ≠ s2.heap.objs.size := fun b hb => let ⟨o, e⟩ := fpl b hb; Nat.ne_of_lt (Heap.lt_size e)
  have stkN : ∀ b, b ≠ X.env.locals → b ∉ X.fs → b ∉ frs X.stack := fun b h1 h2 z => (List.mem_cons.mp (I2.stkSub b z)).elim h1 h2
  obtain ⟨W, ⟨m0, w0⟩, turn⟩ := hW s2.heap.objs.size hDn
  have okB : (X.block scope cl H3.objs.size Nc s2 H2 fp pins).Ok := by
    refine ⟨I2.ok.mod, ?_, I2.ok.glob, I2.ok.blt, hCs, fun x y c h1 h2 => I2.ok.inj x y c (cp.sub x c h1) (cp.sub y c h2), fun x hx => cp.has x hx, fun x c h => (by cases h), I2.ok.hd, I2.ok.frames, .inl rfl, fun b hb => ⟨fpC b hb, fun x c h => (f2 b hb).2.2.2.2.1 x c (cp.sub x c h)⟩, I2.bs, Nat.le_trans I2.ok.bsz I2.sz, fun b o e hb => ?_, fun b hb => stkN b (f2 b hb).2.1 (f2 b hb).2.2.1, I2.stack, I2.stkFree⟩
    · exact cp.kind
    · rcases (f2 b hb).2.2.2.1 with z | z
      · exact I2.ok.noex b o e z
      · exact absurd (Nat.lt_of_lt_of_le (Heap.lt_size e) (Nat.le_trans I2.ok.bsz z)) (Nat.lt_irrefl _)
  have hokB : HOk X.prog X.w (upd H2 s2.heap.objs.size (.lst [])) h4 := I2.hok.laid old (Nat.le_refl _) ⟨Nat.zero_le _, [], _, .nil, hD⟩
  have IB : Inv (X.block scope cl H3.objs.size Nc s2 H2 fp pins) [] (capSt caps σ) (upd H2 s2.heap.objs.size (.lst [])) { s2 with heap := h4, toks := s2.toks + ([] : List (Str × Value)).length } := by
    refine ⟨okB, rfl, I2.bare, Un.laid old (Nat.le_refl _) hDn, ⟨_, hns, fun i x v e1 e2 e3 => ?_⟩, fun x c e => ?_, (show upd H2 s2.heap.objs.size (.lst []) H3.objs.size = none by rw [upd_ne (Ne.symm hDC)]; exact hCn), fun x c e => ?_, fun p hp => ?_, hokB, ?_⟩
    · unfold capSt at e2
      rw [List.getElem?_map] at e2
      cases hcap : caps[i]? with
      | none => rw [hcap] at e2; cases e2
      | some o =>
        rw [hcap] at e2
        cases o with
        | none => cases e2
        | some j =>
          have hj : σ[j]? = some (some v) := by
            have e2' : (σ[j]?).join = some v := Option.some.inj e2
            cases q : σ[j]? with
            | none => rw [q] at e2'; cases e2'
            | some z => rw [q] at e2'; exact congrArg some e2'
          obtain ⟨n1, n2, n3, n4⟩ := cp.cap i j x hcap e1
          obtain ⟨m, hm, hl⟩ := I2.loc
          obtain ⟨u, r, q⟩ := hl j x v n1 hj n2
          rcases q with ⟨k, _⟩ | ⟨k, c, ec, z⟩
          · exact absurd k n3
          · obtain ⟨c', ec'⟩ := cp.has x n4
            have := cp.sub x c' ec'
            rw [ec] at this; cases this
            obtain ⟨oc, ho, hd⟩ := z
            exact ⟨u, r, .inr ⟨n4, c, ec', oc, old _ _ ho, hd⟩⟩
    · obtain ⟨v, oc, ho, hd⟩ := I2.cell x c (cp.sub x c e)
      exact ⟨v, oc, old _ _ ho, hd⟩
    · obtain ⟨v, oc, ho, hd⟩ := I2.cell x c (cp.sub x c e)
      rw [upd_ne (Nat.ne_of_lt (Heap.lt_size ho))]
      exact I2.freeC x c (cp.sub x c e)
    · have hp' : p ∈ X.pn ++ pins := by simpa using hp
      obtain ⟨e1, e2, e3, e4, e5⟩ := I2.pin p hp'
      exact ⟨old _ _ e1, by rw [upd_ne (Nat.ne_of_lt (Heap.lt_size e1))]; exact e2, below _ _ e1, stkN _ e3 e4, e5⟩
    · show (capSt caps σ).length = Nc.length
      unfold capSt
      rw [List.length_map]; exact cp.len
  have stat : ∀ {H' : Hp}, (∀ b ∈ fp, H' b = none) → ∀ b ∈ fp, FpOk (X.block scope cl H3.objs.size Nc s2 H2 fp pins) [] H' b := fun hn b hb =>
    ⟨hn b hb, fpC b hb, stkN b (f2 b hb).2.1 (f2 b hb).2.2.1, .inl hb, fun x c h => (f2 b hb).2.2.2.2.1 x c (cp.sub x c h), fun p hp => (f2 b hb).2.2.2.2.2 p (by simpa using hp)⟩
  have loop : ∀ s5 : Shared, s5 = { s2 with heap := h4, toks := s2.toks + ([] : List (Str × Value)).length } →
      codeAny (model X.prog X.w) X.A (.compLoop (.ListComp elt [⟨tg, iter, [], 0⟩] scope pos) 0 (.ref it) (.ref s2.heap.objs.size) (compEnvC scope cl H3.objs.size X.env))
        (compPost (model X.prog X.w) X.A X.xe (some (assign (.Name y py) X.env)) (fun _ s' => SP X pins DD .next s') (.ref s2.heap.objs.size) H3.objs.size) s5 := by
    rintro s5 rfl
    refine comp_loop (fun n s' => ∃ i σ' H', Inv (X.block scope cl H3.objs.size Nc s2 H2 fp pins) [] σ' H' s' ∧ tn i s'.heap ∧ (∀ b ∈ fp, H' b = none) ∧ W i n σ' H') ?_ m0 ⟨0, _, _, IB, T.keep _ _ _ st2 fun b hb o e => old b o e, fun b hb => by rw [upd_ne (fpD b hb)]; exact (f2 b hb).1, w0⟩
    rintro n s6 ⟨i, σ6, H6, I6, st6, fr6, w6⟩
    rcases turn i n σ6 H6 w6 with ⟨stop, qn⟩ | ⟨go, step⟩
    · refine thn (T.done (X.block scope cl H3.objs.size Nc s2 H2 fp pins) rfl rfl rfl hc i [] s6 σ6 H6 _ I6 (stat fr6) st6 stop) fun r s7 ⟨hr, I7⟩ => ?_
      subst hr
      obtain ⟨m7, hn7, _⟩ := id I7.loc
      have Io : Inv X pins σ H6 s7 := I2.sameC (h'' := s7.heap) f2 I7.os I7.bare I7.base I7.hok hCs I7.free ⟨rfl, fun _ _ => rfl⟩
      have fC : FpOk X pins H6 H3.objs.size := I2.fpOk hCs I7.free
      have fC' : ∀ b ∈ [H3.objs.size], FpOk X pins H6 b := fun b hb => by rw [List.mem_singleton.mp hb]; exact fC
      obtain ⟨oC, esC, epC, hoC, restC⟩ := id hn7
      have obC : ∀ b ∈ [H3.objs.size], ∃ o, s7.heap.get? b = some o ∧ ∀ v, o.data ≠ .cell v := fun b hb => by
        rw [List.mem_singleton.mp hb]
        exact ⟨oC, hoC, fun v z => ns_nocell hn7 hoC v z⟩
      have Ip := Io.pinned fC' obC
      show wpAny (model X.prog X.w) X.A (assign (.Name y py) X.env (.ref s2.heap.objs.size)) _ _ s7
      refine thn (pg_name (pos := py) hN hi₀ hx hf _ s7 σ H6 (.ref s2.heap.objs.size) (.ref s2.heap.objs.size) DD.nx Ip rfl qn) fun _ s9 ⟨σ9, H9, I9, q9⟩ => ?_
      have keepC := (I9.pin (H3.objs.size, oC) (List.mem_append_right _ (List.mem_append_right _ (mem_pinsAt (by simp) hoC)))).1
      have H9C := (I9.pin (H3.objs.size, oC) (List.mem_append_right _ (List.mem_append_right _ (mem_pinsAt (by simp) hoC)))).2.1
      refine ⟨m7, hn7.at' fun o e => by rw [hoC] at e; cases e; exact keepC, fun h' sb => ?_⟩
      obtain ⟨_, g1, g2, g3, g4, g5⟩ := fC
      exact ⟨σ9, H9, I9.unpinned.turned (t' := s9.toks) (fun b o hb e => (sb.2 b hb).trans e) H9C g1 g3 g4 g5, q9⟩
    · refine thn (T.item (X.block scope cl H3.objs.size Nc s2 H2 fp pins) rfl rfl rfl hc i [] s6 σ6 H6 _ I6 (stat fr6) st6 go) fun r s7 ⟨u, hr, h7⟩ => ?_
      subst hr
      refine thn h7 fun _ s8 ⟨x, H8, I8, r8, y8, st8, fr8⟩ => ?_
      have I8' := I8.pinned (stat fr8) (T.obj _ _ st8)
      refine thn (hg _ _ _ _ _ _ s8 σ6 H8 x u _ I8' r8 (step x H8 y8)) fun _ s9 ⟨σ9, H9, I9, q9⟩ => ?_
      refine thn (he _ _ _ _ _ _ s9 σ9 H9 _ I9 q9) fun u10 s10 ⟨v10, H10, I10, r10, ys, hys, hlen, m', hm', w'⟩ => ?_
      refine thn (mt_append _ s10 σ9 H10 (.ref s2.heap.objs.size) [v10] (.ref s2.heap.objs.size) [u10] (fun _ H11 => H11 = upd H10 s2.heap.objs.size (.lst (ys ++ [v10]))) I10 rfl (.cons r10 .nil) ⟨_, ys, v10, rfl, rfl, hys, hlen, rfl⟩) fun _ s11 ⟨_, H11, I11, _, hH11⟩ => ?_
      subst hH11
      refine ⟨m', hm', i + 1, σ9, _, I11.unpinned, T.keep _ _ _ st8 fun b hb o e => (I11.pin (b, o) (List.mem_append_right _ (List.mem_append_right _ (mem_pinsAt hb e)))).1, fun b hb => ?_, w'⟩
      obtain ⟨o, e, d⟩ := T.obj _ _ st8 b hb
      exact (I11.pin (b, o) (List.mem_append_right _ (List.mem_append_right _ (mem_pinsAt hb e)))).2.1
  exact codeAny_compStart_list (loop _ rfl) (T.self _ 0 _ _ _ (T.keep _ _ _ st2 fun b hb o e => old b o e) (loop _ rfl))
end
end L2

set_option maxRecDepth 100000
namespace L2
open PySem PySem.Spec PyProof.Rows

section
variable {X : Cx}
end
end L2

set_option maxRecDepth 100000
namespace L2
open PySem PySem.Spec PyProof.Rows
section
variable {X : Cx}
def ipM (c : Int → Int → Prop) (f : Int → Int → Int) : TIp := fun x y H Q => ∃ i j, x = .int i ∧ y = .int j ∧ c i j ∧ Q (.int (f i j)) H
theorem ip_mul : PIp X .Mult (ipM IntMulOk fun i j => i * j) := by
  intro pins s σ H x y v u Q I r1 r2 h
  obtain ⟨i, j, e1, e2, hc, q⟩ := h
  subst e1; subst e2
  obtain ⟨t, rfl⟩ := r1
  obtain ⟨t', rfl⟩ := r2
  exact imul_int ⟨.int _, H, I.tok _, ⟨_, rfl⟩, q⟩ hc
end
section
variable {X : Cx}
end
section
variable {X : Cx} {tg : Expr}
end
end L2

set_option maxRecDepth 100000
namespace L2
open PySem PySem.Spec PyProof.Rows
theorem PS.nox {X : Cx} {st : Stmt} {t : TS} (h : PS X.nox st t) : PS X st t := fun pins s σ H D I hw =>
  wpAny_mono (h pins s σ H D (I.wish _) hw) (fun _ _ q => q.unwish) fun _ _ z => False.elim z
end L2

set_option maxRecDepth 100000
namespace L2
open PySem PySem.Spec PyProof.Rows
section
variable {X : Cx} {pins : List (Addr × Obj)} {σ : St} {H : Hp} {s : Shared}
end
section
variable {X : Cx}
end
end L2

set_option maxRecDepth 100000
namespace L2
open PySem PySem.Spec PyProof.Rows
section
variable {X : Cx}
end
def rLst (K : PySem.W.Frag) : List V → Hp → VK → Prop := fun xs H Q => ∃ p ys, xs = [.ref p] ∧ (SqL K H p ys ∨ SqT K H p ys) ∧ ∀ l, H l = none → Q (.ref l) (upd H l (.lst ys))
end L2

set_option maxRecDepth 100000
namespace L2
open PySem PySem.Spec PyProof.Rows

theorem wpAny_newFunctionEnv_own {M : Model} {A : Around} {E : Value → Shared → Prop} {s : Shared} {scope : Scope} {globals : Addr} {cl : List (Str × Addr)} {qual : Str} {func : Option Addr} {code : Value} {outer : Env} {Q : Env → Shared → Prop}
    (hQ : Q { scope, locals := s.heap.objs.size, globals, cells := cellsFrom (s.heap.objs.size + 1) scope.names cl, qual, func, code := outer.code, frame := outer.frame, builtins := outer.builtins }
      { s with heap := pushCells (s.heap.push { cls := .type "dict", data := .dict #[] }) scope.names }) :
    wpAny M A (newFunctionEnv scope globals cl [] qual func code (some outer)) Q E s := by
  simp only [newFunctionEnv, Option.isSome_some, if_true]
  refine wpAny_bind (wpAny_alloc ?_)
  refine wpAny_bind (wpAny_layCells _ (fun name kind cells => by cases hkc : kind == NameKind.cell <;> simp [hkc]) _ _ _ _ ?_)
  rw [show ({ s with heap := s.heap.push { cls := .type "dict", data := .dict #[] } } : Shared).heap.objs.size = s.heap.objs.size + 1 from Heap.size_push ..]
  rw [List.forIn_nil]
  exact wpAny_bind (wpAny_pure (wpAny_pure hQ))

structure OwnCells (h h' : Heap) (names : List (Str × NameKind)) (acc cs : List (Str × Addr)) : Prop where
  cell : ∀ x c, cs.lookup x = some c → ∃ v, h'.IsCell c v
  inj : ∀ x y c, cs.lookup x = some c → cs.lookup y = some c → x = y
  old : ∀ x c, cs.lookup x = some c → acc.lookup x = some c ∨ h.objs.size ≤ c
  fresh : ∀ x, (x, NameKind.cell) ∈ names → ∀ c, cs.lookup x = some c → h.objs.size ≤ c
theorem look_cons {x name : Str} {a c : Addr} {acc : List (Str × Addr)} (h : ((name, a) :: acc).lookup x = some c) : (x = name ∧ c = a) ∨ (x ≠ name ∧ acc.lookup x = some c) := by
  rw [List.lookup_cons] at h
  by_cases e : x = name
  · subst e
    simp at h
    exact .inl ⟨rfl, h.symm⟩
  · have : (x == name) = false := by simpa using e
    rw [this] at h
    exact .inr ⟨e, h⟩
theorem cells_own : ∀ (names : List (Str × NameKind)) (h : Heap) (acc : List (Str × Addr)), (∀ x c, acc.lookup x = some c → ∃ v, h.IsCell c v) → (∀ x y c, acc.lookup x = some c → acc.lookup y = some c → x = y) →
    OwnCells h (pushCells h names) names acc (cellsFrom h.objs.size names acc)
  | [], h, acc, hc, hi => ⟨hc, hi, fun _ _ e => .inl e, fun _ hm => by cases hm⟩
  | (name, kind) :: r, h, acc, hc, hi => by
    unfold pushCells cellsFrom
    split
    · have ih := cells_own r (h.push { cls := .type "cell", data := .cell none }) ((name, h.objs.size) :: acc)
        (fun x c e => by
          rcases look_cons e with ⟨_, e2⟩ | ⟨_, e2⟩
          · subst e2; exact ⟨none, _, Heap.get?_push_size _ rfl, rfl⟩
          · obtain ⟨v, z⟩ := hc x c e2
            exact ⟨v, z.keeps fun b o e => Heap.get?_push_of_some _ e⟩)
        (fun x y c e1 e2 => by
          rcases look_cons e1 with ⟨a1, a2⟩ | ⟨a1, a2⟩ <;> rcases look_cons e2 with ⟨b1, b2⟩ | ⟨b1, b2⟩
          · rw [a1, b1]
          · obtain ⟨v, z⟩ := hc y c b2
            exact absurd z.lt (by rw [a2]; exact Nat.lt_irrefl _)
          · obtain ⟨v, z⟩ := hc x c a2
            exact absurd z.lt (by rw [b2]; exact Nat.lt_irrefl _)
          · exact hi x y c a2 b2)
      rw [Heap.size_push] at ih
      refine ⟨ih.cell, ih.inj, fun x c e => ?_, fun x hm c e => ?_⟩
      · rcases ih.old x c e with z | z
        · rcases look_cons z with ⟨_, e2⟩ | ⟨_, e2⟩
          · exact .inr (by rw [e2]; exact Nat.le_refl _)
          · exact .inl e2
        · rw [Heap.size_push] at z
          exact .inr (Nat.le_of_succ_le z)
      · rcases List.mem_cons.mp hm with z | z
        · cases z
          rcases ih.old _ c e with z | z
          · rcases look_cons z with ⟨_, e2⟩ | ⟨e1, _⟩
            · rw [e2]; exact Nat.le_refl _
            · exact absurd rfl e1
          · rw [Heap.size_push] at z
            exact Nat.le_of_succ_le z
        · have := ih.fresh x z c e
          rw [Heap.size_push] at this
          exact Nat.le_of_succ_le this
    · rename_i hk
      have ih := cells_own r h acc hc hi
      refine ⟨ih.cell, ih.inj, ih.old, fun x hm c e => ?_⟩
      rcases List.mem_cons.mp hm with z | z
      · cases z; exact absurd rfl hk
      · exact ih.fresh x z c e
theorem cellsFrom_no {x : Str} : ∀ (names : List (Str × NameKind)) (n : Nat) (acc : List (Str × Addr)), (x, NameKind.cell) ∉ names → (cellsFrom n names acc).lookup x = acc.lookup x
  | [], _, _, _ => rfl
  | (name, kind) :: r, n, acc, h => by
    unfold cellsFrom
    have hr : (x, NameKind.cell) ∉ r := fun z => h (List.mem_cons_of_mem _ z)
    split
    · rename_i hk
      rw [cellsFrom_no r _ _ hr, List.lookup_cons]
      have : (x == name) = false := by
        refine beq_eq_false_iff_ne.mpr fun e => h ?_
        subst e
        rw [← beq_iff_eq.mp hk]
        exact List.mem_cons_self
      rw [this]
    · exact cellsFrom_no r _ _ hr
theorem cellsFrom_yes {x : Str} : ∀ (names : List (Str × NameKind)) (n : Nat) (acc : List (Str × Addr)), ((x, NameKind.cell) ∈ names ∨ ∃ c, acc.lookup x = some c) → ∃ c, (cellsFrom n names acc).lookup x = some c
  | [], _, _, h => h.elim (fun z => by cases z) id
  | (name, kind) :: r, n, acc, h => by
    unfold cellsFrom
    have up : (∃ c, acc.lookup x = some c) → ∃ c, ((name, n) :: acc).lookup x = some c := fun ⟨c, e⟩ => by
      rw [List.lookup_cons]
      split
      · exact ⟨_, rfl⟩
      · exact ⟨c, e⟩
    split
    · refine cellsFrom_yes r _ _ ?_
      rcases h with z | z
      · rcases List.mem_cons.mp z with z | z
        · cases z
          exact .inr ⟨n, by simp⟩
        · exact .inl z
      · exact .inr (up z)
    · rename_i hk
      refine cellsFrom_yes r _ _ ?_
      rcases h with z | z
      · rcases List.mem_cons.mp z with z | z
        · cases z; exact absurd rfl hk
        · exact .inl z
      · exact .inr z

def ownN (scope : Scope) (x : Str) : Bool := scope.names.any fun y => y.1 == x && y.2 == .cell
theorem ownName {scope : Scope} {x : Str} (h : ownN scope x = true) : (x, NameKind.cell) ∈ scope.names := by
  unfold ownN at h
  obtain ⟨⟨a, k⟩, hm, hh⟩ := List.any_eq_true.mp h
  simp only [Bool.and_eq_true, beq_iff_eq] at hh
  obtain ⟨rfl, rfl⟩ := hh
  exact hm
abbrev Cx.blockC (X : Cx) (scope : Scope) (cl : List (Str × Addr)) (C : Addr) (Nc : List Str) (s₂ : Shared) (H₂ : Hp) (fp : List Addr) (pins : List (Addr × Obj)) : Cx :=
  { X with N := Nc, s₀ := s₂, H₀ := H₂, env := compEnvC scope (cellsFrom (C + 1) scope.names cl) C X.env, outer := X.stack, ex := fp, fn := ownN scope, pn := X.pn ++ pins, xe := fun _ _ => False }
structure CapsC (X : Cx) (scope : Scope) (cl : List (Str × Addr)) (Nc : List Str) (caps : List (Option Nat)) : Prop where
  clos : closureFor scope X.env = pure cl
  sub : ∀ x c, cl.lookup x = some c → X.env.cells.lookup x = some c
  has : ∀ n x, (relabel scope X.env).names.lookup x = some .cell ∨ (relabel scope X.env).names.lookup x = some .free → ∃ c, (cellsFrom n scope.names cl).lookup x = some c
  kind : scope.kind = .function
  names : ∀ x ∈ scope.names, x.2 = .local → scope.names.lookup x.1 = some .local
  len : caps.length = Nc.length
  cap : ∀ (i j : Nat) (x : Str), caps[i]? = some (some j) → Nc[i]? = some x → X.N[j]? = some x ∧ Vis X.env.scope x ∧ X.env.kindOf x ≠ some .local ∧ ((relabel scope X.env).names.lookup x = some .cell ∨ (relabel scope X.env).names.lookup x = some .free) ∧
    (∃ c, cl.lookup x = some c) ∧ ∀ n c, cl.lookup x = some c → (cellsFrom n scope.names cl).lookup x = some c
def capsOkC (scope osc : Scope) (N ks Nc : List Str) (caps : List (Option Nat)) : Bool :=
  ((relabelS scope osc).all fun y => !(y.2 == .cell || y.2 == .free) || ks.contains y.1 || ownN scope y.1) && scope.kind == .function &&
  (scope.names.all fun y => y.2 != .local || scope.names.lookup y.1 == some .local) && caps.length == Nc.length &&
  ((caps.zip Nc).all fun p => match p.1 with
    | none => true
    | some j => N[j]? == some p.2 && isCF (osc.names.lookup p.2) && isCF ((relabelS scope osc).lookup p.2) && ks.contains p.2 && !ownN scope p.2)
theorem CapsC.of {X : Cx} {scope osc : Scope} {cl : List (Str × Addr)} {N ks Nc : List Str} {caps : List (Option Nat)} (clos : closureFor scope X.env = pure cl) (hN : X.N = N) (hosc : X.env.scope = osc) (hks : cl.map (·.1) = ks)
    (sub : ∀ x c, cl.lookup x = some c → X.env.cells.lookup x = some c) (ok : capsOkC scope osc N ks Nc caps = true) : CapsC X scope cl Nc caps := by
  unfold capsOkC at ok
  simp only [Bool.and_eq_true, List.all_eq_true, beq_iff_eq, Bool.or_eq_true, Bool.not_eq_true', bne_iff_ne, ne_eq] at ok
  obtain ⟨⟨⟨⟨o1, o3⟩, o4⟩, o5⟩, o6⟩ := ok
  have er : (relabel scope X.env).names = relabelS scope osc := by subst hosc; rfl
  have kof : ∀ x, X.env.kindOf x = osc.names.lookup x := fun x => by subst hosc; rfl
  refine ⟨clos, sub, fun n x h => ?_, o3, fun x hx hl => ?_, o5, fun i j x h1 h2 => ?_⟩
  · rw [er] at h
    have key : ∀ k, (relabelS scope osc).lookup x = some k → (k = .cell ∨ k = .free) → ∃ c, (cellsFrom n scope.names cl).lookup x = some c := fun k hk hcf => by
      refine cellsFrom_yes _ _ _ ?_
      rcases o1 (x, k) (lookup_mem hk) with (z | z) | z
      · rcases hcf with rfl | rfl <;> simp at z
      · refine .inr (lookup_of_key ?_)
        rw [hks]; simpa using z
      · exact .inl (ownName z)
    rcases h with h | h
    · exact key _ h (.inl rfl)
    · exact key _ h (.inr rfl)
  · rcases o4 x hx with z | z
    · exact absurd hl z
    · exact z
  · have hm : (some j, x) ∈ caps.zip Nc := by
      have : (caps.zip Nc)[i]? = some (some j, x) := by
        rw [List.getElem?_zip_eq_some]; exact ⟨h1, h2⟩
      exact List.mem_of_getElem? this
    have z := o6 _ hm
    simp only [Bool.and_eq_true, beq_iff_eq, Bool.not_eq_true'] at z
    obtain ⟨⟨⟨⟨z1, z2⟩, z3⟩, z4⟩, z5⟩ := z
    have c2 := isCF_or z2
    have c3 := isCF_or z3
    refine ⟨by rw [hN]; exact z1, ?_, ?_, ?_, lookup_of_key (by rw [hks]; simpa using z4), fun n c e => ?_⟩
    · rw [hosc]
      rcases c2 with c | c
      · exact .inr (.inl c)
      · exact .inr (.inr c)
    · rw [kof]
      rcases c2 with c | c <;> rw [c] <;> decide
    · rw [er]; exact c3
    · rw [cellsFrom_no _ _ _ fun hm => ?_]
      · exact e
      · have : ownN scope x = true := List.any_eq_true.mpr ⟨_, hm, by simp⟩
        rw [z5] at this; cases this
section
variable {X : Cx}
theorem pe_compC {elt tg iter : Expr} {scope : Scope} {pos : Pos} {cl : List (Str × Addr)} {Nc : List Str} {caps : List (Option Nat)} {wi : TI} {g : TG} {te : TE} (hc : X.calm = true) (cp : CapsC X scope cl Nc caps) (hi : PI X tg iter wi)
    (hg : ∀ C s₂ H₂ fp pins, PG (X.blockC scope cl C Nc s₂ H₂ fp pins) tg g) (he : ∀ C s₂ H₂ fp pins, PE (X.blockC scope cl C Nc s₂ H₂ fp pins) elt te) (hs : ∀ x, foldedSetIterable iter X.env x = pure x := by intro _; rfl) :
    PE X (.ListComp elt [⟨tg, iter, [], 0⟩] scope pos) (tComp wi caps g te) := by
  intro pins s σ H Q I h
  rw [eval_ListComp]
  refine wpAny_comprehension_free (use := none) rfl hs cp.clos cp.kind cp.names ?_
  refine thn (hi pins s σ H _ I h) fun v s1 h1 => thn h1 fun itv s2 h2 => ?_
  obtain ⟨it, fp, tn, J, H2, e, I2, T, st2, f2, hW⟩ := h2
  subst e
  refine wpAny_newObj_type ?_ (by show 0 ≤ sizeLine; exact Nat.zero_le _)
  refine wpAny_newFunctionEnv_own ?_
  dsimp only
  generalize hH3 : s2.heap.push { cls := .type "list", dict := none, data := .seq ([] : List Value).toArray } = H3
  have hCe : H3.objs.size = s2.heap.objs.size + 1 := by rw [← hH3, Heap.size_push]
  have below : ∀ b o, s2.heap.get? b = some o → b ≠ H3.objs.size := fun b o e => by rw [hCe]; exact Nat.ne_of_lt (Nat.lt_succ_of_lt (Heap.lt_size e))
  have hns0 := (Heap.Ns.new H3 (.type "dict")).keeps (pushCells_keeps scope.names _)
  have old0 : ∀ b o, s2.heap.get? b = some o → (pushCells (H3.push { cls := .type "dict", data := .dict #[] }) scope.names).get? b = some o := fun b o e => pushCells_keeps _ _ b o (Heap.get?_push_of_some _ (hH3 ▸ Heap.get?_push_of_some _ e))
  have hD0 : (pushCells (H3.push { cls := .type "dict", data := .dict #[] }) scope.names).get? s2.heap.objs.size = some { cls := .type "list", dict := none, data := .seq ([] : List Value).toArray } :=
    pushCells_keeps _ _ _ _ (Heap.get?_push_of_some _ (hH3 ▸ Heap.get?_push_size _ rfl))
  have own := cells_own scope.names (H3.push { cls := .type "dict", data := .dict #[] }) cl (fun x c e => by
      obtain ⟨v, o, ho, hd⟩ := I2.cell x c (cp.sub x c e)
      exact ⟨v, o, Heap.get?_push_of_some _ (hH3 ▸ Heap.get?_push_of_some _ ho), hd⟩) (fun x y c h1 h2 => I2.ok.inj x y c (cp.sub x c h1) (cp.sub y c h2))
  rw [Heap.size_push] at own
  generalize hh4 : pushCells (H3.push { cls := .type "dict", data := .dict #[] }) scope.names = h4 at own hns0 old0 hD0 ⊢
  have hns := hns0
  have old := old0
  have hD := hD0
  have isOld : ∀ x c, (cellsFrom (H3.objs.size + 1) scope.names cl).lookup x = some c → X.env.cells.lookup x = some c ∨ H3.objs.size + 1 ≤ c := fun x c e => (own.old x c e).imp (cp.sub x c) fun z => by rw [Heap.size_push] at z; exact z
  have hDn : H2 s2.heap.objs.size = none := I2.fresh
  have hCn : H2 H3.objs.size = none := I2.hok.fresh (by rw [hCe]; exact Nat.le_succ _)
  have hCs : s2.heap.objs.size ≤ H3.objs.size := by rw [hCe]; exact Nat.le_succ _
  have hDC : s2.heap.objs.size ≠ H3.objs.size := by rw [hCe]; exact Nat.ne_of_lt (Nat.lt_succ_self _)
  have fpl : ∀ b ∈ fp, ∃ o, s2.heap.get? b = some o := fun b hb => let ⟨o, e, _⟩ := T.obj _ _ st2 b hb; ⟨o, e⟩
  have fpC : ∀ b ∈ fp, b ≠ H3.objs.size := fun b hb => let ⟨o, e⟩ := fpl b hb; below b o e
  have fpD : ∀ b ∈ fp, b ≠ s2.heap.objs.size := fun b hb => let ⟨o, e⟩ := fpl b hb; Nat.ne_of_lt (Heap.lt_size e)
  have stkN : ∀ b, b ≠ X.env.locals → b ∉ X.fs → b ∉ frs X.stack := fun b h1 h2 z => (List.mem_cons.mp (I2.stkSub b z)).elim h1 h2
  have fpX : ∀ b ∈ fp, ∀ x c, (cellsFrom (H3.objs.size + 1) scope.names cl).lookup x = some c → c ≠ b := fun b hb x c h => by
    rcases isOld x c h with z | z
    · exact (f2 b hb).2.2.2.2.1 x c z
    · obtain ⟨o, e⟩ := fpl b hb
      exact Nat.ne_of_gt (Nat.lt_of_lt_of_le (Heap.lt_size e) (Nat.le_trans (Nat.le_trans hCs (Nat.le_succ _)) z))
  obtain ⟨W, ⟨m0, w0⟩, turn⟩ := hW s2.heap.objs.size hDn
  have okB : (X.blockC scope cl H3.objs.size Nc s2 H2 fp pins).Ok := by
    refine ⟨I2.ok.mod, ?_, I2.ok.glob, I2.ok.blt, hCs, fun x y c h1 h2 => own.inj x y c h1 h2, fun x hx => cp.has _ x hx, fun x c h e => Nat.le_trans (Nat.le_trans hCs (Nat.le_succ _)) (by have z := own.fresh x (ownName h) c e; rw [Heap.size_push] at z; exact z), I2.ok.hd, I2.ok.frames, .inl rfl, fun b hb => ⟨fpC b hb, fun x c h => fpX b hb x c h⟩, I2.bs, Nat.le_trans I2.ok.bsz I2.sz, fun b o e hb => ?_, fun b hb => stkN b (f2 b hb).2.1 (f2 b hb).2.2.1, I2.stack, I2.stkFree⟩
    · exact cp.kind
    · rcases (f2 b hb).2.2.2.1 with z | z
      · exact I2.ok.noex b o e z
      · exact absurd (Nat.lt_of_lt_of_le (Heap.lt_size e) (Nat.le_trans I2.ok.bsz z)) (Nat.lt_irrefl _)
  have hokB : HOk X.prog X.w (upd H2 s2.heap.objs.size (.lst [])) h4 := I2.hok.laid old (Nat.le_refl _) ⟨Nat.zero_le _, [], _, .nil, hD⟩
  have IB : Inv (X.blockC scope cl H3.objs.size Nc s2 H2 fp pins) [] (capSt caps σ) (upd H2 s2.heap.objs.size (.lst [])) { s2 with heap := h4 } := by
    refine ⟨okB, rfl, I2.bare, Un.laid old (Nat.le_refl _) hDn, ⟨_, hns, fun i x v e1 e2 e3 => ?_⟩, fun x c e => ?_, (show upd H2 s2.heap.objs.size (.lst []) H3.objs.size = none by rw [upd_ne (Ne.symm hDC)]; exact hCn), fun x c e => ?_, fun p hp => ?_, hokB, ?_⟩
    · unfold capSt at e2
      rw [List.getElem?_map] at e2
      cases hcap : caps[i]? with
      | none => rw [hcap] at e2; cases e2
      | some o =>
        rw [hcap] at e2
        cases o with
        | none => cases e2
        | some j =>
          have hj : σ[j]? = some (some v) := by
            have e2' : (σ[j]?).join = some v := Option.some.inj e2
            cases q : σ[j]? with
            | none => rw [q] at e2'; cases e2'
            | some z => rw [q] at e2'; exact congrArg some e2'
          obtain ⟨n1, n2, n3, n4, n5, n6⟩ := cp.cap i j x hcap e1
          obtain ⟨m, hm, hl⟩ := I2.loc
          obtain ⟨u, r, q⟩ := hl j x v n1 hj n2
          rcases q with ⟨k, _⟩ | ⟨k, c, ec, z⟩
          · exact absurd k n3
          · obtain ⟨c', ec'⟩ := n5
            have := cp.sub x c' ec'
            rw [ec] at this; cases this
            obtain ⟨oc, ho, hd⟩ := z
            exact ⟨u, r, .inr ⟨n4, c, n6 _ _ ec', oc, old _ _ ho, hd⟩⟩
    · exact own.cell x c e
    · show upd H2 s2.heap.objs.size (.lst []) c = none
      rcases isOld x c e with z | z
      · obtain ⟨v, oc, ho, hd⟩ := I2.cell x c z
        rw [upd_ne (Nat.ne_of_lt (Heap.lt_size ho))]
        exact I2.freeC x c z
      · have hz : s2.heap.objs.size < c := Nat.lt_of_lt_of_le (Nat.lt_of_le_of_lt hCs (Nat.lt_succ_self _)) z
        rw [upd_ne (Nat.ne_of_gt hz)]
        exact I2.hok.fresh (Nat.le_of_lt hz)
    · have hp' : p ∈ X.pn ++ pins := by simpa using hp
      obtain ⟨e1, e2, e3, e4, e5⟩ := I2.pin p hp'
      exact ⟨old _ _ e1, by rw [upd_ne (Nat.ne_of_lt (Heap.lt_size e1))]; exact e2, below _ _ e1, stkN _ e3 e4, e5⟩
    · show (capSt caps σ).length = Nc.length
      unfold capSt
      rw [List.length_map]; exact cp.len
  have stat : ∀ {H' : Hp}, (∀ b ∈ fp, H' b = none) → ∀ b ∈ fp, FpOk (X.blockC scope cl H3.objs.size Nc s2 H2 fp pins) [] H' b := fun hn b hb =>
    ⟨hn b hb, fpC b hb, stkN b (f2 b hb).2.1 (f2 b hb).2.2.1, .inl hb, fun x c h => fpX b hb x c h, fun p hp => (f2 b hb).2.2.2.2.2 p (by simpa using hp)⟩
  have loop : ∀ s5 : Shared, s5 = { s2 with heap := h4 } →
      codeAny (model X.prog X.w) X.A (.compLoop (.ListComp elt [⟨tg, iter, [], 0⟩] scope pos) 0 (.ref it) (.ref s2.heap.objs.size) (compEnvC scope (cellsFrom (H3.objs.size + 1) scope.names cl) H3.objs.size X.env))
        (compPost (model X.prog X.w) X.A X.xe none (EP X pins σ Q) (.ref s2.heap.objs.size) H3.objs.size) s5 := by
    rintro s5 rfl
    refine comp_loop (fun n s' => ∃ i σ' H', Inv (X.blockC scope cl H3.objs.size Nc s2 H2 fp pins) [] σ' H' s' ∧ tn i s'.heap ∧ (∀ b ∈ fp, H' b = none) ∧ W i n σ' H') ?_ m0 ⟨0, _, _, IB, T.keep _ _ _ st2 fun b hb o e => old b o e, fun b hb => by rw [upd_ne (fpD b hb)]; exact (f2 b hb).1, w0⟩
    rintro n s6 ⟨i, σ6, H6, I6, st6, fr6, w6⟩
    rcases turn i n σ6 H6 w6 with ⟨stop, qn⟩ | ⟨go, step⟩
    · refine thn (T.done (X.blockC scope cl H3.objs.size Nc s2 H2 fp pins) rfl rfl rfl hc i [] s6 σ6 H6 _ I6 (stat fr6) st6 stop) fun r s7 ⟨hr, I7⟩ => ?_
      subst hr
      obtain ⟨m7, hn7, _⟩ := id I7.loc
      exact ⟨m7, hn7, fun h' sb => ⟨.ref s2.heap.objs.size, H6, I2.sameC f2 I7.os I7.bare I7.base I7.hok hCs I7.free sb, rfl, qn⟩⟩
    · refine thn (T.item (X.blockC scope cl H3.objs.size Nc s2 H2 fp pins) rfl rfl rfl hc i [] s6 σ6 H6 _ I6 (stat fr6) st6 go) fun r s7 ⟨u, hr, h7⟩ => ?_
      subst hr
      refine thn h7 fun _ s8 ⟨x, H8, I8, r8, y8, st8, fr8⟩ => ?_
      have I8' := I8.pinned (stat fr8) (T.obj _ _ st8)
      refine thn (hg _ _ _ _ _ _ s8 σ6 H8 x u _ I8' r8 (step x H8 y8)) fun _ s9 ⟨σ9, H9, I9, q9⟩ => ?_
      refine thn (he _ _ _ _ _ _ s9 σ9 H9 _ I9 q9) fun u10 s10 ⟨v10, H10, I10, r10, ys, hys, hlen, m', hm', w'⟩ => ?_
      refine thn (mt_append _ s10 σ9 H10 (.ref s2.heap.objs.size) [v10] (.ref s2.heap.objs.size) [u10] (fun _ H11 => H11 = upd H10 s2.heap.objs.size (.lst (ys ++ [v10]))) I10 rfl (.cons r10 .nil) ⟨_, ys, v10, rfl, rfl, hys, hlen, rfl⟩) fun _ s11 ⟨_, H11, I11, _, hH11⟩ => ?_
      subst hH11
      refine ⟨m', hm', i + 1, σ9, _, I11.unpinned, T.keep _ _ _ st8 fun b hb o e => (I11.pin (b, o) (List.mem_append_right _ (List.mem_append_right _ (mem_pinsAt hb e)))).1, fun b hb => ?_, w'⟩
      obtain ⟨o, e, d⟩ := T.obj _ _ st8 b hb
      exact (I11.pin (b, o) (List.mem_append_right _ (List.mem_append_right _ (mem_pinsAt hb e)))).2.1
  exact codeAny_compStart_list (loop _ rfl) (T.self _ 0 _ _ _ (T.keep _ _ _ st2 fun b hb o e => old b o e) (loop _ rfl))
end
end L2

set_option maxRecDepth 100000
namespace L2
open PySem PySem.Spec PyProof.Rows
section
variable {X : Cx}
end
end L2

set_option maxRecDepth 100000
namespace L2
open PySem PySem.Spec PyProof.Rows
section
variable {X : Cx}
end
end L2

set_option maxRecDepth 100000
namespace L2
open PySem PySem.Spec PyProof.Rows
end L2

set_option maxRecDepth 100000
namespace L2
open PySem PySem.Spec PyProof.Rows
structure Stp (prog : Program) (w : World) (it src : Addr) (ar : Array Value) (st : Nat → Heap → Prop) : Prop where
  stay : ∀ {k : Nat} {h h' : Heap}, st k h → (∀ o, h.get? it = some o → h'.get? it = some o) → (∀ o, h.get? src = some o → h'.get? src = some o) → st k h'
  item : ∀ {A : Around} {E : Value → Shared → Prop} {s : Shared} {k : Nat} {v : Value} {Q : Value → Shared → Prop}, st k s.heap → ar[k]? = some v → (∀ h', st (k + 1) h' → Heap.SameBut it s.heap h' → Q v { s with heap := h' }) → wpAny (model prog w) A (Builtin.SmallTypes.nextOf (.ref it)) Q E s
  fin : ∀ {A : Around} {E : Value → Shared → Prop} {s : Shared} {k : Nat} {Q : Value → Shared → Prop}, A.handled = none → st k s.heap → ar[k]? = none → (∀ h' e, Heap.ExtBut it s.heap h' → (∃ o, h'.get? e = some o ∧ o.cls = .type "StopIteration") → E (.ref e) { s with heap := h' }) → wpAny (model prog w) A (Builtin.SmallTypes.nextOf (.ref it)) Q E s
section
variable {prog : Program} {w : World} {A : Around} {E : Value → Shared → Prop} {s : Shared}
end
section
variable {prog : Program} {w : World} {A : Around} {E : Value → Shared → Prop} {s : Shared}
end
section
variable {X : Cx}
end
end L2

set_option maxRecDepth 100000
namespace L2
open PySem PySem.Spec PyProof.Rows
section
variable {X : Cx} {pos : Pos}
end
end L2

set_option maxRecDepth 100000
namespace L2
open PySem PyProof.Rows
section
variable {X : Cx} {pos : Pos}
end
end L2

set_option maxRecDepth 100000
namespace L2
open PySem PySem.Spec PyProof.Rows
section
variable {prog : Program} {w : World} {A : Around} {E : Value → Shared → Prop} {s : Shared}
variable {R : Result → Shared → Prop} {I : Addr} {fp wr : List Addr} {n : Nat} {P : Nat → Value → Prop} {St : Nat → Heap → Prop}
end
section
variable {X : Cx}
end
end L2

set_option maxRecDepth 100000
namespace L2
open PySem PySem.Spec PyProof.Rows
section
variable {X : Cx}
end
end L2

set_option maxRecDepth 100000
namespace L2
open PySem PySem.Spec PyProof.Rows
section
variable {X : Cx}
end
end L2

set_option maxRecDepth 100000
namespace L2
open PySem PySem.Spec PyProof.Rows
section
variable {X : Cx}
end
end L2

set_option maxRecDepth 100000
namespace HT
open PySem PyProof.Rows
section
variable {prog : Program} {w : World} {A : Around} {E : Value → Shared → Prop} {s : Shared}
end
end HT
namespace L2
open PySem PySem.Spec PyProof.Rows
section
variable {X : Cx}
end
end L2

set_option maxRecDepth 100000
namespace PySem
open Sem (wp)
open AutoSeq1 (wpAny_loadPart')
section
variable {prog : Program} {w : World} {A : Around} {E : Value → Shared → Prop} {s : Shared}
end
section
variable {prog : Program} {w : World} {A : Around} {E : Value → Shared → Prop} {s : Shared}
end
end PySem
namespace L2
open PySem PySem.Spec PyProof.Rows
section
variable {X : Cx}
end
end L2

set_option maxRecDepth 100000
namespace L2
open PySem PySem.Spec PyProof.Rows
section
variable {X : Cx}
end
end L2

set_option maxRecDepth 100000
namespace R
open PySem L2 PyProof.Rows
def sumTo (f : Nat → Rat) : Nat → Rat
  | 0 => 0
  | n + 1 => sumTo f n + f n
theorem sumTo_congr {f g : Nat → Rat} : ∀ {n}, (∀ i, i < n → f i = g i) → sumTo f n = sumTo g n
  | 0, _ => rfl
  | n + 1, h => by rw [sumTo, sumTo, sumTo_congr fun i hi => h i (by omega), h n (by omega)]
def term (p q : List Rat) (k i : Nat) : Rat := if i ≤ k then (p[i]?).getD 0 * (q[k - i]?).getD 0 else 0
end R
namespace L2
theorem seq_cut {t R : TS} {D : Ends} {σ : St} {H : Hp} (P : St → Hp → Prop) (first : ∀ N : St → Hp → Prop, (∀ σ H, P σ H → N σ H) → t { D with nx := N } σ H) (rest : ∀ σ H, P σ H → R D σ H) : tSeq t R D σ H := first _ rest
end L2

set_option maxRecDepth 100000
namespace R
section
variable {α : Type} [Lean.Grind.CommRing α]
def syn (c : α) : List α → List α
  | [] => []
  | a :: p => match syn c p with
    | [] => [a]
    | h :: t => (a + c * h) :: h :: t
def pass (c : α) (k : Nat) (l : List α) : List α := l.take k ++ syn c (l.drop k)
end
end R

set_option maxRecDepth 100000
namespace R
open PySem L2 PyProof.Rows
structure Bd6 (q : Rat) : Prop where
  n : q.num.natAbs < 2 ^ 6000
  d : q.den < 2 ^ 6000
theorem BdN.bd6 {n : Nat} {q : Rat} (h : BdN n q) (l : n ≤ 6000) : Bd6 q := ⟨Nat.lt_of_lt_of_le h.n (pow_le_pow2 l), Nat.lt_of_lt_of_le h.d (pow_le_pow2 l)⟩
theorem foldlcm_pos : ∀ (qs : List Rat) (b : Nat), 0 < b → 0 < qs.foldl (fun b q => Nat.lcm b q.den) b
  | [], b, h => h
  | q :: qs, b, h => foldlcm_pos qs _ (Nat.lcm_pos h (by have := q.den_nz; omega))
theorem lcmL_pos (qs : List Rat) : 0 < lcmL qs := foldlcm_pos qs 1 (by decide)
def prodL (ws : List Int) : Int := ws.foldl (fun p v => if v = 0 then p else p * v) 1
theorem prodL_snoc (ws : List Int) (v : Int) : prodL (ws ++ [v]) = if v = 0 then prodL ws else prodL ws * v := by simp [prodL]
theorem foldprod_dvd : ∀ (ws : List Int) (p : Int), p ∣ ws.foldl (fun p v => if v = 0 then p else p * v) p
  | [], p => Int.dvd_refl _
  | v :: ws, p => by
    simp only [List.foldl_cons]
    by_cases h : v = 0
    · rw [if_pos h]; exact foldprod_dvd ws p
    · rw [if_neg h]; exact Int.dvd_trans ⟨v, rfl⟩ (foldprod_dvd ws _)
theorem foldprod_mem : ∀ (ws : List Int) (p v : Int), v ∈ ws → v ≠ 0 → v ∣ ws.foldl (fun p v => if v = 0 then p else p * v) p
  | [], p, v, h, _ => by cases h
  | u :: ws, p, v, h, hv => by
    simp only [List.foldl_cons]
    rcases List.mem_cons.mp h with e | e
    · subst e
      rw [if_neg hv]
      exact Int.dvd_trans ⟨p, Int.mul_comm _ _⟩ (foldprod_dvd ws _)
    · exact foldprod_mem ws _ v e hv
theorem prodL_dvd {ws : List Int} {v : Int} (h : v ∈ ws) (hv : v ≠ 0) : v ∣ prodL ws := foldprod_mem ws 1 v h hv
theorem gcd_thru {b p v : Int} (h : v ∣ p) : Int.gcd (Int.gcd b p : Nat) v = Int.gcd b v := by
  refine Nat.dvd_antisymm ?_ ?_
  · refine Int.dvd_gcd ?_ ?_
    · exact Int.dvd_trans (Int.gcd_dvd_left _ _) (Int.gcd_dvd_left _ _)
    · exact Int.gcd_dvd_right _ _
  · refine Int.dvd_gcd ?_ (Int.gcd_dvd_right _ _)
    exact Int.natCast_dvd_natCast.mpr (Int.dvd_gcd (Int.gcd_dvd_left _ _) (Int.dvd_trans (Int.gcd_dvd_right _ _) h))
end R

set_option maxRecDepth 100000
namespace R
end R

set_option maxRecDepth 100000
namespace R
theorem sumTo_zero {f : Nat → Rat} : ∀ n, (∀ i, i < n → f i = 0) → sumTo f n = 0
  | 0, _ => rfl
  | n + 1, h => by
    rw [sumTo, sumTo_zero n (fun i hi => h i (by omega)), h n (by omega)]
    grind
end R

set_option maxRecDepth 100000
namespace R
end R

set_option maxRecDepth 100000
namespace R
open PySem L2 PyProof.Rows
structure ClN (W : Nat) (qs : List Rat) : Prop where
  l : lcmL qs < 2 ^ W
  w : ∀ v ∈ wholesOf (lcmL qs) qs, Int.natAbs v < 2 ^ W
theorem ClN.den {W : Nat} {qs : List Rat} (h : ClN W qs) {q : Rat} (hq : q ∈ qs) : q.den < 2 ^ W := Nat.lt_of_le_of_lt (Nat.le_of_dvd (lcmL_pos qs) (den_dvd hq)) h.l
theorem ClN.num {W : Nat} {qs : List Rat} (h : ClN W qs) {q : Rat} (hq : q ∈ qs) : q.num.natAbs < 2 ^ W := by
  have h1 := h.w _ (List.mem_map.mpr ⟨q, hq, rfl⟩)
  obtain ⟨e, he⟩ := den_dvd hq
  have hp := lcmL_pos qs
  have h0 : (q.den : Int) ≠ 0 := by have := q.den_nz; omega
  have e1 : (lcmL qs : Int).fdiv (q.den : Int) = (e : Int) := by
    rw [he, Int.natCast_mul]; exact fdiv_of_mul h0
  rw [e1, Int.natAbs_mul, Int.natAbs_natCast] at h1
  refine Nat.lt_of_le_of_lt (Nat.le_mul_of_pos_right _ ?_) h1
  rcases Nat.eq_zero_or_pos e with z | z
  · rw [z] at he; omega
  · exact z
theorem ClN.take {W : Nat} {qs : List Rat} (h : ClN W qs) (i : Nat) : lcmL (qs.take i) < 2 ^ W :=
  Nat.lt_of_le_of_lt (Nat.le_of_dvd (lcmL_pos qs) (lcmL_dvd fun q hq => den_dvd (List.mem_of_mem_take hq))) h.l
theorem one_over (v : Int) (L : Nat) : Rat.divInt 1 L * (v : Rat) = Rat.divInt v L := by
  have h1 := Rat.num_divInt_den (v : Rat)
  rw [Rat.num_intCast, Rat.den_intCast] at h1
  conv => lhs; rw [← h1]
  rw [Rat.divInt_mul_divInt]
  simp
theorem divInt_den_dvd (v : Int) {L : Nat} (h : 0 < L) : (Rat.divInt v L).den ∣ L := by
  have hL : (L : Int) ≠ 0 := by omega
  obtain ⟨_, e2⟩ := low_eq (t := v) (b := (L : Int)) (g := (Int.gcd v L : Int)) hL (by rw [if_neg (by omega)])
  obtain ⟨k, hk⟩ := Int.gcd_dvd_right v (L : Int)
  have hg := gcd_pos (t := v) hL
  have e3 : (L : Int).fdiv (Int.gcd v L : Int) = k := by
    conv => lhs; arg 1; rw [hk]
    exact fdiv_of_mul (by omega)
  rw [e3] at e2
  have : ((Rat.divInt v L).den : Int) ∣ (L : Int) := ⟨_, by rw [Int.mul_comm, ← e2]; exact hk⟩
  exact Int.natCast_dvd_natCast.mp this
theorem divInt_cross (v : Int) {L : Nat} (h : 0 < L) : (Rat.divInt v L).num * L = v * ((Rat.divInt v L).den : Int) := by
  have hL : (L : Int) ≠ 0 := by omega
  have hd : ((Rat.divInt v L).den : Int) ≠ 0 := by have := (Rat.divInt v L).den_nz; omega
  exact (Rat.divInt_eq_divInt_iff hd hL).mp (Rat.num_divInt_den _)
theorem cl_of_scl {L W : Nat} {vs : List Int} (hL0 : 0 < L) (hL : L < 2 ^ W) (hv : ∀ v ∈ vs, Int.natAbs v < 2 ^ W) : ClN W (scl (Rat.divInt 1 L) vs) := by
  have hd : lcmL (scl (Rat.divInt 1 L) vs) ∣ L := lcmL_dvd fun q hq => by
    obtain ⟨v, _, rfl⟩ := List.mem_map.mp hq
    rw [one_over]
    exact divInt_den_dvd v hL0
  have hle := Nat.le_of_dvd hL0 hd
  refine ⟨Nat.lt_of_le_of_lt hle hL, fun u hu => ?_⟩
  obtain ⟨q, hq, rfl⟩ := List.mem_map.mp hu
  obtain ⟨e, he⟩ := den_dvd hq
  have h0 : (q.den : Int) ≠ 0 := by have := q.den_nz; omega
  have e1 : (lcmL (scl (Rat.divInt 1 L) vs) : Int).fdiv (q.den : Int) = (e : Int) := by
    rw [he, Int.natCast_mul]; exact fdiv_of_mul h0
  obtain ⟨v, hvm, hvq⟩ := List.mem_map.mp hq
  rw [one_over] at hvq
  have hc := divInt_cross v hL0
  rw [hvq] at hc
  have hc' : q.num.natAbs * L = v.natAbs * q.den := by
    have := congrArg Int.natAbs hc
    rwa [Int.natAbs_mul, Int.natAbs_mul, Int.natAbs_natCast, Int.natAbs_natCast] at this
  rw [e1, Int.natAbs_mul, Int.natAbs_natCast]
  refine Nat.lt_of_le_of_lt ?_ (hv v hvm)
  have h2 : (q.num.natAbs * e) * L ≤ v.natAbs * L := by
    calc (q.num.natAbs * e) * L = (q.num.natAbs * L) * e := by rw [Nat.mul_right_comm]
      _ = v.natAbs * (q.den * e) := by rw [hc', Nat.mul_assoc]
      _ ≤ v.natAbs * L := Nat.mul_le_mul_left _ (by rw [← he]; exact hle)
  exact Nat.le_of_mul_le_mul_right h2 hL0
end R

set_option maxRecDepth 100000
namespace R
open PySem L2 PyProof.Rows
structure PolyAt (H : Hp) (p : Addr) (qs : List Rat) : Prop where
  ex : ∃ xs, H p = some (.lst xs) ∧ Nums H xs qs
  bd : ∀ q ∈ qs, q.den < 2 ^ 6000
  len : qs.length < 900
  tl : IsTl qs qs.length
inductive Polys (H : Hp) : List Addr → List (List Rat) → Prop where
  | nil : Polys H [] []
  | cons {p : Addr} {ps : List Addr} {L : List Rat} {Ls : List (List Rat)} (h : PolyAt H p L) (t : Polys H ps Ls) : Polys H (p :: ps) (L :: Ls)
theorem eqDs_lists : ∀ Ls : List (List Rat), eqDs (Ls.map dList) (Ls.map dList) = true
  | [] => by simp [eqDs]
  | L :: Ls => by rw [List.map_cons, eqDs, eqD_list, eqDs_lists Ls]; simp
theorem dpDs_lists : ∀ Ls : List (List Rat), dpDs (Ls.map dList) ≤ 2
  | [] => by simp [dpDs]
  | L :: Ls => by
    have h1 := dp_list L
    have h2 := dpDs_lists Ls
    rw [List.map_cons, dpDs]; omega
theorem refs_get {ts : List Addr} {i : Nat} {x : V} (h : (ts.map V.ref)[i]? = some x) : ∃ p, ts[i]? = some p ∧ x = .ref p := by
  rw [List.getElem?_map] at h
  cases hw : ts[i]? with
  | none => rw [hw] at h; cases h
  | some v => rw [hw] at h; cases h; exact ⟨v, rfl, rfl⟩
theorem eqDs_lists2 : ∀ Ls Ms : List (List Rat), eqDs (Ls.map dList) (Ms.map dList) = decide (Ls = Ms)
  | [], [] => by simp [eqDs]
  | [], _ :: _ => by simp [eqDs]
  | _ :: _, [] => by simp [eqDs]
  | p :: ps, q :: qs => by
    rw [List.map_cons, List.map_cons, eqDs, eqD_list, eqDs_lists2 ps qs]
    by_cases h1 : p = q <;> by_cases h2 : ps = qs <;> simp [h1, h2]
theorem okDs_lists2 : ∀ Ls Ms : List (List Rat), okDs (Ls.map dList) (Ms.map dList) = true
  | [], [] => by simp [okDs]
  | [], _ :: _ => by simp [okDs]
  | _ :: _, [] => by simp [okDs]
  | p :: ps, q :: qs => by rw [List.map_cons, List.map_cons, okDs, okD_list, okDs_lists2 ps qs]; rfl
def dLists (Ls : List (List Rat)) : D := .lst (Ls.map dList)
theorem eqD_lists (Ls Ms : List (List Rat)) : eqD (dLists Ls) (dLists Ms) = decide (Ls = Ms) := by unfold dLists; rw [eqD, eqDs_lists2]
theorem okD_lists (Ls Ms : List (List Rat)) : okD (dLists Ls) (dLists Ms) = true := by unfold dLists; rw [okD, okDs_lists2]
theorem dp_lists (Ls : List (List Rat)) : dpD (dLists Ls) ≤ 60 := by unfold dLists; rw [dpD]; have := dpDs_lists Ls; omega
end R

set_option maxRecDepth 100000
namespace R
open PySem L2 PyProof.Rows
theorem cut_from (xs : List V) {n : Nat} (h : n ≤ xs.length) : cutV xs (some (n : Int)) none = xs.drop n := by
  unfold cutV
  have e1 : HT.sIx xs.length 0 (some (n : Int)) = n := by
    simp only [HT.sIx]
    rw [if_neg (by omega)]; omega
  have e2 : HT.sIx xs.length xs.length none = xs.length := rfl
  rw [e1, e2, List.take_of_length_le (by rw [List.length_drop]; omega)]
theorem take_snoc_get {α : Type} {l : List α} {i : Nat} {x : α} (h : l[i]? = some x) : l.take (i + 1) = l.take i ++ [x] := by rw [List.take_succ, h]; rfl
theorem SameX.seq {K : PySem.W.Frag} {u : Addr} {H H' : Hp} {b : Addr} {xs : List V} (s : SameX u H H') (hu : H u = none) (h : SqL K H b xs) : SqL K H' b xs := by
  rcases h with h | h
  · rcases h with h | ⟨o, h⟩
    · exact .inl (.inl (s _ _ h (ne_of_none h hu)))
    · exact .inl (.inr ⟨o, s _ _ h (ne_of_none h hu)⟩)
  · exact .inr h
def spLaw (K : PySem.W.Frag) : Sp := fun vs H Q _ => ∃ (a : Addr) (ns : List Int), vs = [.ref a] ∧ SqL K H a (ns.map V.int) ∧ ns.length ≤ 63 ∧ ∀ H', Q (.bl true) H'
structure ExT (K : PySem.W.Frag) (mg : Str → Option Value) (x : Str) (C : Addr) : Prop where
  m : mg x = some (.ref C)
  ox : OwnX K C [.type "ValueError", .type "Exception", .type "BaseException", .type "object"] "ValueError.__new__"
  ec : ExcCls K C
structure CAd where
  c_NoFraction : Addr
  c_NoPolynomial : Addr
  c_NoStretch : Addr
  c_NoRow : Addr
  c_NoPair : Addr
  c_NoBack : Addr
  c_NoForm : Addr
  c_NoParts : Addr
  c_NoDegree : Addr
  c_NoSteps : Addr
  c_NoBox : Addr
  c_NoGain : Addr
  c_NoText : Addr
  c_NoLine : Addr
  c_NoName : Addr
  c_NoDeed : Addr
  c_RestError : Addr
structure XTx (K : PySem.W.Frag) (mg : Str → Option Value) (a : CAd) : Prop where
  x_NoFraction : ExT K mg "NoFraction" a.c_NoFraction
  x_NoPolynomial : ExT K mg "NoPolynomial" a.c_NoPolynomial
  x_NoStretch : ExT K mg "NoStretch" a.c_NoStretch
  x_NoRow : ExT K mg "NoRow" a.c_NoRow
  x_NoPair : ExT K mg "NoPair" a.c_NoPair
  x_NoBack : ExT K mg "NoBack" a.c_NoBack
  x_NoForm : ExT K mg "NoForm" a.c_NoForm
  x_NoParts : ExT K mg "NoParts" a.c_NoParts
  x_NoDegree : ExT K mg "NoDegree" a.c_NoDegree
  x_NoSteps : ExT K mg "NoSteps" a.c_NoSteps
  x_NoBox : ExT K mg "NoBox" a.c_NoBox
  x_NoGain : ExT K mg "NoGain" a.c_NoGain
  x_NoText : ExT K mg "NoText" a.c_NoText
  x_NoLine : ExT K mg "NoLine" a.c_NoLine
  x_NoName : ExT K mg "NoName" a.c_NoName
  x_NoDeed : ExT K mg "NoDeed" a.c_NoDeed
structure Kits (K : PySem.W.Frag) (a : CAd) (C : Addr) (j : Nat) : Prop where
  k_NoFraction : PySem.W.kitOne K (.ref C) (.ref a.c_NoFraction) = some (decide (j = 0))
  k_NoPolynomial : PySem.W.kitOne K (.ref C) (.ref a.c_NoPolynomial) = some (decide (j = 1))
  k_NoStretch : PySem.W.kitOne K (.ref C) (.ref a.c_NoStretch) = some (decide (j = 2))
  k_NoRow : PySem.W.kitOne K (.ref C) (.ref a.c_NoRow) = some (decide (j = 3))
  k_NoPair : PySem.W.kitOne K (.ref C) (.ref a.c_NoPair) = some (decide (j = 4))
  k_NoBack : PySem.W.kitOne K (.ref C) (.ref a.c_NoBack) = some (decide (j = 5))
  k_NoForm : PySem.W.kitOne K (.ref C) (.ref a.c_NoForm) = some (decide (j = 6))
  k_NoParts : PySem.W.kitOne K (.ref C) (.ref a.c_NoParts) = some (decide (j = 7))
  k_NoDegree : PySem.W.kitOne K (.ref C) (.ref a.c_NoDegree) = some (decide (j = 8))
  k_NoSteps : PySem.W.kitOne K (.ref C) (.ref a.c_NoSteps) = some (decide (j = 9))
  k_NoBox : PySem.W.kitOne K (.ref C) (.ref a.c_NoBox) = some (decide (j = 10))
  k_NoGain : PySem.W.kitOne K (.ref C) (.ref a.c_NoGain) = some (decide (j = 11))
  k_NoText : PySem.W.kitOne K (.ref C) (.ref a.c_NoText) = some (decide (j = 12))
  k_NoLine : PySem.W.kitOne K (.ref C) (.ref a.c_NoLine) = some (decide (j = 13))
  k_NoName : PySem.W.kitOne K (.ref C) (.ref a.c_NoName) = some (decide (j = 14))
  k_NoDeed : PySem.W.kitOne K (.ref C) (.ref a.c_NoDeed) = some (decide (j = 15))
  kV : PySem.W.kitOne K (.ref C) (.type "ValueError") = some true
  ec : ExcCls K C
  ex : PySem.W.exmOne K (.ref C) (.ref a.c_RestError) = some true
def nameOf (j : Nat) : Str := [("fraction" : Str), "polynomial", "stretch", "row", "pair", "back", "form", "parts", "degree", "steps", "box", "gain", "text", "line", "name", "deed"].getD j ""
def spWhich (K : PySem.W.Frag) (a : CAd) : Sp := fun vs H Q _ => ∃ e C j, vs = [.ref e] ∧ Kits K a C j ∧ j < 16 ∧ H e = some (Exc (.ref C) e) ∧ ∀ H', Same H H' → Q (.str (nameOf j)) H'
def told (j : Nat) : List V := [V.bl (decide (j = 0)), V.bl (decide (j = 1)), V.bl (decide (j = 2)), V.bl (decide (j = 3))] ++ [V.bl (decide (j = 4)), V.bl (decide (j = 5)), V.bl (decide (j = 6)), V.bl (decide (j = 7))] ++ [V.bl (decide (j = 8)), V.bl (decide (j = 9)), V.bl (decide (j = 10)), V.bl (decide (j = 11))] ++ [V.bl (decide (j = 12)), V.bl (decide (j = 13)), V.bl (decide (j = 14)), V.bl (decide (j = 15))]
theorem told_count : ∀ j, j < 16 → (told j).countP (fun z => eqV z (V.bl true)) = 1 := by decide
theorem told_idx : ∀ j, j < 16 → (told j).findIdx? (fun z => eqV z (V.bl true)) = some j := by decide
theorem told_flat : ∀ j, j < 16 → (told j).all flatV = true := by decide
theorem parts_names : partsOf "fraction polynomial stretch row pair back form parts degree steps box gain text line name deed" " " = [("fraction" : Str), "polynomial", "stretch", "row", "pair", "back", "form", "parts", "degree", "steps", "box", "gain", "text", "line", "name", "deed"] := by decide +kernel
theorem name_at {j : Nat} (hj : j < 16) : atI ((partsOf "fraction polynomial stretch row pair back form parts degree steps box gain text line name deed" " ").map V.str) (j : Int) = some (.str (nameOf j)) := by
  rw [parts_names]
  refine atI_nat ?_
  have : ∀ j, j < 16 → ((["fraction", "polynomial", "stretch", "row", "pair", "back", "form", "parts", "degree", "steps", "box", "gain", "text", "line", "name", "deed"] : List Str).map V.str)[j]? = some (.str (nameOf j)) := by decide
  exact this j hj
theorem ints_get {ws : List Int} {i : Nat} {x : V} (h : (ws.map V.int)[i]? = some x) : ∃ v, ws[i]? = some v ∧ x = .int v := by
  rw [List.getElem?_map] at h
  cases hw : ws[i]? with
  | none => rw [hw] at h; cases h
  | some v => rw [hw] at h; cases h; exact ⟨v, rfl, rfl⟩
end R

set_option maxRecDepth 100000
namespace R
open PySem L2 PyProof.Rows
def top (i : Nat) : Stmt := PySem.Challenge.pw_restward_k20_determinants_and_backs.main.body.getD i (.Pass ⟨0, 0, 0, 0⟩)
end R

set_option maxRecDepth 100000
namespace R
open PySem L2 PyProof.Rows
section
variable {K : PySem.W.Frag}
end
end R
namespace L2
open PySem PyProof.Rows
end L2

set_option maxRecDepth 100000
namespace R
open PySem L2 PyProof.Rows
mutual
def noU : D → Bool
  | .v _ => true
  | .tup ds => noUs ds
  | .lst ds => (ds.length != 3) && noUs ds
def noUs : List D → Bool
  | [] => true
  | d :: ds => noU d && noUs ds
end
end R

set_option maxRecDepth 100000
namespace L2
open PySem PyProof.Rows
theorem for_zip {K : PySem.W.Frag} {a b : Addr} {g : TG} {tb : TS} {E : Ends} {σ : St} {H : Hp} (xs ys : List V) (Pv : Nat → St → Hp → Prop) (h0 : Pv 0 σ H) (hl : ∀ i σ H, Pv i σ H → SqL K H a xs ∧ SqL K H b ys)
    (hs : ∀ i x y σ H p, xs[i]? = some x → ys[i]? = some y → Pv i σ H → H p = none → g (.ref p) σ (upd H p (.tup [x, y])) fun σ2 H2 => tb { E with nx := Pv (i + 1), ct := Pv (i + 1), bk := E.nx } σ2 H2) (hd : ∀ σ H, Pv (min xs.length ys.length) σ H → E.nx σ H) :
    ∃ W : Nat → Nat → St → Hp → Prop, (∃ m, W 0 m σ H) ∧ ∀ i m σ H, W i m σ H →
      ((Itz K a b).stop i H ∧ E.nx σ H) ∨ ((Itz K a b).go i H ∧ ∃ N : St → Hp → Prop, (∀ σ' H', N σ' H' → ∃ m', m' < m ∧ W (i + 1) m' σ' H') ∧ ∀ x H', (Itz K a b).yld i H x H' → g x σ H' fun σ2 H2 => tb { E with nx := N, ct := N, bk := E.nx } σ2 H2) := by
  refine ⟨fun i m σ H => m = min xs.length ys.length - i ∧ i ≤ min xs.length ys.length ∧ Pv i σ H, ⟨_, rfl, Nat.zero_le _, h0⟩, ?_⟩
  rintro i m σ H ⟨rfl, hi, p⟩
  obtain ⟨q, q'⟩ := hl i σ H p
  by_cases hlt : i < min xs.length ys.length
  · have h1 : i < xs.length := by omega
    have h2 : i < ys.length := by omega
    refine .inr ⟨⟨xs, ys, xs[i], ys[i], q, q', List.getElem?_eq_getElem h1, List.getElem?_eq_getElem h2⟩, Pv (i + 1), fun σ' H' n => ⟨_, by omega, rfl, by omega, n⟩, ?_⟩
    intro v H3 hy
    obtain ⟨x, y, r, e1, e2, hr, rfl, rfl⟩ := hy xs ys q q'
    exact hs i x y σ _ r e1 e2 p hr
  · have e : i = min xs.length ys.length := by omega
    subst e
    exact .inl ⟨⟨xs, ys, q, q', by omega⟩, hd σ H p⟩
end L2
namespace R
open PySem L2 PyProof.Rows
inductive Rws (H : Hp) : List Addr → List (List Rat) → Prop where
  | nil : Rws H [] []
  | cons {p : Addr} {xs : List V} {ps : List Addr} {L : List Rat} {Ls : List (List Rat)} (h : H p = some (.lst xs)) (n : Nums H xs L) (t : Rws H ps Ls) : Rws H (p :: ps) (L :: Ls)
theorem Rws.length {H : Hp} : ∀ {ts : List Addr} {M : List (List Rat)}, Rws H ts M → ts.length = M.length
  | _, _, .nil => rfl
  | _, _, .cons _ _ t => congrArg (· + 1) t.length
theorem Rws.same {H H' : Hp} (s : Same H H') : ∀ {ts : List Addr} {M : List (List Rat)}, Rws H ts M → Rws H' ts M
  | _, _, .nil => .nil
  | _, _, .cons h n t => .cons (s _ _ h) (n.mono s.tups) (t.same s)
theorem Rws.samex {u : Addr} {H H' : Hp} (s : SameX u H H') (hu : UrnAt H u) : ∀ {ts : List Addr} {M : List (List Rat)}, (∀ t ∈ ts, t ≠ u) → Rws H ts M → Rws H' ts M
  | _, _, _, .nil => .nil
  | _, _, hn, .cons h n t => .cons (s _ _ h (hn _ List.mem_cons_self)) (n.mono (s.tups hu)) (t.samex s hu fun x hx => hn x (List.mem_cons_of_mem _ hx))
theorem Rws.over {H : Hp} {l : Addr} {xs : List V} {o : HO} (hl : H l = some (.lst xs)) : ∀ {ts : List Addr} {M : List (List Rat)}, l ∉ ts → Rws H ts M → Rws (upd H l o) ts M
  | _, _, _, .nil => .nil
  | _, _, hn, .cons h n t => .cons (by rw [upd_ne (fun z => hn (by rw [← z]; exact List.mem_cons_self))]; exact h) (n.mono (TupS.lst hl)) (t.over hl fun z => hn (List.mem_cons_of_mem _ z))
theorem Rws.append {H : Hp} : ∀ {ts us : List Addr} {M N : List (List Rat)}, Rws H ts M → Rws H us N → Rws H (ts ++ us) (M ++ N)
  | _, _, _, _, .nil, h => h
  | _, _, _, _, .cons h n t, k => .cons h n (t.append k)
theorem Rws.get {H : Hp} : ∀ {ts : List Addr} {M : List (List Rat)} {i : Nat} {p : Addr}, Rws H ts M → ts[i]? = some p → ∃ xs L, M[i]? = some L ∧ H p = some (.lst xs) ∧ Nums H xs L
  | _, _, _, _, .nil, e => by simp at e
  | _, _, 0, _, .cons h n _, e => by cases e; exact ⟨_, _, rfl, h, n⟩
  | _, _, i + 1, _, .cons _ _ t, e => t.get (i := i) (by simpa using e)
theorem Rws.isDs {K : PySem.W.Frag} {H : Hp} : ∀ {ts : List Addr} {M : List (List Rat)}, Rws H ts M → IsDs K H (ts.map V.ref) (M.map dList)
  | _, _, .nil => .nil
  | _, _, .cons h n t => .cons (isD_list (SqL.of h) n) t.isDs
def dotQ (p q : List Rat) : Rat := (List.zipWith (· * ·) p q).foldl (· + ·) 0
theorem foldl_add (l : List Rat) : ∀ a : Rat, l.foldl (· + ·) a = a + l.foldl (· + ·) 0 := by
  induction l with
  | nil => intro a; simp; grind
  | cons x l ih =>
    intro a
    rw [List.foldl_cons, List.foldl_cons, ih (a + x), ih (0 + x)]; grind
theorem dotQ_snoc {p q : List Rat} (n : Nat) {x y : Rat} (hx : p[n]? = some x) (hy : q[n]? = some y) : dotQ (p.take (n + 1)) (q.take (n + 1)) = dotQ (p.take n) (q.take n) + x * y := by
  have h1 : n < p.length := (List.getElem?_eq_some_iff.mp hx).1
  have h2 : n < q.length := (List.getElem?_eq_some_iff.mp hy).1
  unfold dotQ
  rw [take_snoc_get hx, take_snoc_get hy, List.zipWith_append (by rw [List.length_take, List.length_take]; omega)]
  simp
end R

set_option maxRecDepth 100000
namespace R
open PySem L2 PyProof.Rows
def TabRes (H : Hp) (Q : VK) (M : List (List Rat)) : Prop := ∀ (r : Addr) (ts : List Addr) (H' : Hp), Same H H' → H r = none → (∀ t ∈ ts, H t = none ∧ t ≠ r) → ts.Nodup → H' r = some (.lst (ts.map V.ref)) → Rws H' ts M → Q (.ref r) H'
structure TabAt (H : Hp) (D : Addr) (M : List (List Rat)) (H2 : Hp) : Prop where
  same : Same H H2
  at' : ∃ ts : List Addr, H2 D = some (.lst (ts.map V.ref)) ∧ (∀ t ∈ ts, H t = none ∧ t ≠ D) ∧ ts.Nodup ∧ Rws H2 ts M
structure RowAt (H : Hp) (D : Addr) (L : List Rat) (H2 : Hp) : Prop where
  same : Same H H2
  at' : ∃ xs : List V, H2 D = some (.lst xs) ∧ Nums H2 xs L
theorem TabAt.start {H : Hp} {D : Addr} (h : H D = none) : TabAt H D [] (upd H D (.lst [])) := ⟨Same.new h _, [], upd_same, by simp, .nil, .nil⟩
theorem RowAt.start {H : Hp} {D : Addr} (h : H D = none) : RowAt H D [] (upd H D (.lst [])) := ⟨Same.new h _, [], upd_same, .nil⟩
theorem TabAt.res {H H2 : Hp} {D : Addr} {M : List (List Rat)} {Q : VK} (k : TabRes H Q M) (h : H D = none) (t : TabAt H D M H2) : Q (.ref D) H2 :=
  let ⟨s, ts, e, hn, nd, r⟩ := t; k D ts H2 s h hn nd e r
theorem RowAt.add {H H2 H3 : Hp} {D p : Addr} {L : List Rat} {q : Rat} (t : RowAt H D L H2) (h : H D = none) (s : Same H2 H3) (e : H3 p = some (.tup (numV q))) :
    ∃ ys, H3 D = some (.lst ys) ∧ ys.length = L.length ∧ RowAt H D (L ++ [q]) (upd H3 D (.lst (ys ++ [.ref p]))) := by
  obtain ⟨s2, xs, e2, n2⟩ := t
  have eD := s _ _ e2
  exact ⟨xs, eD, n2.length, (s2.trans s).over h _, _, upd_same, ((n2.mono s.tups).append (.cons e .nil)).mono (TupS.lst eD)⟩
theorem TabAt.add {H H2 H3 : Hp} {D D2 : Addr} {M : List (List Rat)} {L : List Rat} (t : TabAt H D M H2) (h : H D = none) (h2 : H2 D2 = none) (r : RowAt H2 D2 L H3) :
    ∃ ys, H3 D = some (.lst ys) ∧ ys.length = M.length ∧ TabAt H D (M ++ [L]) (upd H3 D (.lst (ys ++ [.ref D2]))) := by
  obtain ⟨s2, ts, e2, hn, nd, n2⟩ := t
  obtain ⟨s, xs, e3, n3⟩ := r
  have eD := s _ _ e2
  have hD2 : D2 ≠ D := (ne_of_none e2 h2).symm
  have hnt : D2 ∉ ts := fun z => by
    obtain ⟨i, hi⟩ := List.mem_iff_getElem?.mp z
    obtain ⟨_, _, _, e, _⟩ := n2.get hi
    rw [h2] at e; cases e
  refine ⟨_, eD, by rw [List.length_map, n2.length], (s2.trans s).over h _, ts ++ [D2], by rw [upd_same, List.map_append]; rfl, ?_, ?_, ?_⟩
  · intro t ht
    rcases List.mem_append.mp ht with z | z
    · exact hn t z
    · rw [List.mem_singleton.mp z]
      refine ⟨?_, hD2⟩
      cases q : H D2 with
      | none => rfl
      | some o => rw [s2 _ _ q] at h2; cases h2
  · rw [List.nodup_append]
    refine ⟨nd, by simp, fun a ha b hb => ?_⟩
    rw [List.mem_singleton.mp hb]
    rintro rfl
    exact hnt ha
  · refine ((n2.same s).append (.cons e3 n3 .nil)).over eD fun z => ?_
    rcases List.mem_append.mp z with z | z
    · exact (hn D z).2 rfl
    · exact hD2 (List.mem_singleton.mp z).symm
def NmC (K : PySem.W.Frag) (H : Hp) (p : Addr) (q : Rat) : Prop := H p = some (.tup (numV q)) ∨ ∀ H', SqT K H' p (numV q)
theorem NmC.sqt {K : PySem.W.Frag} {H : Hp} {p : Addr} {q : Rat} : NmC K H p q → SqT K H p (numV q)
  | .inl h => SqT.of h
  | .inr h => h H
theorem NmC.mono {K : PySem.W.Frag} {H H' : Hp} {p : Addr} {q : Rat} (e : TupS H H') : NmC K H p q → NmC K H' p q
  | .inl h => .inl (e _ _ h)
  | .inr h => .inr h
inductive NumsC (K : PySem.W.Frag) (H : Hp) : List V → List Rat → Prop where
  | nil : NumsC K H [] []
  | cons {p : Addr} {q : Rat} {vs : List V} {qs : List Rat} (h : NmC K H p q) (t : NumsC K H vs qs) : NumsC K H (.ref p :: vs) (q :: qs)
theorem NumsC.mono {K : PySem.W.Frag} {H H' : Hp} (e : TupS H H') : ∀ {vs : List V} {qs : List Rat}, NumsC K H vs qs → NumsC K H' vs qs
  | _, _, .nil => .nil
  | _, _, .cons h t => .cons (h.mono e) (t.mono e)
theorem NumsC.length {K : PySem.W.Frag} {H : Hp} : ∀ {vs : List V} {qs : List Rat}, NumsC K H vs qs → vs.length = qs.length
  | _, _, .nil => rfl
  | _, _, .cons _ t => congrArg (· + 1) t.length
theorem NumsC.getV {K : PySem.W.Frag} {H : Hp} : ∀ {vs : List V} {qs : List Rat} {i : Nat} {v : V}, NumsC K H vs qs → vs[i]? = some v → ∃ p q, v = .ref p ∧ qs[i]? = some q ∧ NmC K H p q
  | _, _, _, _, .nil, e => by simp at e
  | _, _, 0, _, .cons h t, e => by cases e; exact ⟨_, _, rfl, rfl, h⟩
  | _, _, i + 1, _, .cons _ t, e => t.getV (i := i) (by simpa using e)
theorem Nums.toC {K : PySem.W.Frag} {H : Hp} : ∀ {vs : List V} {qs : List Rat}, Nums H vs qs → NumsC K H vs qs
  | _, _, .nil => .nil
  | _, _, .cons h t => .cons (.inl h) t.toC
inductive RwsC (K : PySem.W.Frag) (H : Hp) : List Addr → List (List Rat) → Prop where
  | nil : RwsC K H [] []
  | cons {p : Addr} {xs : List V} {ps : List Addr} {L : List Rat} {Ls : List (List Rat)} (h : H p = some (.lst xs)) (n : NumsC K H xs L) (t : RwsC K H ps Ls) : RwsC K H (p :: ps) (L :: Ls)
theorem Rws.toC {K : PySem.W.Frag} {H : Hp} : ∀ {ts : List Addr} {M : List (List Rat)}, Rws H ts M → RwsC K H ts M
  | _, _, .nil => .nil
  | _, _, .cons h n t => .cons h n.toC t.toC
theorem RwsC.length {K : PySem.W.Frag} {H : Hp} : ∀ {ts : List Addr} {M : List (List Rat)}, RwsC K H ts M → ts.length = M.length
  | _, _, .nil => rfl
  | _, _, .cons _ _ t => congrArg (· + 1) t.length
theorem RwsC.same {K : PySem.W.Frag} {H H' : Hp} (s : Same H H') : ∀ {ts : List Addr} {M : List (List Rat)}, RwsC K H ts M → RwsC K H' ts M
  | _, _, .nil => .nil
  | _, _, .cons h n t => .cons (s _ _ h) (n.mono s.tups) (t.same s)
theorem RwsC.append {K : PySem.W.Frag} {H : Hp} : ∀ {ts us : List Addr} {M N : List (List Rat)}, RwsC K H ts M → RwsC K H us N → RwsC K H (ts ++ us) (M ++ N)
  | _, _, _, _, .nil, h => h
  | _, _, _, _, .cons h n t, k => .cons h n (t.append k)
theorem RwsC.get {K : PySem.W.Frag} {H : Hp} : ∀ {ts : List Addr} {M : List (List Rat)} {i : Nat} {p : Addr}, RwsC K H ts M → ts[i]? = some p → ∃ xs L, M[i]? = some L ∧ H p = some (.lst xs) ∧ NumsC K H xs L
  | _, _, _, _, .nil, e => by simp at e
  | _, _, 0, _, .cons h n _, e => by cases e; exact ⟨_, _, rfl, h, n⟩
  | _, _, i + 1, _, .cons _ _ t, e => t.get (i := i) (by simpa using e)
theorem RwsC.take {K : PySem.W.Frag} {H : Hp} : ∀ {ts : List Addr} {M : List (List Rat)} (m : Nat), RwsC K H ts M → RwsC K H (ts.take m) (M.take m)
  | _, _, 0, _ => by simp; exact .nil
  | _, _, _ + 1, .nil => .nil
  | _, _, m + 1, .cons h n t => .cons h n (t.take m)
theorem RwsC.drop {K : PySem.W.Frag} {H : Hp} : ∀ {ts : List Addr} {M : List (List Rat)} (m : Nat), RwsC K H ts M → RwsC K H (ts.drop m) (M.drop m)
  | _, _, 0, h => h
  | _, _, _ + 1, .nil => .nil
  | _, _, m + 1, .cons _ _ t => t.drop m
structure TabC (K : PySem.W.Frag) (H : Hp) (D : Addr) (M : List (List Rat)) (H2 : Hp) : Prop where
  same : Same H H2
  at' : ∃ ts : List Addr, H2 D = some (.lst (ts.map V.ref)) ∧ (∀ t ∈ ts, H t = none ∧ t ≠ D) ∧ ts.Nodup ∧ RwsC K H2 ts M
structure RowC (K : PySem.W.Frag) (H : Hp) (D : Addr) (L : List Rat) (H2 : Hp) : Prop where
  same : Same H H2
  at' : ∃ xs : List V, H2 D = some (.lst xs) ∧ NumsC K H2 xs L
def colQ (M : List (List Rat)) (j : Nat) : List Rat := M.map fun L => (L[j]?).getD 0
def flipQ (M : List (List Rat)) (n : Nat) : List (List Rat) := (List.range n).map (colQ M)
def unitQ (n : Nat) : List (List Rat) := (List.range n).map fun i => (List.range n).map fun j => if i = j then 1 else 0
def prodQ (M N : List (List Rat)) : List (List Rat) := M.map fun L => (flipQ N N.length).map (dotQ L)
theorem rng_get {n i : Nat} (h : i < n) : (List.range n)[i]? = some i := by rw [List.getElem?_eq_getElem (by simpa using h)]; simp
theorem flip_get {M : List (List Rat)} {n i : Nat} (h : i < n) : (flipQ M n)[i]? = some (colQ M i) := by unfold flipQ; rw [List.getElem?_map, rng_get h]; rfl
theorem flip_len (M : List (List Rat)) (n : Nat) : (flipQ M n).length = n := by simp [flipQ]
theorem col_len (M : List (List Rat)) (n : Nat) : (colQ M n).length = M.length := by simp [colQ]
theorem unit_get {n i : Nat} (h : i < n) : (unitQ n)[i]? = some ((List.range n).map fun j => if i = j then 1 else 0) := by unfold unitQ; rw [List.getElem?_map, rng_get h]; rfl
theorem take_all {α : Type} {l : List α} {n : Nat} (h : l.length ≤ n) : l.take n = l := List.take_of_length_le h
theorem len_ok {n : Nat} (h : n ≤ 100) : n < sizeLine := Nat.lt_of_le_of_lt h (by decide)
theorem TabRes.from {H H1 : Hp} {Q : VK} {M : List (List Rat)} (k : TabRes H Q M) (s : Same H H1) : TabRes H1 Q M := fun r ts H' s' hr hts nd e R => k r ts H' (s.trans s') (s.free hr) (fun t ht => ⟨s.free (hts t ht).1, (hts t ht).2⟩) nd e R
theorem prod_get {M N : List (List Rat)} {i : Nat} {L : List Rat} (h : M[i]? = some L) : (prodQ M N)[i]? = some ((flipQ N N.length).map (dotQ L)) := by unfold prodQ; rw [List.getElem?_map, h]; rfl
theorem prod_len (M N : List (List Rat)) : (prodQ M N).length = M.length := by simp [prodQ]
def ClA (D : Addr) (H : Hp) (v : V) (p : List Rat) : Prop := ∃ r l, v = .ref r ∧ H r = some (.tup [.ref l, .int (lcmL p)]) ∧ H l = some (.lst ((wholesOf (lcmL p) p).map V.int)) ∧ l ≠ D
inductive ClL (D : Addr) (H : Hp) : List V → List (List Rat) → Prop where
  | nil : ClL D H [] []
  | cons {v : V} {p : List Rat} {vs : List V} {ps : List (List Rat)} (h : ClA D H v p) (t : ClL D H vs ps) : ClL D H (v :: vs) (p :: ps)
structure ClR (H : Hp) (D : Addr) (M : List (List Rat)) (H2 : Hp) : Prop where
  same : Same H H2
  at' : ∃ vs : List V, H2 D = some (.lst vs) ∧ ClL D H2 vs M
end R

set_option maxRecDepth 100000
namespace R
open PySem L2 PyProof.Rows
end R

set_option maxRecDepth 100000
namespace R
open PySem L2 PyProof.Rows
def threeI : List D → Bool
  | [.v (.int _), .v (.int _), .v (.int _)] => true
  | _ => false
mutual
def noW : D → Bool
  | .v _ => true
  | .tup ds => noWs ds
  | .lst ds => !threeI ds && noWs ds
def noWs : List D → Bool
  | [] => true
  | d :: ds => noW d && noWs ds
end
mutual
def smD (m : Nat) : D → Prop
  | .v (.int i) => i.natAbs < 2 ^ m
  | .v _ => True
  | .tup ds => smDs m ds
  | .lst ds => smDs m ds
def smDs (m : Nat) : List D → Prop
  | [] => True
  | d :: ds => smD m d ∧ smDs m ds
end
def below (p q : Rat) : Bool := decide (p.num * (q.den : Int) < q.num * (p.den : Int))
structure IsBox (B : List (Rat × Rat)) : Prop where
  l2 : 2 ≤ B.length
  l8 : B.length ≤ 8
  le : ∀ s ∈ B, s.1 ≤ s.2
  last : ∀ s, B[B.length - 1]? = some s → 0 < s.1
end R

set_option maxRecDepth 100000
namespace R
open PySem L2 PyProof.Rows
def zs (t b a : Int) : List Int → List Int
  | [] => [b * a]
  | x :: r => (b * a + t * x) :: zs t b x r
structure MidN (n : Nat) (R : List Rat) : Prop where
  ex : ∃ (B : Nat) (ws : List Int), 0 < B ∧ B < 2 ^ (40 * n + 1) ∧ R = scl (Rat.divInt 1 B) ws ∧ ∀ v ∈ ws, Int.natAbs v < 2 ^ (41 * n + 1)
  len : R.length = n + 1
  last : R[n]? = some 1
inductive Spans (H : Hp) : List V → List (Rat × Rat) → Prop where
  | nil : Spans H [] []
  | cons {p a b : Addr} {s : Rat × Rat} {vs : List V} {B : List (Rat × Rat)} (h : H p = some (.tup [.ref a, .ref b])) (ha : H a = some (.tup (numV s.1))) (hb : H b = some (.tup (numV s.2))) (t : Spans H vs B) : Spans H (.ref p :: vs) (s :: B)
end R

set_option maxRecDepth 100000
namespace R
open PySem L2 PyProof.Rows
theorem ixN_of {n k : Nat} (h : k < n) : ixN n (k : Int) = some k := by
  unfold ixN
  rw [if_pos (by omega)]
  simp; omega
def dStr2 (a b : Str) : D := .tup [.v (.str a), .v (.str b)]
theorem eqD_str2 (a b : Str) : eqD (dStr2 a b) (dStr2 a b) = true := by simp [dStr2, eqD, eqDs, eqV]
theorem okD_str2 (a b c d : Str) : okD (dStr2 a b) (dStr2 c d) = true := by simp [dStr2, okD, okDs]
theorem dp_str2 (a b : Str) : dpD (dStr2 a b) ≤ 60 := by simp [dStr2, dpD, dpDs]
theorem isD_str2 {K : PySem.W.Frag} {H : Hp} {p : Addr} {a b : Str} (h : SqT K H p [.str a, .str b]) : IsD K H (.ref p) (dStr2 a b) := .tup h (.cons (.v rfl) (.cons (.v rfl) .nil))
end R

set_option maxRecDepth 100000
namespace R
open PySem L2 PyProof.Rows
structure TbX (u : Addr) (H : Hp) (a : Addr) (ts : List Addr) (M : List (List Rat)) : Prop where
  au : a ≠ u
  tu : ∀ t ∈ ts, t ≠ u
  at' : H a = some (.lst (ts.map V.ref))
  rws : Rws H ts M
theorem TbX.samex {u a : Addr} {H H' : Hp} {ts : List Addr} {M : List (List Rat)} (t : TbX u H a ts M) (s : SameX u H H') (hu : UrnAt H u) : TbX u H' a ts M := ⟨t.au, t.tu, s _ _ t.at' t.au, t.rws.samex s hu t.tu⟩
theorem TbX.same {u a : Addr} {H H' : Hp} {ts : List Addr} {M : List (List Rat)} (t : TbX u H a ts M) (s : Same H H') : TbX u H' a ts M := ⟨t.au, t.tu, s _ _ t.at', t.rws.same s⟩
theorem TbX.lstAt {u a : Addr} {H : Hp} {ts : List Addr} {M : List (List Rat)} (t : TbX u H a ts M) {c : Addr} (h : c ∈ ts) : ∃ xs, H c = some (.lst xs) := by
  obtain ⟨i, hi⟩ := List.mem_iff_getElem?.mp h
  obtain ⟨xs, _, _, e, _⟩ := t.rws.get hi
  exact ⟨xs, e⟩
theorem TbX.isD {K : PySem.W.Frag} {u a : Addr} {H : Hp} {ts : List Addr} {M : List (List Rat)} (t : TbX u H a ts M) : IsD K H (.ref a) (dLists M) := .lst (SqL.of t.at') t.rws.isDs
structure LsX (u : Addr) (H : Hp) (a : Addr) (xs : List V) (qs : List Rat) : Prop where
  au : a ≠ u
  at' : H a = some (.lst xs)
  nums : Nums H xs qs
theorem LsX.samex {u a : Addr} {H H' : Hp} {xs : List V} {qs : List Rat} (t : LsX u H a xs qs) (s : SameX u H H') (hu : UrnAt H u) : LsX u H' a xs qs := ⟨t.au, s _ _ t.at' t.au, t.nums.mono (s.tups hu)⟩
theorem LsX.same {u a : Addr} {H H' : Hp} {xs : List V} {qs : List Rat} (t : LsX u H a xs qs) (s : Same H H') : LsX u H' a xs qs := ⟨t.au, s _ _ t.at', t.nums.mono s.tups⟩
end R

set_option maxRecDepth 100000
namespace R
open PySem L2 PyProof.Rows
def hc (a : Nat → Rat) (i j : Nat) : Rat := if (i + j) % 2 = 1 then a i * a j else 0
def hf (a : Nat → Rat) : Nat → Nat → Rat
  | 0, j => hc a 0 (j + 1)
  | i + 1, j => hc a (i + 1) (j + 1) - hf a i (j + 1)
end R

set_option maxRecDepth 100000
namespace R
open PySem L2 PyProof.Rows
def pw (x : Rat) : Nat → Rat
  | 0 => 1
  | i + 1 => pw x i * x
theorem sumTo_mul (c : Rat) (f : Nat → Rat) : ∀ n, c * sumTo f n = sumTo (fun i => c * f i) n
  | 0 => by simp [sumTo]
  | n + 1 => by rw [sumTo, sumTo, ← sumTo_mul c f n]; grind
theorem sumTo_add (f g : Nat → Rat) : ∀ n, sumTo f n + sumTo g n = sumTo (fun i => f i + g i) n
  | 0 => by simp [sumTo]; grind
  | n + 1 => by rw [sumTo, sumTo, sumTo, ← sumTo_add f g n]; grind
def hR (a : Nat → Rat) (n i : Nat) (y : Rat) : Rat := sumTo (fun j => hf a i j * pw y j) n
def hC (a : Nat → Rat) (n i : Nat) (y : Rat) : Rat := sumTo (fun j => hc a i j * pw y j) (n + 1)
def sg (i : Nat) : Rat := if i % 2 = 0 then 1 else -1
end R

set_option maxRecDepth 100000
namespace R
open PySem L2 PyProof.Rows
def OvB (B W : Nat) (q : Rat) : Prop := ∃ v : Int, q = Rat.divInt v B ∧ v.natAbs < 2 ^ W
theorem OvB.mono {B V W : Nat} {q : Rat} (h : OvB B V q) (l : V ≤ W) : OvB B W q := let ⟨v, e, b⟩ := h; ⟨v, e, Nat.lt_of_lt_of_le b (pow_le_pow2 l)⟩
theorem OvB.zero (B W : Nat) : OvB B W 0 := ⟨0, by rw [Rat.zero_divInt], Nat.two_pow_pos _⟩
theorem OvB.mul {B C V W : Nat} {p q : Rat} (h : OvB B V p) (k : OvB C W q) : OvB (B * C) (V + W) (p * q) := by
  obtain ⟨v, rfl, b⟩ := h
  obtain ⟨u, rfl, c⟩ := k
  refine ⟨v * u, by rw [Rat.divInt_mul_divInt, Int.natCast_mul], ?_⟩
  rw [Int.natAbs_mul, Nat.pow_add]
  exact Nat.mul_lt_mul'' b c
theorem OvB.neg {B W : Nat} {q : Rat} (h : OvB B W q) : OvB B W (-q) := by
  obtain ⟨v, rfl, b⟩ := h
  exact ⟨-v, by rw [Rat.neg_divInt], by rw [Int.natAbs_neg]; exact b⟩
theorem OvB.add {B W : Nat} (hB : 0 < B) {p q : Rat} (h : OvB B W p) (k : OvB B W q) : OvB B (W + 1) (p + q) := by
  obtain ⟨v, rfl, b⟩ := h
  obtain ⟨u, rfl, c⟩ := k
  refine ⟨v + u, ?_, ?_⟩
  · have hz : (B : Int) ≠ 0 := by omega
    rw [Rat.divInt_add_divInt _ _ hz hz]
    refine (Rat.divInt_eq_divInt_iff (Int.mul_ne_zero hz hz) hz).mpr ?_
    grind
  · have := Int.natAbs_add_le v u
    rw [Nat.pow_succ]; omega
theorem OvB.bdN {B W : Nat} (hB : 0 < B) (hW : B < 2 ^ W) {q : Rat} (h : OvB B W q) : BdN W q := by
  obtain ⟨v, rfl, b⟩ := h
  have := divInt_le (t := v) (b := (B : Int)) (by omega)
  rw [Int.natAbs_natCast] at this
  exact ⟨Nat.lt_of_le_of_lt this.1 b, Nat.lt_of_le_of_lt this.2 hW⟩
def aQ (qs : List Rat) (k : Nat) : Rat := (qs[k]?).getD 0
def aZ (ws : List Int) (k : Nat) : Int := (ws[k]?).getD 0
theorem aQ_scl (s : Rat) (ws : List Int) : aQ (scl s ws) = fun k => s * (aZ ws k : Rat) := by
  funext k
  unfold aQ aZ scl
  rw [List.getElem?_map]
  cases ws[k]? with
  | none => simp [Rat.intCast_zero]
  | some v => simp
theorem aZ_lt {ws : List Int} {W : Nat} (h : ∀ v ∈ ws, Int.natAbs v < 2 ^ W) : ∀ k, (aZ ws k).natAbs < 2 ^ W := fun k => by
  unfold aZ
  cases q : ws[k]? with
  | none => exact Nat.two_pow_pos _
  | some v => exact h v (List.mem_of_getElem? q)
end R

set_option maxRecDepth 100000
namespace R
open PySem L2 PyProof.Rows
theorem dotQ_app {p q : List Rat} (h : p.length = q.length) (x y : Rat) : dotQ (p ++ [x]) (q ++ [y]) = dotQ p q + x * y := by
  unfold dotQ
  rw [List.zipWith_append h, List.foldl_append]; rfl
theorem dot_range (f g : Nat → Rat) : ∀ n, dotQ ((List.range n).map f) ((List.range n).map g) = sumTo (fun i => f i * g i) n
  | 0 => rfl
  | n + 1 => by
    rw [List.range_succ, List.map_append, List.map_append]
    simp only [List.map_cons, List.map_nil]
    rw [dotQ_app (by simp), dot_range f g n]; rfl
end R

set_option maxRecDepth 100000
namespace R
open PySem L2 PyProof.Rows
def cv (f g : Nat → Rat) (k : Nat) : Rat := sumTo (fun i => f i * g (k - i)) (k + 1)
theorem sumTo_single (g : Nat → Rat) (t : Nat) : ∀ n, sumTo (fun i => if i = t then g i else 0) n = if t < n then g t else 0
  | 0 => by rw [if_neg (by omega)]; rfl
  | n + 1 => by
    rw [sumTo, sumTo_single g t n]
    by_cases h : t < n
    · rw [if_pos h, if_neg (by omega), if_pos (by omega)]; grind
    · by_cases h2 : n = t
      · rw [if_neg h, if_pos h2, if_pos (by omega), h2]; grind
      · rw [if_neg h, if_neg h2, if_neg (by omega)]; grind
structure IsTz (ws : List Int) (m : Nat) : Prop where
  le : m ≤ ws.length
  zero : ∀ i v, m ≤ i → ws[i]? = some v → v = 0
  last : m ≠ 0 → ∀ v, ws[m - 1]? = some v → v ≠ 0
end R

set_option maxRecDepth 100000
namespace R
open PySem L2 PyProof.Rows
theorem OvB.up {B W : Nat} {q : Rat} (h : OvB B W q) (hB : 0 < B) {C c : Nat} (hC : 0 < C) (hc : C < 2 ^ c) : OvB (B * C) (W + c) q := by
  obtain ⟨v, rfl, b⟩ := h
  refine ⟨v * C, ?_, ?_⟩
  · rw [Int.natCast_mul]
    refine (Rat.divInt_eq_divInt_iff (by omega) (Int.mul_ne_zero (by omega) (by omega))).mpr ?_
    grind
  · rw [Int.natAbs_mul, Int.natAbs_natCast, Nat.pow_add]
    exact Nat.mul_lt_mul'' b hc
theorem cl_of_ovb {B W : Nat} (hB : 0 < B) (hW : B < 2 ^ W) {qs : List Rat} (h : ∀ x ∈ qs, OvB B W x) : ClN W qs := by
  have : ∃ vs : List Int, qs = scl (Rat.divInt 1 B) vs ∧ ∀ v ∈ vs, Int.natAbs v < 2 ^ W := by
    induction qs with
    | nil => exact ⟨[], rfl, by simp⟩
    | cons q qs ih =>
      obtain ⟨vs, e, hv⟩ := ih fun x hx => h x (List.mem_cons_of_mem _ hx)
      obtain ⟨v, e2, b⟩ := h q List.mem_cons_self
      refine ⟨v :: vs, ?_, fun u hu => ?_⟩
      · rw [e]
        show q :: _ = (Rat.divInt 1 B * (v : Rat)) :: _
        rw [one_over, ← e2]; rfl
      · rcases List.mem_cons.mp hu with z | z
        · rw [z]; exact b
        · exact hv u z
  obtain ⟨vs, rfl, hv⟩ := this
  exact cl_of_scl hB hW hv
def DueOk (u : Addr) (H : Hp) (v : V) (ps qs : List Rat) : Prop := v = .non ∨ ∃ td l1 l2 zs1 zs2 g0 g1, v = .ref td ∧ td ≠ u ∧ H td = some (.tup [.ref l1, .ref l2]) ∧ LsX u H l1 zs1 g0 ∧ LsX u H l2 zs2 g1 ∧ IsTl g0 g0.length ∧ IsTl g1 g1.length ∧ g1.length < qs.length ∧ ∀ k, aQ ps k = cv (aQ qs) (aQ g0) k + aQ g1 k
structure PairOk (u : Addr) (H : Hp) (ap aq : Addr) (due : V) (xs ys : List V) (ps qs : List Rat) (S W1 W2 : Nat) : Prop where
  lp : LsX u H ap xs ps
  lq : LsX u H aq ys qs
  tp : IsTl ps ps.length
  tq : IsTl qs qs.length
  q0 : qs ≠ []
  c1 : ClN W1 ps
  c2 : ClN W2 qs
  w1 : 1 ≤ W1
  w2 : 1 ≤ W2
  w3 : W2 ≤ 690
  t : W1 + S * (W2 + 1) + W2 ≤ 2300
  s : ps.length + 1 ≤ qs.length + S
  pl : ps.length ≤ 16
  ql : qs.length ≤ 16
  due : DueOk u H due ps qs
end R

set_option maxRecDepth 100000
namespace R
open PySem L2 PyProof.Rows
def mA (a b : Rat) (f : Nat → Rat) : Nat → Rat
  | 0 => a * f 0
  | k + 1 => a * f (k + 1) + b * f k
def dl : Nat → Rat := fun k => if k = 0 then 1 else 0
end R

set_option maxRecDepth 100000
namespace R
open PySem L2 PyProof.Rows
end R

set_option maxRecDepth 100000
namespace R
open PySem L2 PyProof.Rows
def Dg (f : Nat → Rat) (n : Nat) : Prop := ∀ k, n ≤ k → f k = 0
structure Eu (p q A B : Nat → Rat) (lp lq la lb : Nat) : Prop where
  inv : ∀ m, m < la → ∀ u v, Dg u (lq - m) → Dg v (lp - m) → Dg (fun k => cv u p k + cv v q k) m →
    ∃ a b, (∀ k, cv u p k + cv v q k = cv a A k + cv b B k) ∧ Dg a (lb - m) ∧ Dg b (la - m) ∧ ((∀ k, a k = 0) → (∀ k, b k = 0) → ∀ k, u k = 0 ∧ v k = 0)
  le : la ≤ max lp lq
end R

set_option maxRecDepth 100000
namespace R
open PySem L2 PyProof.Rows
def sgd (i : Nat) : Rat := if i % 2 = 0 then 1 else -1
theorem sgd_succ (i : Nat) : sgd (i + 1) = - sgd i := by
  unfold sgd
  rcases Nat.mod_two_eq_zero_or_one i with h | h
  · rw [if_pos h, if_neg (by omega)]
  · rw [if_pos (show (i + 1) % 2 = 0 by omega), if_neg (show ¬ i % 2 = 0 by omega)]; grind
abbrev Mt := Nat → Nat → Rat
def mn (M : Mt) (i : Nat) : Mt := fun r c => M (if r < i then r else r + 1) (c + 1)
def dt : Nat → Mt → Rat
  | 0, _ => 1
  | n + 1, M => sumTo (fun i => sgd i * M i 0 * dt n (mn M i)) (n + 1)
theorem dt_succ (n : Nat) (M : Mt) : dt (n + 1) M = sumTo (fun i => sgd i * M i 0 * dt n (mn M i)) (n + 1) := rfl
theorem dt_congr : ∀ {n : Nat} {M N : Mt}, (∀ r, r < n → ∀ c, c < n → M r c = N r c) → dt n M = dt n N
  | 0, _, _, _ => rfl
  | n + 1, M, N, h => by
    rw [dt_succ, dt_succ]
    refine sumTo_congr fun i hi => ?_
    rw [h i hi 0 (by omega), dt_congr (n := n) (M := mn M i) (N := mn N i) fun r hr c hc => h _ (by split <;> omega) _ (by omega)]
def setR (M : Mt) (r : Nat) (v : Nat → Rat) : Mt := fun i c => if i = r then v c else M i c
theorem setR_self (M : Mt) (r : Nat) : setR M r (M r) = M := by
  funext i c
  unfold setR
  split
  · rename_i h; rw [h]
  · rfl
theorem mn_set_same (M : Mt) (r : Nat) (v : Nat → Rat) : mn (setR M r v) r = mn M r := by
  funext i c
  unfold mn setR
  rw [if_neg (by split <;> omega)]
theorem mn_set_lt (M : Mt) {r i : Nat} (v : Nat → Rat) (h : r < i) : mn (setR M r v) i = setR (mn M i) r (fun c => v (c + 1)) := by
  funext a c
  unfold mn setR
  by_cases z : a = r
  · rw [if_pos z, if_pos (by rw [z, if_pos h])]
  · rw [if_neg z, if_neg (by split <;> omega)]
theorem mn_set_gt (M : Mt) {r i : Nat} (v : Nat → Rat) (h : i < r) : mn (setR M r v) i = setR (mn M i) (r - 1) (fun c => v (c + 1)) := by
  funext a c
  unfold mn setR
  by_cases z : a = r - 1
  · rw [if_pos z, if_pos (by rw [z, if_neg (by omega)]; omega)]
  · rw [if_neg z, if_neg (by split <;> omega)]
theorem dt_lin : ∀ {n : Nat} (M : Mt) {r : Nat} (a b : Rat) (v w : Nat → Rat), r < n → dt n (setR M r fun c => a * v c + b * w c) = a * dt n (setR M r v) + b * dt n (setR M r w)
  | 0, _, _, _, _, _, _, h => by omega
  | n + 1, M, r, a, b, v, w, h => by
    rw [dt_succ, dt_succ, dt_succ, sumTo_mul, sumTo_mul, sumTo_add]
    refine sumTo_congr fun i hi => ?_
    rcases Nat.lt_trichotomy r i with z | z | z
    · rw [mn_set_lt M _ z, mn_set_lt M _ z, mn_set_lt M _ z, dt_lin (mn M i) a b _ _ (by omega)]
      have : ∀ u : Nat → Rat, setR M r u i 0 = M i 0 := fun u => if_neg (by omega)
      rw [this, this, this]; grind
    · subst z
      rw [mn_set_same, mn_set_same, mn_set_same]
      have : ∀ u : Nat → Rat, setR M r u r 0 = u 0 := fun u => if_pos rfl
      rw [this, this, this]; grind
    · rw [mn_set_gt M _ z, mn_set_gt M _ z, mn_set_gt M _ z, dt_lin (mn M i) a b _ _ (by omega)]
      have : ∀ u : Nat → Rat, setR M r u i 0 = M i 0 := fun u => if_neg (by omega)
      rw [this, this, this]; grind
theorem sum_two {f : Nat → Rat} {n r : Nat} (hr : r + 1 < n) (h : ∀ i, i < n → i ≠ r → i ≠ r + 1 → f i = 0) : sumTo f n = f r + f (r + 1) := by
  have : sumTo f n = sumTo (fun i => (if i = r then f r else 0) + (if i = r + 1 then f (r + 1) else 0)) n := sumTo_congr fun i hi => by
    by_cases z : i = r
    · rw [if_pos z, if_neg (by omega), z]; grind
    · by_cases y : i = r + 1
      · rw [if_neg z, if_pos y, y]; grind
      · rw [if_neg z, if_neg y, h i hi z y]; grind
  rw [this, ← sumTo_add, sumTo_single (fun _ => f r), sumTo_single (fun _ => f (r + 1)), if_pos (by omega), if_pos hr]
theorem dt_adj : ∀ {n : Nat} {M : Mt} {r : Nat}, r + 1 < n → (∀ c, M r c = M (r + 1) c) → dt n M = 0
  | 0, _, _, h, _ => by omega
  | n + 1, M, r, h, e => by
    rw [dt_succ]
    rw [sum_two h fun i hi h1 h2 => ?_]
    · have : mn M r = mn M (r + 1) := by
        funext a c
        unfold mn
        by_cases z : a = r
        · rw [if_neg (by omega), if_pos (by omega), z, e]
        · by_cases y : a < r
          · rw [if_pos y, if_pos (by omega)]
          · rw [if_neg y, if_neg (by omega)]
      rw [this, sgd_succ, e 0]; grind
    · have : dt n (mn M i) = 0 := by
        by_cases z : i < r
        · refine dt_adj (r := r - 1) (by omega) fun c => ?_
          unfold mn
          rw [if_neg (by omega), if_neg (by omega), show r - 1 + 1 = r by omega]; exact e _
        · refine dt_adj (r := r) (by omega) fun c => ?_
          unfold mn
          rw [if_pos (by omega), if_pos (by omega)]; exact e _
      rw [this]; grind
def swR (M : Mt) (r s : Nat) : Mt := fun i c => M (if i = r then s else if i = s then r else i) c
theorem set_comm (M : Mt) {r s : Nat} (h : r ≠ s) (v w : Nat → Rat) : setR (setR M r v) s w = setR (setR M s w) r v := by
  funext i c
  unfold setR
  by_cases z : i = s
  · rw [if_pos z, if_neg (by omega), if_pos z]
  · rw [if_neg z]
    by_cases y : i = r
    · rw [if_pos y, if_pos y]
    · rw [if_neg y, if_neg y, if_neg z]
theorem dt_add {n : Nat} (M : Mt) {r : Nat} (v w : Nat → Rat) (h : r < n) : dt n (setR M r fun c => v c + w c) = dt n (setR M r v) + dt n (setR M r w) := by
  have := dt_lin M 1 1 v w h
  rw [show (fun c => v c + w c) = fun c => 1 * v c + 1 * w c by funext c; grind, this]; grind
theorem dt_swap {n : Nat} {M : Mt} {r : Nat} (h : r + 1 < n) : dt n (swR M r (r + 1)) = - dt n M := by
  have e0 : ∀ v : Nat → Rat, dt n (setR (setR M r v) (r + 1) v) = 0 := fun v => dt_adj h fun c => by
    unfold setR
    rw [if_neg (by omega), if_pos rfl, if_pos rfl]
  have e1 := e0 fun c => M r c + M (r + 1) c
  have x1 : ∀ w : Nat → Rat, dt n (setR (setR M r fun c => M r c + M (r + 1) c) (r + 1) w) = dt n (setR (setR M (r + 1) w) r (M r)) + dt n (setR (setR M (r + 1) w) r (M (r + 1))) := fun w => by
    rw [set_comm _ (by omega), dt_add _ _ _ (by omega)]
  rw [dt_add _ _ _ h, x1, x1] at e1
  rw [show setR (setR M (r + 1) (M r)) r (M r) = setR (setR M r (M r)) (r + 1) (M r) from set_comm _ (by omega) _ _, e0] at e1
  rw [show setR (setR M (r + 1) (M (r + 1))) r (M (r + 1)) = setR (setR M r (M (r + 1))) (r + 1) (M (r + 1)) from set_comm _ (by omega) _ _, e0] at e1
  have s1 : setR (setR M (r + 1) (M (r + 1))) r (M r) = M := by rw [setR_self, setR_self]
  have s2 : setR (setR M (r + 1) (M r)) r (M (r + 1)) = swR M r (r + 1) := by
    funext i c
    unfold setR swR
    by_cases z : i = r
    · rw [if_pos z, if_pos z]
    · rw [if_neg z, if_neg z]
      by_cases y : i = r + 1
      · rw [if_pos y, if_pos y]
      · rw [if_neg y, if_neg y]
  rw [s1, s2] at e1
  grind
theorem dt_alike {n : Nat} : ∀ (d : Nat) {M : Mt} {r : Nat}, r + d + 1 < n → (∀ c, M r c = M (r + d + 1) c) → dt n M = 0
  | 0, _, _, h, e => dt_adj h e
  | d + 1, M, r, h, e => by
    have h1 := dt_swap (M := M) (r := r + d + 1) (n := n) (by omega)
    have h2 : dt n (swR M (r + d + 1) (r + d + 1 + 1)) = 0 := dt_alike d (r := r) (by omega) fun c => by
      unfold swR
      rw [if_neg (by omega), if_neg (by omega), if_pos rfl]; exact e c
    rw [h2] at h1
    grind
theorem dt_eqrows {n : Nat} {M : Mt} {r s : Nat} (hr : r < n) (hs : s < n) (hn : r ≠ s) (e : ∀ c, M r c = M s c) : dt n M = 0 := by
  rcases Nat.lt_or_ge r s with z | z
  · exact dt_alike (s - r - 1) (r := r) (by omega) fun c => by rw [show r + (s - r - 1) + 1 = s by omega]; exact e c
  · exact dt_alike (r - s - 1) (r := s) (by omega) fun c => by rw [show s + (r - s - 1) + 1 = r by omega]; exact (e c).symm
theorem dt_row {n : Nat} {M : Mt} {r s : Nat} (a b : Rat) (hr : r < n) (hs : s < n) (hn : r ≠ s) : dt n (setR M r fun c => a * M r c + b * M s c) = a * dt n M := by
  rw [dt_lin M a b (M r) (M s) hr, setR_self, dt_eqrows (M := setR M r (M s)) hr hs hn fun c => by
    unfold setR
    rw [if_pos rfl, if_neg (by omega)]]
  grind
theorem dt_first {n : Nat} {M : Mt} (h : ∀ i, 0 < i → i < n + 1 → M i 0 = 0) : dt (n + 1) M = M 0 0 * dt n (mn M 0) := by
  rw [dt_succ]
  have : sumTo (fun i => sgd i * M i 0 * dt n (mn M i)) (n + 1) = sumTo (fun i => if i = 0 then M 0 0 * dt n (mn M 0) else 0) (n + 1) := sumTo_congr fun i hi => by
    by_cases z : i = 0
    · rw [if_pos z, z]
      show sgd 0 * _ * _ = _
      unfold sgd
      rw [if_pos (by decide)]; grind
    · rw [if_neg z, h i (by omega) hi]; grind
  rw [this, sumTo_single (fun _ => M 0 0 * dt n (mn M 0)), if_pos (by omega)]
def IsI (q : Rat) : Prop := ∃ z : Int, q = (z : Rat)
theorem IsI.add {p q : Rat} (h : IsI p) (k : IsI q) : IsI (p + q) := let ⟨a, e⟩ := h; let ⟨b, f⟩ := k; ⟨a + b, by rw [e, f, Rat.intCast_add]⟩
theorem IsI.mul {p q : Rat} (h : IsI p) (k : IsI q) : IsI (p * q) := let ⟨a, e⟩ := h; let ⟨b, f⟩ := k; ⟨a * b, by rw [e, f, Rat.intCast_mul]⟩
theorem isi_sum {f : Nat → Rat} : ∀ {n : Nat}, (∀ i, i < n → IsI (f i)) → IsI (sumTo f n)
  | 0, _ => ⟨0, rfl⟩
  | n + 1, h => (isi_sum fun i hi => h i (by omega)).add (h n (by omega))
theorem isi_sgd (i : Nat) : IsI (sgd i) := by
  unfold sgd
  split
  · exact ⟨1, rfl⟩
  · exact ⟨-1, by rw [Rat.intCast_neg]; rfl⟩
theorem dt_int : ∀ {n : Nat} {M : Mt}, (∀ r c, IsI (M r c)) → IsI (dt n M)
  | 0, _, _ => ⟨1, rfl⟩
  | n + 1, M, h => by
    rw [dt_succ]
    exact isi_sum fun i _ => ((isi_sgd i).mul (h i 0)).mul (dt_int fun r c => h _ _)
end R

set_option maxRecDepth 100000
namespace R
open PySem L2 PyProof.Rows
def hz (A B : Nat → Rat) : Mt := fun i c => if c < i / 2 then 0 else if i % 2 = 0 then B (c - i / 2) else A (c - i / 2)
def behind (A B : Nat → Rat) : Nat → Rat := fun j => B 0 * A (j + 1) - A 0 * B (j + 1)
def hm (A B : Nat → Rat) (m : Nat) : Mt := fun i c => if i % 2 = 1 ∧ i < m then B 0 * hz A B i c - A 0 * hz A B (i - 1) c else hz A B i c
end R

set_option maxRecDepth 100000
namespace R
open PySem L2 PyProof.Rows
theorem dt_elimS {n : Nat} (M : Mt) (t : Nat → Rat) : ∀ m, m ≤ n → dt (n + 1) (fun r c => if 0 < r ∧ r ≤ m then M r c - t r * M 0 c else M r c) = dt (n + 1) M
  | 0, _ => dt_congr fun r _ c _ => by rw [if_neg (by omega)]
  | m + 1, h => by
    rw [← dt_elimS M t m (by omega)]
    have e : (fun r c => if 0 < r ∧ r ≤ m + 1 then M r c - t r * M 0 c else M r c) = setR (fun r c => if 0 < r ∧ r ≤ m then M r c - t r * M 0 c else M r c) (m + 1) fun c => 1 * (fun r c => if 0 < r ∧ r ≤ m then M r c - t r * M 0 c else M r c) (m + 1) c + (- t (m + 1)) * (fun r c => if 0 < r ∧ r ≤ m then M r c - t r * M 0 c else M r c) 0 c := by
      funext r c
      unfold setR
      by_cases y : r = m + 1
      · rw [if_pos y, y]
        show (if 0 < m + 1 ∧ m + 1 ≤ m + 1 then _ else _) = 1 * (if 0 < m + 1 ∧ m + 1 ≤ m then _ else _) + - t (m + 1) * (if 0 < 0 ∧ 0 ≤ m then _ else _)
        rw [if_pos (by omega), if_neg (by omega), if_neg (by omega)]; grind
      · rw [if_neg y]
        show (if 0 < r ∧ r ≤ m + 1 then M r c - t r * M 0 c else M r c) = if 0 < r ∧ r ≤ m then M r c - t r * M 0 c else M r c
        by_cases x : 0 < r ∧ r ≤ m
        · rw [if_pos x, if_pos (by omega)]
        · rw [if_neg x, if_neg (by omega)]
    rw [e, dt_row 1 (- t (m + 1)) (by omega) (by omega) (by omega)]; grind
theorem dt_elim {n : Nat} (M : Mt) (t : Nat → Rat) : dt (n + 1) (fun r c => if r = 0 then M 0 c else M r c - t r * M 0 c) = dt (n + 1) M := by
  rw [← dt_elimS M t n (Nat.le_refl _)]
  refine dt_congr fun r hr c _ => ?_
  by_cases z : r = 0
  · rw [if_pos z, if_neg (by omega), z]
  · rw [if_neg z, if_pos (by omega)]
def red (B : Mt) : Mt := fun r c => B (r + 1) (c + 1) - B (r + 1) 0 * (B 0 0)⁻¹ * B 0 (c + 1)
theorem dt_red {n : Nat} (B : Mt) (h : B 0 0 ≠ 0) : dt (n + 1) B = B 0 0 * dt n (red B) := by
  rw [← dt_elim B fun r => B r 0 * (B 0 0)⁻¹, dt_first fun i h0 hi => ?_]
  · rw [if_pos rfl]
    congr 1
  · rw [if_neg (by omega)]
    have := Rat.mul_inv_cancel _ h
    generalize (B 0 0)⁻¹ = u at *
    grind
def bnd (B : Mt) (k i j : Nat) : Mt := fun r c => B (if r = k then i else r) (if c = k then j else c)
def mi (B : Mt) (k i j : Nat) : Rat := dt (k + 1) (bnd B k i j)
theorem mi_zero (B : Mt) (i j : Nat) : mi B 0 i j = B i j := by
  unfold mi
  rw [dt_succ]
  show (0 : Rat) + sgd 0 * bnd B 0 i j 0 0 * 1 = _
  rw [show sgd 0 = 1 from if_pos (by decide)]
  show (0 : Rat) + 1 * B (if 0 = 0 then i else 0) (if 0 = 0 then j else 0) * 1 = _
  rw [if_pos rfl, if_pos rfl]; grind
theorem mi_self (B : Mt) (k : Nat) : mi B k k k = dt (k + 1) B := by
  unfold mi
  congr 1
  funext r c
  unfold bnd
  congr 1
  · split
    · rename_i h; exact h.symm
    · rfl
  · split
    · rename_i h; exact h.symm
    · rfl
theorem mi_red (B : Mt) (h : B 0 0 ≠ 0) (k i j : Nat) : mi B (k + 1) (i + 1) (j + 1) = B 0 0 * mi (red B) k i j := by
  unfold mi
  have e0 : bnd B (k + 1) (i + 1) (j + 1) 0 0 = B 0 0 := by
    unfold bnd
    rw [if_neg (by omega), if_neg (by omega)]
  rw [dt_red _ (by rw [e0]; exact h), e0]
  congr 1
  refine dt_congr fun r hr c hc => ?_
  unfold red
  rw [e0]
  have a1 : bnd B (k + 1) (i + 1) (j + 1) (r + 1) (c + 1) = B ((if r = k then i else r) + 1) ((if c = k then j else c) + 1) := by
    unfold bnd
    congr 1
    · by_cases z : r = k
      · rw [if_pos z, if_pos (by omega)]
      · rw [if_neg z, if_neg (by omega)]
    · by_cases z : c = k
      · rw [if_pos z, if_pos (by omega)]
      · rw [if_neg z, if_neg (by omega)]
  have a2 : bnd B (k + 1) (i + 1) (j + 1) (r + 1) 0 = B ((if r = k then i else r) + 1) 0 := by
    unfold bnd
    rw [if_neg (show ¬ 0 = k + 1 by omega)]
    congr 1
    by_cases z : r = k
    · rw [if_pos z, if_pos (by omega)]
    · rw [if_neg z, if_neg (by omega)]
  have a3 : bnd B (k + 1) (i + 1) (j + 1) 0 (c + 1) = B 0 ((if c = k then j else c) + 1) := by
    unfold bnd
    rw [if_neg (show ¬ 0 = k + 1 by omega)]
    congr 1
    by_cases z : c = k
    · rw [if_pos z, if_pos (by omega)]
    · rw [if_neg z, if_neg (by omega)]
  rw [a1, a2, a3]
  rfl
theorem lead_red {B : Mt} {k : Nat} (h : ∀ m, 1 ≤ m → m ≤ k + 1 → dt m B ≠ 0) : B 0 0 ≠ 0 ∧ ∀ m, 1 ≤ m → m ≤ k → dt m (red B) ≠ 0 := by
  have b0 : B 0 0 ≠ 0 := by
    have := h 1 (by omega) (by omega)
    rw [← mi_self B 0, mi_zero] at this
    exact this
  refine ⟨b0, fun m h1 h2 z => ?_⟩
  have := h (m + 1) (by omega) (by omega)
  rw [dt_red B b0, z] at this
  exact this (by grind)
theorem sylvester : ∀ (k : Nat) (B : Mt), (∀ m, 1 ≤ m → m ≤ k → dt m B ≠ 0) → ∀ i j, k < i → k < j → mi B k k k * mi B k i j - mi B k i k * mi B k k j = dt k B * mi B (k + 1) i j
  | 0, B, _, i, j, hi, hj => by
    rw [mi_zero, mi_zero, mi_zero, mi_zero]
    show _ = 1 * mi B 1 i j
    unfold mi
    rw [dt_succ]
    have d1 : ∀ M : Mt, dt 1 M = M 0 0 := fun M => by
      rw [dt_succ]
      show (0 : Rat) + sgd 0 * M 0 0 * 1 = _
      rw [show sgd 0 = 1 from if_pos (by decide)]; grind
    show _ = 1 * ((0 : Rat) + sgd 0 * bnd B 1 i j 0 0 * dt 1 (mn (bnd B 1 i j) 0) + sgd 1 * bnd B 1 i j 1 0 * dt 1 (mn (bnd B 1 i j) 1))
    rw [d1, d1, show sgd 0 = 1 from if_pos (by decide), show sgd 1 = -1 from if_neg (by decide)]
    show _ = 1 * ((0 : Rat) + 1 * B 0 0 * B i j + -1 * B i 0 * B 0 j)
    grind
  | k + 1, B, h, i, j, hi, hj => by
    obtain ⟨b0, hr⟩ := lead_red h
    obtain ⟨i', rfl⟩ : ∃ i', i = i' + 1 := ⟨i - 1, by omega⟩
    obtain ⟨j', rfl⟩ : ∃ j', j = j' + 1 := ⟨j - 1, by omega⟩
    have ih := sylvester k (red B) hr i' j' (by omega) (by omega)
    rw [mi_red B b0, mi_red B b0, mi_red B b0, mi_red B b0, mi_red B b0, dt_red B b0]
    generalize B 0 0 = b at *
    generalize mi (red B) k k k = x1 at *
    generalize mi (red B) k i' j' = x2 at *
    generalize mi (red B) k i' k = x3 at *
    generalize mi (red B) k k j' = x4 at *
    generalize mi (red B) (k + 1) i' j' = x5 at *
    generalize dt k (red B) = x6 at *
    grind
theorem dt_stuck : ∀ (k n : Nat) (B : Mt), (∀ m, 1 ≤ m → m ≤ k → dt m B ≠ 0) → k < n → (∀ i, k ≤ i → i < n → mi B k i k = 0) → dt n B = 0
  | 0, n, B, _, hk, h => by
    obtain ⟨m, rfl⟩ : ∃ m, n = m + 1 := ⟨n - 1, by omega⟩
    rw [dt_succ]
    refine sumTo_zero _ fun i hi => ?_
    have := h i (by omega) hi
    rw [mi_zero] at this
    rw [this]; grind
  | k + 1, n, B, hl, hk, h => by
    obtain ⟨b0, hr⟩ := lead_red hl
    obtain ⟨m, rfl⟩ : ∃ m, n = m + 1 := ⟨n - 1, by omega⟩
    rw [dt_red B b0, dt_stuck k m (red B) hr (by omega) fun i h1 h2 => ?_]
    · grind
    · have := h (i + 1) (by omega) (by omega)
      rw [mi_red B b0] at this
      rcases Rat.mul_eq_zero.mp this with y | y
      · exact absurd y b0
      · exact y
def swN (B : Mt) (r s : Nat) : Mt := fun i c => if i = r then B s c else if i = s then - B r c else B i c
theorem dt_swN {n : Nat} {B : Mt} {r s : Nat} (hr : r < n) (hs : s < n) (h : r ≠ s) : dt n (swN B r s) = dt n B := by
  -- row r plus row s; row s less row r; row r plus row s
  have e1 := dt_row (M := B) (r := r) (s := s) 1 1 hr hs h
  obtain ⟨B1, h1⟩ : ∃ B1, B1 = setR B r fun c => 1 * B r c + 1 * B s c := ⟨_, rfl⟩
  rw [← h1] at e1
  have e2 := dt_row (M := B1) (r := s) (s := r) 1 (-1) hs hr (Ne.symm h)
  obtain ⟨B2, h2⟩ : ∃ B2, B2 = setR B1 s fun c => 1 * B1 s c + (-1) * B1 r c := ⟨_, rfl⟩
  rw [← h2] at e2
  have e3 := dt_row (M := B2) (r := r) (s := s) 1 1 hr hs h
  have e : setR B2 r (fun c => 1 * B2 r c + 1 * B2 s c) = swN B r s := by
    funext i c
    have v1r : ∀ c, B1 r c = B r c + B s c := fun c => by rw [h1]; unfold setR; rw [if_pos rfl]; grind
    have v1s : ∀ c, B1 s c = B s c := fun c => by rw [h1]; unfold setR; rw [if_neg (Ne.symm h)]
    have v2s : ∀ c, B2 s c = - B r c := fun c => by rw [h2]; unfold setR; rw [if_pos rfl]; show 1 * B1 s c + -1 * B1 r c = _; rw [v1s, v1r]; grind
    have v2r : ∀ c, B2 r c = B r c + B s c := fun c => by rw [h2]; unfold setR; rw [if_neg h, v1r]
    unfold setR swN
    by_cases z : i = r
    · rw [if_pos z, if_pos z]
      show 1 * B2 r c + 1 * B2 s c = _
      rw [v2r, v2s]; grind
    · rw [if_neg z, if_neg z]
      by_cases y : i = s
      · rw [if_pos y, y, v2s]
      · rw [if_neg y, h2]
        unfold setR
        rw [if_neg y, h1]
        unfold setR
        rw [if_neg z]
  rw [← e, e3, e2, e1]; grind
end R

set_option maxRecDepth 100000
namespace R
open PySem L2 PyProof.Rows
structure Pos (n : Nat) (g : Nat → Nat → Rat) : Prop where
  p : ∀ i, i ≤ n → 0 < g i 0
  s : ∀ i, 1 ≤ i → i < n → ∀ j, g i 0 * g (i - 1) j = g i 0 * g (i + 1) (j + 1) - g (i + 1) 0 * g i (j + 1)
  l : 1 ≤ n → ∀ j, g 0 0 * g 1 (j + 1) - g 1 0 * g 0 (j + 1) = 0
  z : ∀ i j, i ≤ n → i < 2 * j → g i j = 0
theorem dt_bits {W : Nat} : ∀ {n : Nat} {M : Mt}, n ≤ 16 → (∀ r c, ∃ z : Int, M r c = (z : Rat) ∧ z.natAbs < 2 ^ W) → ∃ z : Int, dt n M = (z : Rat) ∧ z.natAbs ≤ 2 ^ ((W + 4) * n)
  | 0, _, _, _ => ⟨1, rfl, by simp⟩
  | n + 1, M, hn, h => by
    have key : ∀ m, m ≤ n + 1 → ∃ z : Int, sumTo (fun i => sgd i * M i 0 * dt n (mn M i)) m = (z : Rat) ∧ z.natAbs ≤ m * (2 ^ W * 2 ^ ((W + 4) * n)) := by
      intro m
      induction m with
      | zero => intro _; exact ⟨0, rfl, by simp⟩
      | succ m ih =>
        intro hm
        obtain ⟨z, e, b⟩ := ih (by omega)
        obtain ⟨x, ex, bx⟩ := h m 0
        obtain ⟨y, ey, by'⟩ := dt_bits (n := n) (M := mn M m) (by omega) fun r c => h _ _
        obtain ⟨s, es, bs⟩ : ∃ s : Int, sgd m = (s : Rat) ∧ s.natAbs = 1 := by
          unfold sgd
          split
          · exact ⟨1, rfl, rfl⟩
          · exact ⟨-1, by rw [Rat.intCast_neg]; rfl, rfl⟩
        refine ⟨z + s * x * y, ?_, ?_⟩
        · rw [sumTo, e, ex, ey, es, Rat.intCast_add, Rat.intCast_mul, Rat.intCast_mul]
        · have h1 : (s * x * y).natAbs ≤ 2 ^ W * 2 ^ ((W + 4) * n) := by
            rw [Int.natAbs_mul, Int.natAbs_mul, bs, Nat.one_mul]
            exact Nat.mul_le_mul (Nat.le_of_lt bx) by'
          have h2 := Int.natAbs_add_le z (s * x * y)
          rw [Nat.succ_mul]; omega
    obtain ⟨z, e, b⟩ := key (n + 1) (Nat.le_refl _)
    refine ⟨z, by rw [dt_succ]; exact e, Nat.le_trans b ?_⟩
    have : (n + 1) * (2 ^ W * 2 ^ ((W + 4) * n)) ≤ 2 ^ 4 * (2 ^ W * 2 ^ ((W + 4) * n)) := Nat.mul_le_mul_right _ (by omega)
    refine Nat.le_trans this ?_
    rw [← Nat.pow_add, ← Nat.pow_add]
    exact Nat.pow_le_pow_right (by decide) (by rw [Nat.mul_succ]; omega)
end R

set_option maxRecDepth 100000
namespace R
open PySem L2 PyProof.Rows
inductive RwZ (H : Hp) : List Addr → List (List Int) → Prop where
  | nil : RwZ H [] []
  | cons {p : Addr} {ps : List Addr} {L : List Int} {Ls : List (List Int)} (h : H p = some (.lst (L.map V.int))) (t : RwZ H ps Ls) : RwZ H (p :: ps) (L :: Ls)
theorem RwZ.length {H : Hp} : ∀ {ts : List Addr} {M : List (List Int)}, RwZ H ts M → ts.length = M.length
  | _, _, .nil => rfl
  | _, _, .cons _ t => congrArg (· + 1) t.length
theorem RwZ.same {H H' : Hp} (s : Same H H') : ∀ {ts : List Addr} {M : List (List Int)}, RwZ H ts M → RwZ H' ts M
  | _, _, .nil => .nil
  | _, _, .cons h t => .cons (s _ _ h) (t.same s)
theorem RwZ.get {H : Hp} : ∀ {ts : List Addr} {M : List (List Int)} {i : Nat} {p : Addr}, RwZ H ts M → ts[i]? = some p → ∃ L, M[i]? = some L ∧ H p = some (.lst (L.map V.int))
  | _, _, _, _, .nil, e => by simp at e
  | _, _, 0, _, .cons h _, e => by cases e; exact ⟨_, rfl, h⟩
  | _, _, i + 1, _, .cons _ t, e => t.get (i := i) (by simpa using e)
theorem RwZ.append {H : Hp} : ∀ {ts us : List Addr} {M N : List (List Int)}, RwZ H ts M → RwZ H us N → RwZ H (ts ++ us) (M ++ N)
  | _, _, _, _, .nil, h => h
  | _, _, _, _, .cons h t, k => .cons h (t.append k)
theorem RwZ.over {H : Hp} {l : Addr} {o : HO} : ∀ {ts : List Addr} {M : List (List Int)}, l ∉ ts → RwZ H ts M → RwZ (upd H l o) ts M
  | _, _, _, .nil => .nil
  | _, _, n, .cons h t => .cons (by rw [upd_ne (fun z => n (by rw [← z]; exact List.mem_cons_self))]; exact h) (t.over fun z => n (List.mem_cons_of_mem _ z))
theorem RwZ.set {H : Hp} : ∀ {ts : List Addr} {M : List (List Int)} (k : Nat) {p : Addr} {L : List Int}, RwZ H ts M → H p = some (.lst (L.map V.int)) → RwZ H (ts.set k p) (M.set k L)
  | _, _, _, _, _, .nil, _ => .nil
  | _, _, 0, _, _, .cons _ t, e => .cons e t
  | _, _, k + 1, _, _, .cons h t, e => .cons h (t.set k e)
def zz (M : List (List Int)) (i j : Nat) : Int := aZ ((M[i]?).getD []) j
theorem set_two {α : Type} (l : List α) {i j : Nat} (x y : α) (hij : i < j) (hj : j < l.length) : l.take i ++ [x] ++ (l.drop (i + 1)).take (j - (i + 1)) ++ [y] ++ l.drop (j + 1) = (l.set i x).set j y := by
  refine List.ext_getElem? fun k => ?_
  rw [List.getElem?_set, List.getElem?_set]
  simp only [List.length_set]
  have l1 : (l.take i).length = i := by rw [List.length_take]; omega
  have l2 : (l.take i ++ [x]).length = i + 1 := by rw [List.length_append, l1]; rfl
  have l3 : (l.take i ++ [x] ++ (l.drop (i + 1)).take (j - (i + 1))).length = j := by rw [List.length_append, l2, List.length_take, List.length_drop]; omega
  have l4 : (l.take i ++ [x] ++ (l.drop (i + 1)).take (j - (i + 1)) ++ [y]).length = j + 1 := by rw [List.length_append, l3]; rfl
  rcases Nat.lt_or_ge j k with a | a
  · rw [List.getElem?_append_right (by omega), l4, List.getElem?_drop, if_neg (by omega), if_neg (by omega)]
    congr 1; omega
  · rw [List.getElem?_append_left (by omega)]
    rcases Nat.lt_or_ge k j with b | b
    · rw [List.getElem?_append_left (by omega), if_neg (by omega)]
      rcases Nat.lt_or_ge i k with c | c
      · rw [List.getElem?_append_right (by omega), l2, if_neg (by omega), List.getElem?_take_of_lt (by omega), List.getElem?_drop]
        congr 1; omega
      · rw [List.getElem?_append_left (by omega)]
        rcases Nat.lt_or_ge k i with d | d
        · rw [List.getElem?_append_left (by omega), if_neg (by omega), List.getElem?_take_of_lt d]
        · have : k = i := by omega
          subst this
          rw [List.getElem?_append_right (by omega), l1, Nat.sub_self, if_pos rfl, if_pos (by omega)]; rfl
    · have : k = j := by omega
      subst this
      rw [List.getElem?_append_right (by omega), l3, Nat.sub_self, if_pos rfl, if_pos hj]; rfl
structure Eb (n : Nat) (A B : Mt) (at' : Nat) (M : List (List Int)) (dv : Int) : Prop where
  len : M.length = n
  row : ∀ L ∈ M, L.length = n
  ent : ∀ i j, at' ≤ i → i < n → at' ≤ j → j < n → ((zz M i j : Int) : Rat) = mi B at' i j
  zer : ∀ i j, at' ≤ i → i < n → j < at' → zz M i j = 0
  int : ∀ r c, IsI (B r c)
  det : dt n B = dt n A
  led : ∀ m, 1 ≤ m → m ≤ at' → dt m B ≠ 0
  div : ((dv : Int) : Rat) = dt at' B
theorem mi_swN {B : Mt} {k s i j : Nat} (hs : k < s) : mi (swN B k s) k i j = if i = k then mi B k s j else if i = s then - mi B k k j else mi B k i j := by
  have top : ∀ (x : Nat) (e : Rat), (∀ c, swN B k s i c = e * B x c) → mi (swN B k s) k i j = e * mi B k x j := fun x e h => by
    unfold mi
    have e1 : dt (k + 1) (bnd (swN B k s) k i j) = dt (k + 1) (setR (bnd B k x j) k fun c => e * (bnd B k x j) k c + 0 * (bnd B k x j) k c) := dt_congr fun r hr c _ => by
      unfold setR
      by_cases z : r = k
      · rw [if_pos z, z]
        show swN B k s (if k = k then i else k) _ = e * B (if k = k then x else k) _ + 0 * _
        rw [if_pos rfl, if_pos rfl, h]; grind
      · rw [if_neg z]
        unfold bnd
        rw [if_neg z, if_neg z]
        unfold swN
        rw [if_neg z, if_neg (by omega)]
    rw [e1, dt_lin _ e 0 _ _ (by omega), setR_self]; grind
  by_cases a : i = k
  · rw [if_pos a, top s 1 fun c => by unfold swN; rw [if_pos a]; grind]; grind
  · rw [if_neg a]
    by_cases b : i = s
    · rw [if_pos b, top k (-1) fun c => by unfold swN; rw [if_neg a, if_pos b]; grind]; grind
    · rw [if_neg b, top i 1 fun c => by unfold swN; rw [if_neg a, if_neg b]; grind]; grind
section
variable {n : Nat} {A B : Mt} {k : Nat} {M M' : List (List Int)} {dv : Int}
def mZ (M : List (List Int)) : Mt := fun r c => ((zz M r c : Int) : Rat)
end
end R

set_option maxRecDepth 100000
local macro_rules | `(tactic| subst_eqs) => `(tactic| simp only [L2.ipM, L2.rLst, L2.tComp_eq, L2.tCompIf_eq, L2.tMaxD, L2.iZip, L2.rRep, L2.tSl, L2.tPart, L2.tNoPart, L2.rSlL, L2.rAppend, L2.iEnum, L2.capSt, List.map_cons, List.map_nil, Option.bind_none, Option.bind_some, Option.join_some, L2.tSeq, L2.tIfS, L2.tAnd, L2.tOr, L2.tNot, L2.tTest, L2.tB, L2.tOp, L2.tUn, L2.tBM0, L2.tBM, L2.tVar, L2.tC, L2.tCB, L2.tRet, L2.tAsg, L2.gName, L2.gSub, L2.gTup, L2.gCons, L2.gNil, L2.tCons, L2.tNil, L2.tPar, L2.tTup, L2.tLst, L2.tIf, L2.tAndV, L2.tNotV, L2.tDef, L2.tCallX, L2.tDrop, L2.tNext, L2.tNever, L2.tRaise, L2.tAug, L2.rI, L2.rI0, L2.rU, L2.rBitLen, L2.rIxL, L2.rIxT, L2.rSetL, L2.rEq, L2.rNe, L2.rCount, L2.rIndex, L2.rSplit, L2.rIsI, L2.rCat, L2.iRng1, L2.iRng2, L2.iList, L2.cxOf, L2.cxR, L2.cxX, L2.Cx.nox, L2.Cx.wish, L2.Cx.body, L2.Cx.suite, List.getElem?_cons_zero, List.getElem?_cons_succ, List.set_cons_zero, List.set_cons_succ, Option.some.injEq, L2.V.int.injEq, L2.V.bl.injEq, L2.V.ref.injEq, L2.V.str.injEq, exists_eq_left', exists_eq_left, exists_and_left, true_and, and_true, List.cons.injEq, reduceCtorEq, Bool.false_eq_true, if_false, if_true, exists_const, ↓reduceIte, L2.tyV, List.length_cons, List.length_nil, exists_eq, List.append_nil, List.cons_append, List.nil_append, decide_eq_true_eq, not_true_eq_false, not_false_eq_true, Bool.not_eq_true', decide_eq_false_iff_not, Bool.not_true, Bool.not_false, and_assoc, false_and, false_or, or_false])
local macro_rules | `(tactic| clean_wf) => `(tactic| simp only [L2.ipM, L2.rLst, L2.tComp_eq, L2.tCompIf_eq, L2.tMaxD, L2.iZip, L2.rRep, L2.tSl, L2.tPart, L2.tNoPart, L2.rSlL, L2.rAppend, L2.iEnum, L2.capSt, List.map_cons, List.map_nil, Option.bind_none, Option.bind_some, Option.join_some, L2.tSeq, L2.tIfS, L2.tAnd, L2.tOr, L2.tNot, L2.tTest, L2.tB, L2.tOp, L2.tUn, L2.tBM0, L2.tBM, L2.tVar, L2.tC, L2.tCB, L2.tRet, L2.tAsg, L2.gName, L2.gSub, L2.gTup, L2.gCons, L2.gNil, L2.tCons, L2.tNil, L2.tPar, L2.tTup, L2.tLst, L2.tIf, L2.tAndV, L2.tNotV, L2.tDef, L2.tCallX, L2.tDrop, L2.tNext, L2.tNever, L2.tRaise, L2.tAug, L2.rI, L2.rI0, L2.rU, L2.rBitLen, L2.rIxL, L2.rIxT, L2.rSetL, L2.rEq, L2.rNe, L2.rCount, L2.rIndex, L2.rSplit, L2.rIsI, L2.rCat, L2.iRng1, L2.iRng2, L2.iList, L2.cxOf, L2.cxR, L2.cxX, L2.Cx.nox, L2.Cx.wish, L2.Cx.body, L2.Cx.suite, List.getElem?_cons_zero, List.getElem?_cons_succ, List.set_cons_zero, List.set_cons_succ, Option.some.injEq, L2.V.int.injEq, L2.V.bl.injEq, L2.V.ref.injEq, L2.V.str.injEq, exists_eq_left', exists_eq_left, exists_and_left, true_and, and_true, List.cons.injEq, reduceCtorEq, Bool.false_eq_true, if_false, if_true, exists_const, ↓reduceIte, L2.tyV, List.length_cons, List.length_nil, exists_eq, List.append_nil, List.cons_append, List.nil_append, decide_eq_true_eq, not_true_eq_false, not_false_eq_true, Bool.not_eq_true', decide_eq_false_iff_not, Bool.not_true, Bool.not_false, and_assoc, false_and, false_or, or_false, R.spDraw])
namespace R
open PySem L2 PyProof.Rows
section
variable {P : Program} {w : World} {K : PySem.W.Frag} {mg : Str → Option Value} {base : Heap}
theorem new_any {H : Hp} {a : Addr} (o : HO) (h : H a = none) : ∃ H', H' = upd H a o ∧ Same H H' ∧ H' a = some o := ⟨_, rfl, Same.new h o, upd_same⟩
theorem cut_mid (xs : List V) {a b : Nat} (h : a ≤ b) (h' : b ≤ xs.length) : cutV xs (some (a : Int)) (some (b : Int)) = (xs.drop a).take (b - a) := by
  unfold cutV
  have e1 : HT.sIx xs.length 0 (some (a : Int)) = a := by
    simp only [HT.sIx]
    rw [if_neg (by omega)]; omega
  have e2 : HT.sIx xs.length xs.length (some (b : Int)) = b := by
    simp only [HT.sIx]
    rw [if_neg (by omega)]; omega
  rw [e1, e2]
theorem zz_set {M : List (List Int)} {k : Nat} {L : List Int} (h : k < M.length) (i j : Nat) : zz (M.set k L) i j = if i = k then aZ L j else zz M i j := by
  unfold zz
  rw [List.getElem?_set]
  by_cases z : i = k
  · rw [if_pos z.symm, if_pos h, if_pos z]; rfl
  · rw [if_neg (Ne.symm z), if_neg z]
theorem aZ_neg (L : List Int) (j : Nat) : aZ (L.map fun v => -v) j = - aZ L j := by
  unfold aZ
  rw [List.getElem?_map]
  cases L[j]? with
  | none => rfl
  | some v => rfl
structure Led (M M' : List (List Int)) (k n m : Nat) : Prop where
  len : M'.length = n
  row : ∀ L ∈ M', L.length = m
  top : zz M' k k ≠ 0
  bit : ∀ W, (∀ L ∈ M, ∀ v ∈ L, Int.natAbs v < 2 ^ W) → ∀ L ∈ M', ∀ v ∈ L, Int.natAbs v < 2 ^ W
  alt : M' = M ∨ ∃ s, k < s ∧ s < n ∧ ∀ i j, zz M' i j = if i = k then zz M s j else if i = s then - zz M k j else zz M i j
def spWL (K : PySem.W.Frag) : Sp := fun vs H Q _ => ∃ (a : Addr) (ts : List Addr) (M : List (List Int)) (k n m : Nat), vs = [.ref a, .int k] ∧ SqL K H a (ts.map V.ref) ∧ RwZ H ts M ∧ M.length = n ∧ (∀ L ∈ M, L.length = m) ∧ k < n ∧ k < m ∧ n ≤ 30 ∧ m ≤ 60 ∧
  ((∀ i, k ≤ i → i < n → zz M i k = 0) → ∀ H', Same H H' → Q .non H') ∧
  ∀ r ts' M' H', Same H H' → SqL K H' r (ts'.map V.ref) → RwZ H' ts' M' → Led M M' k n m → Q (.ref r) H'
abbrev s_with_lead : Stmt := top 32
theorem sc_with_lead : FnScope ["rows", "at", "place", "behind"] ["rows", "at"] (defScope s_with_lead) := ⟨rfl, rfl, rfl, by decide +kernel, rfl, by decide +kernel, by decide +kernel⟩
set_option maxHeartbeats 0 in
theorem ok_with_lead {f : Addr} (d : Df K mg "with_lead" s_with_lead ["rows", "at"] f) (n_len : mg "len" = none) (n_range : mg "range" = none) : Def P w K mg base CX0 1 "with_lead" f ["rows", "at"] (spWL K) := by
  refine d.ok (N := ["rows", "at", "place", "behind"]) sc_with_lead (by rintro vs H Q E ⟨_, _, _, _, _, _, h, _⟩; rw [h]; rfl) (fun cdv A outer s H vs Q E hr h => ?_)
  obtain ⟨a, ts, M, k, n, m, rfl, hA, hR, ln, lm, kn, km, n30, m60, k1, k2⟩ := h
  refine ⟨_, (pss_cons (ps_for PassesOwn.never rfl (pi_range2 rfl n_range (pa_cons (pv 1) (pa_cons (pe_callB call_len_seq rfl n_len (by decide +kernel) (pa_cons (pv 0) pa_nil)) pa_nil))) (pg_name (i := 2) sc_with_lead.nd rfl (Or.inl rfl)) (pss_one (ps_if (pt_truth (pe_ix ix_list (pe_ix ix_list (pv 0) (pv 2) (fun _ _ => rfl)) (pv 1) (fun _ _ => rfl)) (fun _ => rfl)) (pss_cons (ps_if (pt_cmpR op_eq (pv 2) (pv 1) (nomark _)) (pss_one (ps_ret (pv 0))) pss_nil)
      (pss_cons (ps_setComp (i₀ := 3) sc_with_lead.nd rfl (Or.inl rfl) (Nc := ["whole"]) (caps := [none]) rfl (Caps.of (osc := defScope s_with_lead) (N := ["rows", "at", "place", "behind"]) (ks := []) rfl rfl rfl rfl sub_nil (by decide +kernel)) (pi_list (pe_ix ix_list (pv 0) (pv 1) (fun _ _ => rfl))) (fun C s₂ H₂ fp pins => (pg_name (i := 0) (show List.Nodup (["whole"] : List Str) by decide +kernel) rfl (Or.inl rfl) (Or.inr rfl))) (fun C s₂ H₂ fp pins => (pe_un un_neg (pv 0))))
      (pss_one (ps_ret (pe_op op_cat (pe_op op_cat (pe_op op_cat (pe_op op_cat (pe_slice sl_list (pv 0) po_none (po_some (pv 1))) (pe_lst (pa_cons (pe_ix ix_list (pv 0) (pv 2) (fun _ _ => rfl)) pa_nil))) (pe_slice sl_list (pv 0) (po_some (pe_op op_add (pv 1) pe_int)) (po_some (pv 2)))) (pe_lst (pa_cons (pv 3) pa_nil))) (pe_slice sl_list (pv 0) (po_some (pe_op op_add (pv 2) pe_int)) po_none)))))) pss_nil)))
      (pss_one (ps_ret pe_non))), ?_⟩
  rw [show start ["rows", "at", "place", "behind"] [.ref a, .int k] = [some (.ref a), some (.int k), none, none] from rfl]
  subst_eqs
  have tl : ts.length = n := by rw [hR.length, ln]
  have rowAt : ∀ i, i < n → ∃ (p : Addr) (L : List Int), ts[i]? = some p ∧ M[i]? = some L ∧ H p = some (.lst (L.map V.int)) ∧ L.length = m := fun i hi => by
    have e := List.getElem?_eq_getElem (l := ts) (i := i) (by omega)
    obtain ⟨L, e1, e2⟩ := hR.get e
    exact ⟨_, L, e, e1, e2, lm L (List.mem_of_getElem? e1)⟩
  have at' : ∀ (i : Nat) (p : Addr), ts[i]? = some p → (ts.map V.ref)[i]? = some (.ref p) := fun i p e => by rw [List.getElem?_map, e]; rfl
  refine ⟨_, rfl, _, rfl, a, rfl, _, .inl hA, _, _, rfl, ?_, for_range (fun i σ H1 => H1 = H ∧ (∃ o2, σ = [some (.ref a), some (.int k), o2, none]) ∧ ∀ x, k ≤ x → x < k + i → zz M x k = 0) ⟨rfl, ⟨_, rfl⟩, fun x h1 h2 => by omega⟩ ?_ ?_⟩
  · rw [List.length_map, tl]; omega
  · rintro i σ H1 hi ⟨rfl, ⟨o2, rfl⟩, hz⟩
    rw [List.length_map, tl] at hi
    obtain ⟨p, L, e1, e2, e3, e4⟩ := rowAt (k + i) (by omega)
    obtain ⟨p0, L0, f1, f2, f3, f4⟩ := rowAt k kn
    subst_eqs
    have ci : ((k : Int) + (i : Int)) = ((k + i : Nat) : Int) := by omega
    rw [ci]
    have eL : (L.map V.int)[k]? = some (.int (zz M (k + i) k)) := by
      unfold zz aZ
      rw [e2, List.getElem?_map]
      show Option.map _ L[k]? = some (V.int (L[k]?.getD 0))
      rw [List.getElem?_eq_getElem (by omega)]; rfl
    refine ⟨_, hA, _, atI_nat (at' _ _ e1), p, rfl, _, SqL.of e3, _, atI_nat eL, _, rfl, ite2 (fun h1 => ?_) (fun h1 => ?_)⟩
    · have nz : zz M (k + i) k ≠ 0 := by simpa using h1
      refine ⟨rfl, ite2 (fun h2 => ?_) (fun h2 => ?_)⟩
      · have : i = 0 := by omega
        subst this
        exact k2 a ts M _ (Same.refl _) hA hR ⟨ln, lm, nz, fun W h => h, .inl rfl⟩
      · refine ⟨_, hA, _, atI_nat (at' _ _ f1), p0, rfl, ⟨_, SqL.of f3⟩, fun D hD => ?_⟩
        refine cw_list (L0.map V.int) (fun j σ H2 => (∃ o, σ = [o]) ∧ Same H1 H2 ∧ H2 D = some (.lst ((L0.take j).map fun v => V.int (-v)))) ⟨⟨_, rfl⟩, Same.new hD _, by rw [List.take_zero]; exact upd_same⟩ (fun j σ H2 _ ⟨_, s2, _⟩ => SqL.of (s2 _ _ f3)) ?_ ?_
        · rintro j x σ H2 hx ⟨⟨o, rfl⟩, s2, e⟩
          obtain ⟨v, hv, rfl⟩ := ints_get hx
          have hj := (List.getElem?_eq_some_iff.mp hx).1
          subst_eqs
          refine CompN.mk hj e ?_ ⟨⟨_, rfl⟩, s2.over hD _, ?_⟩
          · rw [List.length_map, List.length_take]
            exact Nat.lt_of_le_of_lt (show _ ≤ 100 by omega) (by decide)
          · rw [upd_same, take_snoc_get hv, List.map_append]; rfl
        · rintro σ H2 ⟨⟨o, rfl⟩, s2, e⟩
          rw [List.length_map, List.take_length] at e
          have lt' : (ts.map V.ref).length = n := by rw [List.length_map, tl]
          have hA2 := s2.seq hA
          refine ⟨_, hA2, fun a1 h1 => ?_⟩
          obtain ⟨H3, y, X1, g1⟩ := new_any (.lst (cutV (ts.map V.ref) none (some (k : Int)))) h1
          rw [← y]
          refine ⟨_, X1.seq hA2, _, atI_nat (at' _ _ e1), small1, fun a2 h2 => ?_⟩
          obtain ⟨H4, y, X2, g2⟩ := new_any (.lst [V.ref p]) h2
          rw [← y]
          refine ⟨_, X2 _ _ g1, _, g2, ?_, fun a3 h3 => ?_⟩
          · exact Nat.le_trans (Nat.add_le_add (cutV_length _ _ _) (Nat.le_refl 1)) (Nat.le_trans (show _ ≤ 100 by omega) (by decide))
          rw [cut_take _ (by omega)]
          obtain ⟨H5, y, X3, g3⟩ := new_any (.lst ((ts.map V.ref).take k ++ [V.ref p])) h3
          rw [← y]
          have X13 := (X1.trans X2).trans X3
          refine ⟨_, X13.seq hA2, fun a4 h4 => ?_⟩
          rw [show ((k : Int) + 1) = ((k + 1 : Nat) : Int) by omega, cut_mid _ (show k + 1 ≤ k + i by omega) (by omega)]
          obtain ⟨H6, y, X4, g4⟩ := new_any (.lst (((ts.map V.ref).drop (k + 1)).take (k + i - (k + 1)))) h4
          rw [← y]
          refine ⟨_, X4 _ _ g3, _, g4, ?_, fun a5 h5 => ?_⟩
          · refine Nat.le_trans (show _ ≤ 100 from ?_) (by decide)
            rw [List.length_append, List.length_take, List.length_take, List.length_drop]
            simp only [List.length_cons, List.length_nil]
            omega
          obtain ⟨F, hF⟩ : ∃ F, F = (ts.map V.ref).take k ++ [V.ref p] ++ ((ts.map V.ref).drop (k + 1)).take (k + i - (k + 1)) := ⟨_, rfl⟩
          rw [← hF]
          have lF : F.length ≤ 100 := by
            rw [hF, List.length_append, List.length_append, List.length_take, List.length_take, List.length_drop]
            simp only [List.length_cons, List.length_nil]
            omega
          obtain ⟨H7, y, X5, g5⟩ := new_any (.lst F) h5
          rw [← y]
          refine ⟨small1, fun a6 h6 => ?_⟩
          obtain ⟨H8, y, X6, g6⟩ := new_any (.lst [V.ref D]) h6
          rw [← y]
          refine ⟨_, X6 _ _ g5, _, g6, ?_, fun a7 h7 => ?_⟩
          · exact Nat.le_trans (show _ ≤ 101 by simp only [List.length_cons, List.length_nil]; omega) (by decide)
          obtain ⟨H9, y, X7, g7⟩ := new_any (.lst (F ++ [V.ref D])) h7
          rw [← y]
          have X17 := X13.trans (X4.trans (X5.trans (X6.trans X7)))
          refine ⟨_, X17.seq hA2, fun a8 h8 => ?_⟩
          rw [show (((k + i : Nat) : Int) + 1) = ((k + i + 1 : Nat) : Int) by omega, cut_from _ (by omega)]
          obtain ⟨H10, y, X8, g8⟩ := new_any (.lst ((ts.map V.ref).drop (k + i + 1))) h8
          rw [← y]
          refine ⟨_, X8 _ _ g7, _, g8, ?_, fun a9 h9 => ?_⟩
          · refine Nat.le_trans (show _ ≤ 200 from ?_) (by decide)
            rw [List.length_append, List.length_drop]
            simp only [List.length_cons, List.length_nil]
            omega
          have X19 := X17.trans (X8.trans (Same.new h9 (.lst (F ++ [V.ref D] ++ (ts.map V.ref).drop (k + i + 1)))))
          have S := s2.trans X19
          have hM : (M.set k L).length = n := by rw [List.length_set, ln]
          have e0 : zz M k = aZ L0 := by funext j; unfold zz; rw [f2]; rfl
          have eL' : zz M (k + i) = aZ L := by funext j; unfold zz; rw [e2]; rfl
          refine k2 a9 ((ts.set k p).set (k + i) D) ((M.set k L).set (k + i) (L0.map fun v => -v)) _ S (SqL.of (xs := ((ts.set k p).set (k + i) D).map V.ref) ?_) ?_ ⟨?_, ?_, ?_, fun W h => ?_, .inr ⟨k + i, by omega, by omega, fun x j => ?_⟩⟩
          · rw [upd_same, hF, set_two (ts.map V.ref) (V.ref p) (V.ref D) (by omega) (by omega), List.map_set, List.map_set]
          · exact ((hR.same S).set k (S _ _ e3)).set (k + i) (X19 _ _ (by rw [e, List.map_map]; rfl))
          · rw [List.length_set, hM]
          · intro L' hL'
            rcases List.mem_or_eq_of_mem_set hL' with z | z
            · rcases List.mem_or_eq_of_mem_set z with z | z
              · exact lm _ z
              · rw [z, e4]
            · rw [z, List.length_map, f4]
          · rw [zz_set (by omega), if_neg (by omega), zz_set (by omega), if_pos rfl, ← eL']
            exact nz
          · intro L' hL' v hv
            rcases List.mem_or_eq_of_mem_set hL' with z | z
            · rcases List.mem_or_eq_of_mem_set z with z | z
              · exact h _ z v hv
              · exact h _ (List.mem_of_getElem? e2) v (z ▸ hv)
            · rw [z] at hv
              obtain ⟨v', hv', rfl⟩ := List.mem_map.mp hv
              rw [Int.natAbs_neg]
              exact h _ (List.mem_of_getElem? f2) v' hv'
          · rw [zz_set (by omega), zz_set (by omega), aZ_neg, e0, eL']
            by_cases z : x = k
            · rw [if_pos z, if_pos z, if_neg (by omega)]
            · rw [if_neg z, if_neg z]
    · have z0 : zz M (k + i) k = 0 := by simpa using h1
      refine ⟨⟨_, rfl⟩, fun x h2 h3 => ?_⟩
      rcases Nat.lt_or_ge x (k + i) with y | y
      · exact hz x h2 y
      · rw [show x = k + i by omega]; exact z0
  · rintro σ H1 ⟨rfl, ⟨o2, rfl⟩, hz⟩
    rw [List.length_map, tl] at hz
    exact k1 (fun i h1 h2 => hz i h1 (by omega)) _ (Same.refl _)
def spClean (K : PySem.W.Frag) : Sp := fun vs H Q _ => ∃ (a b : Addr) (L C : List Int) (k : Nat) (dv : Int) (W : Nat), vs = [.ref a, .ref b, .int k, .int dv] ∧ SqL K H a (L.map V.int) ∧ SqL K H b (C.map V.int) ∧ L.length = C.length ∧ k < L.length ∧ L.length ≤ 60 ∧ dv ≠ 0 ∧ dv.natAbs < 2 ^ W ∧ (∀ v ∈ L, Int.natAbs v < 2 ^ W) ∧ (∀ v ∈ C, Int.natAbs v < 2 ^ W) ∧ W ≤ 8900 ∧
  ∀ r T H', Same H H' → H r = none → H' r = some (.lst (T.map V.int)) → T.length = L.length → (∀ j, j < T.length → aZ T j = (aZ C k * aZ L j - aZ L k * aZ C j).fdiv dv) → Q (.ref r) H'
abbrev s_cleaned : Stmt := top 33
theorem sc_cleaned : FnScope ["row", "chosen", "at", "before", "lead", "own"] ["row", "chosen", "at", "before"] (defScope s_cleaned) := ⟨rfl, rfl, rfl, by decide +kernel, rfl, by decide +kernel, by decide +kernel⟩
set_option maxHeartbeats 0 in
theorem ok_cleaned {f : Addr} (d : Df K mg "cleaned" s_cleaned ["row", "chosen", "at", "before"] f) (n_zip : mg "zip" = none) : Def P w K mg base CX0 1 "cleaned" f ["row", "chosen", "at", "before"] (spClean K) := by
  refine d.ok (N := ["row", "chosen", "at", "before", "lead", "own"]) sc_cleaned (by rintro vs H Q E ⟨_, _, _, _, _, _, _, h, _⟩; rw [h]; rfl) (fun cdv A outer s H vs Q E hr h => ?_)
  obtain ⟨a, b, R, F, k, dv, W, rfl, hR, hF, lF, kl, l60, d0, db, wR, wF, hW, kk⟩ := h
  refine ⟨_, (pss_cons (ps_asg (pe_tup (pa_cons (pe_ix ix_list (pv 1) (pv 2) (fun _ _ => rfl)) (pa_cons (pe_ix ix_list (pv 0) (pv 2) (fun _ _ => rfl)) pa_nil))) (show PG _ _ (gTup K 2 (gCons (gName 4) (gCons (gName 5) gNil))) from by (refine pg_tup (n := 2) ?_ ?_ ?_ ?_; rfl; (refine pgs_cons ?_ ?_ ?_; (exact (pg_name (i := 4) sc_cleaned.nd rfl (Or.inr rfl))); (refine pgs_cons ?_ ?_ ?_; (exact (pg_name (i := 5) sc_cleaned.nd rfl (Or.inr rfl))); (exact pgs_nil); rfl); rfl); rfl; rfl)))
      (pss_one (ps_ret (pe_comp (Nc := ["own", "lead", "before", "whole", "other"]) (caps := [some 5, some 4, some 3, none, none]) rfl (Caps.of (osc := defScope s_cleaned) (N := ["row", "chosen", "at", "before", "lead", "own"]) (ks := ["own", "lead", "before"]) rfl rfl rfl rfl (sub_cons rfl (sub_cons rfl (sub_cons rfl sub_nil))) (by decide +kernel)) (pi_zip rfl n_zip (pa_cons (pv 0) (pa_cons (pv 1) pa_nil))) (fun C s₂ H₂ fp pins => (show PG _ _ (gTup K 2 (gCons (gName 3) (gCons (gName 4) gNil))) from by (refine pg_tup (n := 2) ?_ ?_ ?_ ?_; rfl; (refine pgs_cons ?_ ?_ ?_; (exact (pg_name (i := 3) (show List.Nodup (["own", "lead", "before", "whole", "other"] : List Str) by decide +kernel) rfl (Or.inl rfl) (Or.inr rfl))); (refine pgs_cons ?_ ?_ ?_; (exact (pg_name (i := 4) (show List.Nodup (["own", "lead", "before", "whole", "other"] : List Str) by decide +kernel) rfl (Or.inl rfl) (Or.inr rfl))); (exact pgs_nil); rfl); rfl); rfl; rfl))) (fun C s₂ H₂ fp pins => (pe_op op_fdivB (pe_op op_sub (pe_op op_mulB (pv 1) (pv 3)) (pe_op op_mulB (pv 0) (pv 4))) (pv 2))))))), ?_⟩
  rw [show start ["row", "chosen", "at", "before", "lead", "own"] [.ref a, .ref b, .int k, .int dv] = [some (.ref a), some (.ref b), some (.int k), some (.int dv), none, none] from rfl]
  have get' : ∀ {G : List Int} {i : Nat}, i < G.length → (G.map V.int)[i]? = some (.int (aZ G i)) := fun {G i} h => by
    unfold aZ
    rw [List.getElem?_map, List.getElem?_eq_getElem h]; rfl
  obtain ⟨tf, htf⟩ : ∃ tf : Nat → Int, ∀ j, tf j = (aZ F k * aZ R j - aZ R k * aZ F j).fdiv dv := ⟨_, fun _ => rfl⟩
  subst_eqs
  refine ⟨_, hF, _, atI_nat (get' (by omega)), _, hR, _, atI_nat (get' kl), small2, fun p hp => ?_⟩
  obtain ⟨H3, y, X, g3⟩ := new_any (.tup [V.int (aZ F k), V.int (aZ R k)]) hp
  rw [← y]
  have R3 := X.seq hR
  have F3 := X.seq hF
  refine ⟨_, SqT.of g3, rfl, _, _, rfl, _, _, rfl, rfl, ⟨_, R3⟩, ⟨_, F3⟩, fun D hD => ?_⟩
  have mb : min (R.map V.int).length (F.map V.int).length = R.length := by rw [List.length_map, List.length_map, ← lF, Nat.min_self]
  refine cw_zip (R.map V.int) (F.map V.int) (fun i σ H4 => ∃ o1 o2, σ = [some (V.int (aZ R k)), some (V.int (aZ F k)), some (V.int dv), o1, o2] ∧ Same H3 H4 ∧ H4 D = some (.lst (((List.range i).map tf).map V.int))) ⟨_, _, rfl, Same.new hD _, upd_same⟩ (by rintro i σ H4 ⟨_, _, _, s4, _⟩; exact ⟨s4.seq R3, s4.seq F3⟩) ?_ ?_
  · rintro i x y σ H4 q hx hy ⟨o1, o2, rfl, s4, e4⟩ hq
    have hi : i < R.length := by
      have := (List.getElem?_eq_some_iff.mp hx).1
      rw [List.length_map] at this; exact this
    rw [get' hi] at hx
    rw [get' (by omega)] at hy
    cases hx
    cases hy
    have T := Same.new hq (.tup [.int (aZ R i), .int (aZ F i)])
    have eT := T _ _ e4
    subst_eqs
    refine ⟨_, SqT.of upd_same, rfl, _, _, rfl, _, _, rfl, rfl, ?_⟩
    refine ⟨_, rfl, mulOk (aZ_lt wF k) (aZ_lt wR _) (by omega), _, rfl, mulOk (aZ_lt wR k) (aZ_lt wF _) (by omega), divOk d0 (lt_up db (by omega)), ?_⟩
    rw [mb]
    refine CompN.mk hi eT ?_ ⟨_, _, rfl, (s4.trans T).over hD _, ?_⟩
    · rw [List.length_map, List.length_map, List.length_range]
      exact Nat.lt_of_lt_of_le (show i < 100 by omega) (by decide)
    · rw [upd_same, List.range_succ, List.map_append, List.map_append, ← htf]; rfl
  · rintro σ H4 ⟨o1, o2, rfl, s4, e4⟩
    rw [mb] at e4
    refine kk D ((List.range R.length).map tf) H4 (X.trans s4) (X.free hD) e4 (by rw [List.length_map, List.length_range]) fun j hj => ?_
    rw [List.length_map, List.length_range] at hj
    rw [← htf]
    unfold aZ
    rw [List.getElem?_map, List.getElem?_range hj]; rfl
end
end R

set_option maxRecDepth 100000
namespace R
open PySem L2 PyProof.Rows
def prodTo (s : Nat → Rat) : Nat → Rat
  | 0 => 1
  | n + 1 => prodTo s n * s n
theorem prodTo_first (s : Nat → Rat) : ∀ n, prodTo s (n + 1) = s 0 * prodTo (fun i => s (i + 1)) n
  | 0 => by show 1 * s 0 = s 0 * 1; grind
  | n + 1 => by
    show prodTo s (n + 1) * s (n + 1) = s 0 * (prodTo (fun i => s (i + 1)) n * s (n + 1))
    rw [prodTo_first s n]; grind
theorem prodTo_congr {s t : Nat → Rat} : ∀ {n}, (∀ i, i < n → s i = t i) → prodTo s n = prodTo t n
  | 0, _ => rfl
  | n + 1, h => by
    show prodTo s n * s n = prodTo t n * t n
    rw [prodTo_congr fun i hi => h i (by omega), h n (by omega)]
theorem prodTo_skip (s : Nat → Rat) : ∀ (n i : Nat), i ≤ n → prodTo s (n + 1) = s i * prodTo (fun r => s (if r < i then r else r + 1)) n
  | n, 0, _ => by
    rw [prodTo_first]
    congr 1
  | 0, i + 1, h => by omega
  | n + 1, i + 1, h => by
    rw [prodTo_first, prodTo_skip (fun r => s (r + 1)) n i (by omega)]
    rw [prodTo_first (fun r => s (if r < i + 1 then r else r + 1)) n, if_pos (by omega)]
    rw [prodTo_congr (s := fun r => s (if r + 1 < i + 1 then r + 1 else r + 1 + 1)) (t := fun r => s ((if r < i then r else r + 1) + 1)) fun r _ => by
      congr 1
      by_cases z : r < i
      · rw [if_pos z, if_pos (by omega)]
      · rw [if_neg z, if_neg (by omega)]]
    grind
theorem dt_scale : ∀ (n : Nat) (s : Nat → Rat) (B : Mt), dt n (fun r c => s r * B r c) = prodTo s n * dt n B
  | 0, _, _ => by show (1 : Rat) = 1 * 1; grind
  | n + 1, s, B => by
    rw [dt_succ, dt_succ, sumTo_mul]
    refine sumTo_congr fun i hi => ?_
    have e : mn (fun r c => s r * B r c) i = fun r c => (fun r => s (if r < i then r else r + 1)) r * mn B i r c := rfl
    rw [e, dt_scale n, prodTo_skip s n i (by omega)]
    grind
def swU (B : Mt) (r s : Nat) : Mt := fun i c => if i = r then B s c else if i = s then B r c else B i c
theorem dt_swU {n : Nat} {B : Mt} {r s : Nat} (hr : r < n) (hs : s < n) (h : r ≠ s) : dt n (swU B r s) = - dt n B := by
  have e : swN B r s = setR (swU B r s) s fun c => (-1) * swU B r s s c + 0 * swU B r s s c := by
    funext i c
    show (if i = r then B s c else if i = s then - B r c else B i c) = if i = s then -1 * (if s = r then B s c else if s = s then B r c else B s c) + 0 * (if s = r then B s c else if s = s then B r c else B s c) else (if i = r then B s c else if i = s then B r c else B i c)
    by_cases a : i = r
    · rw [if_pos a, if_neg (by omega), if_pos a]
    · rw [if_neg a, if_neg a]
      by_cases b : i = s
      · rw [if_pos b, if_pos b, if_neg (Ne.symm h), if_pos rfl]; grind
      · rw [if_neg b, if_neg b, if_neg b]
  have k := dt_swN (B := B) hr hs h
  rw [e, dt_lin _ (-1) 0 _ _ hs, setR_self] at k
  grind
def Sc (W : Nat) (B : Mt) : Prop := ∃ b : Nat → Int, ∀ r, 0 < b r ∧ (b r).natAbs < 2 ^ W ∧ ∀ c, ∃ z : Int, ((b r : Int) : Rat) * B r c = (z : Rat) ∧ z.natAbs < 2 ^ W
theorem over_bits {x : Rat} {d m : Int} (e : x * ((d : Int) : Rat) = ((m : Int) : Rat)) (hd : d ≠ 0) : x.num.natAbs ≤ m.natAbs ∧ x.den ≤ d.natAbs := by
  have d0 : ((d : Int) : Rat) ≠ 0 := fun z => hd (Rat.intCast_inj.mp z)
  have : x = Rat.divInt m d := by
    rw [Rat.divInt_eq_div, ← e, Rat.mul_div_cancel d0]
  rw [this]
  exact divInt_le hd
theorem prod_int {b : Nat → Int} {W : Nat} (h : ∀ r, 0 < b r ∧ (b r).natAbs < 2 ^ W) : ∀ n, ∃ z : Int, prodTo (fun r => ((b r : Int) : Rat)) n = (z : Rat) ∧ 0 < z ∧ z.natAbs ≤ 2 ^ (W * n)
  | 0 => ⟨1, rfl, by decide, by simp⟩
  | n + 1 => by
    obtain ⟨z, e, p, l⟩ := prod_int h n
    refine ⟨z * b n, ?_, Int.mul_pos p (h n).1, ?_⟩
    · show prodTo _ n * _ = _
      rw [e, Rat.intCast_mul]
    · rw [Int.natAbs_mul, Nat.mul_succ, Nat.pow_add]
      exact Nat.mul_le_mul l (Nat.le_of_lt (h n).2)
theorem Sc.minor {W : Nat} {B : Mt} (h : Sc W B) {k i j : Nat} (hk : k < 15) (hd : dt k B ≠ 0) {x : Rat} (e : x * dt k B = mi B k i j) : x.num.natAbs ≤ 2 ^ ((W + 4) * (k + 1)) ∧ x.den ≤ 2 ^ (W + (W + 4) * k) := by
  obtain ⟨b, hb⟩ := h
  have hb' : ∀ r, 0 < b r ∧ (b r).natAbs < 2 ^ W := fun r => ⟨(hb r).1, (hb r).2.1⟩
  obtain ⟨D, eD, bD⟩ := dt_bits (W := W) (n := k) (M := fun r c => ((b r : Int) : Rat) * B r c) (by omega) fun r c => (hb r).2.2 c
  obtain ⟨m, em, bm⟩ := dt_bits (W := W) (n := k + 1) (M := fun r c => (fun r => ((b (if r = k then i else r) : Int) : Rat)) r * bnd B k i j r c) (by omega) fun r c => (hb _).2.2 _
  rw [dt_scale] at eD em
  obtain ⟨P, eP, pP, _⟩ := prod_int hb' k
  have e1 : prodTo (fun r => ((b (if r = k then i else r) : Int) : Rat)) (k + 1) = (P : Rat) * ((b i : Int) : Rat) := by
    show prodTo _ k * ((b (if k = k then i else k) : Int) : Rat) = _
    rw [if_pos rfl, ← eP, prodTo_congr fun r hr => by show ((b (if r = k then i else r) : Int) : Rat) = ((b r : Int) : Rat); rw [if_neg (by omega)]]
  have D0 : D ≠ 0 := fun z => by
    rw [z, eP] at eD
    rcases Rat.mul_eq_zero.mp eD with y | y
    · have : P = 0 := Rat.intCast_inj.mp y
      omega
    · exact hd y
  have := over_bits (x := x) (d := b i * D) (m := m) (by
    rw [← em, e1, Rat.intCast_mul, ← eD, eP]
    show _ = _ * mi B k i j
    rw [← e]; grind) (Int.mul_ne_zero (Int.ne_of_gt (hb i).1) D0)
  refine ⟨Nat.le_trans this.1 bm, Nat.le_trans this.2 ?_⟩
  rw [Int.natAbs_mul, Nat.pow_add]
  exact Nat.mul_le_mul (Nat.le_of_lt (hb i).2.1) bD
theorem Sc.det {W : Nat} {B : Mt} (h : Sc W B) {k : Nat} (hk : k < 15) : (dt k B).num.natAbs ≤ 2 ^ ((W + 4) * k) ∧ (dt k B).den ≤ 2 ^ (W * k) := by
  obtain ⟨b, hb⟩ := h
  have hb' : ∀ r, 0 < b r ∧ (b r).natAbs < 2 ^ W := fun r => ⟨(hb r).1, (hb r).2.1⟩
  obtain ⟨D, eD, bD⟩ := dt_bits (W := W) (n := k) (M := fun r c => ((b r : Int) : Rat) * B r c) (by omega) fun r c => (hb r).2.2 c
  rw [dt_scale] at eD
  obtain ⟨P, eP, pP, bP⟩ := prod_int hb' k
  have := over_bits (x := dt k B) (d := P) (m := D) (by rw [← eD, eP]; grind) (by omega)
  exact ⟨Nat.le_trans this.1 bD, Nat.le_trans this.2 bP⟩
def qq (M : List (List Rat)) (i j : Nat) : Rat := aQ ((M[i]?).getD []) j
structure Ld (W n : Nat) (A B : Mt) (sg : Rat) (k : Nat) (M : List (List Rat)) (fd : Rat) : Prop where
  len : M.length = n
  row : ∀ L ∈ M, L.length = n
  ent : ∀ i j, k ≤ i → i < n → k ≤ j → j < n → qq M i j * dt k B = mi B k i j
  zer : ∀ i j, k ≤ i → i < n → j < k → qq M i j = 0
  sc : Sc W B
  sgn : sg = 1 ∨ sg = -1
  det : dt n A = sg * dt n B
  led : ∀ m, 1 ≤ m → m ≤ k → dt m B ≠ 0
  fnd : fd = sg * dt k B
section
variable {W n : Nat} {A B : Mt} {sg fd : Rat} {k : Nat} {M M' : List (List Rat)}
end
end R

set_option maxRecDepth 100000
namespace L2
open PySem PySem.Spec PyProof.Rows
end L2
namespace R
open PySem L2 PyProof.Rows
theorem qq_set {M : List (List Rat)} {k : Nat} (hk : k < M.length) (L : List Rat) (i j : Nat) : qq (M.set k L) i j = if i = k then aQ L j else qq M i j := by
  unfold qq
  rw [List.getElem?_set]
  by_cases z : k = i
  · rw [if_pos z, if_pos hk, if_pos z.symm]; rfl
  · rw [if_neg z, if_neg (Ne.symm z)]
theorem sc_of_ovb {B W : Nat} {M : List (List Rat)} (hB : 0 < B) (hW : B < 2 ^ W) (h : ∀ L ∈ M, ∀ q ∈ L, OvB B W q) : Sc W (qq M) := by
  refine ⟨fun _ => (B : Int), fun r => ⟨by show (0 : Int) < (B : Int); omega, by simpa using hW, fun c => ?_⟩⟩
  have : OvB B W (qq M r c) := by
    unfold qq
    cases e : M[r]? with
    | none => exact OvB.zero _ _
    | some L =>
      show OvB B W (aQ L c)
      unfold aQ
      cases e2 : L[c]? with
      | none => exact OvB.zero _ _
      | some q => exact h L (List.mem_of_getElem? e) q (List.mem_of_getElem? e2)
  obtain ⟨v, e, b⟩ := this
  refine ⟨v, ?_, b⟩
  have b0 : ((B : Int) : Rat) ≠ 0 := fun y => by
    have : (B : Int) = 0 := Rat.intCast_inj.mp y
    omega
  rw [e, Rat.divInt_eq_div, Rat.mul_comm, Rat.div_mul_cancel b0]
end R

set_option maxRecDepth 100000
namespace R
open PySem L2 PyProof.Rows
theorem dt_nil_row' {n : Nat} {M : Mt} {r : Nat} (hr : r < n) (h : ∀ c, c < n → M r c = 0) : dt n M = 0 := by
  rw [dt_congr (N := fun i c => if i = r then 0 else M i c) fun i _ c hc => ?_]
  · have e : (fun i c => if i = r then 0 else M i c) = setR M r fun c => 0 * M r c + 0 * M r c := by
      funext i c
      unfold setR
      by_cases z : i = r
      · rw [if_pos z, if_pos z]; grind
      · rw [if_neg z, if_neg z]
    rw [e, dt_lin M 0 0 _ _ hr]; grind
  · by_cases z : i = r
    · rw [if_pos z, z, h c hc]
    · rw [if_neg z]
theorem dt_lastrow : ∀ (p n : Nat) (M : Mt) (c : Rat), p ≤ n → (∀ j, j ≤ n → M n j = if j = p then c else 0) → dt (n + 1) M = sgd (n + p) * c * dt n (fun r j => M r (if j < p then j else j + 1))
  | 0, n, M, c, _, h => by
    rw [dt_succ, sumTo_congr (g := fun i => if i = n then sgd n * c * dt n (fun r j => M r (j + 1)) else 0) fun i hi => ?_]
    · rw [sumTo_single (fun _ => sgd n * c * dt n (fun r j => M r (j + 1))) n, if_pos (by omega)]
      rfl
    · by_cases z : i = n
      · rw [if_pos z, z, h 0 (by omega), if_pos rfl]
        congr 1
        exact dt_congr fun r hr j _ => by unfold mn; rw [if_pos hr]
      · rw [if_neg z, dt_nil_row' (M := mn M i) (n := n) (r := n - 1) (by omega) fun j hj => ?_]
        · grind
        · unfold mn
          rw [if_neg (by omega), show n - 1 + 1 = n by omega, h (j + 1) (by omega), if_neg (by omega)]
  | p + 1, 0, M, c, hp, h => by omega
  | p + 1, n + 1, M, c, hp, h => by
    rw [dt_succ]
    show sumTo (fun i => sgd i * M i 0 * dt (n + 1) (mn M i)) (n + 1) + sgd (n + 1) * M (n + 1) 0 * dt (n + 1) (mn M (n + 1)) = _
    have t0 : sgd (n + 1) * M (n + 1) 0 * dt (n + 1) (mn M (n + 1)) = 0 := by rw [h 0 (by omega), if_neg (by omega)]; grind
    rw [t0, show dt (n + 1) (fun r j => M r (if j < p + 1 then j else j + 1)) = sumTo (fun i => sgd i * M i (if 0 < p + 1 then 0 else 0 + 1) * dt n (mn (fun r j => M r (if j < p + 1 then j else j + 1)) i)) (n + 1) from dt_succ _ _, sumTo_mul, Rat.add_zero]
    refine sumTo_congr fun i hi => ?_
    have ih := dt_lastrow p n (mn M i) c (by omega) fun j hj => by
      unfold mn
      rw [if_neg (by omega), h (j + 1) (by omega)]
      by_cases z : j = p
      · rw [if_pos z, if_pos (by omega)]
      · rw [if_neg z, if_neg (by omega)]
    rw [ih, show n + 1 + (p + 1) = n + p + 1 + 1 by omega, sgd_succ, sgd_succ, if_pos (by omega)]
    have e : dt n (fun r j => mn M i r (if j < p then j else j + 1)) = dt n (mn (fun r j => M r (if j < p + 1 then j else j + 1)) i) := dt_congr fun r _ j _ => by
      unfold mn
      congr 1
      by_cases z : j < p
      · rw [if_pos z, if_pos (by omega)]
      · rw [if_neg z, if_neg (by omega)]
    rw [e]
    grind
theorem mi_ext {B : Mt} {n k j : Nat} (hn : k < n) (hj : k < j) (ext : ∀ c, B (n + k) c = if c = k then -1 else 0) : mi B (k + 1) (n + k) j = mi B k k j := by
  unfold mi
  rw [dt_lastrow k (k + 1) (bnd B (k + 1) (n + k) j) (-1) (by omega) fun c hc => ?_]
  · have s : sgd (k + 1 + k) = -1 := by
      unfold sgd
      rw [if_neg (by omega)]
    rw [s, dt_congr (N := bnd B k k j) fun r hr c hc => ?_]
    · grind
    · unfold bnd
      rw [if_neg (by omega)]
      have er : (if r = k then k else r) = r := by split <;> omega
      rw [er]
      congr 1
      by_cases z : c < k
      · rw [if_pos z, if_neg (by omega), if_neg (by omega)]
      · rw [if_neg z, if_pos (by omega), if_pos (by omega)]
  · unfold bnd
    rw [if_pos rfl, ext]
    by_cases z : c = k + 1
    · rw [if_pos z, if_neg (by omega), if_neg (by omega)]
    · rw [if_neg z]
structure Ew (n m : Nat) (A B : Mt) (k : Nat) (M : List (List Int)) (dv : Int) : Prop where
  len : M.length = n
  row : ∀ L ∈ M, L.length = m
  nm : n ≤ m
  ent : ∀ i j, k ≤ i → i < n → k ≤ j → j < m → ((zz M i j : Int) : Rat) = mi B k i j
  zer : ∀ i j, k ≤ i → i < n → j < k → zz M i j = 0
  abv : ∀ i j, i < k → k ≤ j → j < m → ((zz M i j : Int) : Rat) = mi B k (n + i) j
  dia : ∀ i j, i < k → j < k → zz M i j = if i = j then dv else 0
  ext : ∀ i c, B (n + i) c = if c = i then -1 else 0
  int : ∀ r c, IsI (B r c)
  det : dt n B = dt n A
  led : ∀ q, 1 ≤ q → q ≤ k → dt q B ≠ 0
  div : ((dv : Int) : Rat) = dt k B
def exM (n : Nat) (M : List (List Int)) : Mt := fun r c => if r < n then ((zz M r c : Int) : Rat) else if c = r - n then -1 else 0
section
variable {n m : Nat} {A B : Mt} {k : Nat} {M M' : List (List Int)} {dv : Int}
theorem Ew.start (len : M.length = n) (row : ∀ L ∈ M, L.length = m) (nm : n ≤ m) : Ew n m (exM n M) (exM n M) 0 M 1 :=
  ⟨len, row, nm, fun i j _ hi _ _ => by rw [mi_zero]; unfold exM; rw [if_pos hi], fun i j _ _ h => by omega, fun i j h => by omega, fun i j h => by omega, fun i c => by unfold exM; rw [if_neg (by omega), Nat.add_sub_cancel_left], fun r c => by
    unfold exM
    split
    · exact ⟨_, rfl⟩
    · split
      · exact ⟨-1, rfl⟩
      · exact ⟨0, rfl⟩, rfl, fun q h1 h2 => by omega, rfl⟩
theorem Ew.dk (E : Ew n m A B k M dv) : dt k B ≠ 0 := by
  rcases Nat.eq_zero_or_pos k with z | z
  · rw [z]; show (1 : Rat) ≠ 0; decide
  · exact E.led k z (Nat.le_refl _)
theorem Ew.d0 (E : Ew n m A B k M dv) : dv ≠ 0 := fun z => E.dk (by rw [← E.div, z]; rfl)
theorem Ew.swap (E : Ew n m A B k M dv) {s : Nat} (hk : k < s) (hs : s < n) (len : M'.length = n) (row : ∀ L ∈ M', L.length = m) (e : ∀ i j, zz M' i j = if i = k then zz M s j else if i = s then - zz M k j else zz M i j) : Ew n m A (swN B k s) k M' dv := by
  have lead : ∀ q, q ≤ k → dt q (swN B k s) = dt q B := fun q hq => dt_congr fun r hr c _ => by
    unfold swN
    rw [if_neg (by omega), if_neg (by omega)]
  refine ⟨len, row, E.nm, fun i j h1 h2 h3 h4 => ?_, fun i j h1 h2 h3 => ?_, fun i j h1 h2 h3 => ?_, fun i j h1 h2 => ?_, fun i c => ?_, fun r c => ?_, ?_, fun q h1 h2 => ?_, ?_⟩
  · rw [e, mi_swN hk]
    by_cases a : i = k
    · rw [if_pos a, if_pos a, E.ent s j (by omega) hs h3 h4]
    · rw [if_neg a, if_neg a]
      by_cases b : i = s
      · rw [if_pos b, if_pos b, Rat.intCast_neg, E.ent k j (Nat.le_refl _) (by omega) h3 h4]
      · rw [if_neg b, if_neg b, E.ent i j h1 h2 h3 h4]
  · rw [e]
    split
    · exact E.zer s j (by omega) hs h3
    · split
      · rw [E.zer k j (Nat.le_refl _) (by omega) h3]; rfl
      · exact E.zer i j h1 h2 h3
  · rw [e, if_neg (by omega), if_neg (by omega), mi_swN hk, if_neg (by omega), if_neg (by omega)]
    exact E.abv i j h1 h2 h3
  · rw [e, if_neg (by omega), if_neg (by omega)]
    exact E.dia i j h1 h2
  · unfold swN
    rw [if_neg (by omega), if_neg (by omega)]
    exact E.ext i c
  · unfold swN
    split
    · exact E.int _ _
    · split
      · obtain ⟨z, hz⟩ := E.int k c
        exact ⟨-z, by rw [hz, Rat.intCast_neg]⟩
      · exact E.int _ _
  · rw [dt_swN (by omega) hs (by omega), E.det]
  · rw [lead q h2]; exact E.led q h1 h2
  · rw [lead k (Nat.le_refl _)]; exact E.div
theorem Ew.step (E : Ew n m A B k M dv) (hk : k < n) (h0 : zz M k k ≠ 0) (len : M'.length = n) (row : ∀ L ∈ M', L.length = m) (same : ∀ j, j < m → zz M' k j = zz M k j) (e : ∀ i j, i < n → i ≠ k → j < m → zz M' i j = (zz M k k * zz M i j - zz M i k * zz M k j).fdiv dv) :
    Ew n m A B (k + 1) M' (zz M k k) ∧ ∀ i j, i < n → i ≠ k → j < m → zz M' i j * dv = zz M k k * zz M i j - zz M i k * zz M k j := by
  have nm := E.nm
  have ekk := E.ent k k (Nat.le_refl _) hk (Nat.le_refl _) (by omega)
  have d0 := E.d0
  have key : ∀ i x j, k < x → ((zz M i j : Int) : Rat) = mi B k x j → ((zz M i k : Int) : Rat) = mi B k x k → k < j → j < m → zz M k k * zz M i j - zz M i k * zz M k j = (((zz M k k * zz M i j - zz M i k * zz M k j).fdiv dv)) * dv ∧ (((zz M k k * zz M i j - zz M i k * zz M k j).fdiv dv : Int) : Rat) = mi B (k + 1) x j := fun i x j hx e1 e2 hj hm => by
    have sy := sylvester k B E.led x j hx hj
    obtain ⟨z, hz⟩ : IsI (mi B (k + 1) x j) := dt_int fun r c => E.int _ _
    rw [hz, ← E.div, ← ekk, ← e1, ← e2, ← E.ent k j (Nat.le_refl _) hk (by omega) hm] at sy
    have si : zz M k k * zz M i j - zz M i k * zz M k j = dv * z := Rat.intCast_inj.mp (by
      rw [Rat.intCast_sub, Rat.intCast_mul, Rat.intCast_mul, Rat.intCast_mul]; exact sy)
    rw [si, fdiv_of_mul d0, hz]
    exact ⟨Int.mul_comm _ _, rfl⟩
  have lo : ∀ i j, i < n → i ≠ k → j ≤ k → zz M k k * zz M i j - zz M i k * zz M k j = (if i < k ∧ i = j then zz M k k else 0) * dv := fun i j hi hik hj => by
    rcases Nat.lt_or_ge j k with z | z
    · rw [E.zer k j (Nat.le_refl _) hk z]
      rcases Nat.lt_or_ge i k with y | y
      · rw [E.dia i j y z]
        by_cases x : i = j
        · rw [if_pos x, if_pos ⟨y, x⟩]; omega
        · rw [if_neg x, if_neg (by omega)]; omega
      · rw [E.zer i j y hi z, if_neg (by omega)]; omega
    · have : j = k := by omega
      subst this
      rw [if_neg (by omega), Int.mul_comm]; omega
  have col : ∀ i j, i < n → i ≠ k → j < m → zz M' i j * dv = zz M k k * zz M i j - zz M i k * zz M k j := fun i j hi hik hm => by
    rw [e i j hi hik hm]
    rcases Nat.lt_or_ge k j with z | z
    · rcases Nat.lt_or_ge i k with y | y
      · exact (key i (n + i) j (by omega) (E.abv i j y (by omega) hm) (E.abv i k y (Nat.le_refl _) (by omega)) z hm).1.symm
      · exact (key i i j (by omega) (E.ent i j y hi (by omega) hm) (E.ent i k y hi (Nat.le_refl _) (by omega)) z hm).1.symm
    · rw [lo i j hi hik z]
      generalize (if i < k ∧ i = j then zz M k k else 0) = w
      rw [show (w * dv).fdiv dv = w by rw [Int.mul_comm w dv, fdiv_of_mul d0]]
  have low : ∀ i j, i < n → i ≠ k → j ≤ k → zz M' i j = if i < k ∧ i = j then zz M k k else 0 := fun i j hi hik hj => by
    rw [e i j hi hik (by omega), lo i j hi hik hj, Int.mul_comm _ dv, fdiv_of_mul d0]
  refine ⟨⟨len, row, nm, fun i j h1 h2 h3 h4 => ?_, fun i j h1 h2 h3 => ?_, fun i j h1 h2 h3 => ?_, fun i j h1 h2 => ?_, E.ext, E.int, E.det, fun q h1 h2 => ?_, ?_⟩, col⟩
  · rw [e i j h2 (by omega) h4]
    exact (key i i j (by omega) (E.ent i j (by omega) h2 (by omega) h4) (E.ent i k (by omega) h2 (Nat.le_refl _) (by omega)) (by omega) h4).2
  · rw [low i j h2 (by omega) (by omega), if_neg (by omega)]
  · by_cases z : i = k
    · rw [z, same j h3, mi_ext hk (by omega) (E.ext k)]
      exact E.ent k j (Nat.le_refl _) hk (by omega) h3
    · rw [e i j (by omega) z h3]
      exact (key i (n + i) j (by omega) (E.abv i j (by omega) (by omega) h3) (E.abv i k (by omega) (Nat.le_refl _) (by omega)) (by omega) h3).2
  · by_cases z : i = k
    · rw [z, same j (by omega)]
      by_cases y : j = k
      · rw [y, if_pos rfl]
      · rw [E.zer k j (Nat.le_refl _) hk (by omega), if_neg (by omega)]
    · rw [low i j (by omega) z (by omega)]
      by_cases y : i = j
      · rw [if_pos y, if_pos (by omega)]
      · rw [if_neg y, if_neg (by omega)]
  · rcases Nat.lt_or_ge k q with z | z
    · have : q = k + 1 := by omega
      subst this
      rw [← mi_self, ← ekk]
      exact fun z => h0 (Rat.intCast_inj.mp (by rw [z, Rat.intCast_zero]))
    · exact E.led q h1 (by omega)
  · rw [ekk, mi_self]
theorem Ew.stuck (E : Ew n m A B k M dv) (hk : k < n) (h : ∀ i, k ≤ i → i < n → zz M i k = 0) : dt n A = 0 := by
  have nm := E.nm
  rw [← E.det]
  refine dt_stuck k n B E.led hk fun i h1 h2 => ?_
  rw [← E.ent i k h1 h2 (Nat.le_refl _) (by omega), h i h1 h2]; rfl
theorem Ew.done (E : Ew n m A B n M dv) : ((dv : Int) : Rat) = dt n A := by rw [E.div, E.det]
theorem Ew.bits (E : Ew n m A B k M dv) {W : Nat} (hb : ∀ r c, ∃ z : Int, B r c = (z : Rat) ∧ z.natAbs < 2 ^ W) (n14 : n ≤ 13) (hk : k ≤ n) {i j : Nat} (h2 : i < n) (h4 : j < m) : (zz M i j).natAbs ≤ 2 ^ ((W + 4) * (n + 1)) := by
  have up : ∀ q, q ≤ n + 1 → 2 ^ ((W + 4) * q) ≤ 2 ^ ((W + 4) * (n + 1)) := fun q hq => Nat.pow_le_pow_right (by decide) (Nat.mul_le_mul_left _ hq)
  have dm : ∀ x, ((zz M i j : Int) : Rat) = mi B k x j → (zz M i j).natAbs ≤ 2 ^ ((W + 4) * (n + 1)) := fun x ex => by
    obtain ⟨y, ey, by'⟩ := dt_bits (W := W) (n := k + 1) (M := bnd B k x j) (by omega) fun r c => hb _ _
    have : zz M i j = y := Rat.intCast_inj.mp (by rw [ex]; exact ey)
    rw [this]
    exact Nat.le_trans by' (up _ (by omega))
  rcases Nat.lt_or_ge i k with y | y
  · rcases Nat.lt_or_ge j k with z | z
    · rw [E.dia i j y z]
      split
      · obtain ⟨z, e, b⟩ := dt_bits (W := W) (n := k) (M := B) (by omega) hb
        have : dv = z := Rat.intCast_inj.mp (by rw [E.div, e])
        rw [this]
        exact Nat.le_trans b (up _ (by omega))
      · exact Nat.zero_le _
    · exact dm (n + i) (E.abv i j y z h4)
  · rcases Nat.lt_or_ge j k with z | z
    · rw [E.zer i j y h2 z]; exact Nat.zero_le _
    · exact dm i (E.ent i j y h2 z h4)
theorem Ew.dvb (E : Ew n m A B k M dv) {W : Nat} (hb : ∀ r c, ∃ z : Int, B r c = (z : Rat) ∧ z.natAbs < 2 ^ W) (n14 : n ≤ 13) (hk : k ≤ n) : dv.natAbs ≤ 2 ^ ((W + 4) * (n + 1)) := by
  obtain ⟨z, e, b⟩ := dt_bits (W := W) (n := k) (M := B) (by omega) hb
  have : dv = z := Rat.intCast_inj.mp (by rw [E.div, e])
  rw [this]
  exact Nat.le_trans b (Nat.pow_le_pow_right (by decide) (Nat.mul_le_mul_left _ (by omega)))
end
end R

set_option maxRecDepth 100000
namespace R
open PySem L2 PyProof.Rows
theorem sumTo_comm (f : Nat → Nat → Rat) (m : Nat) : ∀ n, sumTo (fun i => sumTo (fun j => f i j) m) n = sumTo (fun j => sumTo (fun i => f i j) n) m
  | 0 => (sumTo_zero m fun _ _ => rfl).symm
  | n + 1 => by
    show sumTo (fun i => sumTo (fun j => f i j) m) n + sumTo (fun j => f n j) m = sumTo (fun j => sumTo (fun i => f i j) n + f n j) m
    rw [sumTo_comm f m n, sumTo_add]
theorem dt_comb {n : Nat} (Q : Mt) (x : Nat → Rat) {s : Nat} (hs : s < n) : ∀ q, q ≤ n → dt n (setR Q s fun c => sumTo (fun j => x j * Q j c) q) = if s < q then x s * dt n Q else 0
  | 0, _ => by
    rw [if_neg (by omega)]
    exact dt_nil_row' (r := s) hs fun c _ => by unfold setR; rw [if_pos rfl]; rfl
  | q + 1, hq => by
    have e : (fun c => sumTo (fun j => x j * Q j c) (q + 1)) = fun c => 1 * sumTo (fun j => x j * Q j c) q + x q * Q q c := by
      funext c
      show sumTo _ q + x q * Q q c = _
      grind
    rw [e, dt_lin Q 1 (x q) _ _ hs, dt_comb Q x hs q (by omega)]
    by_cases z : q = s
    · rw [z, setR_self, if_neg (by omega), if_pos (by omega)]; grind
    · rw [dt_eqrows (M := setR Q s (Q q)) hs (show q < n by omega) (Ne.symm z) fun c => by unfold setR; rw [if_pos rfl, if_neg z]]
      by_cases y : s < q
      · rw [if_pos y, if_pos (by omega)]; grind
      · rw [if_neg y, if_neg (by omega)]; grind
theorem indep {n : Nat} {Q : Mt} (h : dt n Q ≠ 0) {x : Nat → Rat} (e : ∀ c, c < n → sumTo (fun j => x j * Q j c) n = 0) {s : Nat} (hs : s < n) : x s = 0 := by
  have h1 := dt_comb Q x hs n (Nat.le_refl _)
  rw [if_pos hs, dt_nil_row' (r := s) hs fun c hc => by unfold setR; rw [if_pos rfl]; exact e c hc] at h1
  rcases Rat.mul_eq_zero.mp h1.symm with z | z
  · exact z
  · exact absurd z h
def dij (i j : Nat) : Rat := if i = j then 1 else 0
theorem sum_dl (f : Nat → Rat) {n c : Nat} (hc : c < n) : sumTo (fun t => f t * dij t c) n = f c := by
  rw [sumTo_congr (g := fun t => if t = c then f t else 0) fun t _ => by unfold dij; split <;> grind, sumTo_single f c n, if_pos hc]
theorem inv_right {n : Nat} {Q R : Mt} (h : dt n Q ≠ 0) (e : ∀ i j, i < n → j < n → sumTo (fun t => R i t * Q t j) n = dij i j) {i j : Nat} (hi : i < n) (hj : j < n) : sumTo (fun t => Q i t * R t j) n = dij i j := by
  have key := indep h (x := fun j => sumTo (fun t => Q i t * R t j) n - dij i j) (fun c hc => ?_) hj
  · have : sumTo (fun t => Q i t * R t j) n - dij i j = 0 := key
    grind
  · have e1 : sumTo (fun j => (sumTo (fun t => Q i t * R t j) n - dij i j) * Q j c) n = sumTo (fun j => sumTo (fun t => Q i t * (R t j * Q j c)) n + (-1) * (dij i j * Q j c)) n := sumTo_congr fun j _ => by
      have : sumTo (fun t => Q i t * (R t j * Q j c)) n = Q j c * sumTo (fun t => Q i t * R t j) n := by
        rw [sumTo_mul]
        exact sumTo_congr fun t _ => by grind
      rw [this]; grind
    have e2 : sumTo (fun j => dij i j * Q j c) n = Q i c := by
      have e4 : ∀ j, dij i j * Q j c = Q j c * dij j i := fun j => by
        unfold dij
        by_cases z : i = j
        · rw [if_pos z, if_pos z.symm]; grind
        · rw [if_neg z, if_neg (Ne.symm z)]; grind
      rw [sumTo_congr (g := fun j => Q j c * dij j i) fun j _ => e4 j]
      exact sum_dl (fun j => Q j c) hi
    rw [e1, ← sumTo_add, ← sumTo_mul, e2, sumTo_comm (fun j t => Q i t * (R t j * Q j c)) n n]
    have e3 : sumTo (fun t => sumTo (fun j => Q i t * (R t j * Q j c)) n) n = Q i c := by
      rw [sumTo_congr (g := fun t => Q i t * dij t c) fun t ht => by rw [← sumTo_mul, e t c ht hc]]
      exact sum_dl (fun t => Q i t) hc
    rw [e3]; grind
def Rl (n : Nat) (Q : Mt) (M : List (List Int)) : Prop := ∀ i j, i < n → j < n → ((zz M i j : Int) : Rat) = sumTo (fun t => ((zz M i (n + t) : Int) : Rat) * Q t j) n
theorem Rl.swap {n k s : Nat} {Q : Mt} {M M' : List (List Int)} (h : Rl n Q M) (hk : k < n) (hs : s < n) (e : ∀ i j, zz M' i j = if i = k then zz M s j else if i = s then - zz M k j else zz M i j) : Rl n Q M' := fun i j hi hj => by
  by_cases a : i = k
  · rw [e, if_pos a, h s j hs hj]
    exact sumTo_congr fun t _ => by rw [e, if_pos a]
  · by_cases b : i = s
    · rw [e, if_neg a, if_pos b, Rat.intCast_neg, h k j hk hj]
      have : sumTo (fun t => ((zz M' i (n + t) : Int) : Rat) * Q t j) n = (-1) * sumTo (fun t => ((zz M k (n + t) : Int) : Rat) * Q t j) n := by
        rw [sumTo_mul]
        exact sumTo_congr fun t _ => by rw [e, if_neg a, if_pos b, Rat.intCast_neg]; grind
      rw [this]; grind
    · rw [e, if_neg a, if_neg b, h i j hi hj]
      exact sumTo_congr fun t _ => by rw [e, if_neg a, if_neg b]
theorem Rl.step {n k : Nat} {Q : Mt} {M M' : List (List Int)} {dv : Int} (h : Rl n Q M) (hk : k < n) (d0 : dv ≠ 0) (same : ∀ j, j < n + n → zz M' k j = zz M k j) (e : ∀ i j, i < n → i ≠ k → j < n + n → zz M' i j * dv = zz M k k * zz M i j - zz M i k * zz M k j) : Rl n Q M' := fun i j hi hj => by
  by_cases a : i = k
  · rw [a, same j (by omega), h k j hk hj]
    exact sumTo_congr fun t ht => by rw [same (n + t) (by omega)]
  · have dq : ((dv : Int) : Rat) ≠ 0 := fun z => d0 (Rat.intCast_inj.mp (by rw [z, Rat.intCast_zero]))
    have ec : ∀ c, c < n + n → ((zz M' i c : Int) : Rat) * ((dv : Int) : Rat) = ((zz M k k : Int) : Rat) * ((zz M i c : Int) : Rat) - ((zz M i k : Int) : Rat) * ((zz M k c : Int) : Rat) := fun c hc => by
      have := congrArg (fun z : Int => (z : Rat)) (e i c hi a hc)
      simpa only [Rat.intCast_mul, Rat.intCast_sub] using this
    have e1 : ((dv : Int) : Rat) * sumTo (fun t => ((zz M' i (n + t) : Int) : Rat) * Q t j) n = ((zz M k k : Int) : Rat) * ((zz M i j : Int) : Rat) - ((zz M i k : Int) : Rat) * ((zz M k j : Int) : Rat) := by
      rw [h i j hi hj, h k j hk hj, sumTo_mul, sumTo_mul, sumTo_mul]
      have : ∀ (f g : Nat → Rat), sumTo f n - sumTo g n = sumTo (fun t => f t + (-1) * g t) n := fun f g => by rw [← sumTo_add, ← sumTo_mul]; grind
      rw [this]
      exact sumTo_congr fun t ht => by have := ec (n + t) (by omega); grind
    have e2 := ec j (by omega)
    have iv := Rat.mul_inv_cancel _ dq
    have e3 : ((zz M' i j : Int) : Rat) * ((dv : Int) : Rat) = sumTo (fun t => ((zz M' i (n + t) : Int) : Rat) * Q t j) n * ((dv : Int) : Rat) := by rw [e2, ← e1]; grind
    have := congrArg (fun z => z * ((dv : Int) : Rat)⁻¹) e3
    simp only [Rat.mul_assoc, iv, Rat.mul_one] at this
    exact this
end R

set_option maxRecDepth 100000
namespace R
open PySem L2 PyProof.Rows
section
variable {P : Program} {w : World} {K : PySem.W.Frag} {mg : Str → Option Value} {base : Heap}
theorem RwZ.at {H : Hp} {ts : List Addr} {M : List (List Int)} {n m : Nat} (h : RwZ H ts M) (ln : M.length = n) (lm : ∀ L ∈ M, L.length = m) {i : Nat} (hi : i < n) : ∃ (p : Addr) (L : List Int), ts[i]? = some p ∧ M[i]? = some L ∧ H p = some (.lst (L.map V.int)) ∧ L.length = m ∧ zz M i = aZ L := by
  have e := List.getElem?_eq_getElem (l := ts) (i := i) (by rw [h.length, ln]; exact hi)
  obtain ⟨L, e1, e2⟩ := h.get e
  exact ⟨_, L, e, e1, e2, lm L (List.mem_of_getElem? e1), by funext j; unfold zz; rw [e1]; rfl⟩
structure FinW (n m W : Nat) (M M' : List (List Int)) (dv : Int) : Prop where
  len : M'.length = n
  row : ∀ L ∈ M', L.length = m
  dia : ∀ i j, i < n → j < n → zz M' i j = if i = j then dv else 0
  rel : ∀ Q, m = n + n → Rl n Q M → Rl n Q M'
  bit : ∀ i j, i < n → j < m → (zz M' i j).natAbs ≤ 2 ^ ((W + 4) * (n + 1))
def spElimW (K : PySem.W.Frag) : Sp := fun vs H Q _ => ∃ (a : Addr) (ts : List Addr) (M : List (List Int)) (n m W : Nat), vs = [.ref a] ∧ SqL K H a (ts.map V.ref) ∧ RwZ H ts M ∧ M.length = n ∧ (∀ L ∈ M, L.length = m) ∧ n ≤ m ∧ m ≤ 60 ∧ (∀ L ∈ M, ∀ v ∈ L, Int.natAbs v < 2 ^ W) ∧ n ≤ 13 ∧ 1 ≤ W ∧ (W + 4) * (n + 1) ≤ 4000 ∧
  ∀ r (mn : Nat) (dv : Int) b us M' H', Same H H' → H' r = some (.tup [.int mn, .int dv, .ref b]) → SqL K H' b (us.map V.ref) → RwZ H' us M' → ((mn = n ∧ (dv : Rat) = dt n (exM n M) ∧ dv ≠ 0 ∧ dv.natAbs ≤ 2 ^ ((W + 4) * (n + 1)) ∧ FinW n m W M M' dv) ∨ (mn < n ∧ dt n (exM n M) = 0)) → Q (.ref r) H'
abbrev s_eliminated : Stmt := top 34
theorem sc_eliminated : FnScope ["rows", "divisor", "at", "led", "chosen"] ["rows"] (defScope s_eliminated) := ⟨rfl, rfl, rfl, by decide +kernel, rfl, by decide +kernel, by decide +kernel⟩
set_option maxHeartbeats 0 in
theorem ok_eliminated {f f1 f2 : Addr} (d : Df K mg "eliminated" s_eliminated ["rows"] f) (G_with_lead : Def P w K mg base CX0 1 "with_lead" f1 ["rows", "at"] (spWL K)) (G_cleaned : Def P w K mg base CX0 1 "cleaned" f2 ["row", "chosen", "at", "before"] (spClean K)) (n_len : mg "len" = none) (n_range : mg "range" = none) (n_enumerate : mg "enumerate" = none) : Def P w K mg base CX0 2 "eliminated" f ["rows"] (spElimW K) := by
  refine d.ok (N := ["rows", "divisor", "at", "led", "chosen"]) sc_eliminated (by rintro vs H Q E ⟨_, _, _, _, _, _, h, _⟩; rw [h]; rfl) (fun cdv A outer s H vs Q E hr h => ?_)
  obtain ⟨a, ts, M, n, m, W, rfl, hA, hR, ln, lm, nm, m60, hb, n13, W1, hV, kk⟩ := h
  refine ⟨_, (pss_cons (ps_set (i := 1) sc_eliminated.nd rfl (Or.inr rfl) pe_int)
      (pss_cons (ps_for PassesOwn.never rfl (pi_range1 rfl n_range (pa_cons (pe_callB call_len_seq rfl n_len (by decide +kernel) (pa_cons (pv 0) pa_nil)) pa_nil)) (pg_name (i := 2) sc_eliminated.nd rfl (Or.inr rfl)) (pss_cons (ps_set (i := 3) sc_eliminated.nd rfl (Or.inl rfl) (pe_def G_with_lead hr (pa_cons (pv 0) (pa_cons (pv 2) pa_nil)) pass0))
      (pss_cons (ps_if (pt_cmpR op_isN (pv 3) pe_non (nomark _)) (pss_one (ps_ret (pe_tup (pa_cons (pv 2) (pa_cons (pv 1) (pa_cons (pv 0) pa_nil)))))) pss_nil)
      (pss_cons (ps_set (i := 4) sc_eliminated.nd rfl (Or.inr rfl) (pe_ix ix_list (pv 3) (pv 2) (fun _ _ => rfl)))
      (pss_cons (ps_setComp (i₀ := 0) sc_eliminated.nd rfl (Or.inl rfl) (Nc := ["divisor", "chosen", "at", "place", "row"]) (caps := [some 1, some 4, some 2, none, none]) rfl (Caps.of (osc := defScope s_eliminated) (N := ["rows", "divisor", "at", "led", "chosen"]) (ks := ["divisor", "chosen", "at"]) rfl rfl rfl rfl (sub_cons rfl (sub_cons rfl (sub_cons rfl sub_nil))) (by decide +kernel)) (pi_enum rfl n_enumerate (pa_cons (pv 3) pa_nil)) (fun C s₂ H₂ fp pins => (show PG _ _ (gTup K 2 (gCons (gName 3) (gCons (gName 4) gNil))) from by (refine pg_tup (n := 2) ?_ ?_ ?_ ?_; rfl; (refine pgs_cons ?_ ?_ ?_; (exact (pg_name (i := 3) (show List.Nodup (["divisor", "chosen", "at", "place", "row"] : List Str) by decide +kernel) rfl (Or.inl rfl) (Or.inr rfl))); (refine pgs_cons ?_ ?_ ?_; (exact (pg_name (i := 4) (show List.Nodup (["divisor", "chosen", "at", "place", "row"] : List Str) by decide +kernel) rfl (Or.inl rfl) (Or.inr rfl))); (exact pgs_nil); rfl); rfl); rfl; rfl))) (fun C s₂ H₂ fp pins => (pe_ifExp (pt_cmpR op_eq (pv 3) (pv 2) (nomark _)) (pv 4) (pe_def G_cleaned hr (pa_cons (pv 4) (pa_cons (pv 1) (pa_cons (pv 2) (pa_cons (pv 0) pa_nil)))) pass0))))
      (pss_one (ps_set (i := 1) sc_eliminated.nd rfl (Or.inr rfl) (pe_ix ix_list (pv 4) (pv 2) (fun _ _ => rfl)))))))))
      (pss_one (ps_ret (pe_tup (pa_cons (pe_callB call_len_seq rfl n_len (by decide +kernel) (pa_cons (pv 0) pa_nil)) (pa_cons (pv 1) (pa_cons (pv 0) pa_nil)))))))), ?_⟩
  rw [show start ["rows", "divisor", "at", "led", "chosen"] [.ref a] = [some (.ref a), none, none, none, none] from rfl]
  simp only [ipM, rLst, tComp_eq, tCompIf_eq, tMaxD, iZip, rRep, tSl, tPart, tNoPart, rSlL, rAppend, iEnum, capSt, List.map_cons, List.map_nil, Option.bind_none, Option.bind_some, Option.join_some, tSeq, tIfS, tAnd, tOr, tNot, tTest, tB, tOp, tUn, tBM0, tBM, tVar, tC, tCB, tRet, tAsg, gName, gSub, gTup, gCons, gNil, tCons, tNil, tPar, tTup, tLst, tIf, tAndV, tNotV, tDef, tCallX, tDrop, tNext, tNever, tRaise, tAug, rI, rI0, rU, rBitLen, rIxL, rIxT, rSetL, rEq, rNe, rCount, rIndex, rSplit, rIsI, rCat, iRng1, iRng2, iList, cxOf, cxR, cxX, Cx.nox, Cx.wish, Cx.body, Cx.suite, List.getElem?_cons_zero, List.getElem?_cons_succ, List.set_cons_zero, List.set_cons_succ, Option.some.injEq, V.int.injEq, V.bl.injEq, V.ref.injEq, V.str.injEq, exists_eq_left', exists_eq_left, exists_and_left, true_and, and_true, List.cons.injEq, reduceCtorEq, Bool.false_eq_true, if_false, if_true, exists_const, ↓reduceIte, tyV, List.length_cons, List.length_nil, exists_eq, List.append_nil, List.cons_append, List.nil_append, decide_eq_true_eq, not_true_eq_false, not_false_eq_true, Bool.not_eq_true', decide_eq_false_iff_not, Bool.not_true, Bool.not_false, and_assoc, false_and, false_or, or_false, spWL, spClean]
  have tl : ts.length = n := by rw [hR.length, ln]
  obtain ⟨V0, hV0⟩ : ∃ V0, V0 = (W + 4) * (n + 1) := ⟨_, rfl⟩
  obtain ⟨I, hI⟩ : ∃ I : Nat → L2.St → Hp → Prop, ∀ i σ H1, I i σ H1 ↔ Same H H1 ∧ ∃ (a' : Addr) (ts' : List Addr) (M' : List (List Int)) (B : Mt) (dv : Int) (o2 o3 o4 : Option V), σ = [some (.ref a'), some (.int dv), o2, o3, o4] ∧ SqL K H1 a' (ts'.map V.ref) ∧ RwZ H1 ts' M' ∧ Ew n m (exM n M) B i M' dv ∧ (∀ r c, ∃ z : Int, B r c = (z : Rat) ∧ z.natAbs < 2 ^ W) ∧ ∀ Q, m = n + n → Rl n Q M → Rl n Q M' := ⟨_, fun _ _ _ => Iff.rfl⟩
  have zlt : ∀ r c, ∃ z : Int, exM n M r c = (z : Rat) ∧ z.natAbs < 2 ^ W := fun r c => by
    unfold exM
    have one : (1 : Nat) < 2 ^ W := Nat.lt_of_lt_of_le (show 1 < 2 ^ 1 by decide) (pow_le_pow2 W1)
    split
    · refine ⟨_, rfl, ?_⟩
      unfold zz
      cases e : M[r]? with
      | none => exact Nat.two_pow_pos _
      | some L => exact aZ_lt (hb L (List.mem_of_getElem? e)) c
    · split
      · exact ⟨-1, rfl, one⟩
      · exact ⟨0, rfl, Nat.two_pow_pos _⟩
  refine ⟨_, rfl, a, rfl, _, .inl hA, _, rfl, ?_, ?_, for_range I ((hI _ _ _).mpr ⟨Same.refl _, a, ts, M, exM n M, 1, _, _, _, rfl, hA, hR, Ew.start ln lm nm, zlt, fun _ _ h => h⟩) ?_ ?_⟩
  · omega
  · rw [List.length_map, tl]; omega
  · rintro i σ H1 hi h
    obtain ⟨S, a', ts', M', B, dv, o2, o3, o4, rfl, hA1, hR1, E, hB, rel1⟩ := (hI _ _ _).mp h
    rw [List.length_map, tl] at hi
    rw [Int.zero_add]
    refine seq_cut (fun σ H2 => Same H1 H2 ∧ ((σ = [some (.ref a'), some (.int dv), some (.int i), some .non, o4] ∧ ∀ x, i ≤ x → x < n → zz M' x i = 0) ∨ ∃ (a2 : Addr) (ts2 : List Addr) (M2 : List (List Int)), σ = [some (.ref a'), some (.int dv), some (.int i), some (.ref a2), o4] ∧ SqL K H2 a2 (ts2.map V.ref) ∧ RwZ H2 ts2 M2 ∧ Led M' M2 i n m)) (fun N hN => ?_) ?_
    · simp only [ipM, rLst, tComp_eq, tCompIf_eq, tMaxD, iZip, rRep, tSl, tPart, tNoPart, rSlL, rAppend, iEnum, capSt, List.map_cons, List.map_nil, Option.bind_none, Option.bind_some, Option.join_some, tSeq, tIfS, tAnd, tOr, tNot, tTest, tB, tOp, tUn, tBM0, tBM, tVar, tC, tCB, tRet, tAsg, gName, gSub, gTup, gCons, gNil, tCons, tNil, tPar, tTup, tLst, tIf, tAndV, tNotV, tDef, tCallX, tDrop, tNext, tNever, tRaise, tAug, rI, rI0, rU, rBitLen, rIxL, rIxT, rSetL, rEq, rNe, rCount, rIndex, rSplit, rIsI, rCat, iRng1, iRng2, iList, cxOf, cxR, cxX, Cx.nox, Cx.wish, Cx.body, Cx.suite, List.getElem?_cons_zero, List.getElem?_cons_succ, List.set_cons_zero, List.set_cons_succ, Option.some.injEq, V.int.injEq, V.bl.injEq, V.ref.injEq, V.str.injEq, exists_eq_left', exists_eq_left, exists_and_left, true_and, and_true, List.cons.injEq, reduceCtorEq, Bool.false_eq_true, if_false, if_true, exists_const, ↓reduceIte, tyV, List.length_cons, List.length_nil, exists_eq, List.append_nil, List.cons_append, List.nil_append, decide_eq_true_eq, not_true_eq_false, not_false_eq_true, Bool.not_eq_true', decide_eq_false_iff_not, Bool.not_true, Bool.not_false, and_assoc, false_and, false_or, or_false, spWL]
      refine ⟨ts', M', i, rfl, hA1, hR1, m, E.row, by rw [E.len]; exact hi, by omega, by rw [E.len]; omega, by omega, ?_⟩
      rw [E.len]
      exact ⟨fun hz H' s => hN _ _ ⟨s, .inl ⟨rfl, hz⟩⟩, fun r ts2 M2 H' s hA2 hR2 LD => hN _ _ ⟨s, .inr ⟨r, ts2, M2, rfl, hA2, hR2, LD⟩⟩⟩
    rintro σ H2 ⟨S2, h⟩
    rcases h with ⟨rfl, hz⟩ | ⟨a2, ts2, M2, rfl, hA2, hR2, LD⟩
    · subst_eqs
      refine ⟨by decide, fun p hp => ?_⟩
      have X := S2.trans (Same.new hp (.tup [.int i, .int dv, .ref a']))
      exact kk p i dv a' ts' M' _ (S.trans X) upd_same (X.seq hA1) (hR1.same X) (.inr ⟨hi, E.stuck hi hz⟩)
    · simp only [ipM, rLst, tComp_eq, tCompIf_eq, tMaxD, iZip, rRep, tSl, tPart, tNoPart, rSlL, rAppend, iEnum, capSt, List.map_cons, List.map_nil, Option.bind_none, Option.bind_some, Option.join_some, tSeq, tIfS, tAnd, tOr, tNot, tTest, tB, tOp, tUn, tBM0, tBM, tVar, tC, tCB, tRet, tAsg, gName, gSub, gTup, gCons, gNil, tCons, tNil, tPar, tTup, tLst, tIf, tAndV, tNotV, tDef, tCallX, tDrop, tNext, tNever, tRaise, tAug, rI, rI0, rU, rBitLen, rIxL, rIxT, rSetL, rEq, rNe, rCount, rIndex, rSplit, rIsI, rCat, iRng1, iRng2, iList, cxOf, cxR, cxX, Cx.nox, Cx.wish, Cx.body, Cx.suite, List.getElem?_cons_zero, List.getElem?_cons_succ, List.set_cons_zero, List.set_cons_succ, Option.some.injEq, V.int.injEq, V.bl.injEq, V.ref.injEq, V.str.injEq, exists_eq_left', exists_eq_left, exists_and_left, true_and, and_true, List.cons.injEq, reduceCtorEq, Bool.false_eq_true, if_false, if_true, exists_const, ↓reduceIte, tyV, List.length_cons, List.length_nil, exists_eq, List.append_nil, List.cons_append, List.nil_append, decide_eq_true_eq, not_true_eq_false, not_false_eq_true, Bool.not_eq_true', decide_eq_false_iff_not, Bool.not_true, Bool.not_false, and_assoc, false_and, false_or, or_false, spClean]
      obtain ⟨B2, E2, hB2, rel2⟩ : ∃ B2, Ew n m (exM n M) B2 i M2 dv ∧ (∀ r c, ∃ z : Int, B2 r c = (z : Rat) ∧ z.natAbs < 2 ^ W) ∧ ∀ Q, m = n + n → Rl n Q M → Rl n Q M2 := by
        rcases LD.alt with h | ⟨s, h1, h2, h3⟩
        · rw [h]; exact ⟨B, E, hB, rel1⟩
        · refine ⟨_, E.swap h1 h2 LD.len LD.row h3, fun r c => ?_, fun Q hm hq => (rel1 Q hm hq).swap hi h2 h3⟩
          unfold swN
          split
          · exact hB _ _
          · split
            · obtain ⟨z, e, b⟩ := hB i c
              exact ⟨-z, by rw [e, Rat.intCast_neg], by rw [Int.natAbs_neg]; exact b⟩
            · exact hB _ _
      obtain ⟨c, C, c1, c2, c3, c4, c5⟩ := hR2.at E2.len E2.row hi
      have at' : ∀ (j : Nat) (p : Addr), ts2[j]? = some p → (ts2.map V.ref)[j]? = some (.ref p) := fun j p e => by rw [List.getElem?_map, e]; rfl
      have t2 : ts2.length = n := by rw [hR2.length, E2.len]
      have d0 := E2.d0
      have lt : ∀ z : Int, z.natAbs ≤ 2 ^ V0 → z.natAbs < 2 ^ (V0 + 1) := fun z h => by
        have := Nat.two_pow_pos V0
        rw [Nat.pow_succ]; omega
      have ebit : ∀ x L, M2[x]? = some L → x < n → ∀ v ∈ L, Int.natAbs v < 2 ^ (V0 + 1) := fun x L eL hx v hv => by
        obtain ⟨y, hy, ey⟩ := List.mem_iff_getElem.mp hv
        have lL := E2.row L (List.mem_of_getElem? eL)
        have : zz M2 x y = v := by unfold zz aZ; rw [eL]; show (L[y]?).getD 0 = v; rw [List.getElem?_eq_getElem hy, ey]; rfl
        rw [← this]
        refine lt _ ?_
        rw [hV0]
        exact E2.bits hB2 n13 (by omega) hx (by omega)
      refine ⟨_, hA2, _, atI_nat (at' _ _ c1), ⟨_, hA2⟩, fun D hD => ?_⟩
      obtain ⟨Pv, hPv⟩ : ∃ Pv : Nat → L2.St → Hp → Prop, ∀ j σ H4, Pv j σ H4 ↔ ∃ (us : List Addr) (N : List (List Int)) (o3 o4 : Option V), σ = [some (.int dv), some (.ref c), some (.int i), o3, o4] ∧ Same H2 H4 ∧ H4 D = some (.lst (us.map V.ref)) ∧ D ∉ us ∧ RwZ H4 us N ∧ N.length = j ∧ (∀ L ∈ N, L.length = m) ∧ ∀ x y, x < j → y < m → zz N x y = if x = i then zz M2 i y else (zz M2 i i * zz M2 x y - zz M2 x i * zz M2 i y).fdiv dv := ⟨_, fun _ _ _ => Iff.rfl⟩
      refine cw_enum (ts2.map V.ref) Pv ((hPv _ _ _).mpr ⟨[], [], _, _, rfl, Same.new hD _, upd_same, by simp, .nil, rfl, by simp, fun x y h => by omega⟩) (by intro j σ H4 h; obtain ⟨_, _, _, _, _, s4, _⟩ := (hPv _ _ _).mp h; exact s4.seq hA2) ?_ ?_
      · intro j x σ H4 q hx h hq
        obtain ⟨us, N, o3, o4, rfl, s4, e4, nD, hN4, lN, rN, vN⟩ := (hPv _ _ _).mp h
        have hj : j < n := by
          have := (List.getElem?_eq_some_iff.mp hx).1
          rw [List.length_map, t2] at this; exact this
        obtain ⟨p, L, p1, p2, p3, p4, p5⟩ := hR2.at E2.len E2.row hj
        rw [at' _ _ p1] at hx
        cases hx
        simp only [ipM, rLst, tComp_eq, tCompIf_eq, tMaxD, iZip, rRep, tSl, tPart, tNoPart, rSlL, rAppend, iEnum, capSt, List.map_cons, List.map_nil, Option.bind_none, Option.bind_some, Option.join_some, tSeq, tIfS, tAnd, tOr, tNot, tTest, tB, tOp, tUn, tBM0, tBM, tVar, tC, tCB, tRet, tAsg, gName, gSub, gTup, gCons, gNil, tCons, tNil, tPar, tTup, tLst, tIf, tAndV, tNotV, tDef, tCallX, tDrop, tNext, tNever, tRaise, tAug, rI, rI0, rU, rBitLen, rIxL, rIxT, rSetL, rEq, rNe, rCount, rIndex, rSplit, rIsI, rCat, iRng1, iRng2, iList, cxOf, cxR, cxX, Cx.nox, Cx.wish, Cx.body, Cx.suite, List.getElem?_cons_zero, List.getElem?_cons_succ, List.set_cons_zero, List.set_cons_succ, Option.some.injEq, V.int.injEq, V.bl.injEq, V.ref.injEq, V.str.injEq, exists_eq_left', exists_eq_left, exists_and_left, true_and, and_true, List.cons.injEq, reduceCtorEq, Bool.false_eq_true, if_false, if_true, exists_const, ↓reduceIte, tyV, List.length_cons, List.length_nil, exists_eq, List.append_nil, List.cons_append, List.nil_append, decide_eq_true_eq, not_true_eq_false, not_false_eq_true, Bool.not_eq_true', decide_eq_false_iff_not, Bool.not_true, Bool.not_false, and_assoc, false_and, false_or, or_false, spClean]
        obtain ⟨H5, y5, X, g5⟩ := new_any (.tup [V.int j, V.ref p]) hq
        rw [← y5]
        refine ⟨_, SqT.of g5, rfl, _, _, rfl, _, _, rfl, rfl, rfl, ?_⟩
        have e5 := X _ _ e4
        have sz : (us.map V.ref).length < sizeLine := by
          rw [List.length_map, hN4.length, lN]
          exact Nat.lt_of_lt_of_le (show j < 100 by omega) (by decide)
        have lj : j < (ts2.map V.ref).length := by rw [List.length_map, t2]; exact hj
        have add : ∀ (r : Addr) (T : List Int) (H6 : Hp), Same H5 H6 → r ≠ D → H6 r = some (.lst (T.map V.int)) → T.length = m → (∀ y, y < m → aZ T y = if j = i then zz M2 i y else (zz M2 i i * zz M2 j y - zz M2 j i * zz M2 i y).fdiv dv) → CompN D (ts2.map V.ref).length Pv j [some (.int dv), some (.ref c), some (.int i), some (.int j), some (.ref p)] (.ref r) H6 := fun r T H6 s6 hr e6 l6 v6 => by
          have e7 := s6 _ _ e5
          have nn : D ∉ us ++ [r] := fun z => by
            rcases List.mem_append.mp z with z | z
            · exact nD z
            · exact hr (List.mem_singleton.mp z).symm
          refine CompN.mk lj e7 sz ((hPv _ _ _).mpr ⟨us ++ [r], N ++ [T], _, _, rfl, (s4.trans (X.trans s6)).over hD _, by rw [upd_same, List.map_append]; rfl, nn, RwZ.over nn ((hN4.same (X.trans s6)).append (.cons e6 .nil)), by rw [List.length_append, lN]; rfl, ?_, ?_⟩)
          · intro L' hL'
            rcases List.mem_append.mp hL' with z | z
            · exact rN _ z
            · rw [List.mem_singleton.mp z]; exact l6
          · intro x y h1 h3
            have ez : zz (N ++ [T]) x y = if x < j then zz N x y else aZ T y := by
              unfold zz
              by_cases z : x < j
              · rw [List.getElem?_append_left (by omega), if_pos z]
              · rw [List.getElem?_append_right (by omega), if_neg z, show x - N.length = 0 by omega]; rfl
            rw [ez]
            by_cases z : x < j
            · rw [if_pos z]; exact vN x y z h3
            · rw [if_neg z]
              have : x = j := by omega
              rw [this]
              exact v6 y h3
        refine ite2 (fun h1 => ?_) (fun h1 => ?_)
        · have eji : j = i := by have := V.int.inj h1; omega
          refine add p L H5 (Same.refl _) (fun z => ?_) (X _ _ (s4 _ _ p3)) p4 (fun y hy => ?_)
          · rw [z, hD] at p3; cases p3
          · rw [if_pos eji, ← eji, p5]
        · have nji : j ≠ i := fun z => h1 (by rw [z])
          have hl := ebit j L p2 hj
          refine ⟨p, rfl, L, C, i, rfl, SqL.of (X _ _ (s4 _ _ p3)), SqL.of (X _ _ (s4 _ _ c3)), by rw [p4, c4], by omega, by omega, d0, V0 + 1, lt _ (by rw [hV0]; exact E2.dvb hB2 n13 (by omega)), hl, ebit i C c2 hi, by omega, fun r T H6 s6 f6 e6 l6 v6 => ?_⟩
          refine add r T H6 s6 (fun z => ?_) e6 (by omega) (fun y hy => ?_)
          · rw [z, e5] at f6; cases f6
          · rw [if_neg nji, v6 y (by omega), c5, p5]
      · intro σ H4 h
        rw [List.length_map, t2] at h
        obtain ⟨us, N, o3, o4, rfl, s4, e4, nD, hN4, lN, rN, vN⟩ := (hPv _ _ _).mp h
        have gC : (C.map V.int)[i]? = some (.int (zz M2 i i)) := by
          rw [c5]
          unfold aZ
          rw [List.getElem?_map, List.getElem?_eq_getElem (by omega)]; rfl
        have sm : ∀ y, y < m → zz N i y = zz M2 i y := fun y hy => by rw [vN i y hi hy, if_pos rfl]
        have st := E2.step hi LD.top lN rN sm fun x y h1 h2 h3 => by rw [vN x y h1 h3, if_neg h2]
        refine ⟨c, rfl, _, SqL.of (s4 _ _ c3), _, atI_nat gC, (hI _ _ _).mpr ⟨(S.trans S2).trans s4, D, us, N, B2, _, _, _, _, rfl, SqL.of e4, hN4, st.1, hB2, fun Q hm hq => ?_⟩⟩
        exact (rel2 Q hm hq).step hi d0 (fun y hy => sm y (by omega)) fun x y h1 h2 h3 => st.2 x y h1 h2 (by omega)
  · intro σ H1 h
    obtain ⟨S, a', ts', M', B, dv, o2, o3, o4, rfl, hA1, hR1, E, hB, rel1⟩ := (hI _ _ _).mp h
    subst_eqs
    have t1 : ts'.length = n := by rw [hR1.length, E.len]
    refine ⟨_, .inl hA1, by decide, fun p hp => ?_⟩
    rw [List.length_map, tl] at E
    rw [List.length_map, t1]
    have X := Same.new hp (.tup [.int n, .int dv, .ref a'])
    exact kk p n dv a' ts' M' _ (S.trans X) upd_same (X.seq hA1) (hR1.same X) (.inl ⟨rfl, E.done, E.d0, E.dvb hB n13 (Nat.le_refl _), ⟨E.len, E.row, E.dia, rel1, fun x y h1 h2 => E.bits hB n13 (Nat.le_refl _) h1 h2⟩⟩)
end
end R

set_option maxRecDepth 100000
local macro_rules | `(tactic| subst_vars) => `(tactic| simp only [L2.ipM, L2.rLst, L2.tComp_eq, L2.tCompIf_eq, L2.tMaxD, L2.iZip, L2.rRep, L2.tSl, L2.tPart, L2.tNoPart, L2.rSlL, L2.rAppend, L2.iEnum, L2.capSt, List.map_cons, List.map_nil, Option.bind_none, Option.bind_some, Option.join_some, L2.tSeq, L2.tIfS, L2.tAnd, L2.tOr, L2.tNot, L2.tTest, L2.tB, L2.tOp, L2.tUn, L2.tBM0, L2.tBM, L2.tVar, L2.tC, L2.tCB, L2.tRet, L2.tAsg, L2.gName, L2.gSub, L2.gTup, L2.gCons, L2.gNil, L2.tCons, L2.tNil, L2.tPar, L2.tTup, L2.tLst, L2.tIf, L2.tAndV, L2.tNotV, L2.tDef, L2.tCallX, L2.tDrop, L2.tNext, L2.tNever, L2.tRaise, L2.tAug, L2.rI, L2.rI0, L2.rU, L2.rBitLen, L2.rIxL, L2.rIxT, L2.rSetL, L2.rEq, L2.rNe, L2.rCount, L2.rIndex, L2.rSplit, L2.rIsI, L2.rCat, L2.iRng1, L2.iRng2, L2.iList, L2.cxOf, L2.cxR, L2.cxX, L2.Cx.nox, L2.Cx.wish, L2.Cx.body, L2.Cx.suite, List.getElem?_cons_zero, List.getElem?_cons_succ, List.set_cons_zero, List.set_cons_succ, Option.some.injEq, L2.V.int.injEq, L2.V.bl.injEq, L2.V.ref.injEq, L2.V.str.injEq, exists_eq_left', exists_eq_left, exists_and_left, true_and, and_true, List.cons.injEq, reduceCtorEq, Bool.false_eq_true, if_false, if_true, exists_const, ↓reduceIte, L2.tyV, List.length_cons, List.length_nil, exists_eq, List.append_nil, List.cons_append, List.nil_append, decide_eq_true_eq, not_true_eq_false, not_false_eq_true, Bool.not_eq_true', decide_eq_false_iff_not, Bool.not_true, Bool.not_false, and_assoc, false_and, false_or, or_false, L2.TruV])
namespace R
open PySem L2 PyProof.Rows
section
variable {P : Program} {w : World} {K : PySem.W.Frag} {mg : Str → Option Value} {base : Heap}
def spCD : Sp := fun vs H Q _ => ∃ a b : Int, vs = [.int a, .int b] ∧ (a.natAbs < 2 ^ 6000 ∨ b.natAbs < 2 ^ 6000) ∧ Q (.int (Int.gcd a b)) H
abbrev s_common_divisor : Stmt := top 24
theorem sc_common_divisor : FnScope ["one", "other"] ["one", "other"] (defScope s_common_divisor) := ⟨rfl, rfl, rfl, by decide +kernel, rfl, by decide +kernel, by decide +kernel⟩
theorem ok_common_divisor {f : Addr} (d : Df K mg "common_divisor" s_common_divisor ["one", "other"] f) (c_SHORT : ∃ t, mg "SHORT" = some (.int 6000 t)) (n_abs : mg "abs" = none) : Def P w K mg base CX0 1 "common_divisor" f ["one", "other"] spCD := by
  obtain ⟨tS, c_SHORT⟩ := c_SHORT
  refine d.ok (N := ["one", "other"]) sc_common_divisor (fun vs H Q E ⟨a, b, h, _⟩ => by rw [h]; rfl) (fun cdv A outer s H vs Q E hr h => ?_)
  obtain ⟨a, b, rfl, hab, q⟩ := h
  refine ⟨_, (pss_cons (ps_if (PW.pt (pw_and (pt_cmpR op_gt (pe_bm0 PySem.F.plainAttrs_int PySem.F.slot_int_bit_length PySem.F.type_int_bit_length mt_bitlen (pv 1)) (pe_glob (v := .int 6000) rfl c_SHORT ⟨_, rfl⟩) (nomark _)) (pw_and1 (pt_cmpR op_gt (pe_bm0 PySem.F.plainAttrs_int PySem.F.slot_int_bit_length PySem.F.type_int_bit_length mt_bitlen (pv 0)) (pe_glob (v := .int 6000) rfl c_SHORT ⟨_, rfl⟩) (nomark _))))) (pss_one ps_never) pss_nil)
      (pss_cons (ps_while PassesOwn.never (pt_truth (pv 1) (fun _ => rfl)) (pss_one (ps_par (i := 0) (j := 1) rfl sc_common_divisor.nd rfl rfl (by decide) rfl rfl (pa_cons (pv 1) (pa_cons (pe_op op_modN (pv 0) (pv 1)) pa_nil)) rfl)))
      (pss_one (ps_ret (pe_callB call_abs rfl n_abs (by decide +kernel) (pa_cons (pv 0) pa_nil)))))), ?_⟩
  rw [show start ["one", "other"] [.int a, .int b] = [some (.int a), some (.int b)] from rfl]
  have hno : ¬ ((6000 : Int) < Builtin.Int.intBits b ∧ (6000 : Int) < Builtin.Int.intBits a) := by
    rintro ⟨h1, h2⟩
    rcases hab with z | z
    · have := intBits_lt z; omega
    · have := intBits_lt z; omega
  have main : ∀ {D : Ends} , (∀ x : Int, ∀ y : Int, y = 0 → Int.gcd x y = Int.gcd a b → D.nx [some (.int x), some (.int y)] H) → tWhile (fun σ H_1 Q => tVar 1 σ H_1 fun x H' => ∃ k, TruV K x H' k ∧ Q k H')
      (tPar 0 1 (tCons (tVar 1) (tCons (tOp (rI (fun x j => j ≠ 0) fun i j => V.int (i.fmod j)) (tVar 0) (tVar 1)) tNil))) D [some (.int a), some (.int b)] H := by
    intro D hD
    refine while_by (fun σ H1 => H1 = H ∧ ∃ x y : Int, σ = [some (.int x), some (.int y)] ∧ Int.gcd x y = Int.gcd a b) (fun σ _ => match σ with | [_, some (.int y)] => y.natAbs | _ => 0) ⟨rfl, a, b, rfl, rfl⟩ ?_ ?_
    · rintro σ H1 ⟨rfl, x, y, rfl, hg⟩
      subst_vars
      split
      · rename_i hy
        have hy' : y ≠ 0 := by simpa using hy
        exact ⟨hy', by rw [gcd_fmod]; exact hg, natAbs_fmod_lt x hy'⟩
      · rename_i hy
        have hy' : y = 0 := by simpa using hy
        exact hD x y hy' hg
    · intro σ H1 Q Q' hQ h
      obtain ⟨v, e1, k, e2, e3⟩ := h
      exact ⟨v, e1, k, e2, hQ _ _ e3⟩
  have fin : ∀ x y : Int, y = 0 → Int.gcd x y = Int.gcd a b → Q (.int (if x < 0 then -x else x)) H := fun x y hy hg => by
    subst hy
    have e : (if x < 0 then -x else x) = (Int.gcd a b : Int) := by
      rw [← hg, Int.gcd_zero_right]
      split <;> omega
    rw [e]; exact q
  have nxt : ∀ x y : Int, y = 0 → Int.gcd x y = Int.gcd a b → (tRet (tCB (fun xs H Q => ∃ i, xs = [V.int i] ∧ Q (V.int (if i < 0 then -i else i)) H) (tCons (tVar 0) tNil)) { nx := fun x H' => Q V.non H', rt := Q }) [some (.int x), some (.int y)] H := fun x y hy hg => by
    subst_eqs
    exact fin x y hy hg
  subst_eqs
  split
  · split
    · exact hno ⟨‹_›, ‹_›⟩
    · exact main nxt
  · exact main nxt
def spFraction : Sp := fun vs H Q _ => ∃ t b : Int, vs = [.int t, .int b] ∧ b.natAbs < 2 ^ 6000 ∧ b ≠ 0 ∧ NumRes H Q (Rat.divInt t b)
abbrev s_fraction : Stmt := top 25
theorem sc_fraction : FnScope ["top", "bottom", "shared"] ["top", "bottom"] (defScope s_fraction) := ⟨rfl, rfl, rfl, by decide +kernel, rfl, by decide +kernel, by decide +kernel⟩
theorem ok_fraction {f fc : Addr} (d : Df K mg "fraction" s_fraction ["top", "bottom"] f) (G_common_divisor : Def P w K mg base CX0 1 "common_divisor" fc ["one", "other"] spCD) : Def P w K mg base CX0 2 "fraction" f ["top", "bottom"] spFraction := by
  refine d.ok (N := ["top", "bottom", "shared"]) sc_fraction (by rintro vs H Q E ⟨a, b, h, _⟩; rw [h]; rfl) (fun cdv A outer s H vs Q E hr h => ?_)
  obtain ⟨t, b, rfl, hb, h0, q⟩ := h
  refine ⟨_, (pss_cons (ps_if (pt_cmpR op_eq (pv 1) pe_int (nomark _)) (pss_one ps_never) pss_nil)
      (pss_cons (ps_set (i := 2) sc_fraction.nd rfl (Or.inl rfl) (pe_def G_common_divisor hr (pa_cons (pv 0) (pa_cons (pv 1) pa_nil)) pass0))
      (pss_cons (ps_if (pt_cmpR op_lt (pv 1) pe_int (nomark _)) (pss_one (ps_set (i := 2) sc_fraction.nd rfl (Or.inl rfl) (pe_un un_neg (pv 2)))) pss_nil)
      (pss_one (ps_ret (pe_tup (pa_cons (pe_op op_fdivB (pv 0) (pv 2)) (pa_cons (pe_op op_fdivB (pv 1) (pv 2)) pa_nil)))))))), ?_⟩
  rw [show start ["top", "bottom", "shared"] [.int t, .int b] = [some (.int t), some (.int b), none] from rfl]
  simp only [ipM, rLst, tComp_eq, tCompIf_eq, tMaxD, iZip, rRep, tSl, tPart, tNoPart, rSlL, rAppend, iEnum, capSt, List.map_cons, List.map_nil, Option.bind_none, Option.bind_some, Option.join_some, tSeq, tIfS, tAnd, tOr, tNot, tTest, tB, tOp, tUn, tBM0, tBM, tVar, tC, tCB, tRet, tAsg, gName, gSub, gTup, gCons, gNil, tCons, tNil, tPar, tTup, tLst, tIf, tAndV, tNotV, tDef, tCallX, tDrop, tNext, tNever, tRaise, tAug, rI, rI0, rU, rBitLen, rIxL, rIxT, rSetL, rEq, rNe, rCount, rIndex, rSplit, rIsI, rCat, iRng1, iRng2, iList, cxOf, cxR, cxX, Cx.nox, Cx.wish, Cx.body, Cx.suite, List.getElem?_cons_zero, List.getElem?_cons_succ, List.set_cons_zero, List.set_cons_succ, Option.some.injEq, V.int.injEq, V.bl.injEq, V.ref.injEq, V.str.injEq, exists_eq_left', exists_eq_left, exists_and_left, true_and, and_true, List.cons.injEq, reduceCtorEq, Bool.false_eq_true, if_false, if_true, exists_const, ↓reduceIte, tyV, List.length_cons, List.length_nil, exists_eq, List.append_nil, List.cons_append, List.nil_append, decide_eq_true_eq, not_true_eq_false, not_false_eq_true, Bool.not_eq_true', decide_eq_false_iff_not, Bool.not_true, Bool.not_false, and_assoc, false_and, false_or, or_false, scal, spCD]
  rw [if_neg h0]
  refine ⟨.inr hb, ?_⟩
  have hg := gcd_pos (t := t) h0
  have hgl := gcd_lt (a := t) h0 hb
  by_cases hs : b < 0
  · rw [if_pos hs]
    obtain ⟨e1, e2⟩ := low_eq (t := t) (g := -(Int.gcd t b : Int)) h0 (by rw [if_pos hs])
    have dv : ∀ i, CDivB i (-(Int.gcd t b : Int)) := fun i => divOk (by omega) (by rw [Int.natAbs_neg]; exact lt_up hgl)
    refine ⟨dv _, dv _, small2, fun r hr' => ?_⟩
    exact q r _ (Same.new hr' _) (by rw [upd_same]; unfold numV; rw [e1, e2])
  · rw [if_neg hs]
    obtain ⟨e1, e2⟩ := low_eq (t := t) (g := (Int.gcd t b : Int)) h0 (by rw [if_neg hs])
    have dv : ∀ i, CDivB i ((Int.gcd t b : Int)) := fun i => divOk (by omega) (lt_up hgl)
    refine ⟨dv _, dv _, small2, fun r hr' => ?_⟩
    exact q r _ (Same.new hr' _) (by rw [upd_same]; unfold numV; rw [e1, e2])
end
end R

set_option maxRecDepth 100000
local macro_rules | `(tactic| and_intros) => `(tactic| simp only [L2.ipM, L2.rLst, L2.tComp_eq, L2.tCompIf_eq, L2.tMaxD, L2.iZip, L2.rRep, L2.tSl, L2.tPart, L2.tNoPart, L2.rSlL, L2.rAppend, L2.iEnum, L2.capSt, List.map_cons, List.map_nil, Option.bind_none, Option.bind_some, Option.join_some, L2.tSeq, L2.tIfS, L2.tAnd, L2.tOr, L2.tNot, L2.tTest, L2.tB, L2.tOp, L2.tUn, L2.tBM0, L2.tBM, L2.tVar, L2.tC, L2.tCB, L2.tRet, L2.tAsg, L2.gName, L2.gSub, L2.gTup, L2.gCons, L2.gNil, L2.tCons, L2.tNil, L2.tPar, L2.tTup, L2.tLst, L2.tIf, L2.tAndV, L2.tNotV, L2.tDef, L2.tCallX, L2.tDrop, L2.tNext, L2.tNever, L2.tRaise, L2.tAug, L2.rI, L2.rI0, L2.rU, L2.rBitLen, L2.rIxL, L2.rIxT, L2.rSetL, L2.rEq, L2.rNe, L2.rCount, L2.rIndex, L2.rSplit, L2.rIsI, L2.rCat, L2.iRng1, L2.iRng2, L2.iList, L2.cxOf, L2.cxR, L2.cxX, L2.Cx.nox, L2.Cx.wish, L2.Cx.body, L2.Cx.suite, List.getElem?_cons_zero, List.getElem?_cons_succ, List.set_cons_zero, List.set_cons_succ, Option.some.injEq, L2.V.int.injEq, L2.V.bl.injEq, L2.V.ref.injEq, L2.V.str.injEq, exists_eq_left', exists_eq_left, exists_and_left, true_and, and_true, List.cons.injEq, reduceCtorEq, Bool.false_eq_true, if_false, if_true, exists_const, ↓reduceIte, L2.tyV, List.length_cons, List.length_nil, exists_eq, List.append_nil, List.cons_append, List.nil_append, decide_eq_true_eq, not_true_eq_false, not_false_eq_true, Bool.not_eq_true', decide_eq_false_iff_not, Bool.not_true, Bool.not_false, and_assoc, false_and, false_or, or_false, R.spCD])
namespace R
open PySem L2 PyProof.Rows
instance {K : PySem.W.Frag} {H : Hp} {vs : List V} {qs : List Rat} : Coe (Nums H vs qs) (NumsC K H vs qs) := ⟨Nums.toC⟩
end R

set_option maxRecDepth 100000
namespace R
open PySem L2 PyProof.Rows
section
variable {P : Program} {w : World} {K : PySem.W.Frag} {mg : Str → Option Value} {base : Heap}
def spCleared (K : PySem.W.Frag) : Sp := fun vs H Q _ => ∃ a xs qs, vs = [.ref a] ∧ SqL K H a xs ∧ NumsC K H xs qs ∧ (∃ W : Nat, ClN W qs ∧ W ≤ 6000) ∧ qs.length ≤ 100 ∧
  ∀ r l H', Same H H' → H l = none → H' r = some (.tup [.ref l, .int (lcmL qs)]) → H' l = some (.lst ((wholesOf (lcmL qs) qs).map V.int)) → Q (.ref r) H'
abbrev s_cleared : Stmt := top 28
theorem sc_cleared : FnScope ["numbers", "bottom", "number"] ["numbers"] (defScope s_cleared) := ⟨rfl, rfl, rfl, by decide +kernel, rfl, by decide +kernel, by decide +kernel⟩
set_option maxHeartbeats 0 in
theorem ok_cleared {f fc : Addr} (d : Df K mg "cleared" s_cleared ["numbers"] f) (G_common_divisor : Def P w K mg base CX0 1 "common_divisor" fc ["one", "other"] spCD) : Def P w K mg base CX0 2 "cleared" f ["numbers"] (spCleared K) := by
  refine d.ok (N := ["numbers", "bottom", "number"]) sc_cleared (by rintro vs H Q E ⟨a, b, c, h, _⟩; rw [h]; rfl) (fun cdv A outer s H vs Q E hr h => ?_)
  obtain ⟨a, xs, qs, rfl, hS, hN, ⟨W, hs, hm⟩, hl, k⟩ := h
  refine ⟨_, (pss_cons (ps_set (i := 1) sc_cleared.nd rfl (Or.inr rfl) pe_int)
      (pss_cons (ps_for PassesOwn.never rfl (pi_list (pv 0)) (pg_name (i := 2) sc_cleared.nd rfl (Or.inl rfl)) (pss_one (ps_set (i := 1) sc_cleared.nd rfl (Or.inr rfl) (pe_op op_mulB (pe_op op_fdivB (pv 1) (pe_def G_common_divisor hr (pa_cons (pv 1) (pa_cons (pe_ix ix_tup (pv 2) pe_int (fun _ _ => rfl)) pa_nil)) pass0)) (pe_ix ix_tup (pv 2) pe_int (fun _ _ => rfl))))))
      (pss_one (ps_ret (pe_tup (pa_cons (pe_comp (Nc := ["bottom", "top", "under"]) (caps := [some 1, none, none]) rfl (Caps.of (osc := defScope s_cleared) (N := ["numbers", "bottom", "number"]) (ks := ["bottom"]) rfl rfl rfl rfl (sub_cons rfl sub_nil) (by decide +kernel)) (pi_list (pv 0)) (fun C s₂ H₂ fp pins => (show PG _ _ (gTup K 2 (gCons (gName 1) (gCons (gName 2) gNil))) from by (refine pg_tup (n := 2) ?_ ?_ ?_ ?_; rfl; (refine pgs_cons ?_ ?_ ?_; (exact (pg_name (i := 1) (show List.Nodup (["bottom", "top", "under"] : List Str) by decide +kernel) rfl (Or.inl rfl) (Or.inr rfl))); (refine pgs_cons ?_ ?_ ?_; (exact (pg_name (i := 2) (show List.Nodup (["bottom", "top", "under"] : List Str) by decide +kernel) rfl (Or.inl rfl) (Or.inr rfl))); (exact pgs_nil); rfl); rfl); rfl; rfl))) (fun C s₂ H₂ fp pins => (pe_op op_mulB (pv 1) (pe_op op_fdivB (pv 0) (pv 2))))) (pa_cons (pv 1) pa_nil))))))), ?_⟩
  rw [show start ["numbers", "bottom", "number"] [.ref a] = [some (.ref a), none, none] from rfl]
  subst_eqs
  have small : ∀ q ∈ qs, q.den < 2 ^ 6000 := fun q hq => Nat.lt_of_lt_of_le (hs.den hq) (pow_le_pow2 hm)
  have hB : ∀ i, 0 < lcmL (qs.take i) ∧ lcmL (qs.take i) < 2 ^ 6000 := fun i => by
    exact ⟨lcmL_pos _, Nat.lt_of_lt_of_le (hs.take i) (pow_le_pow2 hm)⟩
  refine ⟨_, rfl, a, rfl, ⟨_, hS⟩, for_list (xs := xs) (fun i σ H1 => H1 = H ∧ ∃ o, σ = [some (.ref a), some (.int (lcmL (qs.take i) : Nat)), o]) ⟨rfl, _, rfl⟩ (fun i σ H1 _ ⟨e, _⟩ => e ▸ hS) ?_ ?_⟩
  · rintro i x σ H1 hx ⟨rfl, o, rfl⟩
    obtain ⟨p, q, rfl, hq, hp⟩ := hN.getV hx
    obtain ⟨b1, b2⟩ := hB i
    have hd := small q (List.mem_of_getElem? hq)
    have hd0 := rat_den_pos q
    have es : qs.take (i + 1) = qs.take i ++ [q] := by rw [List.take_succ, hq]; rfl
    have gp : (0 : Int) < (Int.gcd (lcmL (qs.take i) : Int) (q.den : Int) : Nat) := by
      have := gcd_pos (t := (lcmL (qs.take i) : Int)) (b := (q.den : Int)) (by omega); omega
    have el : (lcmL (qs.take i) : Int).fdiv (Int.gcd (lcmL (qs.take i) : Int) (q.den : Int) : Nat) * (q.den : Int) = (lcmL (qs.take (i + 1)) : Nat) := by
      rw [es, lcmL_snoc]
      obtain ⟨e, he⟩ := Int.gcd_dvd_left (lcmL (qs.take i) : Int) (q.den : Int)
      have hg : Int.gcd (lcmL (qs.take i) : Int) (q.den : Int) = Nat.gcd (lcmL (qs.take i)) q.den := by simp [Int.gcd]
      have h1 : (lcmL (qs.take i) : Int).fdiv (Int.gcd (lcmL (qs.take i) : Int) (q.den : Int) : Nat) = e := by
        conv => lhs; arg 1; rw [he]
        exact fdiv_of_mul (by omega)
      rw [h1]
      have h2 : Nat.gcd (lcmL (qs.take i)) q.den * Nat.lcm (lcmL (qs.take i)) q.den = lcmL (qs.take i) * q.den := Nat.gcd_mul_lcm _ _
      have h3 : ((Nat.gcd (lcmL (qs.take i)) q.den : Nat) : Int) * (Nat.lcm (lcmL (qs.take i)) q.den : Nat) = (lcmL (qs.take i) : Int) * (q.den : Int) := by
        rw [← Int.natCast_mul, h2, Int.natCast_mul]
      rw [← hg] at h3
      have h4 : ((Int.gcd (lcmL (qs.take i) : Int) (q.den : Int) : Nat) : Int) * (e * q.den) = ((Int.gcd (lcmL (qs.take i) : Int) (q.den : Int) : Nat) : Int) * (Nat.lcm (lcmL (qs.take i)) q.den : Nat) := by
        rw [h3, ← Int.mul_assoc, ← he]
      exact Int.eq_of_mul_eq_mul_left (by omega) h4
    and_intros
    have hd9 : (q.den : Int).natAbs < 2 ^ 6000 := by rw [Int.natAbs_natCast]; exact hd
    exact ⟨_, hp.sqt, _, at1 q, _, rfl, .inr (lt_up hd9), divOk (by omega) (gcd_lt (by omega) (lt_up hd9)), _, hp.sqt, _, at1 q, _, rfl, mulOk (m := 6000) (n := 6000) (Nat.lt_of_le_of_lt (fdiv_le (by omega) (Int.gcd_dvd_left _ _)) (by rw [Int.natAbs_natCast]; exact b2)) hd9, el, _, rfl⟩
  · rintro σ H1 ⟨rfl, o, rfl⟩
    rw [← hN.length] at hl
    have e1 : qs.take xs.length = qs := by rw [hN.length, List.take_length]
    rw [e1]
    and_intros
    refine ⟨⟨_, hS⟩, fun D hD => ?_⟩
    refine cw_list xs (fun i σ H2 => ∃ o1 o2, σ = [some (.int (lcmL qs)), o1, o2] ∧ Same H1 H2 ∧ H2 D = some (.lst ((wholesOf (lcmL qs) (qs.take i)).map V.int))) ⟨_, _, rfl, Same.new hD _, upd_same⟩ (fun i σ H2 _ ⟨_, _, _, s2, _⟩ => s2.seq hS) ?_ ?_
    · rintro i x σ H2 hx ⟨o1, o2, rfl, s2, e2⟩
      have hi := (List.getElem?_eq_some_iff.mp hx).1
      obtain ⟨p, q, rfl, hq, hp⟩ := hN.getV hx
      have hd := small q (List.mem_of_getElem? hq)
      have hd0 := rat_den_pos q
      have hd9 : (q.den : Int).natAbs < 2 ^ 6000 := by rw [Int.natAbs_natCast]; exact hd
      have hn9 := hs.num (List.mem_of_getElem? hq)
      have es : qs.take (i + 1) = qs.take i ++ [q] := by rw [List.take_succ, hq]; rfl
      subst_eqs
      refine ⟨_, s2.tup hp.sqt, rfl, _, _, rfl, _, _, rfl, rfl, ?_⟩
      refine ⟨_, rfl, divOk (by omega) (lt_up hd9), _, rfl, mulOk (m := 6000) (n := 6000) (Nat.lt_of_lt_of_le hn9 (pow_le_pow2 (by omega))) (Nat.lt_of_le_of_lt (fdiv_le (by omega) (Int.natCast_dvd_natCast.mpr (den_dvd (List.mem_of_getElem? hq)))) (by rw [Int.natAbs_natCast]; have := (hB qs.length).2; rwa [List.take_length] at this)), ?_⟩
      refine CompN.mk hi e2 ?_ ⟨_, _, rfl, (s2.trans (Same.refl _)).over hD _, ?_⟩
      · simp only [List.length_map, wholesOf, List.length_take]
        exact Nat.lt_of_le_of_lt (show _ ≤ 100 by omega) (by decide)
      · rw [upd_same, es]
        simp [wholesOf]
    · rintro σ H2 ⟨o1, o2, rfl, s2, e2⟩
      rw [e1] at e2
      refine ⟨small2, fun p hp => k p D _ (s2.trans (Same.new hp _)) hD upd_same ?_⟩
      rw [upd_ne (ne_of_none e2 hp)]; exact e2
end
end R

set_option maxRecDepth 100000
namespace R
open PySem L2 PyProof.Rows
section
variable {P : Program} {w : World} {K : PySem.W.Frag} {mg : Str → Option Value} {base : Heap}
def bpN : List (List Rat) → Nat
  | [] => 1
  | L :: Ls => lcmL L * bpN Ls
theorem bpN_snoc (X : List (List Rat)) (L : List Rat) : bpN (X ++ [L]) = bpN X * lcmL L := by
  induction X with
  | nil => show lcmL L * 1 = 1 * lcmL L; omega
  | cons Y Ys ih => show lcmL Y * bpN (Ys ++ [L]) = lcmL Y * bpN Ys * lcmL L; rw [ih, Nat.mul_assoc]
theorem bpN_pos : ∀ X : List (List Rat), 0 < bpN X
  | [] => Nat.one_pos
  | L :: Ls => Nat.mul_pos (lcmL_pos L) (bpN_pos Ls)
theorem bpN_lt {W : Nat} : ∀ {X : List (List Rat)}, (∀ L ∈ X, ClN W L) → bpN X ≤ 2 ^ (W * X.length)
  | [], _ => by show 1 ≤ _; exact Nat.one_le_two_pow
  | L :: Ls, h => by
    show lcmL L * bpN Ls ≤ 2 ^ (W * (Ls.length + 1))
    rw [Nat.mul_succ, Nat.add_comm, Nat.pow_add]
    exact Nat.mul_le_mul (Nat.le_of_lt (h L List.mem_cons_self).l) (bpN_lt fun L' h' => h L' (List.mem_cons_of_mem _ h'))
theorem bpN_prod : ∀ X : List (List Rat), prodTo (fun r => ((lcmL ((X[r]?).getD []) : Nat) : Rat)) X.length = ((bpN X : Nat) : Rat)
  | [] => rfl
  | L :: Ls => by
    rw [List.length_cons, prodTo_first]
    have := bpN_prod Ls
    show ((lcmL L : Nat) : Rat) * prodTo (fun r => ((lcmL ((Ls[r]?).getD []) : Nat) : Rat)) Ls.length = ((lcmL L * bpN Ls : Nat) : Rat)
    rw [this, Rat.natCast_mul]
def wRows (M : List (List Rat)) : List (List Int) := M.map fun L => wholesOf (lcmL L) L
theorem dt_wRows {n : Nat} {M : List (List Rat)} (ln : M.length = n) (lm : ∀ L ∈ M, L.length = n) : dt n (mZ (wRows M)) = ((bpN M : Nat) : Rat) * dt n (qq M) := by
  rw [← bpN_prod, ln, ← dt_scale]
  refine dt_congr fun r hr c hc => ?_
  have e := List.getElem?_eq_getElem (l := M) (i := r) (by omega)
  generalize M[r]'(by omega) = L at e
  have lL := lm L (List.mem_of_getElem? e)
  unfold mZ zz qq wRows
  rw [List.getElem?_map, e]
  show ((aZ (wholesOf (lcmL L) L) c : Int) : Rat) = ((lcmL L : Nat) : Rat) * aQ L c
  have ec := List.getElem?_eq_getElem (l := L) (i := c) (by omega)
  generalize L[c]'(by omega) = q at ec
  have we := whole_eq (lcmL_pos L) (den_dvd (List.mem_of_getElem? ec))
  unfold aZ aQ wholesOf
  rw [List.getElem?_map, ec]
  show ((q.num * ((lcmL L : Nat) : Int).fdiv (q.den : Int) : Int) : Rat) = ((lcmL L : Nat) : Rat) * q
  generalize q.num * ((lcmL L : Nat) : Int).fdiv (q.den : Int) = z at *
  have l0 : (((lcmL L : Nat) : Int) : Rat) ≠ 0 := fun y => by
    have : ((lcmL L : Nat) : Int) = 0 := Rat.intCast_inj.mp y
    have := lcmL_pos L
    omega
  rw [we, Rat.divInt_eq_div]
  show _ = (((lcmL L : Nat) : Int) : Rat) * _
  rw [Rat.mul_comm, Rat.div_mul_cancel l0]
def spDetm (K : PySem.W.Frag) : Sp := fun vs H Q _ => ∃ (a : Addr) (ts : List Addr) (M : List (List Rat)) (n W : Nat), vs = [.ref a] ∧ SqL K H a (ts.map V.ref) ∧ RwsC K H ts M ∧ M.length = n ∧ (∀ L ∈ M, L.length = n ∧ ClN W L) ∧ n ≤ 13 ∧ 1 ≤ W ∧ (W + 4) * (n + 1) ≤ 4000 ∧
  ∀ r H', Same H H' → NmC K H' r (dt n (qq M)) → Q (.ref r) H'
abbrev s_determinant : Stmt := top 35
theorem sc_determinant : FnScope ["table", "rows", "bottom", "row", "many", "divisor", "wholes", "row_bottom"] ["table"] (defScope s_determinant) := ⟨rfl, rfl, rfl, by decide +kernel, rfl, by decide +kernel, by decide +kernel⟩
set_option maxHeartbeats 0 in
theorem ok_determinant {f f1 f2 f3 aN : Addr} (d : Df K mg "determinant" s_determinant ["table"] f) (G_cleared : Def P w K mg base CX0 2 "cleared" f1 ["numbers"] (spCleared K)) (G_eliminated : Def P w K mg base CX0 2 "eliminated" f2 ["rows"] (spElimW K)) (G_fraction : Def P w K mg base CX0 2 "fraction" f3 ["top", "bottom"] spFraction) (c_NOUGHT : mg "NOUGHT" = some (.ref aN)) (tN : ∀ H, SqT K H aN (numV 0)) (n_len : mg "len" = none) : Def P w K mg base CX0 3 "determinant" f ["table"] (spDetm K) := by
  refine d.ok (N := ["table", "rows", "bottom", "row", "many", "divisor", "wholes", "row_bottom"]) sc_determinant (by rintro vs H Q E ⟨_, _, _, _, _, h, _⟩; rw [h]; rfl) (fun cdv A outer s H vs Q E hr h => ?_)
  obtain ⟨a, ts, M, n, W, rfl, hA, hR, ln, lm, n15, W1, hV, kk⟩ := h
  subst ln
  refine ⟨_, (pss_cons (ps_set (i := 1) sc_determinant.nd rfl (Or.inl rfl) (pe_lst pa_nil))
      (pss_cons (ps_set (i := 2) sc_determinant.nd rfl (Or.inl rfl) pe_int)
      (pss_cons (ps_for PassesOwn.never rfl (pi_list (pv 0)) (pg_name (i := 3) sc_determinant.nd rfl (Or.inl rfl)) (pss_cons (ps_asg (pe_def G_cleared hr (pa_cons (pv 3) pa_nil) pass0) (show PG _ _ (gTup K 2 (gCons (gName 6) (gCons (gName 7) gNil))) from by (refine pg_tup (n := 2) ?_ ?_ ?_ ?_; rfl; (refine pgs_cons ?_ ?_ ?_; (exact (pg_name (i := 6) sc_determinant.nd rfl (Or.inl rfl))); (refine pgs_cons ?_ ?_ ?_; (exact (pg_name (i := 7) sc_determinant.nd rfl (Or.inl rfl))); (exact pgs_nil); rfl); rfl); rfl; rfl)))
      (pss_cons (ps_expr (pe_bm PySem.F.plainAttrs_list PySem.F.slot_list_append PySem.F.type_list_append mt_append (pv 1) (pa_cons (pv 6) pa_nil)))
      (pss_one (ps_aug (i := 2) sc_determinant.nd rfl (Or.inl rfl) (pv 7) ip_mul)))))
      (pss_cons (ps_asg (pe_def G_eliminated hr (pa_cons (pv 1) pa_nil) pass0) (show PG _ _ (gTup K 3 (gCons (gName 4) (gCons (gName 5) (gCons (gName 1) gNil)))) from by (refine pg_tup (n := 3) ?_ ?_ ?_ ?_; rfl; (refine pgs_cons ?_ ?_ ?_; (exact (pg_name (i := 4) sc_determinant.nd rfl (Or.inl rfl))); (refine pgs_cons ?_ ?_ ?_; (exact (pg_name (i := 5) sc_determinant.nd rfl (Or.inl rfl))); (refine pgs_cons ?_ ?_ ?_; (exact (pg_name (i := 1) sc_determinant.nd rfl (Or.inl rfl))); (exact pgs_nil); rfl); rfl); rfl); rfl; rfl)))
      (pss_one (ps_ret (pe_ifExp (pt_cmpR op_eq (pv 4) (pe_callB call_len_seq rfl n_len (by decide +kernel) (pa_cons (pv 0) pa_nil)) (nomark _)) (pe_def G_fraction hr (pa_cons (pv 5) (pa_cons (pv 2) pa_nil)) pass0) (pe_glob (v := .ref _) rfl c_NOUGHT rfl)))))))), ?_⟩
  rw [show start ["table", "rows", "bottom", "row", "many", "divisor", "wholes", "row_bottom"] [.ref a] = [some (.ref a), none, none, none, none, none, none, none] from rfl]
  simp only [ipM, rLst, tComp_eq, tCompIf_eq, tMaxD, iZip, rRep, tSl, tPart, tNoPart, rSlL, rAppend, iEnum, capSt, List.map_cons, List.map_nil, Option.bind_none, Option.bind_some, Option.join_some, tSeq, tIfS, tAnd, tOr, tNot, tTest, tB, tOp, tUn, tBM0, tBM, tVar, tC, tCB, tRet, tAsg, gName, gSub, gTup, gCons, gNil, tCons, tNil, tPar, tTup, tLst, tIf, tAndV, tNotV, tDef, tCallX, tDrop, tNext, tNever, tRaise, tAug, rI, rI0, rU, rBitLen, rIxL, rIxT, rSetL, rEq, rNe, rCount, rIndex, rSplit, rIsI, rCat, iRng1, iRng2, iList, cxOf, cxR, cxX, Cx.nox, Cx.wish, Cx.body, Cx.suite, List.getElem?_cons_zero, List.getElem?_cons_succ, List.set_cons_zero, List.set_cons_succ, Option.some.injEq, V.int.injEq, V.bl.injEq, V.ref.injEq, V.str.injEq, exists_eq_left', exists_eq_left, exists_and_left, true_and, and_true, List.cons.injEq, reduceCtorEq, Bool.false_eq_true, if_false, if_true, exists_const, ↓reduceIte, tyV, List.length_cons, List.length_nil, exists_eq, List.append_nil, List.cons_append, List.nil_append, decide_eq_true_eq, not_true_eq_false, not_false_eq_true, Bool.not_eq_true', decide_eq_false_iff_not, Bool.not_true, Bool.not_false, and_assoc, false_and, false_or, or_false, spCleared, spElimW, spFraction]
  have tl : ts.length = M.length := hR.length
  have W4 : W * (M.length + 1) ≤ 4000 := Nat.le_trans (Nat.mul_le_mul_right _ (by omega)) hV
  have W5 : W ≤ 5900 := by rw [Nat.mul_succ] at W4; omega
  have Wn : W * M.length ≤ 5900 := by rw [Nat.mul_succ] at W4; omega
  refine ⟨by decide, fun l hl => ?_⟩
  obtain ⟨I, hI⟩ : ∃ I : Nat → L2.St → Hp → Prop, ∀ i σ H1, I i σ H1 ↔ Same H H1 ∧ ∃ (us : List Addr) (o3 o4 o5 o6 o7 : Option V), σ = [some (.ref a), some (.ref l), some (.int (bpN (M.take i) : Nat)), o3, o4, o5, o6, o7] ∧ H1 l = some (.lst (us.map V.ref)) ∧ l ∉ us ∧ RwZ H1 us (wRows (M.take i)) := ⟨_, fun _ _ _ => Iff.rfl⟩
  refine ⟨_, rfl, a, rfl, ⟨_, (Same.new hl _).seq hA⟩, for_list (xs := ts.map V.ref) I ((hI _ _ _).mpr ⟨Same.new hl _, [], _, _, _, _, _, rfl, upd_same, by simp, .nil⟩) (fun i σ H1 _ h => ((hI _ _ _).mp h).1.seq hA) ?_ ?_⟩
  · rintro i x σ H1 hx h
    obtain ⟨S, us, o3, o4, o5, o6, o7, rfl, el, nl, hU⟩ := (hI _ _ _).mp h
    obtain ⟨p, hp, rfl⟩ := refs_get hx
    obtain ⟨xs, L, e1, e2, e3⟩ := hR.get hp
    have hm := List.mem_of_getElem? e1
    have hi : i < M.length := (List.getElem?_eq_some_iff.mp e1).1
    obtain ⟨lL, cL⟩ := lm L hm
    simp only [ipM, rLst, tComp_eq, tCompIf_eq, tMaxD, iZip, rRep, tSl, tPart, tNoPart, rSlL, rAppend, iEnum, capSt, List.map_cons, List.map_nil, Option.bind_none, Option.bind_some, Option.join_some, tSeq, tIfS, tAnd, tOr, tNot, tTest, tB, tOp, tUn, tBM0, tBM, tVar, tC, tCB, tRet, tAsg, gName, gSub, gTup, gCons, gNil, tCons, tNil, tPar, tTup, tLst, tIf, tAndV, tNotV, tDef, tCallX, tDrop, tNext, tNever, tRaise, tAug, rI, rI0, rU, rBitLen, rIxL, rIxT, rSetL, rEq, rNe, rCount, rIndex, rSplit, rIsI, rCat, iRng1, iRng2, iList, cxOf, cxR, cxX, Cx.nox, Cx.wish, Cx.body, Cx.suite, List.getElem?_cons_zero, List.getElem?_cons_succ, List.set_cons_zero, List.set_cons_succ, Option.some.injEq, V.int.injEq, V.bl.injEq, V.ref.injEq, V.str.injEq, exists_eq_left', exists_eq_left, exists_and_left, true_and, and_true, List.cons.injEq, reduceCtorEq, Bool.false_eq_true, if_false, if_true, exists_const, ↓reduceIte, tyV, List.length_cons, List.length_nil, exists_eq, List.append_nil, List.cons_append, List.nil_append, decide_eq_true_eq, not_true_eq_false, not_false_eq_true, Bool.not_eq_true', decide_eq_false_iff_not, Bool.not_true, Bool.not_false, and_assoc, false_and, false_or, or_false, spCleared]
    have eh : H1 p = some (.lst xs) := S _ _ e2
    refine ⟨_, SqL.of eh, L, e3.mono S.tups, ⟨W, cL, by omega⟩, by omega, fun r l1 H2 s2 f1 er el1 => ?_⟩
    have el2 := s2 _ _ el
    have nll : l ≠ l1 := fun z => by rw [z, f1] at el; cases el
    refine ⟨_, SqT.of er, rfl, _, _, rfl, _, _, rfl, rfl, .inl ⟨_, SqL.of el2⟩, _, el2, ?_, _, rfl, ?_, ?_⟩
    · rw [List.length_map, hU.length, wRows, List.length_map, List.length_take]
      exact Nat.lt_of_lt_of_le (show _ < 100 by omega) (by decide)
    · refine mulOk (m := W * 15 + 1) (n := W) ?_ ?_ ?_
      · have b1 := bpN_lt (W := W) (X := M.take i) fun L' h' => (lm L' (List.mem_of_mem_take h')).2
        rw [List.length_take] at b1
        rw [Int.natAbs_natCast]
        refine Nat.lt_of_le_of_lt (Nat.le_trans b1 (Nat.pow_le_pow_right (by decide) (Nat.mul_le_mul_left W (show _ ≤ 15 by omega)))) ?_
        rw [Nat.pow_succ]
        have := Nat.two_pow_pos (W * 15)
        omega
      · rw [Int.natAbs_natCast]; exact cL.l
      · omega
    · have tk := take_snoc_get e1
      refine (hI _ _ _).mpr ⟨(S.trans s2).over hl _, us ++ [l1], some (.ref p), o4, o5, some (.ref l1), some (.int (lcmL L : Nat)), ?_, ?_, ?_, ?_⟩
      · rw [tk, bpN_snoc, Int.natCast_mul]
      · rw [upd_same, List.map_append]; rfl
      · intro z
        rcases List.mem_append.mp z with z | z
        · exact nl z
        · exact nll (List.mem_singleton.mp z)
      · rw [tk]
        unfold wRows
        rw [List.map_append]
        refine RwZ.over ?_ ((hU.same s2).append (.cons el1 .nil))
        intro z
        rcases List.mem_append.mp z with z | z
        · exact nl z
        · exact nll (List.mem_singleton.mp z)
  · rintro σ H1 h
    obtain ⟨S, us, o3, o4, o5, o6, o7, rfl, el, nl, hU⟩ := (hI _ _ _).mp h
    rw [List.length_map, tl, List.take_length] at *
    simp only [ipM, rLst, tComp_eq, tCompIf_eq, tMaxD, iZip, rRep, tSl, tPart, tNoPart, rSlL, rAppend, iEnum, capSt, List.map_cons, List.map_nil, Option.bind_none, Option.bind_some, Option.join_some, tSeq, tIfS, tAnd, tOr, tNot, tTest, tB, tOp, tUn, tBM0, tBM, tVar, tC, tCB, tRet, tAsg, gName, gSub, gTup, gCons, gNil, tCons, tNil, tPar, tTup, tLst, tIf, tAndV, tNotV, tDef, tCallX, tDrop, tNext, tNever, tRaise, tAug, rI, rI0, rU, rBitLen, rIxL, rIxT, rSetL, rEq, rNe, rCount, rIndex, rSplit, rIsI, rCat, iRng1, iRng2, iList, cxOf, cxR, cxX, Cx.nox, Cx.wish, Cx.body, Cx.suite, List.getElem?_cons_zero, List.getElem?_cons_succ, List.set_cons_zero, List.set_cons_succ, Option.some.injEq, V.int.injEq, V.bl.injEq, V.ref.injEq, V.str.injEq, exists_eq_left', exists_eq_left, exists_and_left, true_and, and_true, List.cons.injEq, reduceCtorEq, Bool.false_eq_true, if_false, if_true, exists_const, ↓reduceIte, tyV, List.length_cons, List.length_nil, exists_eq, List.append_nil, List.cons_append, List.nil_append, decide_eq_true_eq, not_true_eq_false, not_false_eq_true, Bool.not_eq_true', decide_eq_false_iff_not, Bool.not_true, Bool.not_false, and_assoc, false_and, false_or, or_false, spElimW, spFraction]
    have lw : (wRows M).length = M.length := List.length_map _
    refine ⟨us, SqL.of el, wRows M, hU, M.length, ?_, by omega, by omega, W, ?_, by omega, W1, by rw [lw]; exact hV, fun r mn dv b us' M'' H2 s2 er _ _ alt => ?_⟩
    · intro L' h'
      obtain ⟨L, hL, rfl⟩ := List.mem_map.mp h'
      rw [wholesOf, List.length_map]; exact (lm L hL).1
    · intro L' h' v hv
      obtain ⟨L, hL, rfl⟩ := List.mem_map.mp h'
      exact (lm L hL).2.w v hv
    have edt : dt M.length (exM M.length (wRows M)) = dt M.length (mZ (wRows M)) := dt_congr fun r hr c _ => by unfold exM; rw [if_pos hr]; rfl
    rw [lw, edt, dt_wRows rfl fun L hL => (lm L hL).1] at alt
    have bp := bpN_pos M
    have b0 : (((bpN M : Nat) : Int) : Rat) ≠ 0 := fun y => by
      have : ((bpN M : Nat) : Int) = 0 := Rat.intCast_inj.mp y
      omega
    refine ⟨_, SqT.of er, rfl, _, _, rfl, _, _, rfl, _, _, rfl, rfl, _, .inl ((S.trans s2).seq hA), rfl, ?_⟩
    rw [List.length_map, hR.length]
    rcases alt with ⟨em, ed, _⟩ | ⟨em, ed⟩
    · rw [if_pos (by rw [em])]
      refine ⟨_, rfl, ?_, by omega, fun r3 H3 s3 e3 => kk r3 H3 ((S.trans s2).trans s3) (.inl ?_)⟩
      · rw [Int.natAbs_natCast]
        have := bpN_lt (W := W) fun L hL => (lm L hL).2
        exact Nat.lt_of_le_of_lt this (Nat.lt_of_le_of_lt (Nat.pow_le_pow_right (by decide) Wn) (Nat.pow_lt_pow_right (by decide) (by decide)))
      · rw [e3, Rat.divInt_eq_div, ed]
        show some (HO.tup (numV ((((bpN M : Nat) : Int) : Rat) * _ / _))) = _
        rw [Rat.mul_comm, Rat.mul_div_cancel b0]
    · rw [if_neg (fun z => by have := V.int.inj z; omega)]
      refine kk aN H2 (S.trans s2) (.inr ?_)
      rcases Rat.mul_eq_zero.mp ed with z | z
      · exact absurd z b0
      · rw [z]; exact tN
end
end R

set_option maxRecDepth 100000
namespace R
open PySem L2 PyProof.Rows
theorem fdiv_small {a g : Int} {n : Nat} (hg : 0 < g) (hd : g ∣ a) (h : a.natAbs < n) : (a.fdiv g).natAbs < n := Nat.lt_of_le_of_lt (fdiv_le hg hd) h
section
variable {P : Program} {w : World} {K : PySem.W.Frag} {mg : Str → Option Value} {base : Heap}
end
end R

set_option maxRecDepth 100000
namespace R
open PySem L2 PyProof.Rows
theorem low_num (s : Rat) {v : Int} (hv : v ≠ 0) : v.fdiv (Int.gcd (s.den : Int) v : Nat) * s.num = (s * (v : Rat)).num ∧ (s.den : Int).fdiv (Int.gcd (s.den : Int) v : Nat) = ((s * (v : Rat)).den : Int) := by
  have dp := rat_den_pos s
  have hg := gcd_pos (t := (s.den : Int)) hv
  obtain ⟨d', hd⟩ := Int.gcd_dvd_left (s.den : Int) v
  obtain ⟨v', hv'⟩ := Int.gcd_dvd_right (s.den : Int) v
  have hc : Int.gcd d' v' = 1 := coprime_parts hv hd hv'
  have e1 : v.fdiv (Int.gcd (s.den : Int) v : Nat) = v' := by
    conv => lhs; arg 1; rw [hv']
    exact fdiv_of_mul (by omega)
  have e2 : (s.den : Int).fdiv (Int.gcd (s.den : Int) v : Nat) = d' := by
    conv => lhs; arg 1; rw [hd]
    exact fdiv_of_mul (by omega)
  rw [e1, e2]
  have ev : s * (v : Rat) = Rat.divInt (s.num * v) s.den := by
    have h1 := Rat.num_divInt_den (v : Rat)
    rw [Rat.num_intCast, Rat.den_intCast] at h1
    conv => lhs; rw [← Rat.num_divInt_den s, ← h1]
    rw [Rat.divInt_mul_divInt]
    simp
  rw [ev]
  have hd0 : 0 < d' := by
    rcases Int.lt_or_le 0 d' with z | z
    · exact z
    · have := Int.mul_nonneg (show (0 : Int) ≤ (Int.gcd (s.den : Int) v : Nat) by omega) (show 0 ≤ -d' by omega)
      rw [Int.mul_neg] at this; omega
  have c1 : Int.gcd d' s.num = 1 := by
    have := cop_dvd (k := s.num) (m := (s.den : Int)) (n := d') (rat_gcd s) ⟨_, by rw [Int.mul_comm]; exact hd⟩
    exact cop_symm this
  refine eq_of_divInt hd0 (cop_symm (cop_mul_right hc c1)) (by omega) ?_
  generalize (Int.gcd (s.den : Int) v : Int) = g at *
  rw [hd, hv']
  grind
section
variable {P : Program} {w : World} {K : PySem.W.Frag} {mg : Str → Option Value} {base : Heap}
def DfaOk (b : Int) (ws : List Int) (d : Int) : Prop := 0 < d ∧ d ∣ b ∧ ∀ v ∈ ws, v ≠ 0 → Int.gcd d v = Int.gcd b v
def spDfa (K : PySem.W.Frag) : Sp := fun vs H Q _ => ∃ (a : Addr) (ws : List Int) (b : Int), vs = [.ref a, .int b] ∧ SqL K H a (ws.map V.int) ∧ ws.length ≤ 100 ∧ 0 < b ∧ b.natAbs < 2 ^ 6000 ∧ (∀ v ∈ ws, Int.natAbs v < 2 ^ 20000) ∧ ∀ H' d, Same H H' → DfaOk b ws d → Q (.int d) H'
abbrev s_divisor_for_all : Stmt := top 29
theorem sc_divisor_for_all : FnScope ["wholes", "bottom", "longest", "product", "whole"] ["wholes", "bottom"] (defScope s_divisor_for_all) := ⟨rfl, rfl, rfl, by decide +kernel, rfl, by decide +kernel, by decide +kernel⟩
set_option maxHeartbeats 0 in
theorem ok_divisor_for_all {f fc : Addr} {tL : Tok} (d : Df K mg "divisor_for_all" s_divisor_for_all ["wholes", "bottom"] f) (G_common_divisor : Def P w K mg base CX0 1 "common_divisor" fc ["one", "other"] spCD) (c_LONG : mg "LONG" = some (.int 1000 tL)) (n_max : mg "max" = none) : Def P w K mg base CX0 2 "divisor_for_all" f ["wholes", "bottom"] (spDfa K) := by
  refine d.ok (N := ["wholes", "bottom", "longest", "product", "whole"]) sc_divisor_for_all (by rintro vs H Q E ⟨a, b, c, h, _⟩; rw [h]; rfl) (fun cdv A outer s H vs Q E hr h => ?_)
  obtain ⟨a, ws, b, rfl, hS, hl, hb0, hb, hws, k⟩ := h
  refine ⟨_, (pss_cons (ps_set (i := 2) sc_divisor_for_all.nd rfl (Or.inl rfl) (pe_maxD rfl rfl n_max (pa_cons (pe_comp (Nc := ["whole"]) (caps := [none]) rfl (Caps.of (osc := defScope s_divisor_for_all) (N := ["wholes", "bottom", "longest", "product", "whole"]) (ks := []) rfl rfl rfl rfl sub_nil (by decide +kernel)) (pi_list (pv 0)) (fun C s₂ H₂ fp pins => (pg_name (i := 0) (show List.Nodup (["whole"] : List Str) by decide +kernel) rfl (Or.inl rfl) (Or.inr rfl))) (fun C s₂ H₂ fp pins => (show PE _ _ (tBM0 K "int" _ _) from by exact (pe_bm0 PySem.F.plainAttrs_int PySem.F.slot_int_bit_length PySem.F.type_int_bit_length mt_bitlen (pv 0))))) pa_nil)))
      (pss_cons (ps_if (PW.pt (pw_or (pt_cmpR op_lt (pe_bm0 PySem.F.plainAttrs_int PySem.F.slot_int_bit_length PySem.F.type_int_bit_length mt_bitlen (pv 1)) (pe_glob (v := .int 1000) rfl c_LONG ⟨_, rfl⟩) (nomark _)) (pw_or1 (pt_cmpR op_gt (pe_bm0 PySem.F.plainAttrs_int PySem.F.slot_int_bit_length PySem.F.type_int_bit_length mt_bitlen (pv 1)) (pe_op op_mulB pe_int (pv 2)) (nomark _))))) (pss_one (ps_ret (pv 1))) pss_nil)
      (pss_cons (ps_set (i := 3) sc_divisor_for_all.nd rfl (Or.inl rfl) pe_int)
      (pss_cons (ps_for PassesOwn.never rfl (pi_list (pv 0)) (pg_name (i := 4) sc_divisor_for_all.nd rfl (Or.inl rfl)) (pss_one (ps_if (pt_truth (pv 4) (fun _ => rfl)) (pss_one (ps_set (i := 3) sc_divisor_for_all.nd rfl (Or.inl rfl) (pe_op op_modN (pe_op op_mulB (pv 3) (pv 4)) (pv 1)))) pss_nil)))
      (pss_one (ps_ret (pe_def G_common_divisor hr (pa_cons (pv 1) (pa_cons (pv 3) pa_nil)) pass0))))))), ?_⟩
  rw [show start ["wholes", "bottom", "longest", "product", "whole"] [.ref a, .int b] = [some (.ref a), some (.int b), none, none, none] from rfl]
  subst_eqs
  have triv : DfaOk b ws b := ⟨hb0, Int.dvd_refl _, fun _ _ _ => rfl⟩
  refine ⟨⟨_, hS⟩, fun D hD => ?_⟩
  refine cw_list (ws.map V.int) (fun i σ H2 => ∃ o, σ = [o] ∧ Same H H2 ∧ ∃ ns : List Int, ns.length = i ∧ H2 D = some (.lst (ns.map V.int))) ⟨_, rfl, Same.new hD _, [], rfl, upd_same⟩ (by rintro i σ H2 _ ⟨_, _, s2, _⟩; exact s2.seq hS) ?_ ?_
  · rintro i x σ H2 hx ⟨o, rfl, s2, ns, hn, e2⟩
    have hi := (List.getElem?_eq_some_iff.mp hx).1
    obtain ⟨v, hw, rfl⟩ := ints_get hx
    subst_eqs
    refine CompN.mk hi e2 ?_ ⟨_, rfl, s2.over hD _, ?_⟩
    · rw [List.length_map] at hi ⊢
      exact Nat.lt_of_lt_of_le (show ns.length < 101 by omega) (by decide)
    · refine ⟨ns ++ [(Builtin.Int.intBits v : Int)], by simp [hn], ?_⟩
      rw [upd_same, List.map_append]; rfl
  · rintro σ H2 ⟨o, rfl, s2, ns, hn, e2⟩
    refine ⟨D, rfl, ns, SqL.of e2, fun i => ?_⟩
    refine ite2 (fun _ => k H2 b s2 triv) (fun _ => ?_)
    refine ⟨mulS (by decide), ite2 (fun _ => k H2 b s2 triv) (fun _ => ?_)⟩
    refine ⟨_, rfl, a, rfl, ⟨_, s2.seq hS⟩, for_list (xs := ws.map V.int) (fun i' σ H3 => H3 = H2 ∧ ∃ p o, σ = [some (.ref a), some (.int b), some (.int i), some (.int p), o] ∧ p.natAbs < 2 ^ 6000 ∧ ∃ e, prodL (ws.take i') = p + b * e) ⟨rfl, 1, _, rfl, Nat.lt_of_lt_of_le (show _ < 2 ^ 1 by decide) (pow_le_pow2 (by decide)), 0, by simp [prodL]⟩ (by rintro i' σ H3 _ ⟨rfl, _⟩; exact s2.seq hS) ?_ ?_⟩
    · rintro i' x σ H3 hx ⟨rfl, p, o, rfl, hp, e, he⟩
      obtain ⟨v, hv, rfl⟩ := ints_get hx
      have hvm := hws v (List.mem_of_getElem? hv)
      have es : ws.take (i' + 1) = ws.take i' ++ [v] := by rw [List.take_succ, hv]; rfl
      subst_vars
      refine ite2 (fun h => ?_) (fun h => ?_)
      · have hv0 : v ≠ 0 := by simpa using h
        refine ⟨mulOk hp hvm, by omega, ?_, (p * v).fdiv b + e * v, ?_⟩
        · have h1 := Int.fmod_nonneg_of_pos (p * v) hb0
          have h2 := Int.fmod_lt_of_pos (p * v) hb0
          omega
        · rw [es, prodL_snoc, if_neg hv0, he]
          have := Int.fmod_add_mul_fdiv (p * v) b
          grind
      · have hv0 : v = 0 := by simpa using h
        refine ⟨hp, e, ?_⟩
        rw [es, prodL_snoc, if_pos hv0, he]
    · rintro σ H3 ⟨rfl, p, o, rfl, hp, e, he⟩
      rw [List.length_map, List.take_length] at he
      and_intros
      refine ⟨.inl hb, k _ _ s2 ⟨?_, Int.gcd_dvd_left _ _, fun v hv hv0 => ?_⟩⟩
      · have := gcd_pos (t := p) (b := b) (by omega)
        rw [Int.gcd_comm] at this; omega
      · have e1 : Int.gcd b p = Int.gcd b (prodL ws) := by
          rw [he]
          refine Nat.dvd_antisymm ?_ ?_
          · exact Int.dvd_gcd (Int.gcd_dvd_left _ _) (Int.dvd_add (Int.gcd_dvd_right _ _) (Int.dvd_trans (Int.gcd_dvd_left _ _) ⟨e, rfl⟩))
          · refine Int.dvd_gcd (Int.gcd_dvd_left _ _) ?_
            have h1 := Int.gcd_dvd_right b (p + b * e)
            have h2 : ((Int.gcd b (p + b * e) : Nat) : Int) ∣ b * e := Int.dvd_trans (Int.gcd_dvd_left _ _) ⟨e, rfl⟩
            have := Int.dvd_sub h1 h2
            rwa [Int.add_sub_cancel] at this
        rw [e1]
        exact gcd_thru (prodL_dvd hv hv0)
def spLowered (K : PySem.W.Frag) : Sp := fun vs H Q _ => ∃ (x : V) (s : Rat) (a : Addr) (ws : List Int), vs = [x, .ref a] ∧ Num K H x s ∧ SqL K H a (ws.map V.int) ∧ s.den < 2 ^ 6000 ∧ s.num.natAbs < 2 ^ 6000 ∧ (∀ v ∈ ws, Int.natAbs v < 2 ^ 20000) ∧ ws.length ≤ 100 ∧
  ∀ r xs H', Same H H' → H r = none → H' r = some (.lst xs) → Nums H' xs (scl s ws) → Q (.ref r) H'
abbrev s_lowered : Stmt := top 30
theorem sc_lowered : FnScope ["scale", "wholes", "divisor", "numbers", "whole", "top", "bottom", "shared"] ["scale", "wholes"] (defScope s_lowered) := ⟨rfl, rfl, rfl, by decide +kernel, rfl, by decide +kernel, by decide +kernel⟩
set_option maxHeartbeats 0 in
theorem ok_lowered {f fd fc : Addr} (d : Df K mg "lowered" s_lowered ["scale", "wholes"] f) (G_divisor_for_all : Def P w K mg base CX0 2 "divisor_for_all" fd ["wholes", "bottom"] (spDfa K)) (G_common_divisor : Def P w K mg base CX0 1 "common_divisor" fc ["one", "other"] spCD) : Def P w K mg base CX0 3 "lowered" f ["scale", "wholes"] (spLowered K) := by
  refine d.ok (N := ["scale", "wholes", "divisor", "numbers", "whole", "top", "bottom", "shared"]) sc_lowered (by rintro vs H Q E ⟨a, b, c, e, h, _⟩; rw [h]; rfl) (fun cdv A outer s H vs Q E hr h => ?_)
  obtain ⟨x, sc, a, ws, rfl, ⟨px, rfl, hx⟩, hS, hd, hn, hw, hl, k⟩ := h
  refine ⟨_, (pss_cons (ps_asg (pv 0) (show PG _ _ (gTup K 2 (gCons (gName 5) (gCons (gName 6) gNil))) from by (refine pg_tup (n := 2) ?_ ?_ ?_ ?_; rfl; (refine pgs_cons ?_ ?_ ?_; (exact (pg_name (i := 5) sc_lowered.nd rfl (Or.inl rfl))); (refine pgs_cons ?_ ?_ ?_; (exact (pg_name (i := 6) sc_lowered.nd rfl (Or.inl rfl))); (exact pgs_nil); rfl); rfl); rfl; rfl)))
      (pss_cons (ps_set (i := 2) sc_lowered.nd rfl (Or.inl rfl) (pe_def G_divisor_for_all hr (pa_cons (pv 1) (pa_cons (pv 6) pa_nil)) pass0))
      (pss_cons (ps_set (i := 3) sc_lowered.nd rfl (Or.inl rfl) (pe_lst pa_nil))
      (pss_cons (ps_for PassesOwn.never rfl (pi_list (pv 1)) (pg_name (i := 4) sc_lowered.nd rfl (Or.inl rfl)) (pss_cons (ps_set (i := 7) sc_lowered.nd rfl (Or.inl rfl) (pe_ifExp (pt_truth (pv 4) (fun _ => rfl)) (pe_def G_common_divisor hr (pa_cons (pv 2) (pa_cons (pv 4) pa_nil)) pass0) (pv 6)))
      (pss_one (ps_expr (pe_bm PySem.F.plainAttrs_list PySem.F.slot_list_append PySem.F.type_list_append mt_append (pv 3) (pa_cons (pe_tup (pa_cons (pe_op op_mulB (pe_op op_fdivB (pv 4) (pv 7)) (pv 5)) (pa_cons (pe_op op_fdivB (pv 6) (pv 7)) pa_nil))) pa_nil))))))
      (pss_one (ps_ret (pv 3))))))), ?_⟩
  rw [show start ["scale", "wholes", "divisor", "numbers", "whole", "top", "bottom", "shared"] [.ref px, .ref a] = [some (.ref px), some (.ref a), none, none, none, none, none, none] from rfl]
  subst_vars
  refine ⟨_, hx, rfl, _, _, rfl, _, _, rfl, rfl, a, ws, _, rfl, hS, hl, by have := rat_den_pos sc; omega, by rw [Int.natAbs_natCast]; exact hd, hw, fun H1 dv s1 ⟨dv0, dv1, dv2⟩ => ⟨by decide, fun p hp => ?_⟩⟩
  refine ⟨_, rfl, a, rfl, ⟨_, (s1.trans (Same.new hp _)).seq hS⟩, for_list (xs := ws.map V.int) (fun i σ H2 => ∃ o1 o2, σ = [some (.ref px), some (.ref a), some (.int dv), some (.ref p), o1, some (.int sc.num), some (.int sc.den), o2] ∧ Same H1 H2 ∧ ∃ xs, H2 p = some (.lst xs) ∧ Nums H2 xs (scl sc (ws.take i))) ⟨_, _, rfl, Same.new hp _, [], upd_same, .nil⟩ (fun i σ H2 _ ⟨_, _, _, s2, _⟩ => s2.seq (s1.seq hS)) ?_ ?_⟩
  · rintro i x σ H2 hx' ⟨o1, o2, rfl, s2, xs, e2, n2⟩
    have hi := (List.getElem?_eq_some_iff.mp hx').1
    obtain ⟨v, hv, rfl⟩ := ints_get hx'
    have dp := rat_den_pos sc
    have es : ws.take (i + 1) = ws.take i ++ [v] := by rw [List.take_succ, hv]; rfl
    have hvb := hw v (List.mem_of_getElem? hv)
    have hdb : (sc.den : Int).natAbs < 2 ^ 6000 := by rw [Int.natAbs_natCast]; exact hd
    simp only [ipM, rLst, tComp_eq, tCompIf_eq, tMaxD, iZip, rRep, tSl, tPart, tNoPart, rSlL, rAppend, iEnum, capSt, List.map_cons, List.map_nil, Option.bind_none, Option.bind_some, Option.join_some, tSeq, tIfS, tAnd, tOr, tNot, tTest, tB, tOp, tUn, tBM0, tBM, tVar, tC, tCB, tRet, tAsg, gName, gSub, gTup, gCons, gNil, tCons, tNil, tPar, tTup, tLst, tIf, tAndV, tNotV, tDef, tCallX, tDrop, tNext, tNever, tRaise, tAug, rI, rI0, rU, rBitLen, rIxL, rIxT, rSetL, rEq, rNe, rCount, rIndex, rSplit, rIsI, rCat, iRng1, iRng2, iList, cxOf, cxR, cxX, Cx.nox, Cx.wish, Cx.body, Cx.suite, List.getElem?_cons_zero, List.getElem?_cons_succ, List.set_cons_zero, List.set_cons_succ, Option.some.injEq, V.int.injEq, V.bl.injEq, V.ref.injEq, V.str.injEq, exists_eq_left', exists_eq_left, exists_and_left, true_and, and_true, List.cons.injEq, reduceCtorEq, Bool.false_eq_true, if_false, if_true, exists_const, ↓reduceIte, tyV, List.length_cons, List.length_nil, exists_eq, List.append_nil, List.cons_append, List.nil_append, decide_eq_true_eq, not_true_eq_false, not_false_eq_true, Bool.not_eq_true', decide_eq_false_iff_not, Bool.not_true, Bool.not_false, and_assoc, false_and, false_or, or_false, TruV, spCD]
    have fin : ∀ (A B : Int), A = (sc * (v : Rat)).num → B = ((sc * (v : Rat)).den : Int) → ∀ p1, H2 p1 = none → ∃ x, upd H2 p1 (.tup [.int A, .int B]) p = some (.lst x) ∧ x.length < sizeLine ∧ Same H1 (upd (upd H2 p1 (.tup [.int A, .int B])) p (.lst (x ++ [.ref p1]))) ∧
        ∃ xs, upd (upd H2 p1 (.tup [.int A, .int B])) p (.lst (x ++ [.ref p1])) p = some (.lst xs) ∧ Nums (upd (upd H2 p1 (.tup [.int A, .int B])) p (.lst (x ++ [.ref p1]))) xs (scl sc (ws.take (i + 1))) := by
      intro A B hA hB p1 hp1
      have e := Same.new hp1 (.tup [.int A, .int B]) _ _ e2
      refine ⟨xs, e, ?_, (s2.trans (Same.new hp1 _)).over hp _, _, upd_same, ?_⟩
      · rw [n2.length, scl_len, List.length_take]
        exact Nat.lt_of_le_of_lt (show _ ≤ 100 by omega) (by decide)
      · have e3 : scl sc (ws.take (i + 1)) = scl sc (ws.take i) ++ [sc * (v : Rat)] := by rw [es]; simp [scl]
        rw [e3]
        exact ((n2.mono (TupS.new hp1)).append (.cons (by rw [upd_same]; unfold numV; rw [hA, hB]) .nil)).mono (TupS.lst e)
    refine ite2 (fun h => ?_) (fun h => ?_)
    · have hv0 : v ≠ 0 := by simpa using h
      obtain ⟨q1, q2⟩ := low_num sc hv0
      have gp := gcd_pos (t := (sc.den : Int)) hv0
      have gl := gcd_lt_left (b := v) (show (sc.den : Int) ≠ 0 by omega) hdb
      have hdvb : dv.natAbs < 2 ^ 6000 := by
        have := Int.le_of_dvd (by omega) dv1
        omega
      rw [dv2 v (List.mem_of_getElem? hv) hv0]
      refine ⟨.inl hdvb, .inl ⟨_, SqL.of e2⟩, divOk (by omega) (lt_up gl), mulOk (fdiv_small (by omega) (Int.gcd_dvd_right _ _) hvb) hn, divOk (by omega) (lt_up gl), small2, fin _ _ q1 q2⟩
    · have hv0 : v = 0 := by simpa using h
      subst hv0
      have z1 : sc * ((0 : Int) : Rat) = 0 := by rw [Rat.intCast_zero]; grind
      refine ⟨.inl ⟨_, SqL.of e2⟩, divOk (by omega) (lt_up hdb), mulOk (m := 1) (by rw [Int.zero_fdiv]; decide) hn, divOk (by omega) (lt_up hdb), small2, fin _ _ ?_ ?_⟩
      · rw [z1, Int.zero_fdiv, Int.zero_mul]; rfl
      · rw [z1, Int.fdiv_self (by omega)]; rfl
  · rintro σ H2 ⟨o1, o2, rfl, s2, xs, e2, n2⟩
    rw [List.length_map, List.take_length] at n2
    exact ⟨_, rfl, k p xs H2 (s1.trans s2) (s1.free hp) e2 n2⟩
end
end R

set_option maxRecDepth 100000
namespace R
open PySem L2 PyProof.Rows
section
variable {P : Program} {w : World} {K : PySem.W.Frag} {mg : Str → Option Value} {base : Heap}
def wdR (n i : Nat) (L : List Rat) : List Int := wholesOf (lcmL L) L ++ (List.range n).map fun (o : Nat) => if i = o then ((lcmL L : Nat) : Int) else 0
def wdN (n : Nat) (M : List (List Rat)) (j : Nat) : List (List Int) := (List.range j).map fun i => wdR n i ((M[i]?).getD [])
theorem wdN_len (n : Nat) (M : List (List Rat)) (j : Nat) : (wdN n M j).length = j := by unfold wdN; rw [List.length_map, List.length_range]
theorem wdN_succ (n : Nat) (M : List (List Rat)) (j : Nat) : wdN n M (j + 1) = wdN n M j ++ [wdR n j ((M[j]?).getD [])] := by unfold wdN; rw [List.range_succ, List.map_append]; rfl
theorem wdR_len {n i : Nat} {L : List Rat} (h : L.length = n) : (wdR n i L).length = n + n := by unfold wdR; rw [List.length_append, List.length_map, List.length_range, wholesOf, List.length_map, h]
theorem wdR_lo {n i c : Nat} {L : List Rat} (h : L.length = n) (hc : c < n) : ((aZ (wdR n i L) c : Int) : Rat) = ((lcmL L : Nat) : Rat) * aQ L c := by
  have ec := List.getElem?_eq_getElem (l := L) (i := c) (by omega)
  have l1 : (wholesOf (lcmL L) L).length = n := by rw [wholesOf, List.length_map, h]
  have e : aZ (wdR n i L) c = aZ (wholesOf (lcmL L) L) c := by unfold aZ wdR; rw [List.getElem?_append_left (by omega)]
  rw [e]
  generalize L[c]'(by omega) = q at ec
  have we := whole_eq (lcmL_pos L) (den_dvd (List.mem_of_getElem? ec))
  unfold aZ aQ wholesOf
  rw [List.getElem?_map, ec]
  show ((q.num * ((lcmL L : Nat) : Int).fdiv (q.den : Int) : Int) : Rat) = ((lcmL L : Nat) : Rat) * q
  generalize q.num * ((lcmL L : Nat) : Int).fdiv (q.den : Int) = z at *
  have l0 : (((lcmL L : Nat) : Int) : Rat) ≠ 0 := fun y => by
    have : ((lcmL L : Nat) : Int) = 0 := Rat.intCast_inj.mp y
    have := lcmL_pos L
    omega
  rw [we, Rat.divInt_eq_div]
  show _ = (((lcmL L : Nat) : Int) : Rat) * _
  rw [Rat.mul_comm, Rat.div_mul_cancel l0]
theorem wdR_hi {n i t : Nat} {L : List Rat} (h : L.length = n) (ht : t < n) : aZ (wdR n i L) (n + t) = if i = t then ((lcmL L : Nat) : Int) else 0 := by
  have l1 : (wholesOf (lcmL L) L).length = n := by rw [wholesOf, List.length_map, h]
  unfold aZ wdR
  rw [List.getElem?_append_right (by omega), l1, Nat.add_sub_cancel_left, List.getElem?_map, List.getElem?_range ht]; rfl
theorem wdN_zz {n : Nat} {M : List (List Rat)} {i : Nat} {L : List Rat} (hi : i < n) (e : M[i]? = some L) (c : Nat) : zz (wdN n M n) i c = aZ (wdR n i L) c := by
  unfold zz wdN
  rw [List.getElem?_map, List.getElem?_range hi, Option.map_some, e]; rfl
section
variable {M : List (List Rat)} {n W : Nat}
theorem wdN_at (ln : M.length = n) (lm : ∀ L ∈ M, L.length = n ∧ ClN W L) {i : Nat} (hi : i < n) : ∃ L, M[i]? = some L ∧ L.length = n ∧ ClN W L ∧ ∀ c, qq M i c = aQ L c := by
  have e := List.getElem?_eq_getElem (l := M) (i := i) (by omega)
  have := lm _ (List.mem_of_getElem? e)
  exact ⟨_, e, this.1, this.2, fun c => by unfold qq; rw [e]; rfl⟩
theorem wdN_rl (ln : M.length = n) (lm : ∀ L ∈ M, L.length = n ∧ ClN W L) : Rl n (qq M) (wdN n M n) := fun i j hi hj => by
  obtain ⟨L, e, l1, _, v⟩ := wdN_at ln lm hi
  rw [wdN_zz hi e, wdR_lo l1 hj, ← v]
  rw [sumTo_congr (g := fun t => (((lcmL L : Nat) : Rat) * qq M t j) * dij t i) fun t ht => ?_]
  · rw [sum_dl (fun t => ((lcmL L : Nat) : Rat) * qq M t j) hi]
  · rw [wdN_zz hi e, wdR_hi l1 ht]
    unfold dij
    by_cases z : i = t
    · rw [if_pos z, if_pos z.symm]
      show ((lcmL L : Nat) : Rat) * _ = _
      grind
    · rw [if_neg z, if_neg (Ne.symm z)]
      show ((0 : Int) : Rat) * _ = _
      rw [Rat.intCast_zero]; grind
theorem wdN_row (ln : M.length = n) (lm : ∀ L ∈ M, L.length = n ∧ ClN W L) : (∀ L ∈ wdN n M n, L.length = n + n) ∧ ∀ L ∈ wdN n M n, ∀ v ∈ L, Int.natAbs v < 2 ^ W := by
  refine ⟨fun L hL => ?_, fun L hL v hv => ?_⟩
  · obtain ⟨i, hi, rfl⟩ := List.mem_map.mp hL
    obtain ⟨L', e, l1, _, _⟩ := wdN_at ln lm (List.mem_range.mp hi)
    rw [e]; exact wdR_len l1
  · obtain ⟨i, hi, rfl⟩ := List.mem_map.mp hL
    obtain ⟨L', e, l1, cl, _⟩ := wdN_at ln lm (List.mem_range.mp hi)
    rw [e] at hv
    rcases List.mem_append.mp hv with z | z
    · exact cl.w v z
    · obtain ⟨o, _, rfl⟩ := List.mem_map.mp z
      split
      · rw [Int.natAbs_natCast]; exact cl.l
      · exact Nat.two_pow_pos _
theorem wdN_dt (ln : M.length = n) (lm : ∀ L ∈ M, L.length = n ∧ ClN W L) : dt n (exM n (wdN n M n)) = ((bpN M : Nat) : Rat) * dt n (qq M) := by
  rw [← dt_wRows ln fun L hL => (lm L hL).1]
  refine dt_congr fun r hr c hc => ?_
  obtain ⟨L, e, l1, _, v⟩ := wdN_at ln lm hr
  have l2 : (wholesOf (lcmL L) L).length = n := by rw [wholesOf, List.length_map, l1]
  unfold exM mZ
  rw [if_pos hr, wdN_zz hr e]
  congr 1
  have e1 : zz (wRows M) r c = aZ (wholesOf (lcmL L) L) c := by unfold zz wRows; rw [List.getElem?_map, e]; rfl
  rw [e1]
  unfold aZ wdR
  rw [List.getElem?_append_left (by omega)]
end
def spBack (K : PySem.W.Frag) (C : Addr) : Sp := fun vs H Q E => ∃ (a : Addr) (ts : List Addr) (M : List (List Rat)) (n W : Nat), vs = [.ref a] ∧ SqL K H a (ts.map V.ref) ∧ RwsC K H ts M ∧ M.length = n ∧ (∀ L ∈ M, L.length = n ∧ ClN W L) ∧ n ≤ 13 ∧ 1 ≤ W ∧ (W + 4) * (n + 1) ≤ 2900 ∧
  (dt n (qq M) = 0 → ∀ H', Same H H' → E (.ref C) none H') ∧
  (dt n (qq M) ≠ 0 → ∀ r N H', TabAt H r N H' → H r = none → N.length = n → (∀ L ∈ N, L.length = n) → (∀ i j, i < n → j < n → sumTo (fun t => qq N i t * qq M t j) n = dij i j) → (∃ B V, 0 < B ∧ B < 2 ^ V ∧ V ≤ (W + 4) * (n + 1) + 1 ∧ ∀ L ∈ N, ∀ q ∈ L, OvB B V q) → Q (.ref r) H')
abbrev s_back_of : Stmt := top 36
theorem sc_back_of : FnScope ["table", "n", "rows", "place", "row", "many", "divisor", "wholes", "bottom"] ["table"] (defScope s_back_of) := ⟨rfl, rfl, rfl, by decide +kernel, rfl, by decide +kernel, by decide +kernel⟩
set_option maxHeartbeats 0 in
theorem ok_back_of {f f1 f2 f3 f4 C : Addr} (d : Df K mg "back_of" s_back_of ["table"] f) (G_cleared : Def P w K mg base CX0 2 "cleared" f1 ["numbers"] (spCleared K)) (G_eliminated : Def P w K mg base CX0 2 "eliminated" f2 ["rows"] (spElimW K)) (G_fraction : Def P w K mg base CX0 2 "fraction" f3 ["top", "bottom"] spFraction) (G_lowered : Def P w K mg base CX0 3 "lowered" f4 ["scale", "wholes"] (spLowered K)) (x_NoBack : ExT K mg "NoBack" C) (n_len : mg "len" = none) (n_range : mg "range" = none) (n_enumerate : mg "enumerate" = none) : Def P w K mg base (CXR P w) 4 "back_of" f ["table"] (spBack K C) := by
  refine d.okR (N := ["table", "n", "rows", "place", "row", "many", "divisor", "wholes", "bottom"]) sc_back_of (by rintro vs H Q E ⟨_, _, _, _, _, h, _⟩; rw [h]; rfl) (fun cdv A outer s H vs Q E hr h => ?_)
  obtain ⟨a, ts, M, n, W, rfl, hA, hR, ln, lm, n13, W1, hV, k0, k1⟩ := h
  refine ⟨_, (pss_cons (ps_set (i := 1) sc_back_of.nd rfl (Or.inr rfl) (pe_callB call_len_seq rfl n_len (by decide +kernel) (pa_cons (pv 0) pa_nil)))
      (pss_cons (ps_set (i := 2) sc_back_of.nd rfl (Or.inl rfl) (pe_lst pa_nil))
      (pss_cons (PS.nox (ps_for PassesOwn.never rfl (pi_enum rfl n_enumerate (pa_cons (pv 0) pa_nil)) (show PG _ _ (gTup K 2 (gCons (gName 3) (gCons (gName 4) gNil))) from by (refine pg_tup (n := 2) ?_ ?_ ?_ ?_; rfl; (refine pgs_cons ?_ ?_ ?_; (exact (pg_name (i := 3) sc_back_of.nd rfl (Or.inr rfl))); (refine pgs_cons ?_ ?_ ?_; (exact (pg_name (i := 4) sc_back_of.nd rfl (Or.inl rfl))); (exact pgs_nil); rfl); rfl); rfl; rfl)) (pss_cons (ps_asg (pe_def G_cleared hr (pa_cons (pv 4) pa_nil) pass0) (show PG _ _ (gTup K 2 (gCons (gName 7) (gCons (gName 8) gNil))) from by (refine pg_tup (n := 2) ?_ ?_ ?_ ?_; rfl; (refine pgs_cons ?_ ?_ ?_; (exact (pg_name (i := 7) sc_back_of.nd rfl (Or.inl rfl))); (refine pgs_cons ?_ ?_ ?_; (exact (pg_name (i := 8) sc_back_of.nd rfl (Or.inr rfl))); (exact pgs_nil); rfl); rfl); rfl; rfl)))
      (pss_one (ps_expr (pe_bm PySem.F.plainAttrs_list PySem.F.slot_list_append PySem.F.type_list_append mt_append (pv 2) (pa_cons (pe_op op_cat (pv 7) (pe_comp (Nc := ["place", "bottom", "other"]) (caps := [some 3, some 8, none]) rfl (Caps.of (osc := defScope s_back_of) (N := ["table", "n", "rows", "place", "row", "many", "divisor", "wholes", "bottom"]) (ks := ["place", "bottom"]) rfl rfl rfl rfl (sub_cons rfl (sub_cons rfl sub_nil)) (by decide +kernel)) (pi_range1 rfl n_range (pa_cons (pv 1) pa_nil)) (fun C s₂ H₂ fp pins => (pg_name (i := 2) (show List.Nodup (["place", "bottom", "other"] : List Str) by decide +kernel) rfl (Or.inl rfl) (Or.inr rfl))) (fun C s₂ H₂ fp pins => (pe_ifExp (pt_cmpR op_eq (pv 0) (pv 2) (nomark _)) (pv 1) pe_int)))) pa_nil)))))))
      (pss_cons (ps_asg (pe_def G_eliminated hr (pa_cons (pv 2) pa_nil) pass0) (show PG _ _ (gTup K 3 (gCons (gName 5) (gCons (gName 6) (gCons (gName 2) gNil)))) from by (refine pg_tup (n := 3) ?_ ?_ ?_ ?_; rfl; (refine pgs_cons ?_ ?_ ?_; (exact (pg_name (i := 5) sc_back_of.nd rfl (Or.inl rfl))); (refine pgs_cons ?_ ?_ ?_; (exact (pg_name (i := 6) sc_back_of.nd rfl (Or.inr rfl))); (refine pgs_cons ?_ ?_ ?_; (exact (pg_name (i := 2) sc_back_of.nd rfl (Or.inl rfl))); (exact pgs_nil); rfl); rfl); rfl); rfl; rfl)))
      (pss_cons (ps_if (pt_cmpR op_lt (pv 5) (pv 1) (nomark _)) (pss_one (ps_raise x_NoBack.ox PySem.F.excBase_ValueError rfl rfl x_NoBack.m raises_cx (pa_cons pe_str pa_nil))) pss_nil)
      (pss_one (ps_ret (pe_comp (Nc := ["n", "divisor", "row"]) (caps := [some 1, some 6, none]) rfl (Caps.of (osc := defScope s_back_of) (N := ["table", "n", "rows", "place", "row", "many", "divisor", "wholes", "bottom"]) (ks := ["n", "divisor"]) rfl rfl rfl rfl (sub_cons rfl (sub_cons rfl sub_nil)) (by decide +kernel)) (pi_list (pv 2)) (fun C s₂ H₂ fp pins => (pg_name (i := 2) (show List.Nodup (["n", "divisor", "row"] : List Str) by decide +kernel) rfl (Or.inl rfl) (Or.inr rfl))) (fun C s₂ H₂ fp pins => (pe_def G_lowered hr (pa_cons (pe_def G_fraction hr (pa_cons pe_int (pa_cons (pv 1) pa_nil)) pass0) (pa_cons (pe_slice (by exact sl_list : SlR _ (rSlL K)) (pv 2) (po_some (pv 0)) po_none) pa_nil)) pass0)))))))))), ?_⟩
  rw [show start ["table", "n", "rows", "place", "row", "many", "divisor", "wholes", "bottom"] [.ref a] = [some (.ref a), none, none, none, none, none, none, none, none] from rfl]
  have tl : ts.length = n := by rw [hR.length, ln]
  refine seq_cut (fun σ H1 => H1 = H ∧ σ = [some (.ref a), some (.int (n : Int)), none, none, none, none, none, none, none]) (fun N hN => ?_) ?_
  · subst_eqs
    exact ⟨_, .inl hA, hN _ _ ⟨rfl, by rw [List.length_map, tl]⟩⟩
  rintro σ H1 ⟨rfl, rfl⟩
  refine seq_cut (fun σ H2 => ∃ l : Addr, σ = [some (.ref a), some (.int (n : Int)), some (.ref l), none, none, none, none, none, none] ∧ H1 l = none ∧ H2 = upd H1 l (.lst [])) (fun N hN => ?_) ?_
  · subst_eqs
    exact ⟨Nat.zero_le _, fun p hp => hN _ _ ⟨p, rfl, hp, rfl⟩⟩
  rintro σ H2 ⟨l, rfl, fl, rfl⟩
  refine seq_cut (fun σ H3 => ∃ (us : List Addr) (o3 o4 o7 o8 : Option V), σ = [some (.ref a), some (.int (n : Int)), some (.ref l), o3, o4, none, none, o7, o8] ∧ Same H1 H3 ∧ H3 l = some (.lst (us.map V.ref)) ∧ RwZ H3 us (wdN n M n)) (fun N hN => ?_) ?_
  · obtain ⟨I, hI⟩ : ∃ I : Nat → L2.St → Hp → Prop, ∀ i σ H3, I i σ H3 ↔ ∃ (us : List Addr) (o3 o4 o7 o8 : Option V), σ = [some (.ref a), some (.int (n : Int)), some (.ref l), o3, o4, none, none, o7, o8] ∧ Same H1 H3 ∧ H3 l = some (.lst (us.map V.ref)) ∧ l ∉ us ∧ RwZ H3 us (wdN n M i) := ⟨_, fun _ _ _ => Iff.rfl⟩
    refine ⟨_, rfl, a, rfl, ⟨_, (Same.new fl _).seq hA⟩, for_enum (ts.map V.ref) I ((hI _ _ _).mpr ⟨[], _, _, _, _, rfl, Same.new fl _, upd_same, by simp, .nil⟩) (fun i σ H3 h => ?_) ?_ ?_⟩
    · obtain ⟨_, _, _, _, _, _, s3, _⟩ := (hI _ _ _).mp h
      exact s3.seq hA
    · rintro i x σ H3 q hx h hq
      obtain ⟨us, o3, o4, o7, o8, rfl, s3, e3, nl, R3⟩ := (hI _ _ _).mp h
      obtain ⟨p, hp, rfl⟩ := refs_get hx
      obtain ⟨xs, L, e1, e2, e4⟩ := hR.get hp
      have hi : i < n := by have := (List.getElem?_eq_some_iff.mp e1).1; omega
      obtain ⟨lL, cL⟩ := lm L (List.mem_of_getElem? e1)
      obtain ⟨H4, y4, X4, g4⟩ := new_any (.tup [.int i, .ref p]) hq
      rw [← y4]
      have S4 := s3.trans X4
      simp only [ipM, rLst, tComp_eq, tCompIf_eq, tMaxD, iZip, rRep, tSl, tPart, tNoPart, rSlL, rAppend, iEnum, capSt, List.map_cons, List.map_nil, Option.bind_none, Option.bind_some, Option.join_some, tSeq, tIfS, tAnd, tOr, tNot, tTest, tB, tOp, tUn, tBM0, tBM, tVar, tC, tCB, tRet, tAsg, gName, gSub, gTup, gCons, gNil, tCons, tNil, tPar, tTup, tLst, tIf, tAndV, tNotV, tDef, tCallX, tDrop, tNext, tNever, tRaise, tAug, rI, rI0, rU, rBitLen, rIxL, rIxT, rSetL, rEq, rNe, rCount, rIndex, rSplit, rIsI, rCat, iRng1, iRng2, iList, cxOf, cxR, cxX, Cx.nox, Cx.wish, Cx.body, Cx.suite, List.getElem?_cons_zero, List.getElem?_cons_succ, List.set_cons_zero, List.set_cons_succ, Option.some.injEq, V.int.injEq, V.bl.injEq, V.ref.injEq, V.str.injEq, exists_eq_left', exists_eq_left, exists_and_left, true_and, and_true, List.cons.injEq, reduceCtorEq, Bool.false_eq_true, if_false, if_true, exists_const, ↓reduceIte, tyV, List.length_cons, List.length_nil, exists_eq, List.append_nil, List.cons_append, List.nil_append, decide_eq_true_eq, not_true_eq_false, not_false_eq_true, Bool.not_eq_true', decide_eq_false_iff_not, Bool.not_true, Bool.not_false, and_assoc, false_and, false_or, or_false, spCleared]
      refine ⟨_, SqT.of g4, rfl, _, _, rfl, _, _, rfl, rfl, p, rfl, _, SqL.of (S4 _ _ e2), L, e4.mono S4.tups, ⟨W, cL, ?_⟩, by omega, fun r l1 H5 s5 f1 er el1 => ?_⟩
      · have := Nat.mul_le_mul_left (W + 4) (show 1 ≤ n + 1 by omega)
        omega
      refine ⟨_, SqT.of er, rfl, _, _, rfl, _, _, rfl, rfl, .inl ⟨_, SqL.of ((X4.trans s5) _ _ e3)⟩, by omega, by omega, fun D hD => ?_⟩
      rw [Int.toNat_natCast]
      obtain ⟨Pv, hPv⟩ : ∃ Pv : Nat → L2.St → Hp → Prop, ∀ j σ H6, Pv j σ H6 ↔ ∃ (o : Option V), σ = [some (.int (i : Int)), some (.int ((lcmL L : Nat) : Int)), o] ∧ Same H5 H6 ∧ H6 D = some (.lst (((List.range j).map fun (o : Nat) => if i = o then ((lcmL L : Nat) : Int) else 0).map V.int)) := ⟨_, fun _ _ _ => Iff.rfl⟩
      refine cw_range Pv ((hPv _ _ _).mpr ⟨_, rfl, Same.new hD _, upd_same⟩) ?_ ?_
      · rintro j σ H6 hj h
        obtain ⟨o, rfl, s6, e6⟩ := (hPv _ _ _).mp h
        have add : ∀ z : Int, (z = if i = j then ((lcmL L : Nat) : Int) else 0) → CompN D n Pv j [some (.int (i : Int)), some (.int ((lcmL L : Nat) : Int)), some (.int (0 + (j : Int)))] (.int z) H6 := fun z hz => by
          refine CompN.mk hj e6 (len_ok (by rw [List.length_map, List.length_map, List.length_range]; omega)) ((hPv _ _ _).mpr ⟨_, rfl, s6.over hD _, ?_⟩)
          rw [upd_same, List.range_succ, List.map_append, List.map_append, hz]; rfl
        subst_eqs
        refine ⟨rfl, ite2 (fun h1 => add _ ?_) (fun h1 => add _ ?_)⟩
        · rw [if_pos (by omega)]
        · rw [if_neg (by omega)]
      · intro σ H6 h
        obtain ⟨o, rfl, s6, e6⟩ := (hPv _ _ _).mp h
        have lw : (wholesOf (lcmL L) L).length = n := by rw [wholesOf, List.length_map, lL]
        refine ⟨l1, rfl, D, rfl, _, s6 _ _ el1, _, e6, ?_, fun q2 h2 => ?_⟩
        · rw [List.length_map, List.length_map, List.length_map, List.length_range, lw]
          exact Nat.le_trans (show n + n ≤ 100 by omega) (by decide)
        rw [← List.map_append, show wholesOf (lcmL L) L ++ ((List.range n).map fun (o : Nat) => if i = o then ((lcmL L : Nat) : Int) else 0) = wdR n i L from rfl]
        obtain ⟨H7, y7, X7, g7⟩ := new_any (.lst ((wdR n i L).map V.int)) h2
        rw [← y7]
        have S47 := (X4.trans s5).trans (s6.trans X7)
        have e7 := S47 _ _ e3
        have lq : l ≠ q2 := ne_of_none ((X4.trans (s5.trans s6)) _ _ e3) h2
        have nn : l ∉ us ++ [q2] := fun z => by
          rcases List.mem_append.mp z with z | z
          · exact nl z
          · exact lq (List.mem_singleton.mp z)
        refine ⟨_, e7, len_ok (by rw [List.length_map, R3.length, wdN_len]; omega), (hI _ _ _).mpr ⟨us ++ [q2], _, _, _, _, rfl, (s3.trans S47).over fl _, by rw [upd_same, List.map_append]; rfl, nn, ?_⟩⟩
        rw [wdN_succ, e1]
        exact RwZ.over nn ((R3.same S47).append (.cons g7 .nil))
    · rintro σ H3 h
      obtain ⟨us, o3, o4, o7, o8, rfl, s3, e3, nl, R3⟩ := (hI _ _ _).mp h
      rw [List.length_map, tl] at R3
      exact hN _ _ ⟨us, o3, o4, o7, o8, rfl, s3, e3, R3⟩
  rintro σ H3 ⟨us, o3, o4, o7, o8, rfl, s3, e3, R3⟩
  obtain ⟨rw1, rw2⟩ := wdN_row ln lm
  have bp := bpN_pos M
  have b0 : ((bpN M : Nat) : Rat) ≠ 0 := fun y => by
    have : ((bpN M : Nat) : Int) = 0 := Rat.intCast_inj.mp y
    omega
  simp only [ipM, rLst, tComp_eq, tCompIf_eq, tMaxD, iZip, rRep, tSl, tPart, tNoPart, rSlL, rAppend, iEnum, capSt, List.map_cons, List.map_nil, Option.bind_none, Option.bind_some, Option.join_some, tSeq, tIfS, tAnd, tOr, tNot, tTest, tB, tOp, tUn, tBM0, tBM, tVar, tC, tCB, tRet, tAsg, gName, gSub, gTup, gCons, gNil, tCons, tNil, tPar, tTup, tLst, tIf, tAndV, tNotV, tDef, tCallX, tDrop, tNext, tNever, tRaise, tAug, rI, rI0, rU, rBitLen, rIxL, rIxT, rSetL, rEq, rNe, rCount, rIndex, rSplit, rIsI, rCat, iRng1, iRng2, iList, cxOf, cxR, cxX, Cx.nox, Cx.wish, Cx.body, Cx.suite, List.getElem?_cons_zero, List.getElem?_cons_succ, List.set_cons_zero, List.set_cons_succ, Option.some.injEq, V.int.injEq, V.bl.injEq, V.ref.injEq, V.str.injEq, exists_eq_left', exists_eq_left, exists_and_left, true_and, and_true, List.cons.injEq, reduceCtorEq, Bool.false_eq_true, if_false, if_true, exists_const, ↓reduceIte, tyV, List.length_cons, List.length_nil, exists_eq, List.append_nil, List.cons_append, List.nil_append, decide_eq_true_eq, not_true_eq_false, not_false_eq_true, Bool.not_eq_true', decide_eq_false_iff_not, Bool.not_true, Bool.not_false, and_assoc, false_and, false_or, or_false, spElimW]
  refine ⟨us, SqL.of e3, wdN n M n, R3, n + n, rw1, by rw [wdN_len]; omega, by omega, W, rw2, by rw [wdN_len]; exact n13, W1, by rw [wdN_len]; omega, fun r mn dv b vs M' H4 s4 e4 hB R4 alt => ?_⟩
  rw [wdN_len, wdN_dt ln lm] at alt
  refine ⟨_, SqT.of e4, rfl, _, _, rfl, _, _, rfl, _, _, rfl, rfl, _, rfl, ?_⟩
  rcases alt with ⟨rfl, ed, d0, db, F⟩ | ⟨em, ed⟩
  · rw [if_neg (by omega)]
    have dn : dt mn (qq M) ≠ 0 := fun z => by
      rw [z] at ed
      exact d0 (Rat.intCast_inj.mp (by rw [ed, Rat.intCast_zero]; grind))
    have k1 := k1 dn
    obtain ⟨V0, hV0⟩ : ∃ V0, V0 = (W + 4) * (mn + 1) := ⟨_, rfl⟩
    rw [← hV0] at db hV
    have lt : ∀ z : Int, z.natAbs ≤ 2 ^ V0 → z.natAbs < 2 ^ (V0 + 1) := fun z h => by
      have := Nat.two_pow_pos V0
      rw [Nat.pow_succ]; omega
    have d6 : dv.natAbs < 2 ^ 6000 := Nat.lt_of_lt_of_le (lt _ db) (pow_le_pow2 (by omega))
    obtain ⟨sc, hsc⟩ : ∃ sc, sc = Rat.divInt 1 dv := ⟨_, rfl⟩
    have dq : ((dv : Int) : Rat) ≠ 0 := fun z => d0 (Rat.intCast_inj.mp (by rw [z, Rat.intCast_zero]))
    have scd : sc * ((dv : Int) : Rat) = 1 := by
      rw [hsc, Rat.divInt_eq_div]
      exact Rat.div_mul_cancel dq
    obtain ⟨sn, sd⟩ := divInt_le (t := 1) d0
    rw [← hsc] at sn sd
    obtain ⟨NN, hNN⟩ : ∃ NN, NN = (List.range mn).map fun i => scl sc (((M'[i]?).getD []).drop mn) := ⟨_, rfl⟩
    have lNN : NN.length = mn := by rw [hNN, List.length_map, List.length_range]
    have gN : ∀ i L', i < mn → M'[i]? = some L' → NN[i]? = some (scl sc (L'.drop mn)) := fun i L' hi e => by rw [hNN, List.getElem?_map, List.getElem?_range hi, Option.map_some, e]; rfl
    have mAt : ∀ i, i < mn → ∃ L', M'[i]? = some L' ∧ L'.length = mn + mn := fun i hi => by
      have e := List.getElem?_eq_getElem (l := M') (i := i) (by rw [F.len]; exact hi)
      exact ⟨_, e, F.row _ (List.mem_of_getElem? e)⟩
    have lv : vs.length = mn := by rw [R4.length, F.len]
    refine ⟨b, rfl, ⟨_, hB⟩, fun D hD => ?_⟩
    obtain ⟨Pv, hPv⟩ : ∃ Pv : Nat → L2.St → Hp → Prop, ∀ j σ H5, Pv j σ H5 ↔ ∃ (o : Option V), σ = [some (.int (mn : Int)), some (.int dv), o] ∧ TabAt H4 D (NN.take j) H5 := ⟨_, fun _ _ _ => Iff.rfl⟩
    refine cw_list (vs.map V.ref) Pv ((hPv _ _ _).mpr ⟨_, rfl, TabAt.start hD⟩) (fun j σ H5 _ h => ?_) ?_ ?_
    · obtain ⟨_, _, T⟩ := (hPv _ _ _).mp h
      exact T.same.seq hB
    · rintro j x σ H5 hx h
      obtain ⟨o, rfl, T⟩ := (hPv _ _ _).mp h
      have hj : j < mn := by have := (List.getElem?_eq_some_iff.mp hx).1; rw [List.length_map, lv] at this; exact this
      obtain ⟨pt, hpt, rfl⟩ := refs_get hx
      obtain ⟨L', eL, ep⟩ := R4.get hpt
      have lL := F.row L' (List.mem_of_getElem? eL)
      simp only [ipM, rLst, tComp_eq, tCompIf_eq, tMaxD, iZip, rRep, tSl, tPart, tNoPart, rSlL, rAppend, iEnum, capSt, List.map_cons, List.map_nil, Option.bind_none, Option.bind_some, Option.join_some, tSeq, tIfS, tAnd, tOr, tNot, tTest, tB, tOp, tUn, tBM0, tBM, tVar, tC, tCB, tRet, tAsg, gName, gSub, gTup, gCons, gNil, tCons, tNil, tPar, tTup, tLst, tIf, tAndV, tNotV, tDef, tCallX, tDrop, tNext, tNever, tRaise, tAug, rI, rI0, rU, rBitLen, rIxL, rIxT, rSetL, rEq, rNe, rCount, rIndex, rSplit, rIsI, rCat, iRng1, iRng2, iList, cxOf, cxR, cxX, Cx.nox, Cx.wish, Cx.body, Cx.suite, List.getElem?_cons_zero, List.getElem?_cons_succ, List.set_cons_zero, List.set_cons_succ, Option.some.injEq, V.int.injEq, V.bl.injEq, V.ref.injEq, V.str.injEq, exists_eq_left', exists_eq_left, exists_and_left, true_and, and_true, List.cons.injEq, reduceCtorEq, Bool.false_eq_true, if_false, if_true, exists_const, ↓reduceIte, tyV, List.length_cons, List.length_nil, exists_eq, List.append_nil, List.cons_append, List.nil_append, decide_eq_true_eq, not_true_eq_false, not_false_eq_true, Bool.not_eq_true', decide_eq_false_iff_not, Bool.not_true, Bool.not_false, and_assoc, false_and, false_or, or_false, spLowered, spFraction]
      refine ⟨d6, d0, fun r6 H6 s6 e6 => ?_⟩
      refine ⟨_, SqL.of ((T.same.trans s6) _ _ ep), fun q7 h7 => ?_⟩
      rw [cut_from _ (by rw [List.length_map]; omega), ← List.map_drop]
      obtain ⟨H7, y7, X7, g7⟩ := new_any (.lst ((L'.drop mn).map V.int)) h7
      rw [← y7]
      have bz : ∀ v ∈ L'.drop mn, Int.natAbs v < 2 ^ (V0 + 1) := fun v hv => by
        obtain ⟨y, hy, ey⟩ := List.mem_iff_getElem.mp (List.mem_of_mem_drop hv)
        have : zz M' j y = v := by unfold zz aZ; rw [eL]; show (L'[y]?).getD 0 = v; rw [List.getElem?_eq_getElem hy, ey]; rfl
        rw [← this]
        refine lt _ ?_
        rw [hV0]
        exact F.bit j y hj (by omega)
      refine ⟨sc, ⟨r6, rfl, SqT.of (by rw [hsc]; exact X7 _ _ e6)⟩, _, SqL.of g7, Nat.lt_of_le_of_lt sd d6, Nat.lt_of_le_of_lt sn (show 1 < 2 ^ 6000 from Nat.lt_of_lt_of_le (show 1 < 2 ^ 1 by decide) (pow_le_pow2 (by decide))), fun v hv => Nat.lt_of_lt_of_le (bz v hv) (pow_le_pow2 (by omega)), by rw [List.length_drop]; omega, fun r8 xs8 H8 s8 f8 e8 n8 => ?_⟩
      have S7 := s6.trans X7
      obtain ⟨zs, eD, zl, T'⟩ := T.add hD (S7.free f8) ⟨S7.trans s8, xs8, e8, n8⟩
      refine CompN.mk (by rw [List.length_map, lv]; exact hj) eD (len_ok (by rw [zl, List.length_take]; omega)) ((hPv _ _ _).mpr ⟨_, rfl, ?_⟩)
      rw [take_snoc_get (gN j L' hj eL)]
      exact T'
    · intro σ H5 h
      obtain ⟨o, rfl, T⟩ := (hPv _ _ _).mp h
      rw [take_all (by rw [List.length_map, lv, lNN]; exact Nat.le_refl _)] at T
      have qN : ∀ i y, i < mn → y < mn → qq NN i y = sc * ((zz M' i (mn + y) : Int) : Rat) := fun i y hi hy => by
        obtain ⟨L', eL, lL⟩ := mAt i hi
        have e1 : qq NN i y = aQ (scl sc (L'.drop mn)) y := by unfold qq; rw [gN i L' hi eL]; rfl
        rw [e1, aQ_scl]
        show sc * ((aZ (L'.drop mn) y : Int) : Rat) = _
        have e2 : aZ (L'.drop mn) y = zz M' i (mn + y) := by
          unfold zz aZ
          rw [eL, List.getElem?_drop]; rfl
        rw [e2]
      have s34 := s3.trans s4
      obtain ⟨s5, vs5, e5, n5, nd5, R5⟩ := T
      refine k1 D NN H5 ⟨s34.trans s5, vs5, e5, fun t ht => ⟨s34.free (n5 t ht).1, (n5 t ht).2⟩, nd5, R5⟩ (s34.free hD) lNN (fun L hL => ?_) (fun i j hi hj => ?_) ⟨dv.natAbs, V0 + 1, by omega, lt _ db, by omega, fun L hL q hq => ?_⟩
      · rw [hNN] at hL
        obtain ⟨i, hi, rfl⟩ := List.mem_map.mp hL
        obtain ⟨L', eL, lL⟩ := mAt i (List.mem_range.mp hi)
        rw [eL, scl_len]
        show (L'.drop mn).length = mn
        rw [List.length_drop]; omega
      · have rl := F.rel (qq M) rfl (wdN_rl ln lm) i j hi hj
        rw [sumTo_congr (g := fun t => sc * (((zz M' i (mn + t) : Int) : Rat) * qq M t j)) fun t ht => by rw [qN i t hi ht]; grind, ← sumTo_mul, ← rl, F.dia i j hi hj]
        unfold dij
        by_cases z : i = j
        · rw [if_pos z, if_pos z]; exact scd
        · rw [if_neg z, if_neg z, Rat.intCast_zero]; grind
      · rw [hNN] at hL
        obtain ⟨i, hi, rfl⟩ := List.mem_map.mp hL
        have hi := List.mem_range.mp hi
        obtain ⟨L', eL, lL⟩ := mAt i hi
        rw [eL, Option.getD_some] at hq
        obtain ⟨z, hz, rfl⟩ := List.mem_map.mp hq
        obtain ⟨y, hy, ey⟩ := List.mem_iff_getElem.mp (List.mem_of_mem_drop hz)
        have ez : zz M' i y = z := by unfold zz aZ; rw [eL]; show (L'[y]?).getD 0 = z; rw [List.getElem?_eq_getElem hy, ey]; rfl
        have bz : z.natAbs ≤ 2 ^ V0 := by
          rw [← ez, hV0]
          exact F.bit i y hi (by omega)
        have n0 : ((dv.natAbs : Nat) : Int) ≠ 0 := by omega
        have eq : sc * ((z : Int) : Rat) = Rat.divInt z dv := by
          rw [hsc, Rat.divInt_eq_div, Rat.divInt_eq_div, Rat.div_def, Rat.div_def]
          show (1 : Rat) * _ * _ = _
          grind
        rcases Int.natAbs_eq dv with y | y
        · exact ⟨z, by rw [eq, ← y], lt _ bz⟩
        · refine ⟨-z, ?_, lt _ (by rw [Int.natAbs_neg]; exact bz)⟩
          have e3 : ((dv.natAbs : Nat) : Int) = -dv := by omega
          rw [eq, e3]
          exact (Rat.divInt_eq_divInt_iff d0 (by omega)).mpr (by rw [Int.neg_mul, Int.mul_neg])
  · rw [if_pos (by omega)]
    refine ⟨by decide, k0 ?_ H4 (s3.trans s4)⟩
    rcases Rat.mul_eq_zero.mp ed with z | z
    · exact absurd z b0
    · exact z
end
end R

set_option maxRecDepth 100000
namespace R
open PySem L2 PyProof.Rows
section
variable {P : Program} {w : World} {K : PySem.W.Frag} {mg : Str → Option Value} {base : Heap}
abbrev s__law_low : Stmt := top 40
theorem sc__law_low : FnScope ["_law_top", "_law_bottom", "_law_one", "_law_other_here"] ["_law_top", "_law_bottom"] (defScope s__law_low) := ⟨rfl, rfl, rfl, by decide +kernel, rfl, by decide +kernel, by decide +kernel⟩
theorem ok__law_low {f : Addr} (d : Df K mg "_law_low" s__law_low ["_law_top", "_law_bottom"] f) (n_abs : mg "abs" = none) : Def P w K mg base CX0 1 "_law_low" f ["_law_top", "_law_bottom"] spLow := by
  refine d.ok (N := ["_law_top", "_law_bottom", "_law_one", "_law_other_here"]) sc__law_low (fun vs H Q E ⟨a, b, h, _⟩ => by rw [h]; rfl) (fun cdv A outer s H vs Q E hr h => ?_)
  obtain ⟨t, b, rfl, hb0, hb, k⟩ := h
  refine ⟨_, (pss_cons (ps_set (i := 2) sc__law_low.nd rfl (Or.inl rfl) (pe_callB call_abs rfl n_abs (by decide +kernel) (pa_cons (pv 0) pa_nil)))
      (pss_cons (ps_set (i := 3) sc__law_low.nd rfl (Or.inl rfl) (pe_callB call_abs rfl n_abs (by decide +kernel) (pa_cons (pv 1) pa_nil)))
      (pss_cons (ps_while PassesOwn.never (pt_cmpR op_gt (pv 3) pe_int (nomark _)) (pss_one (ps_par (i := 2) (j := 3) rfl sc__law_low.nd rfl rfl (by decide) rfl rfl (pa_cons (pv 3) (pa_cons (pe_op op_modN (pv 2) (pv 3)) pa_nil)) rfl)))
      (pss_cons (ps_if (pt_cmpR op_lt (pv 1) pe_int (nomark _)) (pss_one (ps_set (i := 2) sc__law_low.nd rfl (Or.inl rfl) (pe_op op_sub pe_int (pv 2)))) pss_nil)
      (pss_one (ps_ret (pe_tup (pa_cons (pe_op op_fdivB (pv 0) (pv 2)) (pa_cons (pe_op op_fdivB (pv 1) (pv 2)) pa_nil))))))))), ?_⟩
  rw [show start ["_law_top", "_law_bottom", "_law_one", "_law_other_here"] [.int t, .int b] = [some (.int t), some (.int b), none, none] from rfl]
  subst_eqs
  refine while_by (fun σ H1 => H1 = H ∧ ∃ x y : Int, σ = [some (.int t), some (.int b), some (.int x), some (.int y)] ∧ 0 ≤ x ∧ 0 ≤ y ∧ Int.gcd x y = Int.gcd t b) (fun σ _ => match σ with | [_, _, _, some (.int y)] => y.natAbs | _ => 0)
    ⟨rfl, _, _, rfl, by split <;> omega, by split <;> omega, ?_⟩ ?_ ?_
  · have e1 : (if t < 0 then -t else t) = (t.natAbs : Int) := by split <;> omega
    have e2 : (if b < 0 then -b else b) = (b.natAbs : Int) := by split <;> omega
    rw [e1, e2, Int.gcd_eq_natAbs_gcd_natAbs, Int.gcd_eq_natAbs_gcd_natAbs]; simp
  · rintro σ H1 ⟨rfl, x, y, rfl, hx, hy, hg⟩
    subst_eqs
    split
    · rename_i hy0
      exact ⟨by omega, hy, Int.fmod_nonneg_of_pos x hy0, by rw [gcd_fmod]; exact hg, natAbs_fmod_lt x (by omega)⟩
    · rename_i hy0
      have hy' : y = 0 := by omega
      subst hy'
      have ex : x = (Int.gcd t b : Int) := by
        rw [Int.gcd_zero_right] at hg
        omega
      have gp := gcd_pos (t := t) hb0
      have gl := gcd_lt (a := t) hb0 hb
      by_cases hs : b < 0
      · rw [if_pos hs]
        obtain ⟨e1, e2⟩ := low_eq (t := t) (g := 0 - x) hb0 (by rw [if_pos hs, ex]; omega)
        have dv : ∀ i, CDivB i (0 - x) := fun i => divOk (by omega) (by rw [show 0 - x = -x by omega, Int.natAbs_neg, ex]; exact lt_up gl)
        refine ⟨dv _, dv _, small2, fun r hr' => ?_⟩
        exact k r _ (Same.new hr' _) (by rw [upd_same]; unfold numV; rw [e1, e2])
      · rw [if_neg hs]
        obtain ⟨e1, e2⟩ := low_eq (t := t) (g := x) hb0 (by rw [if_neg hs, ex])
        have dv : ∀ i, CDivB i x := fun i => divOk (by omega) (by rw [ex]; exact lt_up gl)
        refine ⟨dv _, dv _, small2, fun r hr' => ?_⟩
        exact k r _ (Same.new hr' _) (by rw [upd_same]; unfold numV; rw [e1, e2])
  · intro σ H1 Q1 Q2 hQ h
    simp only [ipM, rLst, tComp_eq, tCompIf_eq, tMaxD, iZip, rRep, tSl, tPart, tNoPart, rSlL, rAppend, iEnum, capSt, List.map_cons, List.map_nil, Option.bind_none, Option.bind_some, Option.join_some, tSeq, tIfS, tAnd, tOr, tNot, tTest, tB, tOp, tUn, tBM0, tBM, tVar, tC, tCB, tRet, tAsg, gName, gSub, gTup, gCons, gNil, tCons, tNil, tPar, tTup, tLst, tIf, tAndV, tNotV, tDef, tCallX, tDrop, tNext, tNever, tRaise, tAug, rI, rI0, rU, rBitLen, rIxL, rIxT, rSetL, rEq, rNe, rCount, rIndex, rSplit, rIsI, rCat, iRng1, iRng2, iList, cxOf, cxR, cxX, Cx.nox, Cx.wish, Cx.body, Cx.suite, List.getElem?_cons_zero, List.getElem?_cons_succ, List.set_cons_zero, List.set_cons_succ, Option.some.injEq, V.int.injEq, V.bl.injEq, V.ref.injEq, V.str.injEq, exists_eq_left', exists_eq_left, exists_and_left, true_and, and_true, List.cons.injEq, reduceCtorEq, Bool.false_eq_true, if_false, if_true, exists_const, ↓reduceIte, tyV, List.length_cons, List.length_nil, exists_eq, List.append_nil, List.cons_append, List.nil_append, decide_eq_true_eq, not_true_eq_false, not_false_eq_true, Bool.not_eq_true', decide_eq_false_iff_not, Bool.not_true, Bool.not_false, and_assoc, false_and, false_or, or_false] at h ⊢
    obtain ⟨v, e1, i, e2, e3⟩ := h
    exact ⟨v, e1, i, e2, hQ _ _ e3⟩
abbrev s__law_urn : Stmt := top 38
theorem sc__law_urn : FnScope ["_law_script", "_law_at", "_law_cell", "_law_prime", "_law_great"] ["_law_script", "_law_at"] (defScope s__law_urn) := ⟨rfl, rfl, rfl, by decide +kernel, rfl, by decide +kernel, by decide +kernel⟩
set_option maxHeartbeats 0 in
theorem ok__law_urn {f : Addr} (d : Df K mg "_law_urn" s__law_urn ["_law_script", "_law_at"] f) (n_len : mg "len" = none) (n_abs : mg "abs" = none) : Def P w K mg base CX0 1 "_law_urn" f ["_law_script", "_law_at"] (spUrn K) := by
  refine d.ok (N := ["_law_script", "_law_at", "_law_cell", "_law_prime", "_law_great"]) sc__law_urn (fun vs H Q E ⟨x, y, p, h, _⟩ => by rw [h]; rfl) (fun cdv A outer s H vs Q E hr h => ?_)
  obtain ⟨a, ns, i, rfl, hS, h0, h64, k⟩ := h
  refine ⟨_, (pss_cons (ps_set (i := 2) sc__law_urn.nd rfl (Or.inl rfl) pe_int)
      (pss_cons (ps_if (pt_cmpR op_lt (pv 1) (pe_callB call_len_seq rfl n_len (by decide +kernel) (pa_cons (pv 0) pa_nil)) (nomark _)) (pss_one (ps_set (i := 2) sc__law_urn.nd rfl (Or.inl rfl) (pe_ix ix_list (pv 0) (pv 1) (fun _ _ => rfl)))) pss_nil)
      (pss_cons (ps_set (i := 3) sc__law_urn.nd rfl (Or.inl rfl) (pe_ix ix_tup (pe_tup (pa_cons pe_int (pa_cons pe_int (pa_cons pe_int (pa_cons pe_int (pa_cons pe_int (pa_cons pe_int (pa_cons pe_int (pa_cons pe_int pa_nil))))))))) (pe_op op_modN (pv 1) pe_int) (fun _ _ => rfl)))
      (pss_cons (ps_set (i := 4) sc__law_urn.nd rfl (Or.inl rfl) pe_int)
      (pss_cons (ps_if (pt_cmpR op_ge (pe_callB call_abs rfl n_abs (by decide +kernel) (pa_cons (pv 2) pa_nil)) (pe_op op_pow pe_int pe_int) (nomark _)) (pss_one (ps_set (i := 4) sc__law_urn.nd rfl (Or.inl rfl) (pe_callB call_abs rfl n_abs (by decide +kernel) (pa_cons (pv 2) pa_nil)))) pss_nil)
      (pss_one (ps_ret (pe_lst (pa_cons (pv 4) (pa_cons (pe_op op_modN (pe_op op_pow (pe_op op_add (pe_op op_add (pe_op op_modN (pv 2) (pv 3)) (pe_op op_mulB pe_int (pv 1))) pe_int) pe_int) (pv 3)) (pa_cons (pv 3) pa_nil))))))))))), ?_⟩
  rw [show start ["_law_script", "_law_at", "_law_cell", "_law_prime", "_law_great"] [.ref a, .int i] = [some (.ref a), some (.int i), none, none, none] from rfl]
  refine seq_cut (fun σ H1 => H1 = H ∧ σ = [some (.ref a), some (.int i), some (.int 0), none, none]) (fun N hN => ?_) ?_
  · subst_eqs
    exact hN _ _ ⟨rfl, rfl⟩
  rintro σ H1 ⟨rfl, rfl⟩
  refine seq_cut (fun σ H2 => H2 = H1 ∧ ∃ c : Int, σ = [some (.ref a), some (.int i), some (.int c), none, none]) (fun N hN => ?_) ?_
  · subst_eqs
    refine ⟨_, .inl hS, ite2 (fun hl => ?_) (fun _ => hN _ _ ⟨rfl, _, rfl⟩)⟩
    obtain ⟨c, hc⟩ := at_script (ns := ns) h0 (by simpa using hl)
    exact ⟨_, hS, _, hc, hN _ _ ⟨rfl, c, rfl⟩⟩
  rintro σ H2 ⟨rfl, c, rfl⟩
  obtain ⟨pr, hpr, p1, p2⟩ := prime_at h0
  refine seq_cut (fun σ H3 => Same H2 H3 ∧ σ = [some (.ref a), some (.int i), some (.int c), some (.int pr), none]) (fun N hN => ?_) ?_
  · subst_eqs
    exact ⟨by decide, fun p hp => ⟨by decide, _, SqT.of upd_same, _, hpr, hN _ _ ⟨Same.new hp _, rfl⟩⟩⟩
  rintro σ H3 ⟨s1, rfl⟩
  refine seq_cut (fun σ H4 => H4 = H3 ∧ σ = [some (.ref a), some (.int i), some (.int c), some (.int pr), some (.int 0)]) (fun N hN => ?_) ?_
  · subst_eqs
    exact hN _ _ ⟨rfl, rfl⟩
  rintro σ H4 ⟨rfl, rfl⟩
  refine seq_cut (fun σ H5 => H5 = H4 ∧ ∃ g : Int, 0 ≤ g ∧ σ = [some (.ref a), some (.int i), some (.int c), some (.int pr), some (.int g)]) (fun N hN => ?_) ?_
  · subst_eqs
    exact ⟨⟨by decide, by decide, by decide⟩, ite2 (fun _ => hN _ _ ⟨rfl, _, by split <;> omega, rfl⟩) (fun _ => hN _ _ ⟨rfl, _, Int.le_refl _, rfl⟩)⟩
  rintro σ H5 ⟨rfl, g, hg, rfl⟩
  subst_eqs
  have m0 := Int.fmod_nonneg_of_pos c (show 0 < pr by omega)
  have m1 := Int.fmod_lt_of_pos c (show 0 < pr by omega)
  refine ⟨by omega, mulS (by decide), ⟨by decide, by decide, by omega⟩, by omega, by decide, fun r hr' => ?_⟩
  refine k r _ (s1.trans (Same.new hr' _)) (s1.free hr') ⟨g, _, pr, upd_same, hg, Int.fmod_nonneg_of_pos _ (by omega), ?_, by omega, by omega⟩
  have := Int.fmod_lt_of_pos ((c.fmod pr + 65537 * i + 101) ^ (3 : Int).toNat) (show 0 < pr by omega)
  omega
abbrev s__law_draw : Stmt := top 39
theorem sc__law_draw : FnScope ["_law_urn_here", "_law_many", "_law_drawn"] ["_law_urn_here", "_law_many"] (defScope s__law_draw) := ⟨rfl, rfl, rfl, by decide +kernel, rfl, by decide +kernel, by decide +kernel⟩
set_option maxHeartbeats 0 in
theorem ok__law_draw {f : Addr} (d : Df K mg "_law_draw" s__law_draw ["_law_urn_here", "_law_many"] f) : Def P w K mg base CX0 1 "_law_draw" f ["_law_urn_here", "_law_many"] spDraw := by
  refine d.ok (N := ["_law_urn_here", "_law_many", "_law_drawn"]) sc__law_draw (fun vs H Q E ⟨x, y, h, _⟩ => by rw [h]; rfl) (fun cdv A outer s H vs Q E hr h => ?_)
  obtain ⟨u, n, rfl, ⟨g, m, p, hu, g0, m0, m1, p0, p1⟩, n0, n1, k⟩ := h
  refine ⟨_, (pss_cons (ps_if (pt_cmpR op_gt (pe_ix ix_list (pv 0) pe_int (fun _ _ => rfl)) pe_int (nomark _)) (pss_cons (ps_set (i := 2) sc__law_draw.nd rfl (Or.inl rfl) (pe_op op_modN (pe_ix ix_list (pv 0) pe_int (fun _ _ => rfl)) (pv 1)))
      (pss_cons (ps_asg (pe_op op_fdivB (pe_ix ix_list (pv 0) pe_int (fun _ _ => rfl)) (pv 1)) (pg_sub (pv 0) pe_int set_list))
      (pss_one (ps_ret (pv 2))))) pss_nil)
      (pss_cons (ps_asg (pe_op op_modN (pe_op op_add (pe_op op_mulB (pe_ix ix_list (pv 0) pe_int (fun _ _ => rfl)) pe_int) pe_int) (pe_ix ix_list (pv 0) pe_int (fun _ _ => rfl))) (pg_sub (pv 0) pe_int set_list))
      (pss_one (ps_ret (pe_op op_modN (pe_op op_fdivB (pe_op op_modN (pe_op op_pow (pe_op op_fdivB (pe_ix ix_list (pv 0) pe_int (fun _ _ => rfl)) pe_int) pe_int) pe_int) pe_int) (pv 1)))))), ?_⟩
  rw [show start ["_law_urn_here", "_law_many", "_law_drawn"] [.ref u, .int n] = [some (.ref u), some (.int n), none] from rfl]
  have L1 : SqL K H u [.int g, .int m, .int p] := SqL.of hu
  have x0 : ∀ g m p : Int, atI [V.int g, .int m, .int p] 0 = some (.int g) := fun _ _ _ => rfl
  have x1 : ∀ g m p : Int, atI [V.int g, .int m, .int p] 1 = some (.int m) := fun _ _ _ => rfl
  have x2 : ∀ g m p : Int, atI [V.int g, .int m, .int p] 2 = some (.int p) := fun _ _ _ => rfl
  subst_eqs
  have dn : ∀ i, CDivB i n := fun i => divOk (by omega) (Nat.lt_of_lt_of_le (show n.natAbs < 2 ^ 40 by omega) (pow_le_pow2 (by decide)))
  refine ⟨_, L1, _, x0 g m p, _, rfl, ite2 (fun hg => ?_) (fun hg => ?_)⟩
  · refine ⟨_, L1, _, x0 g m p, _, rfl, by omega, _, L1, _, x0 g m p, _, rfl, dn _, _, hu, 0, rfl, ?_⟩
    exact k _ _ (Int.fmod_nonneg_of_pos _ n0) (Int.fmod_lt_of_pos _ n0) (SameX.upd _ _ _) ⟨g.fdiv n, m, p, upd_same, Int.fdiv_nonneg g0 (by omega), m0, m1, p0, p1⟩
  · have q0 := Int.fmod_nonneg_of_pos (m * 60013 + 12289) p0
    have q1 := Int.fmod_lt_of_pos (m * 60013 + 12289) p0
    have z : SqL K (upd H u (.lst [.int g, .int ((m * 60013 + 12289).fmod p), .int p])) u [.int g, .int ((m * 60013 + 12289).fmod p), .int p] := SqL.of upd_same
    have d16 : 0 ≤ ((m * 60013 + 12289).fmod p).fdiv 16 ∧ ((m * 60013 + 12289).fmod p).fdiv 16 < 2 ^ 40 := by
      rw [Int.fdiv_eq_ediv_of_nonneg _ (by decide)]
      omega
    refine ⟨_, L1, _, x1 g m p, _, rfl, mulS' (by decide), _, L1, _, x2 g m p, _, rfl, by omega, _, hu, 1, rfl, _, z, _, x1 _ _ _, _, rfl, divOk (by decide) (Nat.lt_of_lt_of_le (show (16 : Int).natAbs < 2 ^ 40 by decide) (pow_le_pow2 (by decide))), ⟨by decide, by decide, by omega⟩, by decide, divOk (by decide) (Nat.lt_of_lt_of_le (show (8 : Int).natAbs < 2 ^ 40 by decide) (pow_le_pow2 (by decide))), by omega, ?_⟩
    exact k _ _ (Int.fmod_nonneg_of_pos _ n0) (Int.fmod_lt_of_pos _ n0) (SameX.upd _ _ _) ⟨g, _, p, upd_same, g0, q0, by omega, p0, p1⟩
abbrev s__law_number : Stmt := top 43
theorem sc__law_number : FnScope ["_law_urn_here", "_law_kind", "_law_top"] ["_law_urn_here", "_law_kind"] (defScope s__law_number) := ⟨rfl, rfl, rfl, by decide +kernel, rfl, by decide +kernel, by decide +kernel⟩
abbrev s__law_whole : Stmt := top 49
theorem sc__law_whole : FnScope ["_law_thing"] ["_law_thing"] (defScope s__law_whole) := ⟨rfl, rfl, rfl, by decide +kernel, rfl, by decide +kernel, by decide +kernel⟩
theorem ok__law_whole {f : Addr} (d : Df K mg "_law_whole" s__law_whole ["_law_thing"] f) (n_isinstance : mg "isinstance" = none) (n_int : mg "int" = none) (n_bool : mg "bool" = none) : Def P w K mg base CX0 1 "_law_whole" f ["_law_thing"] spWhole := by
  refine d.ok (N := ["_law_thing"]) sc__law_whole (fun vs H Q E ⟨u, h, _⟩ => by rw [h]; rfl) (fun cdv A outer s H vs Q E hr h => ?_)
  obtain ⟨i, rfl, k⟩ := h
  refine ⟨_, (pss_one (ps_ret (pe_and (pe_callB call_isinst rfl n_isinstance (by decide +kernel) (pa_cons (pv 0) (pa_cons (pe_bltn (v := .ty "int") rfl n_int (by decide +kernel) rfl) pa_nil))) (pe_one (pe_not (pe_callB call_isinst rfl n_isinstance (by decide +kernel) (pa_cons (pv 0) (pa_cons (pe_bltn (v := .ty "bool") rfl n_bool (by decide +kernel) rfl) pa_nil)))))))), ?_⟩
  rw [show start ["_law_thing"] [.int i] = [some (.int i)] from rfl]
  subst_eqs
  exact ⟨trivial, _, .of (.int i), _, kit_int_int, iteT ⟨trivial, _, .of (.int i), _, kit_int_bool, k⟩⟩
abbrev s__law_is_number : Stmt := top 50
theorem sc__law_is_number : FnScope ["_law_thing"] ["_law_thing"] (defScope s__law_is_number) := ⟨rfl, rfl, rfl, by decide +kernel, rfl, by decide +kernel, by decide +kernel⟩
set_option maxHeartbeats 0 in
theorem ok__law_is_number {f fw fl : Addr} (d : Df K mg "_law_is_number" s__law_is_number ["_law_thing"] f) (G__law_whole : Def P w K mg base CX0 1 "_law_whole" fw ["_law_thing"] spWhole) (G__law_low : Def P w K mg base CX0 1 "_law_low" fl ["_law_top", "_law_bottom"] spLow) (n_isinstance : mg "isinstance" = none) (n_tuple : mg "tuple" = none) (n_len : mg "len" = none) :
    Def P w K mg base CX0 2 "_law_is_number" f ["_law_thing"] (spIsNum K) := by
  refine d.ok (N := ["_law_thing"]) sc__law_is_number (fun vs H Q E ⟨u, q, h, _⟩ => by rw [h]; rfl) (fun cdv A outer s H vs Q E hr h => ?_)
  obtain ⟨x, q, rfl, ⟨ap, rfl, hS⟩, hd, k⟩ := h
  have hu := hr.units
  refine ⟨_, (pss_cons (ps_if (PW.pt (pw_or (pt_not (pt_val (pe_callB call_isinst rfl n_isinstance (by decide +kernel) (pa_cons (pv 0) (pa_cons (pe_bltn (v := .ty "tuple") rfl n_tuple (by decide +kernel) rfl) pa_nil))))) (pw_or (pt_cmpR op_ne (pe_callB call_len_seq rfl n_len (by decide +kernel) (pa_cons (pv 0) pa_nil)) pe_int (nomark _)) (pw_or (pt_not (pt_val (pe_def G__law_whole hr (pa_cons (pe_ix ix_tup (pv 0) pe_int (fun _ _ => rfl)) pa_nil) pass0))) (pw_or1 (pt_not (pt_val (pe_def G__law_whole hr (pa_cons (pe_ix ix_tup (pv 0) pe_int (fun _ _ => rfl)) pa_nil) pass0)))))))) (pss_one (ps_ret pe_bl)) pss_nil)
      (pss_one (ps_ret (pe_and (pe_cmpR op_gt (pe_ix ix_tup (pv 0) pe_int (fun _ _ => rfl)) pe_int (nomark _)) (pe_one (pe_cmpR (op_eqD hu) (pe_def G__law_low hr (pa_cons (pe_ix ix_tup (pv 0) pe_int (fun _ _ => rfl)) (pa_cons (pe_ix ix_tup (pv 0) pe_int (fun _ _ => rfl)) pa_nil)) pass0) (pv 0) (nomark _))))))), ?_⟩
  rw [show start ["_law_thing"] [.ref ap] = [some (.ref ap)] from rfl]
  have dq := rat_den_pos q
  simp only [ipM, rLst, tComp_eq, tCompIf_eq, tMaxD, iZip, rRep, tSl, tPart, tNoPart, rSlL, rAppend, iEnum, capSt, List.map_cons, List.map_nil, Option.bind_none, Option.bind_some, Option.join_some, tSeq, tIfS, tAnd, tOr, tNot, tTest, tB, tOp, tUn, tBM0, tBM, tVar, tC, tCB, tRet, tAsg, gName, gSub, gTup, gCons, gNil, tCons, tNil, tPar, tTup, tLst, tIf, tAndV, tNotV, tDef, tCallX, tDrop, tNext, tNever, tRaise, tAug, rI, rI0, rU, rBitLen, rIxL, rIxT, rSetL, rEq, rNe, rCount, rIndex, rSplit, rIsI, rCat, iRng1, iRng2, iList, cxOf, cxR, cxX, Cx.nox, Cx.wish, Cx.body, Cx.suite, List.getElem?_cons_zero, List.getElem?_cons_succ, List.set_cons_zero, List.set_cons_succ, Option.some.injEq, V.int.injEq, V.bl.injEq, V.ref.injEq, V.str.injEq, exists_eq_left', exists_eq_left, exists_and_left, true_and, and_true, List.cons.injEq, reduceCtorEq, Bool.false_eq_true, if_false, if_true, exists_const, ↓reduceIte, tyV, List.length_cons, List.length_nil, exists_eq, List.append_nil, List.cons_append, List.nil_append, decide_eq_true_eq, not_true_eq_false, not_false_eq_true, Bool.not_eq_true', decide_eq_false_iff_not, Bool.not_true, Bool.not_false, and_assoc, false_and, false_or, or_false, spWhole, scal]
  refine ⟨trivial, _, .sqt hS, _, kit_tup_tup, ?_⟩
  simp only [ipM, rLst, tComp_eq, tCompIf_eq, tMaxD, iZip, rRep, tSl, tPart, tNoPart, rSlL, rAppend, iEnum, capSt, List.map_cons, List.map_nil, Option.bind_none, Option.bind_some, Option.join_some, tSeq, tIfS, tAnd, tOr, tNot, tTest, tB, tOp, tUn, tBM0, tBM, tVar, tC, tCB, tRet, tAsg, gName, gSub, gTup, gCons, gNil, tCons, tNil, tPar, tTup, tLst, tIf, tAndV, tNotV, tDef, tCallX, tDrop, tNext, tNever, tRaise, tAug, rI, rI0, rU, rBitLen, rIxL, rIxT, rSetL, rEq, rNe, rCount, rIndex, rSplit, rIsI, rCat, iRng1, iRng2, iList, cxOf, cxR, cxX, Cx.nox, Cx.wish, Cx.body, Cx.suite, List.getElem?_cons_zero, List.getElem?_cons_succ, List.set_cons_zero, List.set_cons_succ, Option.some.injEq, V.int.injEq, V.bl.injEq, V.ref.injEq, V.str.injEq, exists_eq_left', exists_eq_left, exists_and_left, true_and, and_true, List.cons.injEq, reduceCtorEq, Bool.false_eq_true, if_false, if_true, exists_const, ↓reduceIte, tyV, List.length_cons, List.length_nil, exists_eq, List.append_nil, List.cons_append, List.nil_append, decide_eq_true_eq, not_true_eq_false, not_false_eq_true, Bool.not_eq_true', decide_eq_false_iff_not, Bool.not_true, Bool.not_false, and_assoc, false_and, false_or, or_false, spWhole, scal]
  refine ⟨_, .inr hS, ?_⟩
  simp only [ipM, rLst, tComp_eq, tCompIf_eq, tMaxD, iZip, rRep, tSl, tPart, tNoPart, rSlL, rAppend, iEnum, capSt, List.map_cons, List.map_nil, Option.bind_none, Option.bind_some, Option.join_some, tSeq, tIfS, tAnd, tOr, tNot, tTest, tB, tOp, tUn, tBM0, tBM, tVar, tC, tCB, tRet, tAsg, gName, gSub, gTup, gCons, gNil, tCons, tNil, tPar, tTup, tLst, tIf, tAndV, tNotV, tDef, tCallX, tDrop, tNext, tNever, tRaise, tAug, rI, rI0, rU, rBitLen, rIxL, rIxT, rSetL, rEq, rNe, rCount, rIndex, rSplit, rIsI, rCat, iRng1, iRng2, iList, cxOf, cxR, cxX, Cx.nox, Cx.wish, Cx.body, Cx.suite, List.getElem?_cons_zero, List.getElem?_cons_succ, List.set_cons_zero, List.set_cons_succ, Option.some.injEq, V.int.injEq, V.bl.injEq, V.ref.injEq, V.str.injEq, exists_eq_left', exists_eq_left, exists_and_left, true_and, and_true, List.cons.injEq, reduceCtorEq, Bool.false_eq_true, if_false, if_true, exists_const, ↓reduceIte, tyV, List.length_cons, List.length_nil, exists_eq, List.append_nil, List.cons_append, List.nil_append, decide_eq_true_eq, not_true_eq_false, not_false_eq_true, Bool.not_eq_true', decide_eq_false_iff_not, Bool.not_true, Bool.not_false, and_assoc, false_and, false_or, or_false, spWhole, scal, numV]
  refine ite2 (fun hh => absurd rfl hh) (fun _ => ?_)
  refine ⟨_, hS, _, at0 q, _, rfl, _, hS, _, at1 q, _, rfl, _, hS, _, at1 q, _, rfl, ?_⟩
  rw [if_pos dq]
  refine ⟨_, hS, _, at0 q, _, hS, _, at1 q, _, _, rfl, by omega, hd, fun r H' sm hr' => ?_⟩
  rw [Rat.num_divInt_den] at hr'
  refine ⟨dNum q, dNum q, rfl, isD_num (SqT.of hr'), isD_num (sm.tup hS), okD_num q q, dp_num q, ?_⟩
  rw [eqD_num]; exact k H' sm
end
end R

set_option maxRecDepth 100000
namespace R
open PySem L2 PyProof.Rows
section
variable {P : Program} {w : World} {K : PySem.W.Frag} {mg : Str → Option Value} {base : Heap}
abbrev s__law_other : Stmt := top 44
theorem sc__law_other : FnScope ["_law_urn_here", "_law_kind", "_law_found"] ["_law_urn_here", "_law_kind"] (defScope s__law_other) := ⟨rfl, rfl, rfl, by decide +kernel, rfl, by decide +kernel, by decide +kernel⟩
end
end R

set_option maxRecDepth 100000
namespace R
open PySem L2 PyProof.Rows
section
variable {P : Program} {w : World} {K : PySem.W.Frag} {mg : Str → Option Value} {base : Heap}
end
end R

set_option maxRecDepth 100000
namespace R
open PySem L2 PyProof.Rows
structure BtN (k : Nat) (q : Rat) : Prop where
  n : q.num.natAbs < 2 ^ 20000
  d : q.den < 2 ^ k
theorem BtN.d' {n : Nat} {q : Rat} (b : BtN n q) : (q.den : Int).natAbs < 2 ^ n := by rw [Int.natAbs_natCast]; exact b.d
theorem BdN.t {n : Nat} {q : Rat} (b : BdN n q) (h : n ≤ 20000) : BtN n q := ⟨Nat.lt_of_lt_of_le b.n (pow_le_pow2 h), b.d⟩
theorem Nums.rep {H : Hp} {p : Addr} {q : Rat} (h : H p = some (.tup (numV q))) : ∀ n, Nums H (List.replicate n (.ref p)) (List.replicate n q)
  | 0 => .nil
  | n + 1 => .cons h (Nums.rep h n)
section
variable {P : Program} {w : World} {K : PySem.W.Frag} {mg : Str → Option Value} {base : Heap}
def spLBin (K : PySem.W.Frag) (op : Rat → Rat → Rat) : Sp := fun vs H Q _ => ∃ (x y : V) (p q : Rat) (m n : Nat), vs = [x, y] ∧ Num K H x p ∧ Num K H y q ∧ BtN m p ∧ BtN n q ∧ m + n ≤ 6000 ∧ NumRes H Q (op p q)
theorem denN {p q : Rat} {m n : Nat} (bp : BtN m p) (bq : BtN n q) (h : m + n ≤ 6000) : ((p.den : Int) * q.den).natAbs < 2 ^ 6000 := by
  rw [Int.natAbs_mul]
  have := Nat.mul_lt_mul'' bp.d' bq.d'
  rw [← Nat.pow_add] at this
  exact Nat.lt_of_lt_of_le this (pow_le_pow2 h)
theorem dens_ne (p q : Rat) : (p.den : Int) * q.den ≠ 0 := Int.ne_of_gt (Int.mul_pos (rat_den_pos p) (rat_den_pos q))
abbrev s__law_plus : Stmt := top 41
theorem sc__law_plus : FnScope ["_law_one", "_law_other_here"] ["_law_one", "_law_other_here"] (defScope s__law_plus) := ⟨rfl, rfl, rfl, by decide +kernel, rfl, by decide +kernel, by decide +kernel⟩
theorem ok__law_plus {f fl : Addr} (d : Df K mg "_law_plus" s__law_plus ["_law_one", "_law_other_here"] f) (G__law_low : Def P w K mg base CX0 1 "_law_low" fl ["_law_top", "_law_bottom"] spLow) : Def P w K mg base CX0 2 "_law_plus" f ["_law_one", "_law_other_here"] (spLBin K (· + ·)) := by
  refine d.ok (N := ["_law_one", "_law_other_here"]) sc__law_plus (by rintro vs H Q E ⟨x, y, p, q, m, n, h, _⟩; rw [h]; rfl) (fun cdv A outer s H vs Q E hr h => ?_)
  obtain ⟨x, y, p, q, m, n, rfl, ⟨ap, rfl, hp⟩, ⟨aq, rfl, hq⟩, bp, bq, hmn, k⟩ := h
  refine ⟨_, (pss_one (ps_ret (pe_def G__law_low hr (pa_cons (pe_op op_add (pe_op op_mulB (pe_ix ix_tup (pv 0) pe_int (fun _ _ => rfl)) (pe_ix ix_tup (pv 1) pe_int (fun _ _ => rfl))) (pe_op op_mulB (pe_ix ix_tup (pv 1) pe_int (fun _ _ => rfl)) (pe_ix ix_tup (pv 0) pe_int (fun _ _ => rfl)))) (pa_cons (pe_op op_mulB (pe_ix ix_tup (pv 0) pe_int (fun _ _ => rfl)) (pe_ix ix_tup (pv 1) pe_int (fun _ _ => rfl))) pa_nil)) pass0))), ?_⟩
  rw [show start ["_law_one", "_law_other_here"] [.ref ap, .ref aq] = [some (.ref ap), some (.ref aq)] from rfl]
  subst_eqs
  refine ⟨_, hp, _, at0 p, _, hq, _, at1 q, _, rfl, _, rfl, mulOk bp.n bq.d' (by omega), _, hq, _, at0 q, _, hp, _, at1 p, _, rfl, _, rfl, mulOk bq.n bp.d' (by omega), _, hp, _, at1 p, _, hq, _, at1 q, _, rfl, _, rfl, mulOk bp.d' bq.d' (by omega), ?_⟩
  refine ⟨_, _, rfl, dens_ne p q, denN bp bq hmn, ?_⟩
  rw [← add_divInt]
  exact k
abbrev s__law_times : Stmt := top 42
theorem sc__law_times : FnScope ["_law_one", "_law_other_here"] ["_law_one", "_law_other_here"] (defScope s__law_times) := ⟨rfl, rfl, rfl, by decide +kernel, rfl, by decide +kernel, by decide +kernel⟩
theorem ok__law_times {f fl : Addr} (d : Df K mg "_law_times" s__law_times ["_law_one", "_law_other_here"] f) (G__law_low : Def P w K mg base CX0 1 "_law_low" fl ["_law_top", "_law_bottom"] spLow) : Def P w K mg base CX0 2 "_law_times" f ["_law_one", "_law_other_here"] (spLBin K (· * ·)) := by
  refine d.ok (N := ["_law_one", "_law_other_here"]) sc__law_times (by rintro vs H Q E ⟨x, y, p, q, m, n, h, _⟩; rw [h]; rfl) (fun cdv A outer s H vs Q E hr h => ?_)
  obtain ⟨x, y, p, q, m, n, rfl, ⟨ap, rfl, hp⟩, ⟨aq, rfl, hq⟩, bp, bq, hmn, k⟩ := h
  refine ⟨_, (pss_one (ps_ret (pe_def G__law_low hr (pa_cons (pe_op op_mulB (pe_ix ix_tup (pv 0) pe_int (fun _ _ => rfl)) (pe_ix ix_tup (pv 1) pe_int (fun _ _ => rfl))) (pa_cons (pe_op op_mulB (pe_ix ix_tup (pv 0) pe_int (fun _ _ => rfl)) (pe_ix ix_tup (pv 1) pe_int (fun _ _ => rfl))) pa_nil)) pass0))), ?_⟩
  rw [show start ["_law_one", "_law_other_here"] [.ref ap, .ref aq] = [some (.ref ap), some (.ref aq)] from rfl]
  subst_eqs
  refine ⟨_, hp, _, at0 p, _, hq, _, at0 q, _, rfl, _, rfl, mulOk bp.n bq.n (by omega), _, hp, _, at1 p, _, hq, _, at1 q, _, rfl, _, rfl, mulOk bp.d' bq.d' (by omega), ?_⟩
  refine ⟨_, _, rfl, dens_ne p q, denN bp bq hmn, ?_⟩
  rw [← mul_divInt]
  exact k
end
end R

set_option maxRecDepth 100000
namespace R
open PySem L2 PyProof.Rows
section
variable {P : Program} {w : World} {K : PySem.W.Frag} {mg : Str → Option Value} {base : Heap}
def spLDot (K : PySem.W.Frag) : Sp := fun vs H Q _ => ∃ (a b : Addr) (xs ys : List V) (p q : List Rat) (m n W : Nat), vs = [.ref a, .ref b] ∧ SqL K H a xs ∧ SqL K H b ys ∧ Nums H xs p ∧ Nums H ys q ∧ (∀ x ∈ p, BdN m x) ∧ (∀ x ∈ q, BdN n x) ∧ (∀ i, BdN W (dotQ (p.take i) (q.take i))) ∧ m + n + W ≤ 6000 ∧ p.length = q.length ∧ NumRes H Q (dotQ p q)
abbrev s__law_dot : Stmt := top 47
theorem sc__law_dot : FnScope ["_law_row", "_law_column", "_law_found", "_law_one", "_law_other_here"] ["_law_row", "_law_column"] (defScope s__law_dot) := ⟨rfl, rfl, rfl, by decide +kernel, rfl, by decide +kernel, by decide +kernel⟩
set_option maxHeartbeats 0 in
theorem ok__law_dot {f f1 f2 : Addr} (d : Df K mg "_law_dot" s__law_dot ["_law_row", "_law_column"] f) (G__law_plus : Def P w K mg base CX0 2 "_law_plus" f1 ["_law_one", "_law_other_here"] (spLBin K (· + ·))) (G__law_times : Def P w K mg base CX0 2 "_law_times" f2 ["_law_one", "_law_other_here"] (spLBin K (· * ·))) (n_zip : mg "zip" = none) : Def P w K mg base CX0 3 "_law_dot" f ["_law_row", "_law_column"] (spLDot K) := by
  refine d.ok (N := ["_law_row", "_law_column", "_law_found", "_law_one", "_law_other_here"]) sc__law_dot (by rintro vs H Q E ⟨_, _, _, _, _, _, _, _, _, h, _⟩; rw [h]; rfl) (fun cdv A outer s H vs Q E hr h => ?_)
  obtain ⟨a, b, xs, ys, p, q, m, n, W, rfl, hS, hS', hN, hN', hp, hq, hB, hm, hlq, k⟩ := h
  refine ⟨_, (pss_cons (ps_set (i := 2) sc__law_dot.nd rfl (Or.inl rfl) (pe_tup (pa_cons pe_int (pa_cons pe_int pa_nil))))
      (pss_cons (ps_for PassesOwn.never rfl (pi_zip rfl n_zip (pa_cons (pv 0) (pa_cons (pv 1) pa_nil))) (show PG _ _ (gTup K 2 (gCons (gName 3) (gCons (gName 4) gNil))) from by (refine pg_tup (n := 2) ?_ ?_ ?_ ?_; rfl; (refine pgs_cons ?_ ?_ ?_; (exact (pg_name (i := 3) sc__law_dot.nd rfl (Or.inl rfl))); (refine pgs_cons ?_ ?_ ?_; (exact (pg_name (i := 4) sc__law_dot.nd rfl (Or.inl rfl))); (exact pgs_nil); rfl); rfl); rfl; rfl)) (pss_one (ps_set (i := 2) sc__law_dot.nd rfl (Or.inl rfl) (pe_def G__law_plus hr (pa_cons (pv 2) (pa_cons (pe_def G__law_times hr (pa_cons (pv 3) (pa_cons (pv 4) pa_nil)) pass0) pa_nil)) pass0))))
      (pss_one (ps_ret (pv 2))))), ?_⟩
  rw [show start ["_law_row", "_law_column", "_law_found", "_law_one", "_law_other_here"] [.ref a, .ref b] = [some (.ref a), some (.ref b), none, none, none] from rfl]
  subst_eqs
  have lx := hN.length
  have ly := hN'.length
  refine ⟨small2, fun z hz => ?_⟩
  have Sz := Same.new hz (.tup [.int 0, .int 1])
  refine ⟨_, rfl, _, rfl, a, b, rfl, ⟨_, Sz.seq hS⟩, ⟨_, Sz.seq hS'⟩, for_zip xs ys (fun i σ H2 => ∃ pf o1 o2, σ = [some (.ref a), some (.ref b), some (.ref pf), o1, o2] ∧ Same H H2 ∧ H2 pf = some (.tup (numV (dotQ (p.take i) (q.take i))))) ⟨z, _, _, rfl, Sz, upd_same⟩ (by rintro i σ H2 ⟨_, _, _, _, s2, _⟩; exact ⟨s2.seq hS, s2.seq hS'⟩) ?_ ?_⟩
  · rintro i x y σ H2 pt hx hy ⟨pf, o1, o2, rfl, s2, ef⟩ hpt
    obtain ⟨px, q1, rfl, hq1, hpx⟩ := hN.getV hx
    obtain ⟨py, q2, rfl, hq2, hpy⟩ := hN'.getV hy
    have st := Same.new hpt (.tup [.ref px, .ref py])
    have S2 := s2.trans st
    have b1 := hp q1 (List.mem_of_getElem? hq1)
    have b2 := hq q2 (List.mem_of_getElem? hq2)
    have bi := hB i
    have hd := dotQ_snoc i hq1 hq2
    subst_eqs
    refine ⟨_, SqT.of upd_same, rfl, _, _, rfl, _, _, rfl, rfl, ?_⟩
    refine ⟨_, _, q1, q2, m, n, rfl, ⟨px, rfl, SqT.of (S2 _ _ hpx)⟩, ⟨py, rfl, SqT.of (S2 _ _ hpy)⟩, b1.t (by omega), b2.t (by omega), by omega, fun p5 H5 s5 e5 => ?_⟩
    refine ⟨_, _, _, _, W, m + n, rfl, ⟨pf, rfl, SqT.of (s5 _ _ (st _ _ ef))⟩, ⟨p5, rfl, SqT.of e5⟩, bi.t (by omega), (b1.mul b2).t (by omega), ?_, fun p6 H6 s6 e6 => ?_⟩
    · omega
    · exact ⟨p6, rfl, S2.trans (s5.trans s6), by rw [hd]; exact e6⟩
  · rintro σ H2 ⟨pf, o1, o2, rfl, s2, ef⟩
    have ml : min xs.length ys.length = p.length := by omega
    rw [ml, List.take_length, hlq, List.take_length] at ef
    exact ⟨_, rfl, k pf H2 s2 ef⟩
end
end R

set_option maxRecDepth 100000
namespace R
open PySem L2 PyProof.Rows
section
variable {P : Program} {w : World} {K : PySem.W.Frag} {mg : Str → Option Value} {base : Heap}
def spTurned (K : PySem.W.Frag) : Sp := fun vs H Q _ => ∃ (a : Addr) (ts : List Addr) (M : List (List Rat)), vs = [.ref a] ∧ H a = some (.lst (ts.map V.ref)) ∧ Rws H ts M ∧ (∀ L ∈ M, L.length = M.length) ∧ M.length ≤ 8 ∧ TabRes H Q (flipQ M M.length)
abbrev s__law_flipped : Stmt := top 46
theorem sc__law_flipped : FnScope ["_law_table"] ["_law_table"] (defScope s__law_flipped) := ⟨rfl, rfl, rfl, by decide +kernel, rfl, by decide +kernel, by decide +kernel⟩
set_option maxHeartbeats 0 in
theorem ok__law_flipped {f : Addr} (d : Df K mg "_law_flipped" s__law_flipped ["_law_table"] f) (n_range : mg "range" = none) (n_len : mg "len" = none) : Def P w K mg base CX0 1 "_law_flipped" f ["_law_table"] (spTurned K) := by
  refine d.ok (N := ["_law_table"]) sc__law_flipped (by rintro vs H Q E ⟨_, _, _, h, _⟩; rw [h]; rfl) (fun cdv A outer s H vs Q E hr h => ?_)
  obtain ⟨a, ts, M, rfl, ha, hR, hM, hl, k⟩ := h
  refine ⟨_, (pss_one (ps_ret (pe_compC (Nc := ["_law_table", "_law_j"]) (caps := [some 0, none]) rfl (CapsC.of (osc := defScope s__law_flipped) (N := ["_law_table"]) (ks := ["_law_table"]) rfl rfl rfl rfl (sub_cons rfl sub_nil) (by decide +kernel)) (pi_range1 rfl n_range (pa_cons (pe_callB call_len_seq rfl n_len (by decide +kernel) (pa_cons (pv 0) pa_nil)) pa_nil)) (fun C s₂ H₂ fp pins => (pg_name (i := 1) (show List.Nodup (["_law_table", "_law_j"] : List Str) by decide +kernel) rfl (Or.inr rfl) (Or.inl rfl))) (fun C s₂ H₂ fp pins => (pe_comp (Nc := ["_law_j", "_law_row"]) (caps := [some 1, none]) rfl (Caps.of (osc := _) (N := ["_law_table", "_law_j"]) (ks := ["_law_j"]) rfl rfl rfl rfl (sub_cons rfl sub_nil) (by kernel_rfl)) (show PI _ _ _ (iList K _) from by exact (pi_list (pv 0))) (fun C s₂ H₂ fp pins => (pg_name (i := 1) (show List.Nodup (["_law_j", "_law_row"] : List Str) by decide +kernel) rfl (Or.inl rfl) (Or.inr rfl))) (fun C s₂ H₂ fp pins => (pe_ix (by exact ix_list : IxR _ (rIxL K)) (pv 1) (pv 0) (fun _ _ => rfl)))))))), ?_⟩
  rw [show start ["_law_table"] [.ref a] = [some (.ref a)] from rfl]
  subst_eqs
  have hRl := hR.length
  refine ⟨_, .inl (SqL.of ha), by omega, by rw [List.length_map]; omega, fun D hD => ?_⟩
  refine cw_range (fun i σ H2 => ∃ o, σ = [some (.ref a), o] ∧ TabAt H D ((flipQ M M.length).take i) H2) ⟨_, rfl, TabAt.start hD⟩ ?_ ?_
  · rintro i σ H2 hi ⟨o, rfl, T⟩
    subst_eqs
    have ha2 := T.same _ _ ha
    have hi' : i < M.length := by rw [List.length_map] at hi; omega
    refine ⟨⟨_, SqL.of ha2⟩, fun D2 hD2 => ?_⟩
    refine cw_list (ts.map V.ref) (fun j σ H3 => ∃ o, σ = [some (.int (0 + i)), o] ∧ RowAt H2 D2 ((colQ M i).take j) H3) ⟨_, rfl, RowAt.start hD2⟩ (fun j σ H3 _ ⟨_, _, R⟩ => SqL.of (R.same _ _ ha2)) ?_ ?_
    · rintro j x σ H3 hx ⟨o, rfl, R⟩
      obtain ⟨t, ht, rfl⟩ := refs_get hx
      obtain ⟨xs, L, hL, et, nt⟩ := hR.get ht
      subst_eqs
      have hLl : L.length = M.length := hM L (List.mem_of_getElem? hL)
      have hq : L[i]? = some L[i] := List.getElem?_eq_getElem (by omega)
      obtain ⟨p, hp, ep⟩ := nt.get hq
      have S := T.same.trans R.same
      refine ⟨xs, SqL.of (S _ _ et), _, by rw [Int.zero_add, atI_nat]; exact hp, ?_⟩
      have hj := (List.getElem?_eq_some_iff.mp hx).1
      obtain ⟨ys, eD, yl, R'⟩ := R.add hD2 (fun b o h => h) (S _ _ ep)
      refine CompN.mk hj eD (len_ok (by rw [yl, List.length_take, col_len]; omega)) ⟨_, rfl, ?_⟩
      rw [take_snoc_get (l := colQ M i) (x := L[i]) (by unfold colQ; rw [List.getElem?_map, hL]; simp only [Option.map_some, hq, Option.getD_some])]
      exact R'
    · rintro σ H3 ⟨o, rfl, R⟩
      rw [take_all (by rw [List.length_map, col_len]; omega)] at R
      obtain ⟨ys, eD, yl, T'⟩ := T.add hD hD2 R
      refine CompN.mk hi eD (len_ok (by rw [yl, List.length_take, flip_len]; omega)) ⟨_, rfl, ?_⟩
      rw [take_snoc_get (flip_get hi')]
      exact T'
  · rintro σ H2 ⟨o, rfl, T⟩
    rw [take_all (by rw [flip_len, List.length_map]; omega)] at T
    exact T.res k hD
def spUnitL : Sp := fun vs H Q _ => ∃ n : Nat, vs = [.int n] ∧ n ≤ 8 ∧ TabRes H Q (unitQ n)
abbrev s__law_unit : Stmt := top 45
theorem sc__law_unit : FnScope ["_law_n"] ["_law_n"] (defScope s__law_unit) := ⟨rfl, rfl, rfl, by decide +kernel, rfl, by decide +kernel, by decide +kernel⟩
set_option maxHeartbeats 0 in
theorem ok__law_unit {f : Addr} (d : Df K mg "_law_unit" s__law_unit ["_law_n"] f) (n_range : mg "range" = none) (n_int : mg "int" = none) : Def P w K mg base CX0 1 "_law_unit" f ["_law_n"] spUnitL := by
  refine d.ok (N := ["_law_n"]) sc__law_unit (by rintro vs H Q E ⟨_, h, _⟩; rw [h]; rfl) (fun cdv A outer s H vs Q E hr h => ?_)
  obtain ⟨n, rfl, hn, k⟩ := h
  refine ⟨_, (pss_one (ps_ret (pe_compC (Nc := ["_law_n", "_law_i"]) (caps := [some 0, none]) rfl (CapsC.of (osc := defScope s__law_unit) (N := ["_law_n"]) (ks := ["_law_n"]) rfl rfl rfl rfl (sub_cons rfl sub_nil) (by decide +kernel)) (pi_range1 rfl n_range (pa_cons (pv 0) pa_nil)) (fun C s₂ H₂ fp pins => (pg_name (i := 1) (show List.Nodup (["_law_n", "_law_i"] : List Str) by decide +kernel) rfl (Or.inr rfl) (Or.inl rfl))) (fun C s₂ H₂ fp pins => (pe_comp (Nc := ["_law_i", "_law_j"]) (caps := [some 1, none]) rfl (Caps.of (osc := _) (N := ["_law_n", "_law_i"]) (ks := ["_law_i"]) rfl rfl rfl rfl (sub_cons rfl sub_nil) (by kernel_rfl)) (pi_range1 rfl n_range (pa_cons (pv 0) pa_nil)) (fun C s₂ H₂ fp pins => (pg_name (i := 1) (show List.Nodup (["_law_i", "_law_j"] : List Str) by decide +kernel) rfl (Or.inl rfl) (Or.inr rfl))) (fun C s₂ H₂ fp pins => (pe_tup (pa_cons (pe_callTy call_int1 rfl n_int (by decide +kernel) (pa_cons (pe_cmpR op_eq (pv 0) (pv 1) (nomark _)) pa_nil)) (pa_cons pe_int pa_nil))))))))), ?_⟩
  rw [show start ["_law_n"] [.int n] = [some (.int n)] from rfl]
  subst_eqs
  refine ⟨by omega, by omega, fun D hD => ?_⟩
  refine cw_range (fun i σ H2 => ∃ o, σ = [some (.int n), o] ∧ TabAt H D ((unitQ n).take i) H2) ⟨_, rfl, TabAt.start hD⟩ ?_ ?_
  · rintro i σ H2 hi ⟨o, rfl, T⟩
    subst_eqs
    have hi' : i < n := by omega
    refine ⟨by omega, by omega, fun D2 hD2 => ?_⟩
    refine cw_range (fun j σ H3 => ∃ o, σ = [some (.int (0 + i)), o] ∧ RowAt H2 D2 (((List.range n).map fun j => if i = j then (1 : Rat) else 0).take j) H3) ⟨_, rfl, RowAt.start hD2⟩ ?_ ?_
    · rintro j σ H3 hj ⟨o, rfl, R⟩
      have hj' : j < n := by omega
      subst_eqs
      refine ⟨rfl, small2, fun p hp => ?_⟩
      have e : upd H3 p (HO.tup [V.int (if (0 : Int) + ↑i = 0 + ↑j then 1 else 0), V.int 1]) p = some (.tup (numV (if i = j then (1 : Rat) else 0))) := by
        rw [upd_same]
        by_cases h : i = j
        · rw [if_pos (by omega), if_pos h]; rfl
        · rw [if_neg (by omega), if_neg h]; rfl
      obtain ⟨ys, eD, yl, R'⟩ := R.add hD2 (Same.new hp _) e
      refine CompN.mk hj eD (len_ok (by rw [yl, List.length_take]; omega)) ⟨_, rfl, ?_⟩
      rw [take_snoc_get (l := (List.range n).map fun j => if i = j then (1 : Rat) else 0) (x := if i = j then (1 : Rat) else 0) (by rw [List.getElem?_map, rng_get hj']; rfl)]
      exact R'
    · rintro σ H3 ⟨o, rfl, R⟩
      rw [take_all (by simp)] at R
      obtain ⟨ys, eD, yl, T'⟩ := T.add hD hD2 R
      refine CompN.mk hi eD (len_ok (by rw [yl, List.length_take]; omega)) ⟨_, rfl, ?_⟩
      rw [take_snoc_get (unit_get hi')]
      exact T'
  · rintro σ H2 ⟨o, rfl, T⟩
    rw [take_all (by simp [unitQ])] at T
    exact T.res k hD
end
end R

set_option maxRecDepth 100000
namespace R
open PySem L2 PyProof.Rows
theorem ov_dot {B C V U : Nat} (hB : 0 < B) (hC : 0 < C) : ∀ (p q : List Rat), (∀ x ∈ p, OvB B V x) → (∀ x ∈ q, OvB C U x) → OvB (B * C) (V + U + p.length) (dotQ p q)
  | [], q, _, _ => by unfold dotQ; exact OvB.zero _ _
  | a :: p, [], _, _ => by unfold dotQ; exact OvB.zero _ _
  | a :: p, b :: q, hp, hq => by
    have ih := ov_dot hB hC p q (fun x hx => hp x (List.mem_cons_of_mem _ hx)) (fun x hx => hq x (List.mem_cons_of_mem _ hx))
    have e : dotQ (a :: p) (b :: q) = a * b + dotQ p q := by
      unfold dotQ
      rw [List.zipWith_cons_cons, List.foldl_cons, foldl_add]; grind
    rw [e]
    have m := (hp a List.mem_cons_self).mul (hq b List.mem_cons_self)
    exact ((m.mono (show V + U ≤ V + U + p.length by omega)).add (Nat.mul_pos hB hC) ih).mono (by rw [List.length_cons]; omega)
theorem flip_ov {N : List (List Rat)} {n C U : Nat} (h : ∀ L ∈ N, L.length = n ∧ ∀ q ∈ L, OvB C U q) {L : List Rat} (hL : L ∈ flipQ N N.length) : L.length = N.length ∧ ∀ q ∈ L, OvB C U q := by
  obtain ⟨i, _, rfl⟩ := List.mem_map.mp hL
  refine ⟨col_len .., fun q hq => ?_⟩
  obtain ⟨L', hL', rfl⟩ := List.mem_map.mp hq
  cases e : L'[i]? with
  | none => exact OvB.zero _ _
  | some x => exact (h L' hL').2 x (List.mem_of_getElem? e)
section
variable {P : Program} {w : World} {K : PySem.W.Frag} {mg : Str → Option Value} {base : Heap}
def spLTT (K : PySem.W.Frag) : Sp := fun vs H Q E => ∃ (a b : Addr) (ts us : List Addr) (M N : List (List Rat)) (n B V' C U : Nat), vs = [.ref a, .ref b] ∧ H a = some (.lst (ts.map V.ref)) ∧ Rws H ts M ∧ H b = some (.lst (us.map V.ref)) ∧ Rws H us N ∧ M.length = n ∧ N.length = n ∧ n ≤ 8 ∧ (∀ L ∈ M, L.length = n ∧ ∀ q ∈ L, OvB B V' q) ∧ (∀ L ∈ N, L.length = n ∧ ∀ q ∈ L, OvB C U q) ∧ 0 < B ∧ 0 < C ∧ B < 2 ^ V' ∧ C < 2 ^ U ∧ V' + U + (V' + U + 8) ≤ 6000 ∧ TabRes H Q (prodQ M N)
abbrev s__law_table_times : Stmt := top 48
theorem sc__law_table_times : FnScope ["_law_one", "_law_other_here", "_law_columns"] ["_law_one", "_law_other_here"] (defScope s__law_table_times) := ⟨rfl, rfl, rfl, by decide +kernel, rfl, by decide +kernel, by decide +kernel⟩
set_option maxHeartbeats 0 in
theorem ok__law_table_times {f f1 f2 : Addr} (d : Df K mg "_law_table_times" s__law_table_times ["_law_one", "_law_other_here"] f) (G__law_flipped : Def P w K mg base CX0 1 "_law_flipped" f1 ["_law_table"] (spTurned K)) (G__law_dot : Def P w K mg base CX0 3 "_law_dot" f2 ["_law_row", "_law_column"] (spLDot K)) : Def P w K mg base CX0 4 "_law_table_times" f ["_law_one", "_law_other_here"] (spLTT K) := by
  refine d.ok (N := ["_law_one", "_law_other_here", "_law_columns"]) sc__law_table_times (by rintro vs H Q E ⟨_, _, _, _, _, _, _, _, _, _, _, h, _⟩; rw [h]; rfl) (fun cdv A outer s H vs Q E hr h => ?_)
  obtain ⟨a, b, ts, us, M, N, n, B, V', C, U, rfl, ha, hR, hb, hS, lM, lN, n8, hM, hN, B0, C0, hBV, hCU, hz, k1⟩ := h
  have hl : M.length = N.length := by omega
  refine ⟨_, (pss_cons (ps_set (i := 2) sc__law_table_times.nd rfl (Or.inr rfl) (pe_def G__law_flipped hr (pa_cons (pv 1) pa_nil) pass0))
      (pss_one (ps_ret (pe_compC (Nc := ["_law_columns", "_law_row"]) (caps := [some 2, none]) rfl (CapsC.of (osc := defScope s__law_table_times) (N := ["_law_one", "_law_other_here", "_law_columns"]) (ks := ["_law_columns"]) rfl rfl rfl rfl (sub_cons rfl sub_nil) (by decide +kernel)) (pi_list (pv 0)) (fun C s₂ H₂ fp pins => (pg_name (i := 1) (show List.Nodup (["_law_columns", "_law_row"] : List Str) by decide +kernel) rfl (Or.inr rfl) (Or.inl rfl))) (fun C s₂ H₂ fp pins => (pe_comp (Nc := ["_law_row", "_law_column"]) (caps := [some 1, none]) rfl (Caps.of (osc := _) (N := ["_law_columns", "_law_row"]) (ks := ["_law_row"]) rfl rfl rfl rfl (sub_cons rfl sub_nil) (by kernel_rfl)) (show PI _ _ _ (iList K _) from by exact (pi_list (pv 0))) (fun C s₂ H₂ fp pins => (pg_name (i := 1) (show List.Nodup (["_law_row", "_law_column"] : List Str) by decide +kernel) rfl (Or.inl rfl) (Or.inr rfl))) (fun C s₂ H₂ fp pins => (pe_def G__law_dot hr (pa_cons (pv 0) (pa_cons (pv 1) pa_nil)) pass0)))))))), ?_⟩
  rw [show start ["_law_one", "_law_other_here", "_law_columns"] [.ref a, .ref b] = [some (.ref a), some (.ref b), none] from rfl]
  subst_eqs
  refine ⟨b, us, N, rfl, hb, hS, fun L hL => by rw [lN]; exact (hN L hL).1, by omega, fun c cs H1 s1 fc fcs ndc ec hC => ?_⟩
  have lC := hC.length
  rw [flip_len] at lC
  have hRl := hR.length
  refine ⟨⟨_, SqL.of (s1 _ _ ha)⟩, fun D hD => ?_⟩
  refine cw_list (ts.map V.ref) (fun i σ H2 => ∃ o, σ = [some (.ref c), o] ∧ TabAt H1 D ((prodQ M N).take i) H2) ⟨_, rfl, TabAt.start hD⟩ (fun i σ H2 _ ⟨_, _, T⟩ => SqL.of (T.same _ _ (s1 _ _ ha))) ?_ ?_
  · rintro i x σ H2 hx ⟨o, rfl, T⟩
    have hi := (List.getElem?_eq_some_iff.mp hx).1
    obtain ⟨t, ht, rfl⟩ := refs_get hx
    obtain ⟨xs, L, hL, et, nt⟩ := hR.get ht
    have hLm := hM L (List.mem_of_getElem? hL)
    have S2 := s1.trans T.same
    subst_eqs
    refine ⟨⟨_, SqL.of (T.same _ _ ec)⟩, fun D2 hD2 => ?_⟩
    refine cw_list (cs.map V.ref) (fun j σ H3 => ∃ o, σ = [some (.ref t), o] ∧ RowAt H2 D2 (((flipQ N N.length).map (dotQ L)).take j) H3) ⟨_, rfl, RowAt.start hD2⟩ (fun j σ H3 _ ⟨_, _, R⟩ => SqL.of (R.same _ _ (T.same _ _ ec))) ?_ ?_
    · rintro j y σ H3 hy ⟨o, rfl, R⟩
      have hj := (List.getElem?_eq_some_iff.mp hy).1
      obtain ⟨u, hu, rfl⟩ := refs_get hy
      obtain ⟨ys, C', hC', eu, nu⟩ := hC.get hu
      have hCm := flip_ov hN (List.mem_of_getElem? hC')
      subst_eqs
      have S3 := S2.trans R.same
      have S3' := T.same.trans R.same
      have l7 := hLm.1
      have l8 := hCm.1
      refine ⟨t, u, xs, ys, L, C', V', U, V' + U + 8, rfl, SqL.of (S3 _ _ et), SqL.of (S3' _ _ eu), nt.mono S3.tups, nu.mono S3'.tups, fun x hx => (hLm.2 x hx).bdN B0 hBV, fun x hx => (hCm.2 x hx).bdN C0 hCU, fun i => ?_, by omega, by rw [hLm.1, hCm.1, lN], fun p5 H5 s5 e5 => ?_⟩
      · have o := ov_dot B0 C0 (L.take i) (C'.take i) (fun x hx => hLm.2 x (List.mem_of_mem_take hx)) (fun x hx => hCm.2 x (List.mem_of_mem_take hx))
        refine OvB.bdN (Nat.mul_pos B0 C0) (Nat.lt_of_lt_of_le (Nat.mul_lt_mul'' hBV hCU) ?_) (o.mono ?_)
        · rw [← Nat.pow_add]; exact pow_le_pow2 (by omega)
        · rw [List.length_take]; omega
      obtain ⟨zs, eD, yl, R'⟩ := R.add hD2 s5 e5
      refine CompN.mk hj eD (len_ok (by rw [yl, List.length_take, List.length_map, flip_len]; omega)) ⟨_, rfl, ?_⟩
      rw [take_snoc_get (l := (flipQ N N.length).map (dotQ L)) (x := dotQ L C') (by rw [List.getElem?_map, hC']; rfl)]
      exact R'
    · rintro σ H3 ⟨o, rfl, R⟩
      rw [take_all (by rw [List.length_map, List.length_map, flip_len]; omega)] at R
      obtain ⟨zs, eD, yl, T'⟩ := T.add hD hD2 R
      refine CompN.mk hi eD (len_ok (by rw [yl, List.length_take, prod_len]; omega)) ⟨_, rfl, ?_⟩
      rw [take_snoc_get (prod_get hL)]
      exact T'
  · rintro σ H2 ⟨o, rfl, T⟩
    rw [take_all (by rw [prod_len, List.length_map]; omega)] at T
    exact T.res (k1.from s1) hD
end
end R

set_option maxRecDepth 100000
namespace R
open PySem L2 PyProof.Rows
section
variable {P : Program} {w : World} {K : PySem.W.Frag} {mg : Str → Option Value} {base : Heap}
def told4 (j i : Nat) : List V := [V.bl (decide (j = i)), V.bl (decide (j = i + 1)), V.bl (decide (j = i + 2)), V.bl (decide (j = i + 3))]
abbrev s__law_which : Stmt := top 52
theorem sc__law_which : FnScope ["_law_e", "_law_told", "_law_names"] ["_law_e"] (defScope s__law_which) := ⟨rfl, rfl, rfl, by decide +kernel, rfl, by decide +kernel, by decide +kernel⟩
set_option maxHeartbeats 0 in
theorem ok__law_which {a : CAd} {f : Addr} (d : Df K mg "_law_which" s__law_which ["_law_e"] f) (X : XTx K mg a) (n_isinstance : mg "isinstance" = none) (n_ValueError : mg "ValueError" = none) : DefX P w K mg base 1 "_law_which" f ["_law_e"] (spWhich K a) := by
  obtain ⟨x_NoFraction, x_NoPolynomial, x_NoStretch, x_NoRow, x_NoPair, x_NoBack, x_NoForm, x_NoParts, x_NoDegree, x_NoSteps, x_NoBox, x_NoGain, x_NoText, x_NoLine, x_NoName, x_NoDeed⟩ := X
  refine d.okX (N := ["_law_e", "_law_told", "_law_names"]) sc__law_which (fun vs H Q E ⟨u, q, j, h, _⟩ => by rw [h]; rfl) (fun cdv A outer s H vs Q E hr h => ?_)
  obtain ⟨e, C, j, rfl, kt, hj, he, k⟩ := h
  refine ⟨_, (pss_cons (ps_set (i := 1) sc__law_which.nd rfl (Or.inl rfl) (pe_lst (pa_cons (pe_callB call_isinst rfl n_isinstance (by decide +kernel) (pa_cons (pv 0) (pa_cons (pe_glob (v := .ref _) rfl x_NoFraction.m rfl) pa_nil))) (pa_cons (pe_callB call_isinst rfl n_isinstance (by decide +kernel) (pa_cons (pv 0) (pa_cons (pe_glob (v := .ref _) rfl x_NoPolynomial.m rfl) pa_nil))) (pa_cons (pe_callB call_isinst rfl n_isinstance (by decide +kernel) (pa_cons (pv 0) (pa_cons (pe_glob (v := .ref _) rfl x_NoStretch.m rfl) pa_nil))) (pa_cons (pe_callB call_isinst rfl n_isinstance (by decide +kernel) (pa_cons (pv 0) (pa_cons (pe_glob (v := .ref _) rfl x_NoRow.m rfl) pa_nil))) pa_nil))))))
      (pss_cons (ps_set (i := 1) sc__law_which.nd rfl (Or.inl rfl) (pe_op op_cat (pv 1) (pe_lst (pa_cons (pe_callB call_isinst rfl n_isinstance (by decide +kernel) (pa_cons (pv 0) (pa_cons (pe_glob (v := .ref _) rfl x_NoPair.m rfl) pa_nil))) (pa_cons (pe_callB call_isinst rfl n_isinstance (by decide +kernel) (pa_cons (pv 0) (pa_cons (pe_glob (v := .ref _) rfl x_NoBack.m rfl) pa_nil))) (pa_cons (pe_callB call_isinst rfl n_isinstance (by decide +kernel) (pa_cons (pv 0) (pa_cons (pe_glob (v := .ref _) rfl x_NoForm.m rfl) pa_nil))) (pa_cons (pe_callB call_isinst rfl n_isinstance (by decide +kernel) (pa_cons (pv 0) (pa_cons (pe_glob (v := .ref _) rfl x_NoParts.m rfl) pa_nil))) pa_nil)))))))
      (pss_cons (ps_set (i := 1) sc__law_which.nd rfl (Or.inl rfl) (pe_op op_cat (pv 1) (pe_lst (pa_cons (pe_callB call_isinst rfl n_isinstance (by decide +kernel) (pa_cons (pv 0) (pa_cons (pe_glob (v := .ref _) rfl x_NoDegree.m rfl) pa_nil))) (pa_cons (pe_callB call_isinst rfl n_isinstance (by decide +kernel) (pa_cons (pv 0) (pa_cons (pe_glob (v := .ref _) rfl x_NoSteps.m rfl) pa_nil))) (pa_cons (pe_callB call_isinst rfl n_isinstance (by decide +kernel) (pa_cons (pv 0) (pa_cons (pe_glob (v := .ref _) rfl x_NoBox.m rfl) pa_nil))) (pa_cons (pe_callB call_isinst rfl n_isinstance (by decide +kernel) (pa_cons (pv 0) (pa_cons (pe_glob (v := .ref _) rfl x_NoGain.m rfl) pa_nil))) pa_nil)))))))
      (pss_cons (ps_set (i := 1) sc__law_which.nd rfl (Or.inl rfl) (pe_op op_cat (pv 1) (pe_lst (pa_cons (pe_callB call_isinst rfl n_isinstance (by decide +kernel) (pa_cons (pv 0) (pa_cons (pe_glob (v := .ref _) rfl x_NoText.m rfl) pa_nil))) (pa_cons (pe_callB call_isinst rfl n_isinstance (by decide +kernel) (pa_cons (pv 0) (pa_cons (pe_glob (v := .ref _) rfl x_NoLine.m rfl) pa_nil))) (pa_cons (pe_callB call_isinst rfl n_isinstance (by decide +kernel) (pa_cons (pv 0) (pa_cons (pe_glob (v := .ref _) rfl x_NoName.m rfl) pa_nil))) (pa_cons (pe_callB call_isinst rfl n_isinstance (by decide +kernel) (pa_cons (pv 0) (pa_cons (pe_glob (v := .ref _) rfl x_NoDeed.m rfl) pa_nil))) pa_nil)))))))
      (pss_cons (ps_set (i := 2) sc__law_which.nd rfl (Or.inl rfl) pe_str)
      (pss_cons (ps_if (PW.pt (pw_or (pt_cmpR op_ne (pe_bm PySem.F.plainAttrs_list PySem.F.slot_list_count PySem.F.type_list_count mt_count (pv 1) (pa_cons pe_bl pa_nil)) pe_int (nomark _)) (pw_or1 (pt_not (pt_val (pe_callB call_isinst rfl n_isinstance (by decide +kernel) (pa_cons (pv 0) (pa_cons (pe_bltn (v := .ty "ValueError") rfl n_ValueError (by decide +kernel) rfl) pa_nil)))))))) (pss_one (ps_ret pe_str)) pss_nil)
      (pss_one (ps_ret (pe_ix ix_list (pe_bm PySem.F.plainAttrs_str PySem.F.slot_str_split PySem.F.type_str_split mt_split (pv 2) (pa_cons pe_str pa_nil)) (pe_bm PySem.F.plainAttrs_list PySem.F.slot_list_index PySem.F.type_list_index mt_index (pv 1) (pa_cons pe_bl pa_nil)) (fun _ _ => rfl)))))))))), ?_⟩
  rw [show start ["_law_e", "_law_told", "_law_names"] [.ref e] = [some (.ref e), none, none] from rfl]
  have ty : ∀ {H' : Hp}, Same H H' → TyX K H' (.ref e) (.ref C) := fun sm => .exc (sm _ _ he) kt.ec
  refine seq_cut (fun σ H1 => ∃ l, σ = [some (.ref e), some (.ref l), none] ∧ Same H H1 ∧ H1 l = some (.lst (told4 j 0))) (fun N hN => ?_) ?_
  · subst_eqs
    exact ⟨trivial, _, ty (Same.refl _), _, kt.k_NoFraction, trivial, _, ty (Same.refl _), _, kt.k_NoPolynomial, trivial, _, ty (Same.refl _), _, kt.k_NoStretch, trivial, _, ty (Same.refl _), _, kt.k_NoRow, by decide, fun l h => hN _ _ ⟨l, rfl, Same.new h _, upd_same⟩⟩
  rintro σ H1 ⟨l1, rfl, sA1, eA1⟩
  refine seq_cut (fun σ H2 => ∃ l, σ = [some (.ref e), some (.ref l), none] ∧ Same H H2 ∧ H2 l = some (.lst (told4 j 0 ++ told4 j 4))) (fun N hN => ?_) ?_
  · subst_eqs
    exact ⟨trivial, _, ty sA1, _, kt.k_NoPair, trivial, _, ty sA1, _, kt.k_NoBack, trivial, _, ty sA1, _, kt.k_NoForm, trivial, _, ty sA1, _, kt.k_NoParts, by decide, fun p hp => ⟨_, (upd_ne (ne_of_none eA1 hp)).trans eA1, _, upd_same, (show (8 : Nat) ≤ sizeLine from by decide), fun l h => hN _ _ ⟨l, rfl, (sA1.trans (Same.new hp _)).trans (Same.new h _), upd_same⟩⟩⟩
  rintro σ H2 ⟨l2, rfl, sA2, eA2⟩
  refine seq_cut (fun σ H2 => ∃ l, σ = [some (.ref e), some (.ref l), none] ∧ Same H H2 ∧ H2 l = some (.lst (told4 j 0 ++ told4 j 4 ++ told4 j 8))) (fun N hN => ?_) ?_
  · subst_eqs
    exact ⟨trivial, _, ty sA2, _, kt.k_NoDegree, trivial, _, ty sA2, _, kt.k_NoSteps, trivial, _, ty sA2, _, kt.k_NoBox, trivial, _, ty sA2, _, kt.k_NoGain, by decide, fun p hp => ⟨_, (upd_ne (ne_of_none eA2 hp)).trans eA2, _, upd_same, (show (12 : Nat) ≤ sizeLine from by decide), fun l h => hN _ _ ⟨l, rfl, (sA2.trans (Same.new hp _)).trans (Same.new h _), upd_same⟩⟩⟩
  rintro σ H3 ⟨l3, rfl, sA3, eA3⟩
  refine seq_cut (fun σ H2 => ∃ l, σ = [some (.ref e), some (.ref l), none] ∧ Same H H2 ∧ H2 l = some (.lst (told4 j 0 ++ told4 j 4 ++ told4 j 8 ++ told4 j 12))) (fun N hN => ?_) ?_
  · subst_eqs
    exact ⟨trivial, _, ty sA3, _, kt.k_NoText, trivial, _, ty sA3, _, kt.k_NoLine, trivial, _, ty sA3, _, kt.k_NoName, trivial, _, ty sA3, _, kt.k_NoDeed, by decide, fun p hp => ⟨_, (upd_ne (ne_of_none eA3 hp)).trans eA3, _, upd_same, (show (16 : Nat) ≤ sizeLine from by decide), fun l h => hN _ _ ⟨l, rfl, (sA3.trans (Same.new hp _)).trans (Same.new h _), upd_same⟩⟩⟩
  rintro σ H4 ⟨l4, rfl, sA4, eA4⟩
  have eT : H4 l4 = some (.lst (told j)) := eA4
  clear eA4
  subst_eqs
  refine ⟨.inl ⟨_, SqL.of eT⟩, _, eT, rfl, told_flat j hj, rfl, ?_⟩
  rw [told_count j hj]
  refine ite2 (fun hh => absurd rfl hh) (fun _ => ?_)
  refine ⟨trivial, _, ty sA4, _, kt.kV, ?_⟩
  refine ite2 (fun hh => absurd hh (by decide)) (fun _ => ?_)
  refine ⟨by decide +kernel, by decide +kernel, by decide +kernel, by decide +kernel, by rw [parts_names]; decide, fun l hl => ?_⟩
  have eT' : (upd H4 l (.lst ((partsOf "fraction polynomial stretch row pair back form parts degree steps box gain text line name deed" " ").map V.str))) l4 = some (.lst (told j)) := (upd_ne (ne_of_none eT hl)).trans eT
  refine ⟨.inl ⟨_, SqL.of eT'⟩, _, eT', rfl, told_flat j hj, _, told_idx j hj, _, SqL.of upd_same, _, name_at hj, ?_⟩
  exact k _ (sA4.trans (Same.new hl _))
end
end R

set_option maxRecDepth 100000
namespace R
open PySem L2 PyProof.Rows
def NK (kd : Int) (q : Rat) : Prop := if kd = 2 then BdN 40 q else if kd = 0 then OvB 60 10 q else OvB 1 4 q
theorem ov60 {t d : Int} (h1 : 1 ≤ d) (h6 : d ≤ 6) (h : t.natAbs ≤ 9) : OvB 60 10 (Rat.divInt t d) := by
  have h0 : d = 1 ∨ d = 2 ∨ d = 3 ∨ d = 4 ∨ d = 5 ∨ d = 6 := by omega
  rcases h0 with rfl | rfl | rfl | rfl | rfl | rfl
  · exact ⟨t * 60, (Rat.divInt_eq_divInt_iff (by decide) (by decide)).mpr (by omega), by omega⟩
  · exact ⟨t * 30, (Rat.divInt_eq_divInt_iff (by decide) (by decide)).mpr (by omega), by omega⟩
  · exact ⟨t * 20, (Rat.divInt_eq_divInt_iff (by decide) (by decide)).mpr (by omega), by omega⟩
  · exact ⟨t * 15, (Rat.divInt_eq_divInt_iff (by decide) (by decide)).mpr (by omega), by omega⟩
  · exact ⟨t * 12, (Rat.divInt_eq_divInt_iff (by decide) (by decide)).mpr (by omega), by omega⟩
  · exact ⟨t * 10, (Rat.divInt_eq_divInt_iff (by decide) (by decide)).mpr (by omega), by omega⟩
theorem ov1 {t : Int} (h : t.natAbs ≤ 9) : OvB 1 4 (Rat.divInt t 1) := ⟨t, rfl, by omega⟩
theorem NK.ovb0 {q : Rat} (h : NK 0 q) : OvB 60 10 q := by unfold NK at h; rw [if_neg (by decide), if_pos rfl] at h; exact h
theorem NK.ovb1 {q : Rat} (h : NK 1 q) : OvB 1 4 q := by unfold NK at h; rw [if_neg (by decide), if_neg (by decide)] at h; exact h
theorem bd_of {t b : Int} (hb : b ≠ 0) (h1 : t.natAbs ≤ 9) (h2 : b.natAbs ≤ 7) : BdN 4 (Rat.divInt t b) := by
  have := divInt_le (t := t) hb
  exact ⟨Nat.lt_of_le_of_lt this.1 (by omega), Nat.lt_of_le_of_lt this.2 (by omega)⟩
section
variable {P : Program} {w : World} {K : PySem.W.Frag} {mg : Str → Option Value} {base : Heap}
def spNumberC : Sp := fun vs H Q _ => ∃ u kd, vs = [.ref u, .int kd] ∧ UrnAt H u ∧ ∀ r q H', NK kd q → SameX u H H' → UrnAt H' u → H' r = some (.tup (numV q)) → Q (.ref r) H'
set_option maxHeartbeats 0 in
theorem okD__law_number {f fd fl : Addr} (d : Df K mg "_law_number" s__law_number ["_law_urn_here", "_law_kind"] f) (G__law_draw : Def P w K mg base CX0 1 "_law_draw" fd ["_law_urn_here", "_law_many"] spDraw) (G__law_low : Def P w K mg base CX0 1 "_law_low" fl ["_law_top", "_law_bottom"] spLow) (n_int : mg "int" = none) : Def P w K mg base CX0 2 "_law_number" f ["_law_urn_here", "_law_kind"] spNumberC := by
  refine d.ok (N := ["_law_urn_here", "_law_kind", "_law_top"]) sc__law_number (fun vs H Q E ⟨u, kd, h, _⟩ => by rw [h]; rfl) (fun cdv A outer s H vs Q E hr h => ?_)
  obtain ⟨u, kd, rfl, hu, k⟩ := h
  refine ⟨_, (pss_cons (ps_if (pt_cmpR op_eq (pv 1) pe_int (nomark _)) (pss_cons (ps_set (i := 2) sc__law_number.nd rfl (Or.inl rfl) (pe_op op_add (pe_op op_mulB (pe_def G__law_draw hr (pa_cons (pv 0) (pa_cons (pe_op op_pow pe_int pe_int) pa_nil)) pass0) (pe_op op_pow pe_int pe_int)) (pe_def G__law_draw hr (pa_cons (pv 0) (pa_cons (pe_op op_pow pe_int pe_int) pa_nil)) pass0)))
      (pss_one (ps_ret (pe_def G__law_low hr (pa_cons (pe_op op_mulB (pv 2) (pe_ix ix_list (pe_lst (pa_cons pe_int (pa_cons (pe_un un_neg pe_int) pa_nil))) (pe_def G__law_draw hr (pa_cons (pv 0) (pa_cons pe_int pa_nil)) pass0) (fun _ _ => rfl))) (pa_cons (pe_op op_add pe_int (pe_op op_mulB (pe_def G__law_draw hr (pa_cons (pv 0) (pa_cons (pe_op op_pow pe_int pe_int) pa_nil)) pass0) (pe_op op_pow pe_int pe_int))) pa_nil)) pass0)))) pss_nil)
      (pss_one (ps_ret (pe_def G__law_low hr (pa_cons (pe_op op_sub (pe_def G__law_draw hr (pa_cons (pv 0) (pa_cons pe_int pa_nil)) pass0) pe_int) (pa_cons (pe_op op_add pe_int (pe_op op_mulB (pe_def G__law_draw hr (pa_cons (pv 0) (pa_cons pe_int pa_nil)) pass0) (pe_callTy call_int1 rfl n_int (by decide +kernel) (pa_cons (pe_cmpR op_eq (pv 1) pe_int (nomark _)) pa_nil)))) pa_nil)) pass0)))), ?_⟩
  rw [show start ["_law_urn_here", "_law_kind", "_law_top"] [.ref u, .int kd] = [some (.ref u), some (.int kd), none] from rfl]
  have e10 : (10 : Int) ^ Int.toNat 6 = 1000000 := by decide
  simp only [ipM, rLst, tComp_eq, tCompIf_eq, tMaxD, iZip, rRep, tSl, tPart, tNoPart, rSlL, rAppend, iEnum, capSt, List.map_cons, List.map_nil, Option.bind_none, Option.bind_some, Option.join_some, tSeq, tIfS, tAnd, tOr, tNot, tTest, tB, tOp, tUn, tBM0, tBM, tVar, tC, tCB, tRet, tAsg, gName, gSub, gTup, gCons, gNil, tCons, tNil, tPar, tTup, tLst, tIf, tAndV, tNotV, tDef, tCallX, tDrop, tNext, tNever, tRaise, tAug, rI, rI0, rU, rBitLen, rIxL, rIxT, rSetL, rEq, rNe, rCount, rIndex, rSplit, rIsI, rCat, iRng1, iRng2, iList, cxOf, cxR, cxX, Cx.nox, Cx.wish, Cx.body, Cx.suite, List.getElem?_cons_zero, List.getElem?_cons_succ, List.set_cons_zero, List.set_cons_succ, Option.some.injEq, V.int.injEq, V.bl.injEq, V.ref.injEq, V.str.injEq, exists_eq_left', exists_eq_left, exists_and_left, true_and, and_true, List.cons.injEq, reduceCtorEq, Bool.false_eq_true, if_false, if_true, exists_const, ↓reduceIte, tyV, List.length_cons, List.length_nil, exists_eq, List.append_nil, List.cons_append, List.nil_append, decide_eq_true_eq, not_true_eq_false, not_false_eq_true, Bool.not_eq_true', decide_eq_false_iff_not, Bool.not_true, Bool.not_false, and_assoc, false_and, false_or, or_false, spDraw, scal]
  refine ite2 (fun hk2 => ?_) (fun hk2 => ?_)
  · refine ⟨⟨by decide, by decide, by decide⟩, hu, by decide, by decide, fun r2 H2 a2 b2 s2 u2 => ?_⟩
    refine ⟨⟨by decide, by decide, by decide⟩, mulS' (by decide), ⟨by decide, by decide, by decide⟩, u2, by decide, by decide, fun r3 H3 a3 b3 s3 u3 => ?_⟩
    refine ⟨by decide, fun l hl => ⟨urn_new u3 hl, by decide, by decide, fun r4 H4 a4 b4 s4 u4 => ?_⟩⟩
    have e := s4 l _ upd_same (urn_ne u3 hl)
    have b2' : r2 < 1000000 := b2
    have b3' : r3 < 1000000 := b3
    have sx : SameX u H H4 := s2.trans (s3.trans (SameX.trans (Same.x (Same.new hl _) u) s4))
    have fin : ∀ sg : Int, sg = 1 ∨ sg = -1 → (CPow 10 6 ∧ UrnAt H4 u ∧ 0 < (10 : Int) ^ Int.toNat 6 ∧ (10 : Int) ^ Int.toNat 6 < 2 ^ 40 ∧ ∀ (r : Int) (H' : Hp), 0 ≤ r → r < 10 ^ Int.toNat 6 → SameX u H4 H' → UrnAt H' u →
        CPow 10 6 ∧ IntMulOk r (10 ^ Int.toNat 6) ∧ spLow [V.int ((r2 * 10 ^ Int.toNat 6 + r3) * sg), V.int (1 + r * 10 ^ Int.toNat 6)] H' Q E0) := by
      intro sg hsg
      refine ⟨⟨by decide, by decide, by decide⟩, u4, by decide, by decide, fun r5 H5 a5 b5 s5 u5 => ⟨⟨by decide, by decide, by decide⟩, mulS' (by decide), ?_⟩⟩
      rw [e10] at b5 ⊢
      refine ⟨_, _, rfl, by omega, Nat.lt_of_lt_of_le (show (1 + r5 * 1000000).natAbs < 2 ^ 64 by omega) (pow_le_pow2 (by decide)), fun r H' sm hr' => ?_⟩
      refine k r _ H' (by unfold NK; rw [if_pos hk2]; refine (sm_of (by omega) ?_ (by omega)).bdN; rcases hsg with h | h <;> subst h <;> omega) (sx.trans (s5.trans (Same.x sm u))) (Same.urn sm u5) hr'
    have h3 : r4 = 0 ∨ r4 = 1 := by omega
    rcases h3 with h | h <;> subst h
    · exact ⟨_, SqL.of e, _, rfl, _, rfl, mulS' (by decide), fin 1 (.inl rfl)⟩
    · exact ⟨_, SqL.of e, _, rfl, _, rfl, mulS' (by decide), fin (-1) (.inr rfl)⟩
  · refine ⟨hu, by decide, by decide, fun r2 H2 a2 b2 s2 u2 => ⟨u2, by decide, by decide, fun r3 H3 a3 b3 s3 u3 => ⟨mulS (by omega), ?_⟩⟩⟩
    have hz : ∃ z : Int, z = r3 * (if kd = 0 then 1 else 0) ∧ 0 ≤ z ∧ z ≤ 5 ∧ (kd ≠ 0 → z = 0) := by
      refine ⟨_, rfl, ?_, ?_, ?_⟩
      · split <;> omega
      · split <;> omega
      · intro h; rw [if_neg h, Int.mul_zero]
    obtain ⟨z, ez, z0, z6, zk⟩ := hz
    rw [← ez]
    refine ⟨_, _, rfl, by omega, Nat.lt_of_lt_of_le (show (1 + z).natAbs < 2 ^ 64 by omega) (pow_le_pow2 (by decide)), fun r H' sm hr' => ?_⟩
    exact k r _ H' (by
      unfold NK
      rw [if_neg hk2]
      by_cases h0 : kd = 0
      · rw [if_pos h0]; exact ov60 (by omega) (by omega) (by omega)
      · rw [if_neg h0, zk h0]; exact ov1 (by omega)) (s2.trans (s3.trans (Same.x sm u))) (Same.urn sm u3) hr'
def spOtherC : Sp := fun vs H Q _ => ∃ u kd, vs = [.ref u, .int kd] ∧ UrnAt H u ∧ ∀ r q H', NK kd q → q ≠ 0 → SameX u H H' → UrnAt H' u → H' r = some (.tup (numV q)) → Q (.ref r) H'
set_option maxHeartbeats 0 in
theorem okD__law_other {f fd fl : Addr} (d : Df K mg "_law_other" s__law_other ["_law_urn_here", "_law_kind"] f) (G__law_draw : Def P w K mg base CX0 1 "_law_draw" fd ["_law_urn_here", "_law_many"] spDraw) (GD__law_number : Def P w K mg base CX0 2 "_law_number" fl ["_law_urn_here", "_law_kind"] spNumberC) : Def P w K mg base CX0 3 "_law_other" f ["_law_urn_here", "_law_kind"] spOtherC := by
  refine d.ok (N := ["_law_urn_here", "_law_kind", "_law_found"]) sc__law_other (fun vs H Q E ⟨u, kd, h, _⟩ => by rw [h]; rfl) (fun cdv A outer s H vs Q E hr h => ?_)
  obtain ⟨u, kd, rfl, hu, k⟩ := h
  have G__law_number := GD__law_number
  refine ⟨_, (pss_cons (ps_set (i := 2) sc__law_other.nd rfl (Or.inl rfl) (pe_def G__law_number hr (pa_cons (pv 0) (pa_cons (pv 1) pa_nil)) pass0))
      (pss_cons (ps_if (pt_cmpR op_eq (pe_ix ix_tup (pv 2) pe_int (fun _ _ => rfl)) pe_int (nomark _)) (pss_one (ps_ret (pe_tup (pa_cons (pe_op op_add pe_int (pe_def G__law_draw hr (pa_cons (pv 0) (pa_cons pe_int pa_nil)) pass0)) (pa_cons pe_int pa_nil))))) pss_nil)
      (pss_one (ps_ret (pv 2))))), ?_⟩
  rw [show start ["_law_urn_here", "_law_kind", "_law_found"] [.ref u, .int kd] = [some (.ref u), some (.int kd), none] from rfl]
  clean_wf
  refine ⟨u, kd, rfl, hu, fun r q H1 sm s1 u1 e1 => ?_⟩
  refine ⟨r, rfl, _, SqT.of e1, _, at0 q, rfl, ite2 (fun _ => ?_) (fun hn => ?_)⟩
  · refine ⟨u1, by decide, by decide, fun r2 H2 a2 b2 s2 u2 => ⟨small2, fun l hl => ?_⟩⟩
    have hd := num_den_of (n := 1 + r2) (d := 1) (by decide) (by simp)
    refine k l (Rat.divInt (1 + r2) 1) _ (by
      unfold NK
      split
      · exact (bd_of (by decide) (by omega) (by decide)).mono (by decide)
      · split
        · exact ov60 (by decide) (by decide) (by omega)
        · exact ov1 (by omega)) ?_ (s1.trans (s2.trans (Same.x (Same.new hl _) u))) (urn_new u2 hl) ?_
    · intro z
      rw [z] at hd
      have : (0 : Rat).num = 0 := rfl
      omega
    · rw [upd_same]
      unfold numV
      rw [hd.1, hd.2]
  · refine k r q H1 sm (fun z => hn ?_) s1 u1 e1
    rw [z]; rfl
end
end R

set_option maxRecDepth 100000
namespace R
open PySem L2 PyProof.Rows
section
variable {P : Program} {w : World} {K : PySem.W.Frag} {mg : Str → Option Value} {base : Heap}
def spBackSaid (K : PySem.W.Frag) : Sp := fun vs H Q _ => ∃ (a : Addr) (ts : List Addr) (M : List (List Rat)) (n W : Nat), vs = [.ref a] ∧ SqL K H a (ts.map V.ref) ∧ RwsC K H ts M ∧ M.length = n ∧ (∀ L ∈ M, L.length = n ∧ ClN W L) ∧ n ≤ 13 ∧ 1 ≤ W ∧ (W + 4) * (n + 1) ≤ 2900 ∧
  (dt n (qq M) = 0 → ∀ t H', Same H H' → H' t = some (.tup [.str "refused", .str "back"]) → Q (.ref t) H') ∧
  (dt n (qq M) ≠ 0 → ∀ r N H', TabAt H r N H' → H r = none → N.length = n → (∀ L ∈ N, L.length = n) → (∀ i j, i < n → j < n → sumTo (fun t => qq N i t * qq M t j) n = dij i j) → (∃ B V, 0 < B ∧ B < 2 ^ V ∧ V ≤ (W + 4) * (n + 1) + 1 ∧ ∀ L ∈ N, ∀ q ∈ L, OvB B V q) → Q (.ref r) H')
abbrev s__law_said : Stmt := top 53
theorem sc__law_said : FnScope ["_law_table", "_law_e"] ["_law_table"] (defScope s__law_said) := ⟨rfl, rfl, rfl, by decide +kernel, rfl, by decide +kernel, by decide +kernel⟩
set_option maxHeartbeats 0 in
theorem ok__law_said {a : CAd} {f fw fg : Addr} (d : Df K mg "_law_said" s__law_said ["_law_table"] f) (G_back_of : Def P w K mg base (CXR P w) 4 "back_of" fg ["table"] (spBack K a.c_NoBack)) (G__law_which : DefX P w K mg base 1 "_law_which" fw ["_law_e"] (spWhich K a)) (x_RestError : ExT K mg "RestError" a.c_RestError) (kt : Kits K a a.c_NoBack 5) :
    Def P w K mg base CX0 5 "_law_said" f ["_law_table"] (spBackSaid K) := by
  refine d.ok (N := ["_law_table", "_law_e"]) sc__law_said (by rintro vs H Q E ⟨_, _, _, _, _, h, _⟩; rw [h]; rfl) (fun cdv A outer s H vs Q E hr h => ?_)
  obtain ⟨al, ts, M, n, W, rfl, hA, hR, ln, lm, n13, W1, hV, k0, k1⟩ := h
  refine ⟨_, (pss_one (ps_try (i := 1) (C := a.c_RestError) rfl rfl rfl sc__law_said.nd rfl rfl rfl x_RestError.m (fun E xe pn hx => (pss_one (ps_ret (pe_def G_back_of hr (pa_cons (pv 0) pa_nil) hx)))) (fun b => (pss_one (ps_ret (pe_tup (pa_cons pe_str (pa_cons (pe_defX G__law_which (hr.toX.mark _) (pa_cons (pv 1) pa_nil)) pa_nil)))))))), ?_⟩
  rw [show start ["_law_table", "_law_e"] [.ref al] = [some (.ref al), none] from rfl]
  simp only [ipM, rLst, tComp_eq, tCompIf_eq, tMaxD, iZip, rRep, tSl, tPart, tNoPart, rSlL, rAppend, iEnum, capSt, List.map_cons, List.map_nil, Option.bind_none, Option.bind_some, Option.join_some, tSeq, tIfS, tAnd, tOr, tNot, tTest, tB, tOp, tUn, tBM0, tBM, tVar, tC, tCB, tRet, tAsg, gName, gSub, gTup, gCons, gNil, tCons, tNil, tPar, tTup, tLst, tIf, tAndV, tNotV, tDef, tCallX, tDrop, tNext, tNever, tRaise, tAug, rI, rI0, rU, rBitLen, rIxL, rIxT, rSetL, rEq, rNe, rCount, rIndex, rSplit, rIsI, rCat, iRng1, iRng2, iList, cxOf, cxR, cxX, Cx.nox, Cx.wish, Cx.body, Cx.suite, List.getElem?_cons_zero, List.getElem?_cons_succ, List.set_cons_zero, List.set_cons_succ, Option.some.injEq, V.int.injEq, V.bl.injEq, V.ref.injEq, V.str.injEq, exists_eq_left', exists_eq_left, exists_and_left, true_and, and_true, List.cons.injEq, reduceCtorEq, Bool.false_eq_true, if_false, if_true, exists_const, ↓reduceIte, tyV, List.length_cons, List.length_nil, exists_eq, List.append_nil, List.cons_append, List.nil_append, decide_eq_true_eq, not_true_eq_false, not_false_eq_true, Bool.not_eq_true', decide_eq_false_iff_not, Bool.not_true, Bool.not_false, and_assoc, false_and, false_or, or_false, tTry, spWhich]
  exact ⟨al, ts, M, n, W, rfl, hA, hR, ln, lm, n13, W1, hV, fun h0 H1 s1 => ⟨kt.ex, fun e he => ⟨_, rfl, e, rfl, _, 5, kt, by decide, upd_same, fun H2 s2 => ⟨small2, fun p hp => k0 h0 p _ (s1.trans ((Same.new he _).trans (s2.trans (Same.new hp _)))) upd_same⟩⟩⟩, k1⟩
def spLSteep : Sp := fun vs H Q _ => ∃ (u : Addr) (kd : Int) (n : Nat), vs = [.ref u, .int kd, .int (n : Int)] ∧ UrnAt H u ∧ (kd = 0 ∨ kd = 1) ∧ n ≤ 7 ∧ ∀ r ts M H', SameX u H H' → UrnAt H' u → H r = none → TbX u H' r ts M → M.length = n → (∀ L ∈ M, L.length = n ∧ ∀ q ∈ L, OvB 60 10 q) → (∀ i j, i < n → j < i → qq M i j = 0) → (∀ i, i < n → qq M i i ≠ 0) → Q (.ref r) H'
abbrev s__law_steep : Stmt := top 54
theorem sc__law_steep : FnScope ["_law_urn_here", "_law_kind", "_law_n", "_law_found", "_law_i", "_law_row"] ["_law_urn_here", "_law_kind", "_law_n"] (defScope s__law_steep) := ⟨rfl, rfl, rfl, by decide +kernel, rfl, by decide +kernel, by decide +kernel⟩
set_option maxHeartbeats 0 in
theorem ok__law_steep {f f1 f2 : Addr} (d : Df K mg "_law_steep" s__law_steep ["_law_urn_here", "_law_kind", "_law_n"] f) (GD__law_number : Def P w K mg base CX0 2 "_law_number" f1 ["_law_urn_here", "_law_kind"] spNumberC) (GD__law_other : Def P w K mg base CX0 3 "_law_other" f2 ["_law_urn_here", "_law_kind"] spOtherC) (n_range : mg "range" = none) : Def P w K mg base CX0 4 "_law_steep" f ["_law_urn_here", "_law_kind", "_law_n"] spLSteep := by
  refine d.ok (N := ["_law_urn_here", "_law_kind", "_law_n", "_law_found", "_law_i", "_law_row"]) sc__law_steep (by rintro vs H Q E ⟨_, _, _, h, _⟩; rw [h]; rfl) (fun cdv A outer s H vs Q E hr h => ?_)
  obtain ⟨u, kd, n, rfl, hU, hkd, n7, k⟩ := h
  have G__law_number := GD__law_number
  have G__law_other := GD__law_other
  have up : ∀ {q : Rat}, NK kd q → OvB 60 10 q := fun h => by
    rcases hkd with rfl | rfl
    · exact h.ovb0
    · exact h.ovb1.up (by decide) (C := 60) (c := 6) (by decide) (by decide)
  refine ⟨_, (pss_cons (ps_set (i := 3) sc__law_steep.nd rfl (Or.inl rfl) (pe_lst pa_nil))
      (pss_cons (ps_for PassesOwn.never rfl (pi_range1 rfl n_range (pa_cons (pv 2) pa_nil)) (pg_name (i := 4) sc__law_steep.nd rfl (Or.inl rfl)) (pss_cons (ps_set (i := 5) sc__law_steep.nd rfl (Or.inl rfl) (pe_op op_cat (pe_op op_rep (pe_lst (pa_cons (pe_tup (pa_cons pe_int (pa_cons pe_int pa_nil))) pa_nil)) (pv 4)) (pe_lst (pa_cons (pe_def G__law_other hr (pa_cons (pv 0) (pa_cons (pv 1) pa_nil)) pass0) pa_nil))))
      (pss_one (ps_expr (pe_bm PySem.F.plainAttrs_list PySem.F.slot_list_append PySem.F.type_list_append mt_append (pv 3) (pa_cons (pe_op op_cat (pv 5) (pe_comp (Nc := ["_law_urn_here", "_law_kind", "_law_j"]) (caps := [some 0, some 1, none]) rfl (Caps.of (osc := defScope s__law_steep) (N := ["_law_urn_here", "_law_kind", "_law_n", "_law_found", "_law_i", "_law_row"]) (ks := ["_law_urn_here", "_law_kind"]) rfl rfl rfl rfl (sub_cons rfl (sub_cons rfl sub_nil)) (by decide +kernel)) (pi_range2 rfl n_range (pa_cons (pe_op op_add (pv 4) pe_int) (pa_cons (pv 2) pa_nil))) (fun C s₂ H₂ fp pins => (pg_name (i := 2) (show List.Nodup (["_law_urn_here", "_law_kind", "_law_j"] : List Str) by decide +kernel) rfl (Or.inl rfl) (Or.inr rfl))) (fun C s₂ H₂ fp pins => (pe_def G__law_number hr (pa_cons (pv 0) (pa_cons (pv 1) pa_nil)) pass0)))) pa_nil))))))
      (pss_one (ps_ret (pv 3))))), ?_⟩
  rw [show start ["_law_urn_here", "_law_kind", "_law_n", "_law_found", "_law_i", "_law_row"] [.ref u, .int kd, .int (n : Int)] = [some (.ref u), some (.int kd), some (.int (n : Int)), none, none, none] from rfl]
  refine seq_cut (fun σ H1 => ∃ l : Addr, σ = [some (.ref u), some (.int kd), some (.int (n : Int)), some (.ref l), none, none] ∧ H l = none ∧ H1 = upd H l (.lst [])) (fun N hN => ?_) ?_
  · subst_eqs
    exact ⟨Nat.zero_le _, fun p hp => hN _ _ ⟨p, rfl, hp, rfl⟩⟩
  rintro σ H1 ⟨l, rfl, fl, rfl⟩
  have lu : l ≠ u := urn_ne hU fl
  obtain ⟨I, hI⟩ : ∃ I : Nat → L2.St → Hp → Prop, ∀ i σ H1, I i σ H1 ↔ ∃ (ts : List Addr) (M : List (List Rat)) (o4 o5 : Option V), σ = [some (.ref u), some (.int kd), some (.int (n : Int)), some (.ref l), o4, o5] ∧ SameX u H H1 ∧ UrnAt H1 u ∧ H1 l = some (.lst (ts.map V.ref)) ∧ (∀ t ∈ ts, t ≠ u ∧ t ≠ l) ∧ Rws H1 ts M ∧ M.length = i ∧ (∀ L ∈ M, L.length = n ∧ ∀ q ∈ L, OvB 60 10 q) ∧ (∀ x y, x < i → y < x → qq M x y = 0) ∧ (∀ x, x < i → qq M x x ≠ 0) := ⟨_, fun _ _ _ => Iff.rfl⟩
  refine seq_cut (I n) (fun N hN => ?_) ?_
  · refine ⟨_, rfl, _, rfl, by omega, by omega, for_range I ((hI _ _ _).mpr ⟨[], [], _, _, rfl, Same.x (Same.new fl _) u, urn_new hU fl, upd_same, by simp, .nil, rfl, by simp, fun x y h => by omega, fun x h => by omega⟩) ?_ (fun σ H1 h => hN _ _ (by rw [Int.toNat_natCast] at h; exact h))⟩
    rintro i σ H1 hi h
    obtain ⟨ts, M, o4, o5, rfl, s1, u1, e1, nt, R1, lM, oM, zM, dM⟩ := (hI _ _ _).mp h
    rw [Int.toNat_natCast] at hi
    rw [Int.zero_add]
    refine seq_cut (fun σ H2 => ∃ (rw' : Addr) (q : Rat) (xs : List V), σ = [some (.ref u), some (.int kd), some (.int (n : Int)), some (.ref l), some (.int (i : Int)), some (.ref rw')] ∧ SameX u H1 H2 ∧ UrnAt H2 u ∧ rw' ≠ u ∧ H2 rw' = some (.lst xs) ∧ Nums H2 xs (List.replicate i 0 ++ [q]) ∧ q ≠ 0 ∧ OvB 60 10 q) (fun N hN => ?_) ?_
    · simp only [ipM, rLst, tComp_eq, tCompIf_eq, tMaxD, iZip, rRep, tSl, tPart, tNoPart, rSlL, rAppend, iEnum, capSt, List.map_cons, List.map_nil, Option.bind_none, Option.bind_some, Option.join_some, tSeq, tIfS, tAnd, tOr, tNot, tTest, tB, tOp, tUn, tBM0, tBM, tVar, tC, tCB, tRet, tAsg, gName, gSub, gTup, gCons, gNil, tCons, tNil, tPar, tTup, tLst, tIf, tAndV, tNotV, tDef, tCallX, tDrop, tNext, tNever, tRaise, tAug, rI, rI0, rU, rBitLen, rIxL, rIxT, rSetL, rEq, rNe, rCount, rIndex, rSplit, rIsI, rCat, iRng1, iRng2, iList, cxOf, cxR, cxX, Cx.nox, Cx.wish, Cx.body, Cx.suite, List.getElem?_cons_zero, List.getElem?_cons_succ, List.set_cons_zero, List.set_cons_succ, Option.some.injEq, V.int.injEq, V.bl.injEq, V.ref.injEq, V.str.injEq, exists_eq_left', exists_eq_left, exists_and_left, true_and, and_true, List.cons.injEq, reduceCtorEq, Bool.false_eq_true, if_false, if_true, exists_const, ↓reduceIte, tyV, List.length_cons, List.length_nil, exists_eq, List.append_nil, List.cons_append, List.nil_append, decide_eq_true_eq, not_true_eq_false, not_false_eq_true, Bool.not_eq_true', decide_eq_false_iff_not, Bool.not_true, Bool.not_false, and_assoc, false_and, false_or, or_false, spOtherC]
      refine ⟨by decide, fun p hp => ?_⟩
      obtain ⟨G1, y1, Z1, g1⟩ := new_any (.tup [.int 0, .int 1]) hp
      rw [← y1]
      refine ⟨by decide, fun p1 hp1 => ?_⟩
      obtain ⟨G2, y2, Z2, g2⟩ := new_any (.lst [.ref p]) hp1
      rw [← y2]
      refine ⟨_, g2, by omega, by omega, by show 1 * (i : Int).toNat ≤ sizeLine; exact Nat.le_trans (show _ ≤ 100 by omega) (by decide), fun p2 hp2 => ?_⟩
      rw [Int.toNat_natCast, List.flatten_replicate_singleton]
      obtain ⟨G3, y3, Z3, g3⟩ := new_any (.lst (List.replicate i (V.ref p))) hp2
      rw [← y3]
      have Z := (Z1.trans Z2).trans Z3
      have u3 := Same.urn Z u1
      refine ⟨u3, fun r q H4 nk q0 s4 u4 e4 => ⟨by decide, fun p4 hp4 => ?_⟩⟩
      obtain ⟨G5, y5, Z5, g5⟩ := new_any (.lst [.ref r]) hp4
      rw [← y5]
      have p2u : p2 ≠ u := urn_ne (Same.urn (Z1.trans Z2) u1) hp2
      refine ⟨_, Z5 _ _ (s4 _ _ g3 p2u), _, g5, by rw [List.length_replicate]; exact Nat.le_trans (show i + 1 ≤ 100 by omega) (by decide), fun p6 hp6 => ?_⟩
      have Z6 := Same.new hp6 (.lst (List.replicate i (V.ref p) ++ [V.ref r]))
      have u5 := Same.urn Z5 u4
      have pz : (upd G5 p6 (.lst (List.replicate i (V.ref p) ++ [V.ref r]))) p = some (.tup (numV 0)) := Z6 _ _ (Z5 _ _ (s4.tups u3 _ _ ((Z2.trans Z3) _ _ g1)))
      exact hN _ _ ⟨p6, q, _, rfl, ((Same.x Z u).trans s4).trans (Same.x (Z5.trans Z6) u), Same.urn Z6 u5, urn_ne u5 hp6, upd_same, (Nums.rep pz i).append (.cons (Z6 _ _ (Z5 _ _ e4)) .nil), q0, up nk⟩
    rintro σ H2 ⟨rw', q, xs, rfl, s2, u2, rwu, e2, n2, q0, oq⟩
    subst_eqs
    have e2l := s2 _ _ e1 lu
    refine ⟨.inl ⟨_, SqL.of e2l⟩, by omega, by omega, by omega, by omega, fun D hD => ?_⟩
    rw [show ((n : Int) - ((i : Int) + 1)).toNat = n - (i + 1) by omega]
    have Du : D ≠ u := urn_ne u2 hD
    obtain ⟨Pv, hPv⟩ : ∃ Pv : Nat → L2.St → Hp → Prop, ∀ j σ H3, Pv j σ H3 ↔ ∃ (o : Option V) (ys : List V) (qs : List Rat), σ = [some (.ref u), some (.int kd), o] ∧ SameX u H2 H3 ∧ UrnAt H3 u ∧ H3 D = some (.lst ys) ∧ Nums H3 ys qs ∧ qs.length = j ∧ ∀ q ∈ qs, OvB 60 10 q := ⟨_, fun _ _ _ => Iff.rfl⟩
    refine cw_range Pv ((hPv _ _ _).mpr ⟨_, [], [], rfl, Same.x (Same.new hD _) u, urn_new u2 hD, upd_same, .nil, rfl, by simp⟩) ?_ ?_
    · rintro j σ H3 hj h
      obtain ⟨o, ys, qs, rfl, s3, u3, e3, n3, l3, q3⟩ := (hPv _ _ _).mp h
      simp only [ipM, rLst, tComp_eq, tCompIf_eq, tMaxD, iZip, rRep, tSl, tPart, tNoPart, rSlL, rAppend, iEnum, capSt, List.map_cons, List.map_nil, Option.bind_none, Option.bind_some, Option.join_some, tSeq, tIfS, tAnd, tOr, tNot, tTest, tB, tOp, tUn, tBM0, tBM, tVar, tC, tCB, tRet, tAsg, gName, gSub, gTup, gCons, gNil, tCons, tNil, tPar, tTup, tLst, tIf, tAndV, tNotV, tDef, tCallX, tDrop, tNext, tNever, tRaise, tAug, rI, rI0, rU, rBitLen, rIxL, rIxT, rSetL, rEq, rNe, rCount, rIndex, rSplit, rIsI, rCat, iRng1, iRng2, iList, cxOf, cxR, cxX, Cx.nox, Cx.wish, Cx.body, Cx.suite, List.getElem?_cons_zero, List.getElem?_cons_succ, List.set_cons_zero, List.set_cons_succ, Option.some.injEq, V.int.injEq, V.bl.injEq, V.ref.injEq, V.str.injEq, exists_eq_left', exists_eq_left, exists_and_left, true_and, and_true, List.cons.injEq, reduceCtorEq, Bool.false_eq_true, if_false, if_true, exists_const, ↓reduceIte, tyV, List.length_cons, List.length_nil, exists_eq, List.append_nil, List.cons_append, List.nil_append, decide_eq_true_eq, not_true_eq_false, not_false_eq_true, Bool.not_eq_true', decide_eq_false_iff_not, Bool.not_true, Bool.not_false, and_assoc, false_and, false_or, or_false, spNumberC]
      refine ⟨u3, fun r q' H4 nk s4 u4 e4 => ?_⟩
      have eD := s4 _ _ e3 Du
      refine CompN.mk hj eD (len_ok (by rw [n3.length, l3]; omega)) ((hPv _ _ _).mpr ⟨_, _, qs ++ [q'], rfl, (s3.trans s4).over hD _, u4.other Du, upd_same, ((n3.mono (s4.tups u3)).append (.cons e4 .nil)).mono (TupS.lst eD), by rw [List.length_append, l3]; rfl, fun x hx => ?_⟩)
      rcases List.mem_append.mp hx with z | z
      · exact q3 x z
      · rw [List.mem_singleton.mp z]; exact up nk
    · intro σ H3 h
      obtain ⟨o, ys, qs, rfl, s3, u3, e3, n3, l3, q3⟩ := (hPv _ _ _).mp h
      have erw := s3 _ _ e2 rwu
      have nrw := n2.mono (s3.tups u2)
      have lx : xs.length = i + 1 := by rw [n2.length, List.length_append, List.length_replicate]; rfl
      refine ⟨D, rfl, _, erw, _, e3, by rw [lx, n3.length, l3]; exact Nat.le_trans (show _ ≤ 100 by omega) (by decide), fun p4 hp4 => ?_⟩
      obtain ⟨G4, y4, Z4, g4⟩ := new_any (.lst (xs ++ ys)) hp4
      rw [← y4]
      have s13 : SameX u H1 G4 := (s2.trans s3).trans (Same.x Z4 u)
      have e4l := s13 _ _ e1 lu
      have u4 := Same.urn Z4 u3
      have p4l : l ≠ p4 := ne_of_none (s3 _ _ e2l lu) hp4
      have nn : l ∉ ts ++ [p4] := fun z => by
        rcases List.mem_append.mp z with z | z
        · exact (nt l z).2 rfl
        · exact p4l (List.mem_singleton.mp z)
      obtain ⟨L, hL⟩ : ∃ L, L = List.replicate i 0 ++ [q] ++ qs := ⟨_, rfl⟩
      have nL : Nums G4 (xs ++ ys) L := by rw [hL]; exact (nrw.append n3).mono Z4.tups
      have lL : L.length = n := by rw [hL, List.length_append, List.length_append, List.length_replicate, List.length_singleton, l3]; omega
      have qe : ∀ x y, qq (M ++ [L]) x y = if x < i then qq M x y else if x = i then aQ L y else 0 := fun x y => by
        unfold qq
        by_cases z : x < i
        · rw [List.getElem?_append_left (by omega), if_pos z]
        · rw [if_neg z, List.getElem?_append_right (by omega)]
          by_cases w : x = i
          · rw [if_pos w, show x - M.length = 0 by omega]; rfl
          · rw [if_neg w, List.getElem?_eq_none (by show 1 ≤ _; omega)]; rfl
      refine ⟨_, e4l, len_ok (by rw [List.length_map, R1.length, lM]; omega), (hI _ _ _).mpr ⟨ts ++ [p4], M ++ [L], _, _, rfl, fun b o h n => ?_, u4.other lu, by rw [upd_same, List.map_append]; rfl, fun t ht => ?_, ((R1.samex s13 u1 fun t ht => (nt t ht).1).append (.cons g4 nL .nil)).over e4l nn, by rw [List.length_append, lM]; rfl, fun L' hL' => ?_, fun x y h1 h2 => ?_, fun x h1 => ?_⟩⟩
      · rw [upd_ne (ne_of_none h fl)]
        exact s13 _ _ (s1 _ _ h n) n
      · rcases List.mem_append.mp ht with z | z
        · exact nt t z
        · rw [List.mem_singleton.mp z]; exact ⟨urn_ne u3 hp4, Ne.symm p4l⟩
      · rcases List.mem_append.mp hL' with z | z
        · exact oM L' z
        · rw [List.mem_singleton.mp z]
          refine ⟨lL, fun x hx => ?_⟩
          rw [hL] at hx
          rcases List.mem_append.mp hx with z | z
          · rcases List.mem_append.mp z with z | z
            · rw [(List.mem_replicate.mp z).2]; exact OvB.zero _ _
            · rw [List.mem_singleton.mp z]; exact oq
          · exact q3 x z
      · rw [qe]
        by_cases z : x < i
        · rw [if_pos z]; exact zM x y z h2
        · rw [if_neg z, if_pos (by omega)]
          unfold aQ
          rw [hL, List.append_assoc, List.getElem?_append_left (by rw [List.length_replicate]; omega), List.getElem?_replicate_of_lt (by omega)]; rfl
      · rw [qe]
        by_cases z : x < i
        · rw [if_pos z]; exact dM x z
        · have : x = i := by omega
          rw [if_neg z, if_pos this, this]
          unfold aQ
          rw [hL, List.append_assoc, List.getElem?_append_right (by rw [List.length_replicate]; omega), List.length_replicate, Nat.sub_self]
          exact q0
  intro σ H1 h
  obtain ⟨ts, M, o4, o5, rfl, s1, u1, e1, nt, R1, lM, oM, zM, dM⟩ := (hI _ _ _).mp h
  subst_eqs
  exact k l ts M H1 s1 u1 fl ⟨lu, fun t ht => (nt t ht).1, e1, R1⟩ lM oM zM dM
end
end R

set_option maxRecDepth 100000
namespace R
open PySem L2 PyProof.Rows
section
variable {P : Program} {w : World} {K : PySem.W.Frag} {mg : Str → Option Value} {base : Heap}
theorem w60 (m : Nat) : 60 ^ m < 2 ^ (6 * m + 1) := by
  have h1 : 60 ^ m ≤ 64 ^ m := Nat.pow_le_pow_left (by decide) _
  have h2 : 64 ^ m = 2 ^ (6 * m) := by rw [Nat.pow_mul]
  have := Nat.two_pow_pos (6 * m)
  rw [Nat.pow_succ]; omega
theorem Rws.set {H : Hp} : ∀ {ts : List Addr} {M : List (List Rat)} (k : Nat) {p : Addr} {xs : List V} {L : List Rat}, Rws H ts M → H p = some (.lst xs) → Nums H xs L → Rws H (ts.set k p) (M.set k L)
  | _, _, _, _, _, _, .nil, _, _ => .nil
  | _, _, 0, _, _, _, .cons _ _ t, e, f => .cons e f t
  | _, _, k + 1, _, _, _, .cons h n t, e, f => .cons h n (t.set k e f)
theorem copyA {qa D : Addr} {ts : List Addr} {M : List (List Rat)} {H1 : Hp} {Q : VK} (hA : H1 qa = some (.lst (ts.map V.ref))) (R : Rws H1 ts M) (hD : H1 D = none) (hl : M.length ≤ 50) (k : ∀ H2, TabAt H1 D M H2 → Q (.ref D) H2) : CompW (Itl K qa) D [none] (upd H1 D (.lst [])) (gName 0) (tCB (rLst K) (tCons (tVar 0) tNil)) Q := by
  refine cw_list (ts.map V.ref) (fun j σ H3 => ∃ o, σ = [o] ∧ TabAt H1 D (M.take j) H3) ⟨_, rfl, TabAt.start hD⟩ (fun j σ H3 _ ⟨o, _, T⟩ => SqL.of (T.same _ _ hA)) ?_ ?_
  · rintro j x σ H3 hx ⟨o, rfl, T⟩
    have hj := (List.getElem?_eq_some_iff.mp hx).1
    obtain ⟨pr, hpr, rfl⟩ := refs_get hx
    obtain ⟨ys, Lr, hLr, er, nr⟩ := R.get hpr
    subst_eqs
    refine ⟨ys, .inl (SqL.of (T.same _ _ er)), fun l hl' => ?_⟩
    obtain ⟨ys', eD, yl, T'⟩ := T.add hD hl' ⟨Same.new hl' (.lst ys), ys, upd_same, (nr.mono T.same.tups).mono (Same.new hl' _).tups⟩
    refine CompN.mk hj eD (len_ok (by rw [yl, List.length_take]; omega)) ⟨_, rfl, ?_⟩
    rw [take_snoc_get hLr]
    exact T'
  · rintro σ H3 ⟨o, rfl, T⟩
    rw [take_all (by rw [List.length_map, R.length]; exact Nat.le_refl _)] at T
    exact k H3 T
structure StAt (u : Addr) (H : Hp) (l : Addr) (ts : List Addr) (M : List (List Rat)) (H3 : Hp) : Prop where
  same : SameX u H H3
  urn : UrnAt H3 u
  fr : H l = none
  lu : l ≠ u
  at' : H3 l = some (.lst (ts.map V.ref))
  nl : l ∉ ts
  nu : ∀ t ∈ ts, t ≠ u
  rws : Rws H3 ts M
theorem StAt.x {u l : Addr} {H H3 H4 : Hp} {ts : List Addr} {M : List (List Rat)} (d : StAt u H l ts M H3) (s : SameX u H3 H4) (hu : UrnAt H4 u) : StAt u H l ts M H4 := ⟨d.same.trans s, hu, d.fr, d.lu, s _ _ d.at' d.lu, d.nl, d.nu, d.rws.samex s d.urn d.nu⟩
theorem StAt.s {u l : Addr} {H H3 H4 : Hp} {ts : List Addr} {M : List (List Rat)} (d : StAt u H l ts M H3) (s : Same H3 H4) : StAt u H l ts M H4 := d.x (Same.x s u) (Same.urn s d.urn)
def spStepped (K : PySem.W.Frag) : Sp := fun vs H Q _ => ∃ (u a : Addr) (kd : Int) (ts : List Addr) (M : List (List Rat)) (n : Nat), vs = [.ref u, .int kd, .ref a] ∧ UrnAt H u ∧ (kd = 0 ∨ kd = 1) ∧ TbX u H a ts M ∧ M.length = n ∧ 1 ≤ n ∧ n ≤ 7 ∧ (∀ L ∈ M, L.length = n ∧ ∀ q ∈ L, OvB 60 10 q) ∧
  ∀ r l pf us N fd H', StAt u H l us N H' → H' r = some (.tup [.ref l, .ref pf]) → H' pf = some (.tup (numV fd)) → N.length = n → (∀ L ∈ N, L.length = n ∧ ∀ q ∈ L, OvB (60 ^ 9) 99 q) → dt n (qq N) = fd * dt n (qq M) → fd ≠ 0 → OvB (60 ^ 8) 82 fd → Q (.ref r) H'
abbrev s__law_stepped : Stmt := top 55
theorem sc__law_stepped : FnScope ["_law_urn_here", "_law_kind", "_law_table", "_law_rows", "_law_n", "_law_found", "_law_step", "_law_i", "_law_j", "_law_way", "_law_often"] ["_law_urn_here", "_law_kind", "_law_table"] (defScope s__law_stepped) := ⟨rfl, rfl, rfl, by decide +kernel, rfl, by decide +kernel, by decide +kernel⟩
set_option maxHeartbeats 0 in
theorem ok__law_stepped {f f1 f2 f3 f4 : Addr} (d : Df K mg "_law_stepped" s__law_stepped ["_law_urn_here", "_law_kind", "_law_table"] f) (G__law_draw : Def P w K mg base CX0 1 "_law_draw" f1 ["_law_urn_here", "_law_many"] spDraw) (GD__law_other : Def P w K mg base CX0 3 "_law_other" f2 ["_law_urn_here", "_law_kind"] spOtherC) (G__law_plus : Def P w K mg base CX0 2 "_law_plus" f3 ["_law_one", "_law_other_here"] (spLBin K (· + ·))) (G__law_times : Def P w K mg base CX0 2 "_law_times" f4 ["_law_one", "_law_other_here"] (spLBin K (· * ·))) (n_len : mg "len" = none) (n_range : mg "range" = none) (n_list : mg "list" = none) (n_max : mg "max" = none) (n_zip : mg "zip" = none) : Def P w K mg base CX0 4 "_law_stepped" f ["_law_urn_here", "_law_kind", "_law_table"] (spStepped K) := by
  refine d.ok (N := ["_law_urn_here", "_law_kind", "_law_table", "_law_rows", "_law_n", "_law_found", "_law_step", "_law_i", "_law_j", "_law_way", "_law_often"]) sc__law_stepped (by rintro vs H Q E ⟨_, _, _, _, _, _, h, _⟩; rw [h]; rfl) (fun cdv A outer s H vs Q E hr h => ?_)
  obtain ⟨u, a, kd, ts, M, n, rfl, hU, hkd, T0, lM, n1, n7, oM, k⟩ := h
  have G__law_other := GD__law_other
  have up : ∀ {q : Rat}, NK kd q → OvB 60 10 q := fun h => by
    rcases hkd with rfl | rfl
    · exact h.ovb0
    · exact h.ovb1.up (by decide) (C := 60) (c := 6) (by decide) (by decide)
  refine ⟨_, (pss_cons (ps_setComp (i₀ := 3) sc__law_stepped.nd rfl (Or.inl rfl) (Nc := ["_law_row"]) (caps := [none]) rfl (Caps.of (osc := defScope s__law_stepped) (N := ["_law_urn_here", "_law_kind", "_law_table", "_law_rows", "_law_n", "_law_found", "_law_step", "_law_i", "_law_j", "_law_way", "_law_often"]) (ks := []) rfl rfl rfl rfl sub_nil (by decide +kernel)) (pi_list (pv 2)) (fun C s₂ H₂ fp pins => (pg_name (i := 0) (show List.Nodup (["_law_row"] : List Str) by decide +kernel) rfl (Or.inl rfl) (Or.inr rfl))) (fun C s₂ H₂ fp pins => (pe_callTy (by exact call_list_of : CallR _ (.type "list") (rLst K)) rfl n_list (by decide +kernel) (pa_cons (pv 0) pa_nil))))
      (pss_cons (ps_set (i := 4) sc__law_stepped.nd rfl (Or.inl rfl) (pe_callB call_len_seq rfl n_len (by decide +kernel) (pa_cons (pv 3) pa_nil)))
      (pss_cons (ps_set (i := 5) sc__law_stepped.nd rfl (Or.inl rfl) (pe_tup (pa_cons pe_int (pa_cons pe_int pa_nil))))
      (pss_cons (ps_for PassesOwn.never rfl (pi_range1 rfl n_range (pa_cons (pe_def G__law_draw hr (pa_cons (pv 0) (pa_cons pe_int pa_nil)) pass0) pa_nil)) (pg_name (i := 6) sc__law_stepped.nd rfl (Or.inl rfl)) (pss_cons (ps_set (i := 7) sc__law_stepped.nd rfl (Or.inl rfl) (pe_def G__law_draw hr (pa_cons (pv 0) (pa_cons (pv 4) pa_nil)) pass0))
      (pss_cons (ps_set (i := 8) sc__law_stepped.nd rfl (Or.inl rfl) (pe_op op_modN (pe_op op_add (pe_op op_add (pv 7) pe_int) (pe_def G__law_draw hr (pa_cons (pv 0) (pa_cons (pe_callB (call_max2 rfl) rfl n_max (by decide +kernel) (pa_cons pe_int (pa_cons (pe_op op_sub (pv 4) pe_int) pa_nil))) pa_nil)) pass0)) (pv 4)))
      (pss_cons (ps_set (i := 9) sc__law_stepped.nd rfl (Or.inl rfl) (pe_def G__law_draw hr (pa_cons (pv 0) (pa_cons pe_int pa_nil)) pass0))
      (pss_cons (ps_set (i := 10) sc__law_stepped.nd rfl (Or.inr rfl) (pe_def G__law_other hr (pa_cons (pv 0) (pa_cons (pv 1) pa_nil)) pass0))
      (pss_one (ps_if (PW.pt (pw_and (pt_cmpR op_ne (pv 7) (pv 8) (nomark _)) (pw_and1 (pt_cmpR op_eq (pv 9) pe_int (nomark _))))) (pss_one (ps_asg (pe_comp (Nc := ["_law_often", "_law_a", "_law_b"]) (caps := [some 10, none, none]) rfl (Caps.of (osc := defScope s__law_stepped) (N := ["_law_urn_here", "_law_kind", "_law_table", "_law_rows", "_law_n", "_law_found", "_law_step", "_law_i", "_law_j", "_law_way", "_law_often"]) (ks := ["_law_often"]) rfl rfl rfl rfl (sub_cons rfl sub_nil) (by decide +kernel)) (pi_zip rfl n_zip (pa_cons (pe_ix ix_list (pv 3) (pv 7) (fun _ _ => rfl)) (pa_cons (pe_ix ix_list (pv 3) (pv 8) (fun _ _ => rfl)) pa_nil))) (fun C s₂ H₂ fp pins => (show PG _ _ (gTup K 2 (gCons (gName 1) (gCons (gName 2) gNil))) from by (refine pg_tup (n := 2) ?_ ?_ ?_ ?_; rfl; (refine pgs_cons ?_ ?_ ?_; (exact (pg_name (i := 1) (show List.Nodup (["_law_often", "_law_a", "_law_b"] : List Str) by decide +kernel) rfl (Or.inl rfl) (Or.inr rfl))); (refine pgs_cons ?_ ?_ ?_; (exact (pg_name (i := 2) (show List.Nodup (["_law_often", "_law_a", "_law_b"] : List Str) by decide +kernel) rfl (Or.inl rfl) (Or.inr rfl))); (exact pgs_nil); rfl); rfl); rfl; rfl))) (fun C s₂ H₂ fp pins => (pe_def G__law_plus hr (pa_cons (pv 1) (pa_cons (pe_def G__law_times hr (pa_cons (pv 0) (pa_cons (pv 2) pa_nil)) pass0) pa_nil)) pass0))) (pg_sub (pv 3) (pv 7) set_list))) (pss_one (ps_if (PW.pt (pw_and (pt_cmpR op_ne (pv 7) (pv 8) (nomark _)) (pw_and1 (pt_cmpR op_eq (pv 9) pe_int (nomark _))))) (pss_cons (ps_asg (pe_tup (pa_cons (pe_ix ix_list (pv 3) (pv 8) (fun _ _ => rfl)) (pa_cons (pe_ix ix_list (pv 3) (pv 7) (fun _ _ => rfl)) pa_nil))) (show PG _ _ (gTup K 2 (gCons (gSub _ _ rSetL) (gCons (gSub _ _ rSetL) gNil))) from by (refine pg_tup (n := 2) ?_ ?_ ?_ ?_; rfl; (refine pgs_cons ?_ ?_ ?_; (exact (pg_sub (pv 3) (pv 7) set_list)); (refine pgs_cons ?_ ?_ ?_; (exact (pg_sub (pv 3) (pv 8) set_list)); (exact pgs_nil); rfl); rfl); rfl; rfl)))
      (pss_one (ps_set (i := 5) sc__law_stepped.nd rfl (Or.inl rfl) (pe_tup (pa_cons (pe_op op_sub pe_int (pe_ix ix_tup (pv 5) pe_int (fun _ _ => rfl))) (pa_cons (pe_ix ix_tup (pv 5) pe_int (fun _ _ => rfl)) pa_nil)))))) (pss_cons (ps_asg (pe_comp (Nc := ["_law_often", "_law_a"]) (caps := [some 10, none]) rfl (Caps.of (osc := defScope s__law_stepped) (N := ["_law_urn_here", "_law_kind", "_law_table", "_law_rows", "_law_n", "_law_found", "_law_step", "_law_i", "_law_j", "_law_way", "_law_often"]) (ks := ["_law_often"]) rfl rfl rfl rfl (sub_cons rfl sub_nil) (by decide +kernel)) (pi_list (pe_ix ix_list (pv 3) (pv 7) (fun _ _ => rfl))) (fun C s₂ H₂ fp pins => (pg_name (i := 1) (show List.Nodup (["_law_often", "_law_a"] : List Str) by decide +kernel) rfl (Or.inl rfl) (Or.inr rfl))) (fun C s₂ H₂ fp pins => (pe_def G__law_times hr (pa_cons (pv 0) (pa_cons (pv 1) pa_nil)) pass0))) (pg_sub (pv 3) (pv 7) set_list))
      (pss_one (ps_set (i := 5) sc__law_stepped.nd rfl (Or.inl rfl) (pe_def G__law_times hr (pa_cons (pv 5) (pa_cons (pv 10) pa_nil)) pass0)))))))))))))
      (pss_one (ps_ret (pe_tup (pa_cons (pv 3) (pa_cons (pv 5) pa_nil))))))))), ?_⟩
  rw [show start ["_law_urn_here", "_law_kind", "_law_table", "_law_rows", "_law_n", "_law_found", "_law_step", "_law_i", "_law_j", "_law_way", "_law_often"] [.ref u, .int kd, .ref a] = [some (.ref u), some (.int kd), some (.ref a), none, none, none, none, none, none, none, none] from rfl]
  refine seq_cut (fun σ H1 => ∃ (l : Addr) (us : List Addr), σ = [some (.ref u), some (.int kd), some (.ref a), some (.ref l), none, none, none, none, none, none, none] ∧ StAt u H l us M H1) (fun N hN => ?_) ?_
  · subst_eqs
    refine ⟨⟨_, SqL.of T0.at'⟩, fun D hD => copyA T0.at' T0.rws hD (by omega) fun H2 T => ?_⟩
    obtain ⟨s2, us, e2, n2, _, R2⟩ := T
    exact hN _ _ ⟨D, us, rfl, ⟨Same.x s2 u, Same.urn s2 hU, hD, urn_ne hU hD, e2, fun z => (n2 D z).2 rfl, fun t ht => urn_ne hU (n2 t ht).1, R2⟩⟩
  rintro σ H1 ⟨l, us, rfl, D1⟩
  have l1 : us.length = n := by rw [D1.rws.length, lM]
  refine seq_cut (fun σ H2 => H2 = H1 ∧ σ = [some (.ref u), some (.int kd), some (.ref a), some (.ref l), some (.int (n : Int)), none, none, none, none, none, none]) (fun N hN => ?_) ?_
  · subst_eqs
    exact ⟨_, .inl (SqL.of D1.at'), hN _ _ ⟨rfl, by rw [List.length_map, l1]⟩⟩
  rintro σ H2 ⟨rfl, rfl⟩
  refine seq_cut (fun σ H3 => ∃ pf : Addr, σ = [some (.ref u), some (.int kd), some (.ref a), some (.ref l), some (.int (n : Int)), some (.ref pf), none, none, none, none, none] ∧ StAt u H l us M H3 ∧ H3 pf = some (.tup (numV 1))) (fun N hN => ?_) ?_
  · subst_eqs
    exact ⟨by decide, fun p hp => hN _ _ ⟨p, rfl, D1.s (Same.new hp _), upd_same⟩⟩
  rintro σ H3 ⟨pf, rfl, D3, e3⟩
  obtain ⟨I, hI⟩ : ∃ I : Nat → L2.St → Hp → Prop, ∀ c σ H4, I c σ H4 ↔ ∃ (us : List Addr) (N : List (List Rat)) (pf : Addr) (fd : Rat) (o6 o7 o8 o9 o10 : Option V), σ = [some (.ref u), some (.int kd), some (.ref a), some (.ref l), some (.int (n : Int)), some (.ref pf), o6, o7, o8, o9, o10] ∧ StAt u H l us N H4 ∧ H4 pf = some (.tup (numV fd)) ∧ N.length = n ∧ (∀ L ∈ N, L.length = n ∧ ∀ q ∈ L, OvB (60 ^ (c + 1)) (10 + 11 * c) q) ∧ dt n (qq N) = fd * dt n (qq M) ∧ fd ≠ 0 ∧ OvB (60 ^ c) (10 * c + 1) fd := ⟨_, fun _ _ _ => Iff.rfl⟩
  refine seq_cut (fun σ H4 => ∃ c, c ≤ 8 ∧ I c σ H4) (fun N hN => ?_) ?_
  · refine ⟨_, rfl, u, 9, rfl, D3.urn, by decide, by decide, fun r H4 r0 r9 s4 u4 => ⟨_, rfl, by omega, by omega, for_range I ((hI _ _ _).mpr ⟨us, M, pf, 1, _, _, _, _, _, rfl, D3.x s4 u4, s4.tups D3.urn _ _ e3, lM, fun L hL => ⟨(oM L hL).1, fun q hq => by rw [Nat.zero_add, Nat.pow_one]; exact (oM L hL).2 q hq⟩, by grind, by decide, ⟨1, rfl, by decide⟩⟩) ?_ (fun σ H5 h => hN _ _ ⟨r.toNat, by omega, h⟩)⟩⟩
    rintro c σ H5 hc h
    obtain ⟨us, N, pf, fd, o6, o7, o8, o9, o10, rfl, D5, e5, lN, oN, dN, f0, of⟩ := (hI _ _ _).mp h
    refine seq_cut (fun σ H6 => ∃ (i : Nat), σ = [some (.ref u), some (.int kd), some (.ref a), some (.ref l), some (.int (n : Int)), some (.ref pf), some (.int (0 + (c : Int))), some (.int (i : Int)), o8, o9, o10] ∧ SameX u H5 H6 ∧ UrnAt H6 u ∧ i < n) (fun N hN => ?_) ?_
    · clean_wf
      refine ⟨D5.urn, by omega, by omega, fun r H6 r0 r1 s6 u6 => ?_⟩
      obtain ⟨i, rfl⟩ : ∃ i : Nat, r = (i : Int) := ⟨r.toNat, by omega⟩
      exact hN _ _ ⟨i, rfl, s6, u6, by omega⟩
    rintro σ H6 ⟨i, rfl, s6, u6, hi⟩
    refine seq_cut (fun σ H7 => ∃ (j : Nat), σ = [some (.ref u), some (.int kd), some (.ref a), some (.ref l), some (.int (n : Int)), some (.ref pf), some (.int (0 + (c : Int))), some (.int (i : Int)), some (.int (j : Int)), o9, o10] ∧ SameX u H6 H7 ∧ UrnAt H7 u ∧ j < n) (fun N hN => ?_) ?_
    · clean_wf
      refine ⟨u6, ?_, ?_, fun r H7 r0 r1 s7 u7 => ⟨by omega, ?_⟩⟩
      · split <;> omega
      · split <;> omega
      · have h1 := Int.fmod_nonneg_of_pos ((i : Int) + 1 + r) (show (0 : Int) < (n : Int) by omega)
        have h2 := Int.fmod_lt_of_pos ((i : Int) + 1 + r) (show (0 : Int) < (n : Int) by omega)
        generalize ((i : Int) + 1 + r).fmod (n : Int) = z at h1 h2 ⊢
        obtain ⟨j, rfl⟩ : ∃ j : Nat, z = (j : Int) := ⟨z.toNat, by omega⟩
        exact hN _ _ ⟨j, rfl, s7, u7, by omega⟩
    rintro σ H7 ⟨j, rfl, s7, u7, hj⟩
    refine seq_cut (fun σ H8 => ∃ (wy : Int), σ = [some (.ref u), some (.int kd), some (.ref a), some (.ref l), some (.int (n : Int)), some (.ref pf), some (.int (0 + (c : Int))), some (.int (i : Int)), some (.int (j : Int)), some (.int wy), o10] ∧ SameX u H7 H8 ∧ UrnAt H8 u) (fun N hN => ?_) ?_
    · clean_wf
      exact ⟨u7, by decide, by decide, fun r H8 r0 r1 s8 u8 => hN _ _ ⟨r, rfl, s8, u8⟩⟩
    rintro σ H8 ⟨wy, rfl, s8, u8⟩
    refine seq_cut (fun σ H9 => ∃ (po : Addr) (q : Rat), σ = [some (.ref u), some (.int kd), some (.ref a), some (.ref l), some (.int (n : Int)), some (.ref pf), some (.int (0 + (c : Int))), some (.int (i : Int)), some (.int (j : Int)), some (.int wy), some (.ref po)] ∧ SameX u H8 H9 ∧ UrnAt H9 u ∧ H9 po = some (.tup (numV q)) ∧ q ≠ 0 ∧ OvB 60 10 q) (fun N hN => ?_) ?_
    · simp only [ipM, rLst, tComp_eq, tCompIf_eq, tMaxD, iZip, rRep, tSl, tPart, tNoPart, rSlL, rAppend, iEnum, capSt, List.map_cons, List.map_nil, Option.bind_none, Option.bind_some, Option.join_some, tSeq, tIfS, tAnd, tOr, tNot, tTest, tB, tOp, tUn, tBM0, tBM, tVar, tC, tCB, tRet, tAsg, gName, gSub, gTup, gCons, gNil, tCons, tNil, tPar, tTup, tLst, tIf, tAndV, tNotV, tDef, tCallX, tDrop, tNext, tNever, tRaise, tAug, rI, rI0, rU, rBitLen, rIxL, rIxT, rSetL, rEq, rNe, rCount, rIndex, rSplit, rIsI, rCat, iRng1, iRng2, iList, cxOf, cxR, cxX, Cx.nox, Cx.wish, Cx.body, Cx.suite, List.getElem?_cons_zero, List.getElem?_cons_succ, List.set_cons_zero, List.set_cons_succ, Option.some.injEq, V.int.injEq, V.bl.injEq, V.ref.injEq, V.str.injEq, exists_eq_left', exists_eq_left, exists_and_left, true_and, and_true, List.cons.injEq, reduceCtorEq, Bool.false_eq_true, if_false, if_true, exists_const, ↓reduceIte, tyV, List.length_cons, List.length_nil, exists_eq, List.append_nil, List.cons_append, List.nil_append, decide_eq_true_eq, not_true_eq_false, not_false_eq_true, Bool.not_eq_true', decide_eq_false_iff_not, Bool.not_true, Bool.not_false, and_assoc, false_and, false_or, or_false, spOtherC]
      exact ⟨u8, fun r q H9 nk q0 s9 u9 e9 => hN _ _ ⟨r, q, rfl, s9, u9, e9, q0, up nk⟩⟩
    rintro σ H9 ⟨po, q, rfl, s9, u9, epo, q0, oq⟩
    have S59 := ((s6.trans s7).trans s8).trans s9
    have D9 := D5.x S59 u9
    have epf := S59.tups D5.urn _ _ e5
    have c8 : c < 8 := by omega
    have lus : us.length = n := by rw [D5.rws.length, lN]
    have upN : ∀ L ∈ N, L.length = n ∧ ∀ x ∈ L, OvB (60 ^ (c + 1 + 1)) (10 + 11 * (c + 1)) x := fun L hL => ⟨(oN L hL).1, fun x hx => by
      have := ((oN L hL).2 x hx).up (Nat.pow_pos (by decide)) (C := 60) (c := 6) (by decide) (by decide)
      rw [← Nat.pow_succ] at this
      exact this.mono (by omega)⟩
    have upf : OvB (60 ^ (c + 1)) (10 * (c + 1) + 1) fd := by
      have := of.up (Nat.pow_pos (by decide)) (C := 60) (c := 6) (by decide) (by decide)
      rw [← Nat.pow_succ] at this
      exact this.mono (by omega)
    have bE : ∀ L ∈ N, ∀ x ∈ L, BdN 99 x := fun L hL x hx => OvB.bdN (Nat.pow_pos (by decide)) (Nat.lt_of_lt_of_le (w60 (c + 1)) (pow_le_pow2 (by omega))) (((oN L hL).2 x hx).mono (by omega))
    have bq : BdN 10 q := oq.bdN (by decide) (by decide)
    obtain ⟨ri, xi, Li, a1, a2, a3, a4, a5, a6⟩ : ∃ (p : Addr) (xs : List V) (L : List Rat), us[i]? = some p ∧ N[i]? = some L ∧ H9 p = some (.lst xs) ∧ Nums H9 xs L ∧ L.length = n ∧ ∀ y, qq N i y = aQ L y := by
      obtain ⟨p, hp⟩ : ∃ p, us[i]? = some p := ⟨_, List.getElem?_eq_getElem (by omega)⟩
      obtain ⟨xs, L, b1, b2, b3⟩ := D9.rws.get hp
      exact ⟨p, xs, L, hp, b1, b2, b3, (oN L (List.mem_of_getElem? b1)).1, fun y => by unfold qq; rw [b1]; rfl⟩
    obtain ⟨rj, xj, Lj, b1, b2, b3, b4, b5, b6⟩ : ∃ (p : Addr) (xs : List V) (L : List Rat), us[j]? = some p ∧ N[j]? = some L ∧ H9 p = some (.lst xs) ∧ Nums H9 xs L ∧ L.length = n ∧ ∀ y, qq N j y = aQ L y := by
      obtain ⟨p, hp⟩ : ∃ p, us[j]? = some p := ⟨_, List.getElem?_eq_getElem (by omega)⟩
      obtain ⟨xs, L, b1, b2, b3⟩ := D9.rws.get hp
      exact ⟨p, xs, L, hp, b1, b2, b3, (oN L (List.mem_of_getElem? b1)).1, fun y => by unfold qq; rw [b1]; rfl⟩
    have mi := List.mem_of_getElem? a2
    have mj := List.mem_of_getElem? b2
    have ati : (us.map V.ref)[i]? = some (.ref ri) := by rw [List.getElem?_map, a1]; rfl
    have atj : (us.map V.ref)[j]? = some (.ref rj) := by rw [List.getElem?_map, b1]; rfl
    have li : (us.map V.ref).length = n := by rw [List.length_map, lus]
    have put : ∀ {us : List Addr} {N : List (List Rat)} {i : Nat} (D : Addr) (zs : List V) (L' : List Rat) (H10 : Hp), StAt u H l us N H10 → H10 D = some (.lst zs) → Nums H10 zs L' → D ≠ l → D ≠ u → StAt u H l (us.set i D) (N.set i L') (upd H10 l (.lst ((us.map V.ref).set i (V.ref D)))) := fun {us N i} D zs L' H10 D10 eD nD dl du => by
      have nl : l ∉ us.set i D := fun z => by
        rcases List.mem_or_eq_of_mem_set z with z | z
        · exact D10.nl z
        · exact dl z.symm
      refine ⟨fun b o h n => ?_, D10.urn.other D10.lu, D10.fr, D10.lu, by rw [upd_same, List.map_set], nl, fun t ht => ?_, (D10.rws.set i eD nD).over D10.at' nl⟩
      · rw [upd_ne (ne_of_none h D10.fr)]
        exact D10.same _ _ h n
      · rcases List.mem_or_eq_of_mem_set ht with z | z
        · exact D10.nu t z
        · rw [z]; exact du
    have rowN : ∀ L' : List Rat, L'.length = n → (∀ x ∈ L', OvB (60 ^ (c + 1 + 1)) (10 + 11 * (c + 1)) x) → ∀ L ∈ N.set i L', L.length = n ∧ ∀ x ∈ L, OvB (60 ^ (c + 1 + 1)) (10 + 11 * (c + 1)) x := fun L' h1 h2 L hL => by
      rcases List.mem_or_eq_of_mem_set hL with z | z
      · exact upN L z
      · rw [z]; exact ⟨h1, h2⟩
    have at2 : ∀ {xs : List V} {L : List Rat}, Nums H9 xs L → L.length = n → ∀ y, y < n → ∃ py, xs[y]? = some (.ref py) ∧ H9 py = some (.tup (numV (aQ L y))) := fun hN hl y hy => by
      rename_i xs L
      have ey := List.getElem?_eq_getElem (l := L) (i := y) (by omega)
      obtain ⟨py, g1, g2⟩ := hN.get ey
      exact ⟨py, g1, by unfold aQ; rw [ey]; exact g2⟩
    have mem2 : ∀ (L : List Rat), L ∈ N → ∀ y, y < n → aQ L y ∈ L := fun L hL y hy => by
      have ey := List.getElem?_eq_getElem (l := L) (i := y) (by rw [(oN L hL).1]; exact hy)
      unfold aQ
      rw [ey]; exact List.mem_of_getElem? ey
    have lxi : xi.length = n := by rw [a4.length, a5]
    have lxj : xj.length = n := by rw [b4.length, b5]
    have scale : ∃ x, SqL K H9 l x ∧ ∃ x_1, atI x (i : Int) = some x_1 ∧ ∃ a_1, x_1 = V.ref a_1 ∧ (∃ xs, SqL K H9 a_1 xs) ∧ ∀ D, H9 D = none → CompW (Itl K a_1) D [some (.ref po), none] (upd H9 D (.lst [])) (gName 1) (tDef (spLBin K fun x1 x2 => x1 * x2) E0 (tCons (tVar 0) (tCons (tVar 1) tNil))) fun x H1 => ∃ x_2, H1 l = some (.lst x_2) ∧ ∃ x_3, ixN x_2.length (i : Int) = some x_3 ∧ spLBin K (fun x1 x2 => x1 * x2) [.ref pf, .ref po] (upd H1 l (.lst (x_2.set x_3 x))) (fun x H1 => I (c + 1) [some (.ref u), some (.int kd), some (.ref a), some (.ref l), some (.int (n : Int)), some x, some (.int (0 + (c : Int))), some (.int (i : Int)), some (.int (j : Int)), some (.int wy), some (.ref po)] H1) E0 := by
      obtain ⟨NR, hNR⟩ : ∃ NR, NR = (List.range n).map fun y => q * aQ Li y := ⟨_, rfl⟩
      have nl : NR.length = n := by rw [hNR, List.length_map, List.length_range]
      have nv : ∀ y, y < n → NR[y]? = some (q * aQ Li y) := fun y hy => by rw [hNR, List.getElem?_map, List.getElem?_range hy]; rfl
      refine ⟨_, SqL.of D9.at', _, atI_nat ati, ri, rfl, ⟨_, SqL.of a3⟩, fun D hD => ?_⟩
      obtain ⟨Pv, hPv⟩ : ∃ Pv : Nat → L2.St → Hp → Prop, ∀ y σ H10, Pv y σ H10 ↔ ∃ (o1 : Option V), σ = [some (.ref po), o1] ∧ RowAt H9 D (NR.take y) H10 := ⟨_, fun _ _ _ => Iff.rfl⟩
      refine cw_list xi Pv ((hPv _ _ _).mpr ⟨_, rfl, RowAt.start hD⟩) (fun y σ H10 _ h => ?_) ?_ ?_
      · obtain ⟨_, _, R⟩ := (hPv _ _ _).mp h
        exact SqL.of (R.same _ _ a3)
      · rintro y vx σ H10 hx h
        obtain ⟨o1, rfl, R⟩ := (hPv _ _ _).mp h
        have yn : y < n := by have := (List.getElem?_eq_some_iff.mp hx).1; omega
        obtain ⟨pa, ga, ha⟩ := at2 a4 a5 y yn
        rw [ga] at hx
        cases hx
        simp only [ipM, rLst, tComp_eq, tCompIf_eq, tMaxD, iZip, rRep, tSl, tPart, tNoPart, rSlL, rAppend, iEnum, capSt, List.map_cons, List.map_nil, Option.bind_none, Option.bind_some, Option.join_some, tSeq, tIfS, tAnd, tOr, tNot, tTest, tB, tOp, tUn, tBM0, tBM, tVar, tC, tCB, tRet, tAsg, gName, gSub, gTup, gCons, gNil, tCons, tNil, tPar, tTup, tLst, tIf, tAndV, tNotV, tDef, tCallX, tDrop, tNext, tNever, tRaise, tAug, rI, rI0, rU, rBitLen, rIxL, rIxT, rSetL, rEq, rNe, rCount, rIndex, rSplit, rIsI, rCat, iRng1, iRng2, iList, cxOf, cxR, cxX, Cx.nox, Cx.wish, Cx.body, Cx.suite, List.getElem?_cons_zero, List.getElem?_cons_succ, List.set_cons_zero, List.set_cons_succ, Option.some.injEq, V.int.injEq, V.bl.injEq, V.ref.injEq, V.str.injEq, exists_eq_left', exists_eq_left, exists_and_left, true_and, and_true, List.cons.injEq, reduceCtorEq, Bool.false_eq_true, if_false, if_true, exists_const, ↓reduceIte, tyV, List.length_cons, List.length_nil, exists_eq, List.append_nil, List.cons_append, List.nil_append, decide_eq_true_eq, not_true_eq_false, not_false_eq_true, Bool.not_eq_true', decide_eq_false_iff_not, Bool.not_true, Bool.not_false, and_assoc, false_and, false_or, or_false, spLBin]
        refine ⟨q, ⟨_, rfl, SqT.of (R.same _ _ epo)⟩, _, ⟨_, rfl, SqT.of (R.same _ _ ha)⟩, 10, bq.t (by omega), 99, (bE Li mi _ (mem2 Li mi y yn)).t (by omega), by omega, fun r1 H12 s12 e12 => ?_⟩
        obtain ⟨ys, eD, yl, R'⟩ := R.add hD s12 e12
        refine CompN.mk (by rw [lxi]; exact yn) eD (len_ok (by rw [yl, List.length_take]; omega)) ((hPv _ _ _).mpr ⟨_, rfl, ?_⟩)
        rw [take_snoc_get (nv y yn)]
        exact R'
      · intro σ H10 h
        obtain ⟨o1, rfl, R⟩ := (hPv _ _ _).mp h
        rw [take_all (by rw [lxi, nl]; exact Nat.le_refl _)] at R
        obtain ⟨s10, ys, eD, nD⟩ := R
        have D10 := D9.s s10
        have Dl : D ≠ l := (ne_of_none D9.at' hD).symm
        have Du : D ≠ u := urn_ne D9.urn hD
        have DP := put (i := i) D ys NR H10 D10 eD nD Dl Du
        have pfl : pf ≠ l := fun z => by rw [z, D9.at'] at epf; cases epf
        have pol : po ≠ l := fun z => by rw [z, D9.at'] at epo; cases epo
        refine ⟨_, D10.at', i, ixN_of (by rw [li]; exact hi), ?_⟩
        simp only [spLBin]
        refine ⟨_, _, fd, q, 99, 10, rfl, ⟨_, rfl, SqT.of (by rw [upd_ne pfl]; exact s10 _ _ epf)⟩, ⟨_, rfl, SqT.of (by rw [upd_ne pol]; exact s10 _ _ epo)⟩, (OvB.bdN (W := 99) (Nat.pow_pos (by decide)) (Nat.lt_of_lt_of_le (w60 c) (pow_le_pow2 (by omega))) (of.mono (by omega))).t (by omega), bq.t (by omega), by omega, fun r2 H11 s11 e11 => ?_⟩
        refine (hI _ _ _).mpr ⟨us.set i D, N.set i NR, r2, fd * q, _, _, _, _, _, rfl, DP.s s11, e11, by rw [List.length_set, lN], rowN NR nl (fun x hx => ?_), ?_, fun z => ?_, ?_⟩
        · rw [hNR] at hx
          obtain ⟨y, hy, rfl⟩ := List.mem_map.mp hx
          have := oq.mul ((oN Li mi).2 _ (mem2 Li mi y (List.mem_range.mp hy)))
          rw [Nat.mul_comm 60, ← Nat.pow_succ] at this
          exact this.mono (by omega)
        · have e1 : dt n (qq (N.set i NR)) = dt n (setR (qq N) i fun y => q * qq N i y + 0 * qq N i y) := dt_congr fun x hx y hy => by
            rw [qq_set (by omega)]
            unfold setR
            by_cases z : x = i
            · rw [if_pos z, if_pos z]
              unfold aQ
              rw [nv y hy]
              show q * aQ Li y = q * qq N i y + 0 * qq N i y
              rw [a6]; grind
            · rw [if_neg z, if_neg z]
          rw [e1, dt_lin _ q 0 _ _ hi, setR_self, dN]; grind
        · rcases Rat.mul_eq_zero.mp z with z | z
          · exact f0 z
          · exact q0 z
        · have := of.mul oq
          rw [← Nat.pow_succ] at this
          exact this.mono (by omega)
    subst_eqs
    refine ⟨rfl, ite2 (fun h1 => ⟨rfl, ite2 (fun h2 => ?_) (fun h2 => ⟨rfl, ite2 (fun h3 => ⟨rfl, ite2 (fun h4 => ?_) (fun h4 => scale)⟩) (fun h3 => scale)⟩)⟩) (fun h1 => ⟨rfl, ite2 (fun h3 => absurd h3 h1) (fun _ => scale)⟩)⟩
    · have ij : i ≠ j := fun z => h1 (by rw [z])
      obtain ⟨NR, hNR⟩ : ∃ NR, NR = (List.range n).map fun y => aQ Li y + q * aQ Lj y := ⟨_, rfl⟩
      have nl : NR.length = n := by rw [hNR, List.length_map, List.length_range]
      have nv : ∀ y, y < n → NR[y]? = some (aQ Li y + q * aQ Lj y) := fun y hy => by rw [hNR, List.getElem?_map, List.getElem?_range hy]; rfl
      refine ⟨_, SqL.of D9.at', _, atI_nat ati, _, SqL.of D9.at', _, atI_nat atj, ri, rfl, rj, rfl, ⟨_, SqL.of a3⟩, ⟨_, SqL.of b3⟩, fun D hD => ?_⟩
      have mn : min xi.length xj.length = n := by omega
      obtain ⟨Pv, hPv⟩ : ∃ Pv : Nat → L2.St → Hp → Prop, ∀ y σ H10, Pv y σ H10 ↔ ∃ (o1 o2 : Option V), σ = [some (.ref po), o1, o2] ∧ RowAt H9 D (NR.take y) H10 := ⟨_, fun _ _ _ => Iff.rfl⟩
      refine cw_zip xi xj Pv ((hPv _ _ _).mpr ⟨_, _, rfl, RowAt.start hD⟩) (fun y σ H10 h => ?_) ?_ ?_
      · obtain ⟨_, _, _, R⟩ := (hPv _ _ _).mp h
        exact ⟨SqL.of (R.same _ _ a3), SqL.of (R.same _ _ b3)⟩
      · rintro y vx vy σ H10 pp hx hy h hpp
        obtain ⟨o1, o2, rfl, R⟩ := (hPv _ _ _).mp h
        have yn : y < n := by have := (List.getElem?_eq_some_iff.mp hx).1; omega
        obtain ⟨pa, ga, ha⟩ := at2 a4 a5 y yn
        obtain ⟨pb, gb, hb⟩ := at2 b4 b5 y yn
        rw [ga] at hx
        rw [gb] at hy
        cases hx
        cases hy
        obtain ⟨H11, y11, X11, g11⟩ := new_any (.tup [V.ref pa, V.ref pb]) hpp
        rw [← y11]
        have S := R.same.trans X11
        have bj := bE Lj mj _ (mem2 Lj mj y yn)
        simp only [ipM, rLst, tComp_eq, tCompIf_eq, tMaxD, iZip, rRep, tSl, tPart, tNoPart, rSlL, rAppend, iEnum, capSt, List.map_cons, List.map_nil, Option.bind_none, Option.bind_some, Option.join_some, tSeq, tIfS, tAnd, tOr, tNot, tTest, tB, tOp, tUn, tBM0, tBM, tVar, tC, tCB, tRet, tAsg, gName, gSub, gTup, gCons, gNil, tCons, tNil, tPar, tTup, tLst, tIf, tAndV, tNotV, tDef, tCallX, tDrop, tNext, tNever, tRaise, tAug, rI, rI0, rU, rBitLen, rIxL, rIxT, rSetL, rEq, rNe, rCount, rIndex, rSplit, rIsI, rCat, iRng1, iRng2, iList, cxOf, cxR, cxX, Cx.nox, Cx.wish, Cx.body, Cx.suite, List.getElem?_cons_zero, List.getElem?_cons_succ, List.set_cons_zero, List.set_cons_succ, Option.some.injEq, V.int.injEq, V.bl.injEq, V.ref.injEq, V.str.injEq, exists_eq_left', exists_eq_left, exists_and_left, true_and, and_true, List.cons.injEq, reduceCtorEq, Bool.false_eq_true, if_false, if_true, exists_const, ↓reduceIte, tyV, List.length_cons, List.length_nil, exists_eq, List.append_nil, List.cons_append, List.nil_append, decide_eq_true_eq, not_true_eq_false, not_false_eq_true, Bool.not_eq_true', decide_eq_false_iff_not, Bool.not_true, Bool.not_false, and_assoc, false_and, false_or, or_false, spLBin]
        refine ⟨_, SqT.of g11, rfl, _, _, rfl, _, _, rfl, rfl, ?_⟩
        refine ⟨q, ⟨_, rfl, SqT.of (S _ _ epo)⟩, _, ⟨_, rfl, SqT.of (S _ _ hb)⟩, 10, bq.t (by omega), 99, bj.t (by omega), by omega, fun r1 H12 s12 e12 => ?_⟩
        refine ⟨_, ⟨_, rfl, SqT.of (s12 _ _ (S _ _ ha))⟩, _, ⟨_, rfl, SqT.of e12⟩, 99, (bE Li mi _ (mem2 Li mi y yn)).t (by omega), 109, (bq.mul bj).t (by omega), by omega, fun r2 H13 s13 e13 => ?_⟩
        obtain ⟨ys, eD, yl, R'⟩ := R.add hD ((X11.trans s12).trans s13) e13
        refine CompN.mk (by rw [mn]; exact yn) eD (len_ok (by rw [yl, List.length_take]; omega)) ((hPv _ _ _).mpr ⟨_, _, rfl, ?_⟩)
        rw [take_snoc_get (nv y yn)]
        exact R'
      · intro σ H10 h
        obtain ⟨o1, o2, rfl, R⟩ := (hPv _ _ _).mp h
        rw [take_all (by rw [mn, nl]; exact Nat.le_refl _)] at R
        obtain ⟨s10, ys, eD, nD⟩ := R
        have D10 := D9.s s10
        have Dl : D ≠ l := (ne_of_none D9.at' hD).symm
        have pfl : pf ≠ l := fun z => by rw [z, D9.at'] at epf; cases epf
        refine ⟨_, D10.at', i, ixN_of (by rw [li]; exact hi), (hI _ _ _).mpr ⟨us.set i D, N.set i NR, pf, fd, _, _, _, _, _, rfl, put D ys NR H10 D10 eD nD Dl (urn_ne D9.urn hD), by rw [upd_ne pfl]; exact s10 _ _ epf, by rw [List.length_set, lN], rowN NR nl (fun x hx => ?_), ?_, f0, upf⟩⟩
        · rw [hNR] at hx
          obtain ⟨y, hy, rfl⟩ := List.mem_map.mp hx
          have hy := List.mem_range.mp hy
          have o1 := oq.mul ((oN Lj mj).2 _ (mem2 Lj mj y hy))
          rw [Nat.mul_comm 60, ← Nat.pow_succ] at o1
          have o2 := ((oN Li mi).2 _ (mem2 Li mi y hy)).up (Nat.pow_pos (by decide)) (C := 60) (c := 6) (by decide) (by decide)
          rw [← Nat.pow_succ] at o2
          exact (OvB.add (W := 20 + 11 * c) (Nat.pow_pos (by decide)) (o2.mono (by omega)) (o1.mono (by omega))).mono (by omega)
        · have e1 : dt n (qq (N.set i NR)) = dt n (setR (qq N) i fun y => 1 * qq N i y + q * qq N j y) := dt_congr fun x hx y hy => by
            rw [qq_set (by omega)]
            unfold setR
            by_cases z : x = i
            · rw [if_pos z, if_pos z]
              unfold aQ
              rw [nv y hy]
              show aQ Li y + q * aQ Lj y = 1 * qq N i y + q * qq N j y
              rw [a6, b6]; grind
            · rw [if_neg z, if_neg z]
          rw [e1, dt_row 1 q hi hj ij, dN]; grind
    · have ij : i ≠ j := fun z => h1 (by rw [z])
      refine ⟨_, SqL.of D9.at', _, atI_nat atj, _, SqL.of D9.at', _, atI_nat ati, by decide, fun r hr => ?_⟩
      obtain ⟨H10, y10, X10, g10⟩ := new_any (.tup [V.ref rj, V.ref ri]) hr
      rw [← y10]
      have D10 := D9.s X10
      have pfl : pf ≠ l := fun z => by rw [z, D9.at'] at epf; cases epf
      have DA := put (i := i) rj xj Lj H10 D10 (X10 _ _ b3) (b4.mono X10.tups) (fun z => D9.nl (z ▸ List.mem_of_getElem? b1)) (D9.nu rj (List.mem_of_getElem? b1))
      have pf8 : ∀ o1 o2, upd (upd H10 l o1) l o2 pf = some (.tup (numV fd)) := fun o1 o2 => by rw [upd_ne pfl, upd_ne pfl]; exact X10 _ _ epf
      refine ⟨_, SqT.of g10, rfl, _, _, rfl, _, D10.at', i, ixN_of (by rw [li]; exact hi), _, _, rfl, _, upd_same, j, ixN_of (by rw [List.length_set, li]; exact hj), rfl, ?_⟩
      have ril : ri ≠ l := fun z => D9.nl (z ▸ List.mem_of_getElem? a1)
      have DB := put (i := j) ri xi Li _ DA (show (upd H10 l (.lst ((us.map V.ref).set i (V.ref rj)))) ri = some (.lst xi) by rw [upd_ne ril]; exact X10 _ _ a3) ((a4.mono X10.tups).mono (TupS.lst D10.at')) (fun z => D9.nl (z ▸ List.mem_of_getElem? a1)) (D9.nu ri (List.mem_of_getElem? a1))
      rw [List.map_set] at DB
      refine ⟨_, SqT.of (pf8 _ _), _, at0 _, _, rfl, _, SqT.of (pf8 _ _), _, at1 _, by decide, fun r2 hr2 => ?_⟩
      have X11 := Same.new hr2 (.tup [V.int (0 - fd.num), V.int (fd.den : Int)])
      refine (hI _ _ _).mpr ⟨_, (N.set i Lj).set j Li, r2, -fd, _, _, _, _, _, rfl, DB.s X11, ?_, by rw [List.length_set, List.length_set, lN], fun L hL => ?_, ?_, fun z => f0 (by grind), upf.neg⟩
      · rw [upd_same]
        unfold numV
        rw [Rat.neg_num, Rat.neg_den, Int.zero_sub]
      · rcases List.mem_or_eq_of_mem_set hL with z | z
        · rcases List.mem_or_eq_of_mem_set z with z | z
          · exact upN L z
          · rw [z]; exact upN Lj mj
        · rw [z]; exact upN Li mi
      · have e1 : dt n (qq ((N.set i Lj).set j Li)) = dt n (swU (qq N) i j) := dt_congr fun x hx y hy => by
          rw [qq_set (by rw [List.length_set]; omega), qq_set (by omega)]
          unfold swU
          by_cases z : x = j
          · rw [if_pos z, if_neg (by omega), if_pos z, a6]
          · rw [if_neg z, if_neg z]
            by_cases w : x = i
            · rw [if_pos w, if_pos w, b6]
            · rw [if_neg w, if_neg w]
        rw [e1, dt_swU hi hj ij, dN]; grind
  rintro σ H4 ⟨c, hc, h⟩
  obtain ⟨us, N, pf, fd, o6, o7, o8, o9, o10, rfl, D4, e4, lN, oN, dN, f0, of⟩ := (hI _ _ _).mp h
  subst_eqs
  refine ⟨by decide, fun p hp => ?_⟩
  have X := Same.new hp (.tup [.ref l, .ref pf])
  refine k p l pf us N fd _ (D4.s X) upd_same (X _ _ e4) lN (fun L hL => ⟨(oN L hL).1, fun q hq => ?_⟩) dN f0 ?_
  · have := ((oN L hL).2 q hq).up (Nat.pow_pos (by decide)) (C := 60 ^ (8 - c)) (c := 6 * (8 - c) + 1) (Nat.pow_pos (by decide)) (w60 _)
    rw [← Nat.pow_add, show c + 1 + (8 - c) = 9 by omega] at this
    exact this.mono (by omega)
  · have := of.up (Nat.pow_pos (by decide)) (C := 60 ^ (8 - c)) (c := 6 * (8 - c) + 1) (Nat.pow_pos (by decide)) (w60 _)
    rw [← Nat.pow_add, show c + (8 - c) = 8 by omega] at this
    exact this.mono (by omega)
end
end R

set_option maxRecDepth 100000
namespace R
open PySem L2 PyProof.Rows
section
variable {P : Program} {w : World} {K : PySem.W.Frag} {mg : Str → Option Value} {base : Heap}
def spIsTab (K : PySem.W.Frag) : Sp := fun vs H Q _ => ∃ (a : Addr) (ts : List Addr) (M : List (List Rat)), vs = [.ref a, .int M.length] ∧ H a = some (.lst (ts.map V.ref)) ∧ RwsC K H ts M ∧ M.length ≤ 7 ∧ (∀ L ∈ M, L.length = M.length ∧ ∀ q ∈ L, BdN 6000 q) ∧ ∀ H', Same H H' → Q (.bl true) H'
abbrev s__law_is_table : Stmt := top 51
theorem sc__law_is_table : FnScope ["_law_thing", "_law_n", "_law_row"] ["_law_thing", "_law_n"] (defScope s__law_is_table) := ⟨rfl, rfl, rfl, by decide +kernel, rfl, by decide +kernel, by decide +kernel⟩
set_option maxHeartbeats 0 in
theorem ok__law_is_table {f fd : Addr} (d : Df K mg "_law_is_table" s__law_is_table ["_law_thing", "_law_n"] f) (G__law_is_number : Def P w K mg base CX0 2 "_law_is_number" fd ["_law_thing"] (spIsNum K)) (n_isinstance : mg "isinstance" = none) (n_list : mg "list" = none) (n_len : mg "len" = none) (n_all : mg "all" = none) : Def P w K mg base CX0 3 "_law_is_table" f ["_law_thing", "_law_n"] (spIsTab K) := by
  refine d.ok (N := ["_law_thing", "_law_n", "_law_row"]) sc__law_is_table (by rintro vs H Q E ⟨_, _, _, h, _⟩; rw [h]; rfl) (fun cdv A outer s H vs Q E hr h => ?_)
  obtain ⟨a, ts, M, rfl, ha, hR, hM, hL, k⟩ := h
  have hu := hr.units
  refine ⟨_, (pss_cons (ps_if (PW.pt (pw_or (pt_not (pt_val (pe_callB call_isinst rfl n_isinstance (by decide +kernel) (pa_cons (pv 0) (pa_cons (pe_bltn (v := .ty "list") rfl n_list (by decide +kernel) rfl) pa_nil))))) (pw_or1 (pt_cmpR op_ne (pe_callB call_len_seq rfl n_len (by decide +kernel) (pa_cons (pv 0) pa_nil)) (pv 1) (nomark _))))) (pss_one (ps_ret pe_bl)) pss_nil)
      (pss_cons (ps_for PassesOwn.never rfl (pi_list (pv 0)) (pg_name (i := 2) sc__law_is_table.nd rfl (Or.inl rfl)) (pss_one (ps_if (PW.pt (pw_or (pt_not (pt_val (pe_callB call_isinst rfl n_isinstance (by decide +kernel) (pa_cons (pv 2) (pa_cons (pe_bltn (v := .ty "list") rfl n_list (by decide +kernel) rfl) pa_nil))))) (pw_or (pt_cmpR op_ne (pe_callB call_len_seq rfl n_len (by decide +kernel) (pa_cons (pv 2) pa_nil)) (pv 1) (nomark _)) (pw_or1 (pt_not (pt_val (pe_callB (call_all rfl) rfl n_all (by decide +kernel) (pa_cons (pe_comp (Nc := ["_law_one"]) (caps := [none]) rfl (Caps.of (osc := defScope s__law_is_table) (N := ["_law_thing", "_law_n", "_law_row"]) (ks := []) rfl rfl rfl rfl sub_nil (by decide +kernel)) (pi_list (pv 2)) (fun C s₂ H₂ fp pins => (pg_name (i := 0) (show List.Nodup (["_law_one"] : List Str) by decide +kernel) rfl (Or.inl rfl) (Or.inr rfl))) (fun C s₂ H₂ fp pins => (pe_def G__law_is_number hr (pa_cons (pv 0) pa_nil) pass0))) pa_nil)))))))) (pss_one (ps_ret pe_bl)) pss_nil)))
      (pss_one (ps_ret pe_bl)))), ?_⟩
  rw [show start ["_law_thing", "_law_n", "_law_row"] [.ref a, .int M.length] = [some (.ref a), some (.int M.length), none] from rfl]
  subst_eqs
  have hRl := hR.length
  refine ⟨trivial, _, .of (.lst ha), _, kit_list_list, ite2 (fun z => by cases z) (fun _ => ?_)⟩
  refine ⟨_, .inl (SqL.of ha), rfl, ite2 (fun z => absurd (by rw [List.length_map, hRl]) z) (fun _ => ?_)⟩
  refine ⟨_, rfl, a, rfl, ⟨_, SqL.of ha⟩, for_list (xs := ts.map V.ref) (fun i σ H2 => ∃ o, σ = [some (.ref a), some (.int M.length), o] ∧ Same H H2) ⟨_, rfl, Same.refl _⟩ (fun i σ H2 _ ⟨_, _, s2⟩ => SqL.of (s2 _ _ ha)) ?_ ?_⟩
  · rintro i x σ H2 hx ⟨o, rfl, s2⟩
    obtain ⟨t, ht, rfl⟩ := refs_get hx
    obtain ⟨xs, L, hL', et, nt⟩ := hR.get ht
    have hLm := hL L (List.mem_of_getElem? hL')
    have lx := nt.length
    have l7 := hLm.1
    have et2 := s2 _ _ et
    subst_eqs
    refine ⟨trivial, _, .of (.lst et2), _, kit_list_list, ite2 (fun z => by cases z) (fun _ => ?_)⟩
    refine ⟨_, .inl (SqL.of et2), rfl, ite2 (fun z => absurd (by rw [lx, l7]) z) (fun _ => ?_)⟩
    refine ⟨⟨_, SqL.of et2⟩, fun D hD => ?_⟩
    refine cw_list xs (fun j σ H3 => ∃ o, σ = [o] ∧ Same H2 H3 ∧ H3 D = some (.lst ((List.replicate j true).map V.bl))) ⟨_, rfl, Same.new hD _, upd_same⟩ (fun j σ H3 _ ⟨o, _, s3, _⟩ => SqL.of (s3 _ _ et2)) ?_ ?_
    · rintro j x σ H3 hx2 ⟨o, rfl, s3, e3⟩
      have hj : j < xs.length := (List.getElem?_eq_some_iff.mp hx2).1
      obtain ⟨p, q, rfl, hq, hp⟩ := nt.getV hx2
      subst_eqs
      have sq := (hLm.2 q (List.mem_of_getElem? hq)).bd6 (by decide)
      refine ⟨_, q, rfl, ⟨p, rfl, (hp.mono (s2.trans s3).tups).sqt⟩, ?_, fun H4 s4 => ?_⟩
      · rw [Int.natAbs_natCast]
        exact sq.d
      · refine CompN.mk hj (s4 _ _ e3) (by simp; exact Nat.lt_of_lt_of_le (show j < 1000 by omega) (by decide)) ⟨_, rfl, (s3.trans s4).over hD _, ?_⟩
        rw [upd_same, List.replicate_succ', List.map_append]
        rfl
    · rintro σ H3 ⟨o, rfl, s3, e3⟩
      refine ⟨D, rfl, _, SqL.of e3, ite2 (fun z => by simp at z) (fun _ => s2.trans s3)⟩
  · rintro σ H2 ⟨o, rfl, s2⟩
    subst_eqs
    exact k H2 s2
end
end R

set_option maxRecDepth 100000
namespace R
open PySem L2 PyProof.Rows
theorem list_aq {L : List Rat} {n : Nat} (h : L.length = n) : L = (List.range n).map (aQ L) := by
  refine List.ext_getElem? fun i => ?_
  by_cases hi : i < n
  · rw [List.getElem?_map, List.getElem?_range hi, List.getElem?_eq_getElem (by omega)]
    show _ = some ((L[i]?).getD 0)
    rw [List.getElem?_eq_getElem (by omega)]; rfl
  · rw [List.getElem?_eq_none (by omega), List.getElem?_eq_none (by rw [List.length_map, List.length_range]; omega)]
theorem tab_eq {M N : List (List Rat)} {n : Nat} (lM : M.length = n) (lN : N.length = n) (rM : ∀ L ∈ M, L.length = n) (rN : ∀ L ∈ N, L.length = n) (e : ∀ i j, i < n → j < n → qq M i j = qq N i j) : M = N := by
  refine List.ext_getElem? fun i => ?_
  by_cases hi : i < n
  · have e1 := List.getElem?_eq_getElem (l := M) (i := i) (by omega)
    have e2 := List.getElem?_eq_getElem (l := N) (i := i) (by omega)
    rw [e1, e2]
    congr 1
    rw [list_aq (rM _ (List.mem_of_getElem? e1)), list_aq (rN _ (List.mem_of_getElem? e2))]
    refine List.map_congr_left fun j hj => ?_
    have := e i j hi (List.mem_range.mp hj)
    unfold qq at this
    rw [e1, e2] at this
    exact this
  · rw [List.getElem?_eq_none (by omega), List.getElem?_eq_none (by omega)]
theorem prod_unit {A B : List (List Rat)} {n : Nat} (lA : A.length = n) (lB : B.length = n) (rA : ∀ L ∈ A, L.length = n) (rB : ∀ L ∈ B, L.length = n) (e : ∀ i j, i < n → j < n → sumTo (fun t => qq A i t * qq B t j) n = dij i j) : prodQ A B = unitQ n := by
  refine List.ext_getElem? fun i => ?_
  by_cases hi : i < n
  · have e1 := List.getElem?_eq_getElem (l := A) (i := i) (by omega)
    rw [prod_get e1]
    unfold unitQ
    rw [List.getElem?_map, List.getElem?_range hi]
    congr 1
    unfold flipQ
    rw [lB, List.map_map]
    refine List.map_congr_left fun j hj => ?_
    have hj := List.mem_range.mp hj
    have rl := rA _ (List.mem_of_getElem? e1)
    have cl : (colQ B j).length = n := by rw [col_len, lB]
    show dotQ _ (colQ B j) = _
    rw [list_aq rl, list_aq cl, dot_range]
    rw [sumTo_congr (g := fun t => qq A i t * qq B t j) fun t ht => ?_]
    · exact e i j hi hj
    · congr 1
      · unfold qq; rw [e1]; rfl
      · have e2 := List.getElem?_eq_getElem (l := B) (i := t) (by omega)
        unfold qq aQ colQ
        rw [List.getElem?_map, e2]; rfl
  · rw [List.getElem?_eq_none (by rw [prod_len]; omega), List.getElem?_eq_none (by unfold unitQ; rw [List.length_map, List.length_range]; omega)]
theorem back_uniq {A B M : List (List Rat)} {n : Nat} (lA : A.length = n) (lB : B.length = n) (rA : ∀ L ∈ A, L.length = n) (rB : ∀ L ∈ B, L.length = n) (h : dt n (qq M) ≠ 0) (eA : ∀ i j, i < n → j < n → sumTo (fun t => qq A i t * qq M t j) n = dij i j) (eB : ∀ i j, i < n → j < n → sumTo (fun t => qq B i t * qq M t j) n = dij i j) : A = B := by
  refine tab_eq lA lB rA rB fun i j hi hj => ?_
  have := indep h (x := fun t => qq A i t - qq B i t) (fun c hc => ?_) hj
  · have z : qq A i j - qq B i j = 0 := this
    grind
  · have e1 : sumTo (fun t => (qq A i t - qq B i t) * qq M t c) n = sumTo (fun t => qq A i t * qq M t c + (-1) * (qq B i t * qq M t c)) n := sumTo_congr fun t _ => by grind
    rw [e1, ← sumTo_add, ← sumTo_mul, eA i c hi hc, eB i c hi hc]; grind
theorem dt_tri : ∀ {m : Nat} {B : Mt}, (∀ i j, i < m → j < i → B i j = 0) → dt m B = prodTo (fun i => B i i) m
  | 0, _, _ => rfl
  | m + 1, B, h => by
    rw [dt_first fun i h1 h2 => h i 0 h2 h1, dt_tri fun i j h1 h2 => by unfold mn; rw [if_neg (by omega)]; exact h (i + 1) (j + 1) (by omega) (by omega), prodTo_first]
    congr 1
theorem ov_cl {B W V : Nat} {L : List Rat} (hB : 0 < B) (h : ∀ q ∈ L, OvB B W q) (hV : B < 2 ^ V) (hW : W ≤ V) : ClN V L := cl_of_ovb hB hV fun x hx => (h x hx).mono hW
theorem TbX.overL {u a pt : Addr} {H : Hp} {ts : List Addr} {M : List (List Rat)} {xs : List V} {o : HO} (t : TbX u H a ts M) (h : H pt = some (.lst xs)) (n1 : a ≠ pt) (n2 : pt ∉ ts) : TbX u (upd H pt o) a ts M := ⟨t.au, t.tu, by rw [upd_ne n1]; exact t.at', t.rws.over h n2⟩
theorem int_ov {z : Int} (h : z.natAbs ≤ 1) : OvB 1 1 ((z : Int) : Rat) := ⟨z, by rw [Rat.divInt_eq_div]; show _ = ((z : Int) : Rat) / 1; rw [Rat.div_def]; grind, by omega⟩
theorem sum_upd (x f : Nat → Rat) (z : Rat) {n j : Nat} (hj : j < n) : sumTo (fun t => (x t + (if t = j then z else 0)) * f t) n = sumTo (fun t => x t * f t) n + z * f j := by
  rw [sumTo_congr (g := fun t => x t * f t + (if t = j then z * f t else 0)) fun t _ => by split <;> grind, ← sumTo_add, sumTo_single (fun t => z * f t) j n, if_pos hj]
theorem flat_dt {M FM : List (List Rat)} {Lr : List Rat} {n s : Nat} {x : Nat → Rat} (hF : FM = M.take s ++ [Lr] ++ M.drop (s + 1)) (lM : M.length = n) (hs : s < n) (xs : x s = 0) (v : ∀ c, c < n → aQ Lr c = sumTo (fun j => x j * qq M j c) n) : dt n (qq FM) = 0 := by
  have e : dt n (qq FM) = dt n (setR (qq M) s fun c => sumTo (fun j => x j * qq M j c) n) := dt_congr fun r hr c hc => by
    unfold setR
    have lt : (M.take s).length = s := by rw [List.length_take]; omega
    by_cases z : r = s
    · rw [if_pos z]
      show _ = sumTo (fun j => x j * qq M j c) n
      rw [← v c hc, z]
      unfold qq
      rw [hF, List.append_assoc, List.getElem?_append_right (by omega), lt, Nat.sub_self]; rfl
    · rw [if_neg z]
      unfold qq
      rw [hF]
      by_cases y : r < s
      · rw [List.append_assoc, List.getElem?_append_left (by omega), List.getElem?_take_of_lt y]
      · rw [List.getElem?_append_right (by rw [List.length_append, lt]; show s + 1 ≤ r; omega), List.length_append, lt, List.getElem?_drop]
        show aQ ((M[s + 1 + (r - (s + 1))]?).getD []) c = _
        rw [show s + 1 + (r - (s + 1)) = r by omega]
  rw [e, dt_comb (qq M) x hs n (Nat.le_refl _), if_pos hs, xs, Rat.zero_mul]
theorem cut_idx {us : List Addr} {i p : Nat} {x : Addr} (hi : i < us.length) (h : (us.take i ++ us.drop (i + 1))[p]? = some x) : ∃ j, j ≠ i ∧ us[j]? = some x := by
  by_cases z : p < i
  · rw [List.getElem?_append_left (by rw [List.length_take]; omega), List.getElem?_take_of_lt z] at h
    exact ⟨p, by omega, h⟩
  · rw [List.getElem?_append_right (by rw [List.length_take]; omega), List.length_take, List.getElem?_drop] at h
    exact ⟨_, by omega, h⟩
section
variable {P : Program} {w : World} {K : PySem.W.Frag} {mg : Str → Option Value} {base : Heap}
def spRight (K : PySem.W.Frag) : Sp := fun vs H Q _ => ∃ u, vs = [.ref u] ∧ UrnAt H u ∧ ∀ H', SameX u H H' → UrnAt H' u → Q (.bl true) H'
abbrev s__law_right : Stmt := top 56
theorem sc__law_right : FnScope ["_law_urn_here", "_law_kind", "_law_n", "_law_steep_one", "_law_i", "_law_handed", "_law_told", "_law_kept", "_law_at", "_law_row", "_law_other_here", "_law_flat", "_law_table", "_law_due", "_law_often"] ["_law_urn_here"] (defScope s__law_right) := ⟨rfl, rfl, rfl, by decide +kernel, rfl, by decide +kernel, by decide +kernel⟩
set_option maxHeartbeats 0 in
theorem ok__law_right {f f1 f2 f3 f4 f5 f6 f7 f8 f9 f10 f11 : Addr} (d : Df K mg "_law_right" s__law_right ["_law_urn_here"] f) (G__law_draw : Def P w K mg base CX0 1 "_law_draw" f1 ["_law_urn_here", "_law_many"] spDraw) (G__law_steep : Def P w K mg base CX0 4 "_law_steep" f2 ["_law_urn_here", "_law_kind", "_law_n"] spLSteep) (G__law_stepped : Def P w K mg base CX0 4 "_law_stepped" f3 ["_law_urn_here", "_law_kind", "_law_table"] (spStepped K)) (G__law_times : Def P w K mg base CX0 2 "_law_times" f4 ["_law_one", "_law_other_here"] (spLBin K (· * ·))) (G_determinant : Def P w K mg base CX0 3 "determinant" f5 ["table"] (spDetm K)) (G__law_is_number : Def P w K mg base CX0 2 "_law_is_number" f6 ["_law_thing"] (spIsNum K)) (G__law_said : Def P w K mg base CX0 5 "_law_said" f7 ["_law_table"] (spBackSaid K)) (G__law_is_table : Def P w K mg base CX0 3 "_law_is_table" f8 ["_law_thing", "_law_n"] (spIsTab K)) (G__law_table_times : Def P w K mg base CX0 4 "_law_table_times" f9 ["_law_one", "_law_other_here"] (spLTT K)) (G__law_unit : Def P w K mg base CX0 1 "_law_unit" f10 ["_law_n"] spUnitL) (G__law_plus : Def P w K mg base CX0 2 "_law_plus" f11 ["_law_one", "_law_other_here"] (spLBin K (· + ·))) (n_range : mg "range" = none) (n_list : mg "list" = none) (n_zip : mg "zip" = none) : Def P w K mg base CX0 6 "_law_right" f ["_law_urn_here"] (spRight K) := by
  refine d.ok (N := ["_law_urn_here", "_law_kind", "_law_n", "_law_steep_one", "_law_i", "_law_handed", "_law_told", "_law_kept", "_law_at", "_law_row", "_law_other_here", "_law_flat", "_law_table", "_law_due", "_law_often"]) sc__law_right (by rintro vs H Q E ⟨_, h, _⟩; rw [h]; rfl) (fun cdv A outer s H vs Q E hr h => ?_)
  obtain ⟨u, rfl, hU, k⟩ := h
  have hu := hr.units
  refine ⟨_, (pss_cons (ps_set (i := 1) sc__law_right.nd rfl (Or.inl rfl) (pe_def G__law_draw hr (pa_cons (pv 0) (pa_cons pe_int pa_nil)) pass0))
      (pss_cons (ps_set (i := 2) sc__law_right.nd rfl (Or.inl rfl) (pe_op op_add pe_int (pe_def G__law_draw hr (pa_cons (pv 0) (pa_cons pe_int pa_nil)) pass0)))
      (pss_cons (ps_set (i := 3) sc__law_right.nd rfl (Or.inl rfl) (pe_def G__law_steep hr (pa_cons (pv 0) (pa_cons (pv 1) (pa_cons (pv 2) pa_nil))) pass0))
      (pss_cons (ps_asg (pe_def G__law_stepped hr (pa_cons (pv 0) (pa_cons (pv 1) (pa_cons (pv 3) pa_nil))) pass0) (show PG _ _ (gTup K 2 (gCons (gName 12) (gCons (gName 13) gNil))) from by (refine pg_tup (n := 2) ?_ ?_ ?_ ?_; rfl; (refine pgs_cons ?_ ?_ ?_; (exact (pg_name (i := 12) sc__law_right.nd rfl (Or.inl rfl))); (refine pgs_cons ?_ ?_ ?_; (exact (pg_name (i := 13) sc__law_right.nd rfl (Or.inl rfl))); (exact pgs_nil); rfl); rfl); rfl; rfl)))
      (pss_cons (ps_for PassesOwn.never rfl (pi_range1 rfl n_range (pa_cons (pv 2) pa_nil)) (pg_name (i := 4) sc__law_right.nd rfl (Or.inl rfl)) (pss_one (ps_set (i := 13) sc__law_right.nd rfl (Or.inl rfl) (pe_def G__law_times hr (pa_cons (pv 13) (pa_cons (pe_ix ix_list (pe_ix ix_list (pv 3) (pv 4) (fun _ _ => rfl)) (pv 4) (fun _ _ => rfl)) pa_nil)) pass0))))
      (pss_cons (ps_setComp (i₀ := 5) sc__law_right.nd rfl (Or.inl rfl) (Nc := ["_law_row"]) (caps := [none]) rfl (Caps.of (osc := defScope s__law_right) (N := ["_law_urn_here", "_law_kind", "_law_n", "_law_steep_one", "_law_i", "_law_handed", "_law_told", "_law_kept", "_law_at", "_law_row", "_law_other_here", "_law_flat", "_law_table", "_law_due", "_law_often"]) (ks := []) rfl rfl rfl rfl sub_nil (by decide +kernel)) (pi_list (pv 12)) (fun C s₂ H₂ fp pins => (pg_name (i := 0) (show List.Nodup (["_law_row"] : List Str) by decide +kernel) rfl (Or.inl rfl) (Or.inr rfl))) (fun C s₂ H₂ fp pins => (pe_callTy (by exact call_list_of : CallR _ (.type "list") (rLst K)) rfl n_list (by decide +kernel) (pa_cons (pv 0) pa_nil))))
      (pss_cons (ps_if (PW.pt (pw_or (pt_cmpR (op_neD hu) (pe_def G_determinant hr (pa_cons (pv 5) pa_nil) pass0) (pv 13) (nomark _)) (pw_or (pt_not (pt_val (pe_def G__law_is_number hr (pa_cons (pe_def G_determinant hr (pa_cons (pv 5) pa_nil) pass0) pa_nil) pass0))) (pw_or1 (pt_cmpR (op_neD hu) (pv 5) (pv 12) (nomark _)))))) (pss_one (ps_ret pe_bl)) pss_nil)
      (pss_cons (ps_set (i := 6) sc__law_right.nd rfl (Or.inl rfl) (pe_def G__law_said hr (pa_cons (pv 5) pa_nil) pass0))
      (pss_cons (ps_if (PW.pt (pw_or (pt_cmpR (op_neD hu) (pv 5) (pv 12) (nomark _)) (pw_or1 (pt_not (pt_val (pe_def G__law_is_table hr (pa_cons (pv 6) (pa_cons (pv 2) pa_nil)) pass0)))))) (pss_one (ps_ret pe_bl)) pss_nil)
      (pss_cons (ps_if (PW.pt (pw_or (pt_cmpR (op_neD hu) (pe_def G__law_table_times hr (pa_cons (pv 6) (pa_cons (pv 12) pa_nil)) pass0) (pe_def G__law_unit hr (pa_cons (pv 2) pa_nil) pass0) (nomark _)) (pw_or1 (pt_cmpR (op_neD hu) (pe_def G__law_table_times hr (pa_cons (pv 12) (pa_cons (pv 6) pa_nil)) pass0) (pe_def G__law_unit hr (pa_cons (pv 2) pa_nil) pass0) (nomark _))))) (pss_one (ps_ret pe_bl)) pss_nil)
      (pss_cons (ps_setComp (i₀ := 7) sc__law_right.nd rfl (Or.inl rfl) (Nc := ["_law_row"]) (caps := [none]) rfl (Caps.of (osc := defScope s__law_right) (N := ["_law_urn_here", "_law_kind", "_law_n", "_law_steep_one", "_law_i", "_law_handed", "_law_told", "_law_kept", "_law_at", "_law_row", "_law_other_here", "_law_flat", "_law_table", "_law_due", "_law_often"]) (ks := []) rfl rfl rfl rfl sub_nil (by decide +kernel)) (pi_list (pv 6)) (fun C s₂ H₂ fp pins => (pg_name (i := 0) (show List.Nodup (["_law_row"] : List Str) by decide +kernel) rfl (Or.inl rfl) (Or.inr rfl))) (fun C s₂ H₂ fp pins => (pe_callTy (by exact call_list_of : CallR _ (.type "list") (rLst K)) rfl n_list (by decide +kernel) (pa_cons (pv 0) pa_nil))))
      (pss_cons (ps_expr (pe_bm PySem.F.plainAttrs_list PySem.F.slot_list_append PySem.F.type_list_append mt_append (pe_ix ix_list (pv 6) (pe_def G__law_draw hr (pa_cons (pv 0) (pa_cons (pv 2) pa_nil)) pass0) (fun _ _ => rfl)) (pa_cons (pe_tup (pa_cons pe_int (pa_cons pe_int pa_nil))) pa_nil)))
      (pss_cons (ps_if (pt_cmpR (op_neD hu) (pe_def G__law_said hr (pa_cons (pe_comp (Nc := ["_law_row"]) (caps := [none]) rfl (Caps.of (osc := defScope s__law_right) (N := ["_law_urn_here", "_law_kind", "_law_n", "_law_steep_one", "_law_i", "_law_handed", "_law_told", "_law_kept", "_law_at", "_law_row", "_law_other_here", "_law_flat", "_law_table", "_law_due", "_law_often"]) (ks := []) rfl rfl rfl rfl sub_nil (by decide +kernel)) (pi_list (pv 12)) (fun C s₂ H₂ fp pins => (pg_name (i := 0) (show List.Nodup (["_law_row"] : List Str) by decide +kernel) rfl (Or.inl rfl) (Or.inr rfl))) (fun C s₂ H₂ fp pins => (pe_callTy (by exact call_list_of : CallR _ (.type "list") (rLst K)) rfl n_list (by decide +kernel) (pa_cons (pv 0) pa_nil)))) pa_nil) pass0) (pv 7) (nomark _)) (pss_one (ps_ret pe_bl)) pss_nil)
      (pss_cons (ps_set (i := 8) sc__law_right.nd rfl (Or.inl rfl) (pe_def G__law_draw hr (pa_cons (pv 0) (pa_cons (pv 2) pa_nil)) pass0))
      (pss_cons (ps_set (i := 9) sc__law_right.nd rfl (Or.inl rfl) (pe_op op_rep (pe_lst (pa_cons (pe_tup (pa_cons pe_int (pa_cons pe_int pa_nil))) pa_nil)) (pv 2)))
      (pss_cons (ps_for PassesOwn.never rfl (pi_list (pe_op op_cat (pe_slice sl_list (pv 12) po_none (po_some (pv 8))) (pe_slice sl_list (pv 12) (po_some (pe_op op_add (pv 8) pe_int)) po_none))) (pg_name (i := 10) sc__law_right.nd rfl (Or.inl rfl)) (pss_cons (ps_set (i := 14) sc__law_right.nd rfl (Or.inr rfl) (pe_tup (pa_cons (pe_op op_sub (pe_def G__law_draw hr (pa_cons (pv 0) (pa_cons pe_int pa_nil)) pass0) pe_int) (pa_cons pe_int pa_nil))))
      (pss_one (ps_setComp (i₀ := 9) sc__law_right.nd rfl (Or.inl rfl) (Nc := ["_law_often", "_law_a", "_law_b"]) (caps := [some 14, none, none]) rfl (Caps.of (osc := defScope s__law_right) (N := ["_law_urn_here", "_law_kind", "_law_n", "_law_steep_one", "_law_i", "_law_handed", "_law_told", "_law_kept", "_law_at", "_law_row", "_law_other_here", "_law_flat", "_law_table", "_law_due", "_law_often"]) (ks := ["_law_often"]) rfl rfl rfl rfl (sub_cons rfl sub_nil) (by decide +kernel)) (pi_zip rfl n_zip (pa_cons (pv 9) (pa_cons (pv 10) pa_nil))) (fun C s₂ H₂ fp pins => (show PG _ _ (gTup K 2 (gCons (gName 1) (gCons (gName 2) gNil))) from by (refine pg_tup (n := 2) ?_ ?_ ?_ ?_; rfl; (refine pgs_cons ?_ ?_ ?_; (exact (pg_name (i := 1) (show List.Nodup (["_law_often", "_law_a", "_law_b"] : List Str) by decide +kernel) rfl (Or.inl rfl) (Or.inr rfl))); (refine pgs_cons ?_ ?_ ?_; (exact (pg_name (i := 2) (show List.Nodup (["_law_often", "_law_a", "_law_b"] : List Str) by decide +kernel) rfl (Or.inl rfl) (Or.inr rfl))); (exact pgs_nil); rfl); rfl); rfl; rfl))) (fun C s₂ H₂ fp pins => (pe_def G__law_plus hr (pa_cons (pv 1) (pa_cons (pe_def G__law_times hr (pa_cons (pv 0) (pa_cons (pv 2) pa_nil)) pass0) pa_nil)) pass0))))))
      (pss_cons (ps_set (i := 11) sc__law_right.nd rfl (Or.inl rfl) (pe_op op_cat (pe_op op_cat (pe_slice sl_list (pv 12) po_none (po_some (pv 8))) (pe_lst (pa_cons (pv 9) pa_nil))) (pe_slice sl_list (pv 12) (po_some (pe_op op_add (pv 8) pe_int)) po_none)))
      (pss_one (ps_ret (pe_and (pe_cmpR (op_eqD hu) (pe_def G_determinant hr (pa_cons (pv 11) pa_nil) pass0) (pe_tup (pa_cons pe_int (pa_cons pe_int pa_nil))) (nomark _)) (pe_one (pe_cmpR (op_eqD hu) (pe_def G__law_said hr (pa_cons (pv 11) pa_nil) pass0) (pe_tup (pa_cons pe_str (pa_cons pe_str pa_nil))) (nomark _))))))))))))))))))))))), ?_⟩
  rw [show start ["_law_urn_here", "_law_kind", "_law_n", "_law_steep_one", "_law_i", "_law_handed", "_law_told", "_law_kept", "_law_at", "_law_row", "_law_other_here", "_law_flat", "_law_table", "_law_due", "_law_often"] [.ref u] = [some (.ref u), none, none, none, none, none, none, none, none, none, none, none, none, none, none] from rfl]
  refine seq_cut (fun σ H1 => ∃ kd : Int, σ = [some (.ref u), some (.int kd), none, none, none, none, none, none, none, none, none, none, none, none, none] ∧ SameX u H H1 ∧ UrnAt H1 u ∧ (kd = 0 ∨ kd = 1)) (fun N hN => ?_) ?_
  · clean_wf
    exact ⟨hU, by decide, by decide, fun r H1 r0 r2 s1 u1 => hN _ _ ⟨r, rfl, s1, u1, by omega⟩⟩
  rintro σ H1 ⟨kd, rfl, s1, u1, hkd⟩
  refine seq_cut (fun σ H2 => ∃ n : Nat, σ = [some (.ref u), some (.int kd), some (.int (n : Int)), none, none, none, none, none, none, none, none, none, none, none, none] ∧ SameX u H H2 ∧ UrnAt H2 u ∧ 1 ≤ n ∧ n ≤ 7) (fun N hN => ?_) ?_
  · clean_wf
    refine ⟨u1, by decide, by decide, fun r H2 r0 r7 s2 u2 => ?_⟩
    obtain ⟨j, rfl⟩ : ∃ j : Nat, r = (j : Int) := ⟨r.toNat, by omega⟩
    exact hN _ _ ⟨1 + j, by rw [Int.natCast_add]; rfl, s1.trans s2, u2, by omega, by omega⟩
  rintro σ H2 ⟨n, rfl, s2, u2, n1, n7⟩
  refine seq_cut (fun σ H3 => ∃ (st : Addr) (ts : List Addr) (M0 : List (List Rat)), σ = [some (.ref u), some (.int kd), some (.int (n : Int)), some (.ref st), none, none, none, none, none, none, none, none, none, none, none] ∧ SameX u H H3 ∧ UrnAt H3 u ∧ TbX u H3 st ts M0 ∧ M0.length = n ∧ (∀ L ∈ M0, L.length = n ∧ ∀ q ∈ L, OvB 60 10 q) ∧ (∀ i j, i < n → j < i → qq M0 i j = 0) ∧ (∀ i, i < n → qq M0 i i ≠ 0)) (fun N hN => ?_) ?_
  · simp only [ipM, rLst, tComp_eq, tCompIf_eq, tMaxD, iZip, rRep, tSl, tPart, tNoPart, rSlL, rAppend, iEnum, capSt, List.map_cons, List.map_nil, Option.bind_none, Option.bind_some, Option.join_some, tSeq, tIfS, tAnd, tOr, tNot, tTest, tB, tOp, tUn, tBM0, tBM, tVar, tC, tCB, tRet, tAsg, gName, gSub, gTup, gCons, gNil, tCons, tNil, tPar, tTup, tLst, tIf, tAndV, tNotV, tDef, tCallX, tDrop, tNext, tNever, tRaise, tAug, rI, rI0, rU, rBitLen, rIxL, rIxT, rSetL, rEq, rNe, rCount, rIndex, rSplit, rIsI, rCat, iRng1, iRng2, iList, cxOf, cxR, cxX, Cx.nox, Cx.wish, Cx.body, Cx.suite, List.getElem?_cons_zero, List.getElem?_cons_succ, List.set_cons_zero, List.set_cons_succ, Option.some.injEq, V.int.injEq, V.bl.injEq, V.ref.injEq, V.str.injEq, exists_eq_left', exists_eq_left, exists_and_left, true_and, and_true, List.cons.injEq, reduceCtorEq, Bool.false_eq_true, if_false, if_true, exists_const, ↓reduceIte, tyV, List.length_cons, List.length_nil, exists_eq, List.append_nil, List.cons_append, List.nil_append, decide_eq_true_eq, not_true_eq_false, not_false_eq_true, Bool.not_eq_true', decide_eq_false_iff_not, Bool.not_true, Bool.not_false, and_assoc, false_and, false_or, or_false, spLSteep]
    exact ⟨n, rfl, u2, hkd, n7, fun r ts M0 H3 s3 u3 fr T3 l3 o3 z3 d3 => hN _ _ ⟨r, ts, M0, rfl, s2.trans s3, u3, T3, l3, o3, z3, d3⟩⟩
  rintro σ H3 ⟨st, ts, M0, rfl, s3, u3, T3, lM0, oM0, zM0, dM0⟩
  refine seq_cut (fun σ H4 => ∃ (l pf : Addr) (us : List Addr) (M : List (List Rat)) (fd : Rat), σ = [some (.ref u), some (.int kd), some (.int (n : Int)), some (.ref st), none, none, none, none, none, none, none, none, some (.ref l), some (.ref pf), none] ∧ SameX u H H4 ∧ UrnAt H4 u ∧ TbX u H4 st ts M0 ∧ TbX u H4 l us M ∧ H4 pf = some (.tup (numV fd)) ∧ M.length = n ∧ (∀ L ∈ M, L.length = n ∧ ∀ q ∈ L, OvB (60 ^ 9) 99 q) ∧ dt n (qq M) = fd * dt n (qq M0) ∧ fd ≠ 0 ∧ OvB (60 ^ 8) 82 fd) (fun N hN => ?_) ?_
  · simp only [ipM, rLst, tComp_eq, tCompIf_eq, tMaxD, iZip, rRep, tSl, tPart, tNoPart, rSlL, rAppend, iEnum, capSt, List.map_cons, List.map_nil, Option.bind_none, Option.bind_some, Option.join_some, tSeq, tIfS, tAnd, tOr, tNot, tTest, tB, tOp, tUn, tBM0, tBM, tVar, tC, tCB, tRet, tAsg, gName, gSub, gTup, gCons, gNil, tCons, tNil, tPar, tTup, tLst, tIf, tAndV, tNotV, tDef, tCallX, tDrop, tNext, tNever, tRaise, tAug, rI, rI0, rU, rBitLen, rIxL, rIxT, rSetL, rEq, rNe, rCount, rIndex, rSplit, rIsI, rCat, iRng1, iRng2, iList, cxOf, cxR, cxX, Cx.nox, Cx.wish, Cx.body, Cx.suite, List.getElem?_cons_zero, List.getElem?_cons_succ, List.set_cons_zero, List.set_cons_succ, Option.some.injEq, V.int.injEq, V.bl.injEq, V.ref.injEq, V.str.injEq, exists_eq_left', exists_eq_left, exists_and_left, true_and, and_true, List.cons.injEq, reduceCtorEq, Bool.false_eq_true, if_false, if_true, exists_const, ↓reduceIte, tyV, List.length_cons, List.length_nil, exists_eq, List.append_nil, List.cons_append, List.nil_append, decide_eq_true_eq, not_true_eq_false, not_false_eq_true, Bool.not_eq_true', decide_eq_false_iff_not, Bool.not_true, Bool.not_false, and_assoc, false_and, false_or, or_false, spStepped]
    refine ⟨u3, hkd, ts, M0, T3, by omega, by omega, fun L hL => ⟨by rw [lM0]; exact (oM0 L hL).1, (oM0 L hL).2⟩, fun r l pf us M fd H4 D4 er ep lM oM dM f0 of => ?_⟩
    rw [lM0] at lM oM dM
    exact ⟨_, SqT.of er, rfl, _, _, rfl, _, _, rfl, rfl, hN _ _ ⟨l, pf, us, M, fd, rfl, s3.trans D4.same, D4.urn, T3.samex D4.same u3, ⟨D4.lu, D4.nu, D4.at', D4.rws⟩, ep, lM, oM, dM, f0, of⟩⟩
  rintro σ H4 ⟨l, pf, us, M, fd, rfl, s4, u4, T4, V4, ep4, lM, oM, dM, f0, of⟩
  have tri := dt_tri (m := n) zM0
  obtain ⟨q, hq⟩ : ∃ q, q = dt n (qq M) := ⟨_, rfl⟩
  have q0 : q ≠ 0 := fun z => by
    rw [hq, dM, tri] at z
    rcases Rat.mul_eq_zero.mp z with z | z
    · exact f0 z
    · revert z
      have : ∀ m, m ≤ n → prodTo (fun i => qq M0 i i) m ≠ 0 := by
        intro m
        induction m with
        | zero => intro _; show (1 : Rat) ≠ 0; decide
        | succ m ih =>
          intro hm z
          rcases Rat.mul_eq_zero.mp z with z | z
          · exact ih (by omega) z
          · exact dM0 m (by omega) z
      exact this n (Nat.le_refl _)
  refine seq_cut (fun σ H5 => ∃ (pd : Addr) (o4 : Option V), σ = [some (.ref u), some (.int kd), some (.int (n : Int)), some (.ref st), o4, none, none, none, none, none, none, none, some (.ref l), some (.ref pd), none] ∧ Same H4 H5 ∧ H5 pd = some (.tup (numV q))) (fun N hN => ?_) ?_
  · obtain ⟨I, hI⟩ : ∃ I : Nat → L2.St → Hp → Prop, ∀ i σ H5, I i σ H5 ↔ ∃ (pd : Addr) (o4 : Option V) (g : Rat), σ = [some (.ref u), some (.int kd), some (.int (n : Int)), some (.ref st), o4, none, none, none, none, none, none, none, some (.ref l), some (.ref pd), none] ∧ Same H4 H5 ∧ H5 pd = some (.tup (numV g)) ∧ g = fd * prodTo (fun t => qq M0 t t) i ∧ OvB (60 ^ (8 + i)) (82 + 10 * i) g := ⟨_, fun _ _ _ => Iff.rfl⟩
    refine ⟨_, rfl, _, rfl, by omega, by omega, for_range I ((hI _ _ _).mpr ⟨pf, _, fd, rfl, Same.refl _, ep4, by show fd = fd * 1; grind, of⟩) ?_ ?_⟩
    · rintro i σ H5 hi h
      obtain ⟨pd, o4, g, rfl, s5, e5, hg, og⟩ := (hI _ _ _).mp h
      rw [Int.toNat_natCast] at hi
      rw [Int.zero_add]
      have T5 := T4.same s5
      obtain ⟨pt, hpt⟩ : ∃ pt, ts[i]? = some pt := ⟨_, List.getElem?_eq_getElem (by rw [T5.rws.length]; omega)⟩
      obtain ⟨xs, L, c1, c2, c3⟩ := T5.rws.get hpt
      have lL := (oM0 L (List.mem_of_getElem? c1)).1
      have ei := List.getElem?_eq_getElem (l := L) (i := i) (by omega)
      obtain ⟨px, g1, g2⟩ := c3.get ei
      have vq : qq M0 i i = L[i]'(by omega) := by unfold qq aQ; rw [c1]; show (L[i]?).getD 0 = _; rw [ei]; rfl
      have ox : OvB 60 10 (qq M0 i i) := by rw [vq]; exact (oM0 L (List.mem_of_getElem? c1)).2 _ (List.mem_of_getElem? ei)
      rw [← vq] at g2
      have at2 : (ts.map V.ref)[i]? = some (.ref pt) := by rw [List.getElem?_map, hpt]; rfl
      simp only [ipM, rLst, tComp_eq, tCompIf_eq, tMaxD, iZip, rRep, tSl, tPart, tNoPart, rSlL, rAppend, iEnum, capSt, List.map_cons, List.map_nil, Option.bind_none, Option.bind_some, Option.join_some, tSeq, tIfS, tAnd, tOr, tNot, tTest, tB, tOp, tUn, tBM0, tBM, tVar, tC, tCB, tRet, tAsg, gName, gSub, gTup, gCons, gNil, tCons, tNil, tPar, tTup, tLst, tIf, tAndV, tNotV, tDef, tCallX, tDrop, tNext, tNever, tRaise, tAug, rI, rI0, rU, rBitLen, rIxL, rIxT, rSetL, rEq, rNe, rCount, rIndex, rSplit, rIsI, rCat, iRng1, iRng2, iList, cxOf, cxR, cxX, Cx.nox, Cx.wish, Cx.body, Cx.suite, List.getElem?_cons_zero, List.getElem?_cons_succ, List.set_cons_zero, List.set_cons_succ, Option.some.injEq, V.int.injEq, V.bl.injEq, V.ref.injEq, V.str.injEq, exists_eq_left', exists_eq_left, exists_and_left, true_and, and_true, List.cons.injEq, reduceCtorEq, Bool.false_eq_true, if_false, if_true, exists_const, ↓reduceIte, tyV, List.length_cons, List.length_nil, exists_eq, List.append_nil, List.cons_append, List.nil_append, decide_eq_true_eq, not_true_eq_false, not_false_eq_true, Bool.not_eq_true', decide_eq_false_iff_not, Bool.not_true, Bool.not_false, and_assoc, false_and, false_or, or_false, spLBin]
      refine ⟨_, SqL.of T5.at', _, atI_nat at2, pt, rfl, _, SqL.of c2, _, atI_nat g1, g, ⟨_, rfl, SqT.of e5⟩, _, ⟨_, rfl, SqT.of g2⟩, 160, (OvB.bdN (W := 160) (Nat.pow_pos (by decide)) (Nat.lt_of_lt_of_le (w60 (8 + i)) (pow_le_pow2 (by omega))) (og.mono (by omega))).t (by omega), 10, (ox.bdN (by decide) (by decide)).t (by omega), by omega, fun r6 H6 s6 e6 => (hI _ _ _).mpr ⟨r6, _, g * qq M0 i i, rfl, s5.trans s6, e6, ?_, ?_⟩⟩
      · rw [hg]; show _ = fd * (prodTo _ i * qq M0 i i); grind
      · have := og.mul ox
        rw [← Nat.pow_succ] at this
        exact this.mono (by omega)
    · intro σ H5 h
      obtain ⟨pd, o4, g, rfl, s5, e5, hg, og⟩ := (hI _ _ _).mp h
      rw [Int.toNat_natCast] at hg
      have : g = q := by rw [hg, hq, dM, tri]
      rw [this] at e5
      exact hN _ _ ⟨pd, o4, rfl, s5, e5⟩
  rintro σ H5 ⟨pd, o4, rfl, s5, e5⟩
  have V5 := V4.same s5
  have u5 := Same.urn s5 u4
  refine seq_cut (fun σ H6 => ∃ (hd : Addr) (hs : List Addr), σ = [some (.ref u), some (.int kd), some (.int (n : Int)), some (.ref st), o4, some (.ref hd), none, none, none, none, none, none, some (.ref l), some (.ref pd), none] ∧ Same H5 H6 ∧ TbX u H6 hd hs M) (fun N hN => ?_) ?_
  · subst_eqs
    refine ⟨⟨_, SqL.of V5.at'⟩, fun D hD => copyA V5.at' V5.rws hD (by omega) fun H6 T => ?_⟩
    obtain ⟨s6, hs, e6, n6, _, R6⟩ := T
    exact hN _ _ ⟨D, hs, rfl, s6, ⟨urn_ne u5 hD, fun t ht => urn_ne u5 (n6 t ht).1, e6, R6⟩⟩
  rintro σ H6 ⟨hd, hs, rfl, s6, X6⟩
  have V6 := V5.same s6
  have u6 := Same.urn s6 u5
  have b9 : (60 : Nat) ^ 9 < 2 ^ 107 := Nat.lt_of_lt_of_le (w60 9) (pow_le_pow2 (by decide))
  have cM : ∀ L ∈ M, L.length = n ∧ ClN 107 L := fun L hL => ⟨(oM L hL).1, ov_cl (Nat.pow_pos (by decide)) (oM L hL).2 b9 (by decide)⟩
  have wn : (107 + 4) * (n + 1) ≤ 2900 := Nat.le_trans (Nat.mul_le_mul_left _ (show n + 1 ≤ 8 by omega)) (by decide)
  have detm : ∀ (H' : Hp) (c : Addr) (cs : List Addr) (N : List (List Rat)) (Q' : VK), SqL K H' c (cs.map V.ref) → Rws H' cs N → N.length = n → (∀ L ∈ N, L.length = n ∧ ClN 107 L) → (∀ r H'', Same H' H'' → NmC K H'' r (dt n (qq N)) → Q' (.ref r) H'') → spDetm K [.ref c] H' Q' E0 := fun H' c cs N Q' e R lN cN kk => ⟨c, cs, N, n, 107, rfl, e, R.toC, lN, cN, by omega, by decide, by omega, kk⟩
  have sc : Sc 107 (qq M) := sc_of_ovb (B := 60 ^ 9) (Nat.pow_pos (by decide)) b9 fun L hL x hx => ((oM L hL).2 x hx).mono (by decide)
  have qd : (q.den : Int).natAbs < 2 ^ 6000 := by
    rw [Int.natAbs_natCast, hq]
    exact Nat.lt_of_le_of_lt (sc.det (k := n) (by omega)).2 (Nat.pow_lt_pow_right (by decide) (by omega))
  refine seq_cut (fun σ H7 => σ = [some (.ref u), some (.int kd), some (.int (n : Int)), some (.ref st), o4, some (.ref hd), none, none, none, none, none, none, some (.ref l), some (.ref pd), none] ∧ Same H6 H7) (fun N hN => ?_) ?_
  · subst_eqs
    refine detm _ _ hs M _ (SqL.of X6.at') X6.rws lM cM fun r H7 s7 e7 => ?_
    rw [← hq] at e7
    refine ⟨dNum q, dNum q, rfl, isD_num e7.sqt, isD_num (SqT.of ((s6.trans s7) _ _ e5)), okD_num _ _, dp_num _, _, rfl, ?_⟩
    rw [eqD_num, if_neg (by decide)]
    have X7 := X6.same s7
    refine detm _ _ hs M _ (SqL.of X7.at') X7.rws lM cM fun r2 H8 s8 e8 => ?_
    rw [← hq] at e8
    simp only [spIsNum]
    refine ⟨_, q, rfl, ⟨_, rfl, e8.sqt⟩, qd, fun H9 s9 => ?_⟩
    have S9 := (s7.trans s8).trans s9
    refine ⟨true, rfl, ?_⟩
    rw [if_neg (by decide)]
    refine ⟨dLists M, dLists M, rfl, (X6.same S9).isD, (V6.same S9).isD, okD_lists _ _, dp_lists _, _, rfl, ?_⟩
    rw [eqD_lists, decide_eq_true rfl]
    exact hN _ _ ⟨rfl, S9⟩
  rintro σ H7 ⟨rfl, s7⟩
  have X7 := X6.same s7
  have V7 := V6.same s7
  have u7 := Same.urn s7 u6
  have dq : dt n (qq M) ≠ 0 := by rw [← hq]; exact q0
  have said : ∀ (H' : Hp) (c : Addr) (cs : List Addr) (Q' : VK), SqL K H' c (cs.map V.ref) → Rws H' cs M → (∀ r N H'', TabAt H' r N H'' → H' r = none → N.length = n → (∀ L ∈ N, L.length = n) → (∀ i j, i < n → j < n → sumTo (fun t => qq N i t * qq M t j) n = dij i j) → (∃ B V, 0 < B ∧ B < 2 ^ V ∧ V ≤ (107 + 4) * (n + 1) + 1 ∧ ∀ L ∈ N, ∀ q ∈ L, OvB B V q) → Q' (.ref r) H'') → spBackSaid K [.ref c] H' Q' E0 := fun H' c cs Q' e R kk => ⟨c, cs, M, n, 107, rfl, e, R.toC, lM, cM, by omega, by decide, wn, fun z => absurd z dq, fun _ => kk⟩
  refine seq_cut (fun σ H8 => ∃ (tl : Addr) (bs : List Addr) (NB : List (List Rat)) (B V' : Nat), σ = [some (.ref u), some (.int kd), some (.int (n : Int)), some (.ref st), o4, some (.ref hd), some (.ref tl), none, none, none, none, none, some (.ref l), some (.ref pd), none] ∧ Same H7 H8 ∧ TbX u H8 tl bs NB ∧ (∀ t ∈ bs, H7 t = none) ∧ H7 tl = none ∧ bs.Nodup ∧ tl ∉ bs ∧ NB.length = n ∧ (∀ L ∈ NB, L.length = n) ∧ (∀ i j, i < n → j < n → sumTo (fun t => qq NB i t * qq M t j) n = dij i j) ∧ 0 < B ∧ B < 2 ^ V' ∧ V' ≤ 889 ∧ ∀ L ∈ NB, ∀ q ∈ L, OvB B V' q) (fun N hN => ?_) ?_
  · subst_eqs
    refine said _ _ hs _ (SqL.of X7.at') X7.rws fun r NB H8 T fr lB rB eB ⟨B, V', B0, BV, V9, oB⟩ => ?_
    obtain ⟨s8, bs, e8, n8, nd8, R8⟩ := T
    have : (107 + 4) * (n + 1) ≤ (107 + 4) * 8 := Nat.mul_le_mul_left _ (by omega)
    exact hN _ _ ⟨r, bs, NB, B, V', rfl, s8, ⟨urn_ne u7 fr, fun t ht => urn_ne u7 (n8 t ht).1, e8, R8⟩, fun t ht => (n8 t ht).1, fr, nd8, fun z => (n8 r z).2 rfl, lB, rB, eB, B0, BV, by omega, oB⟩
  rintro σ H8 ⟨tl, bs, NB, B, V', rfl, s8, W8, fb, ft, nd, ntl, lB, rB, eB, B0, BV, V9, oB⟩
  have X8 := X7.same s8
  have V8 := V7.same s8
  have u8 := Same.urn s8 u7
  refine seq_cut (fun σ H9 => σ = [some (.ref u), some (.int kd), some (.int (n : Int)), some (.ref st), o4, some (.ref hd), some (.ref tl), none, none, none, none, none, some (.ref l), some (.ref pd), none] ∧ Same H8 H9) (fun N hN => ?_) ?_
  · simp only [ipM, rLst, tComp_eq, tCompIf_eq, tMaxD, iZip, rRep, tSl, tPart, tNoPart, rSlL, rAppend, iEnum, capSt, List.map_cons, List.map_nil, Option.bind_none, Option.bind_some, Option.join_some, tSeq, tIfS, tAnd, tOr, tNot, tTest, tB, tOp, tUn, tBM0, tBM, tVar, tC, tCB, tRet, tAsg, gName, gSub, gTup, gCons, gNil, tCons, tNil, tPar, tTup, tLst, tIf, tAndV, tNotV, tDef, tCallX, tDrop, tNext, tNever, tRaise, tAug, rI, rI0, rU, rBitLen, rIxL, rIxT, rSetL, rEq, rNe, rCount, rIndex, rSplit, rIsI, rCat, iRng1, iRng2, iList, cxOf, cxR, cxX, Cx.nox, Cx.wish, Cx.body, Cx.suite, List.getElem?_cons_zero, List.getElem?_cons_succ, List.set_cons_zero, List.set_cons_succ, Option.some.injEq, V.int.injEq, V.bl.injEq, V.ref.injEq, V.str.injEq, exists_eq_left', exists_eq_left, exists_and_left, true_and, and_true, List.cons.injEq, reduceCtorEq, Bool.false_eq_true, if_false, if_true, exists_const, ↓reduceIte, tyV, List.length_cons, List.length_nil, exists_eq, List.append_nil, List.cons_append, List.nil_append, decide_eq_true_eq, not_true_eq_false, not_false_eq_true, Bool.not_eq_true', decide_eq_false_iff_not, Bool.not_true, Bool.not_false, and_assoc, false_and, false_or, or_false, spIsTab]
    refine ⟨dLists M, dLists M, rfl, X8.isD, V8.isD, okD_lists _ _, dp_lists _, _, rfl, ?_⟩
    rw [eqD_lists, decide_eq_true rfl, if_neg (by decide)]
    exact ⟨bs, NB, by rw [lB], W8.at', W8.rws.toC, by omega, fun L hL => ⟨by rw [lB]; exact rB L hL, fun x hx => ((oB L hL x hx).bdN B0 BV).mono (by omega)⟩, fun H9 s9 => hN _ _ ⟨rfl, s9⟩⟩
  rintro σ H9 ⟨rfl, s9⟩
  have V9' := V8.same s9
  have W9 := W8.same s9
  have u9 := Same.urn s9 u8
  have oM' : ∀ L ∈ M, L.length = n ∧ ∀ x ∈ L, OvB (60 ^ 9) 107 x := fun L hL => ⟨(oM L hL).1, fun x hx => ((oM L hL).2 x hx).mono (by decide)⟩
  have oB' : ∀ L ∈ NB, L.length = n ∧ ∀ x ∈ L, OvB B V' x := fun L hL => ⟨rB L hL, oB L hL⟩
  have p1 := prod_unit lB lM rB (fun L hL => (oM L hL).1) eB
  have p2 := prod_unit lM lB (fun L hL => (oM L hL).1) rB fun i j hi hj => inv_right dq eB hi hj
  refine seq_cut (fun σ H10 => σ = [some (.ref u), some (.int kd), some (.int (n : Int)), some (.ref st), o4, some (.ref hd), some (.ref tl), none, none, none, none, none, some (.ref l), some (.ref pd), none] ∧ Same H9 H10) (fun N hN => ?_) ?_
  · subst_eqs
    have half : ∀ (H' : Hp) (c e : Addr) (cs es : List Addr) (A' B' : List (List Rat)) (b1 v1 b2 v2 : Nat) (Q' : Bool → Hp → Prop), H' c = some (.lst (cs.map V.ref)) → Rws H' cs A' → H' e = some (.lst (es.map V.ref)) → Rws H' es B' → A'.length = n → B'.length = n → (∀ L ∈ A', L.length = n ∧ ∀ q ∈ L, OvB b1 v1 q) → (∀ L ∈ B', L.length = n ∧ ∀ q ∈ L, OvB b2 v2 q) → 0 < b1 → 0 < b2 → b1 < 2 ^ v1 → b2 < 2 ^ v2 → v1 + v2 ≤ 1000 → prodQ A' B' = unitQ n → (∀ H'', Same H' H'' → Q' false H'') → spLTT K [.ref c, .ref e] H' (fun x H1 => spUnitL [.int (n : Int)] H1 (fun y H2 => rNeD K x y H2 fun z H3 => ∃ kk, z = .bl kk ∧ Q' kk H3) E0) E0 := fun H' c e cs es A' B' b1 v1 b2 v2 Q' h1 h2 h3 h4 h5 h6 h7 h8 h9 h10 h11 h12 h13 h14 kq => by
      refine ⟨c, e, cs, es, A', B', n, b1, v1, b2, v2, rfl, h1, h2, h3, h4, h5, h6, by omega, h7, h8, h9, h10, h11, h12, by omega, fun r rs H1 s1 fr _ nd' er Rr => ⟨n, rfl, by omega, fun r2 rs2 H2 s2 fr2 _ nd2 er2 Rr2 => ?_⟩⟩
      rw [h14] at Rr
      refine ⟨dLists (unitQ n), dLists (unitQ n), rfl, .lst (SqL.of (s2 _ _ er)) (Rr.same s2).isDs, .lst (SqL.of er2) Rr2.isDs, okD_lists _ _, dp_lists _, _, rfl, ?_⟩
      rw [eqD_lists, decide_eq_true rfl]
      exact kq _ (s1.trans s2)
    refine half _ _ _ bs us NB M B V' (60 ^ 9) 107 _ W9.at' W9.rws V9'.at' V9'.rws lB lM oB' oM' B0 (Nat.pow_pos (by decide)) BV b9 (by omega) p1 (fun Ha sa => ?_)
    rw [if_neg (by decide)]
    refine half _ _ _ us bs M NB (60 ^ 9) 107 B V' _ (V9'.same sa).at' (V9'.same sa).rws (W9.same sa).at' (W9.same sa).rws lM lB oM' oB' (Nat.pow_pos (by decide)) B0 b9 BV (by omega) p2 (fun Hb sb => ?_)
    rw [if_neg (by decide)]
    exact hN _ _ ⟨rfl, sa.trans sb⟩
  rintro σ H10 ⟨rfl, s10⟩
  have V10 := V9'.same s10
  have W10 := W9.same s10
  have u10 := Same.urn s10 u9
  refine seq_cut (fun σ H11 => ∃ (kp : Addr) (kps : List Addr), σ = [some (.ref u), some (.int kd), some (.int (n : Int)), some (.ref st), o4, some (.ref hd), some (.ref tl), some (.ref kp), none, none, none, none, some (.ref l), some (.ref pd), none] ∧ Same H10 H11 ∧ TbX u H11 kp kps NB ∧ H10 kp = none ∧ ∀ t ∈ kps, H10 t = none) (fun N hN => ?_) ?_
  · subst_eqs
    refine ⟨⟨_, SqL.of W10.at'⟩, fun D hD => copyA W10.at' W10.rws hD (by omega) fun H11 T => ?_⟩
    obtain ⟨s11, hs', e11, n11, _, R11⟩ := T
    exact hN _ _ ⟨D, hs', rfl, s11, ⟨urn_ne u10 hD, fun t ht => urn_ne u10 (n11 t ht).1, e11, R11⟩, hD, fun t ht => (n11 t ht).1⟩
  rintro σ H11 ⟨kp, kps, rfl, s11, Z11, fk, fks⟩
  have V11 := V10.same s11
  have W11 := W10.same s11
  have u11 := Same.urn s11 u10
  have lbs : bs.length = n := by rw [W8.rws.length, lB]
  refine seq_cut (fun σ H12 => σ = [some (.ref u), some (.int kd), some (.int (n : Int)), some (.ref st), o4, some (.ref hd), some (.ref tl), some (.ref kp), none, none, none, none, some (.ref l), some (.ref pd), none] ∧ SameX u H H12 ∧ UrnAt H12 u ∧ TbX u H12 l us M ∧ TbX u H12 kp kps NB) (fun N hN => ?_) ?_
  · clean_wf
    refine ⟨u11, by omega, by omega, fun r Ha r0 r1 sa ua => ?_⟩
    obtain ⟨j, rfl⟩ : ∃ j : Nat, r = (j : Int) := ⟨r.toNat, by omega⟩
    have Wa := W11.samex sa u11
    obtain ⟨pt, hpt⟩ : ∃ pt, bs[j]? = some pt := ⟨_, List.getElem?_eq_getElem (by omega)⟩
    obtain ⟨xs, L, c1, c2, c3⟩ := Wa.rws.get hpt
    have mpt := List.mem_of_getElem? hpt
    have at2 : (bs.map V.ref)[j]? = some (.ref pt) := by rw [List.getElem?_map, hpt]; rfl
    refine ⟨_, SqL.of Wa.at', _, atI_nat at2, .inl ⟨_, SqL.of c2⟩, by decide, fun p hp => ?_⟩
    obtain ⟨Hb, yb, Zb, gb⟩ := new_any (.tup [.int 1, .int 1]) hp
    rw [← yb]
    have lL : L.length = n := rB L (List.mem_of_getElem? c1)
    have s7H : SameX u H H7 := s4.trans (Same.x (s5.trans (s6.trans s7)) u)
    have S7b : SameX u H7 Hb := (Same.x (((s8.trans s9).trans s10).trans s11) u).trans (sa.trans (Same.x Zb u))
    have fpt := fb pt mpt
    have cb := Zb _ _ c2
    have pt10 : ∃ ys, H10 pt = some (.lst ys) := W10.lstAt mpt
    obtain ⟨ys10, e10⟩ := pt10
    refine ⟨pt, rfl, _, cb, len_ok (by rw [c3.length]; omega), hN _ _ ⟨rfl, (s7H.trans S7b).over (s7H.free u7 fpt) _, (Same.urn Zb ua).other (Wa.tu pt mpt), ?_, ?_⟩⟩
    · refine (V7.samex S7b u7).overL cb (ne_of_none V7.at' fpt) (fun z => ?_)
      obtain ⟨ys, ey⟩ := V7.lstAt z
      rw [fpt] at ey; cases ey
    · refine ((Z11.samex sa u11).same Zb).overL cb (ne_of_none e10 fk).symm (fun z => ?_)
      rw [fks pt z] at e10; cases e10
  rintro σ H12 ⟨rfl, s12, u12, V12, Z12⟩
  refine seq_cut (fun σ H13 => σ = [some (.ref u), some (.int kd), some (.int (n : Int)), some (.ref st), o4, some (.ref hd), some (.ref tl), some (.ref kp), none, none, none, none, some (.ref l), some (.ref pd), none] ∧ Same H12 H13) (fun N hN => ?_) ?_
  · subst_eqs
    refine ⟨⟨_, SqL.of V12.at'⟩, fun D hD => copyA V12.at' V12.rws hD (by omega) fun Ha T => ?_⟩
    obtain ⟨sa, hs', ea, na, _, Ra⟩ := T
    refine said _ _ hs' _ (SqL.of ea) Ra fun r N2 Hb T2 fr2 l2 r2 e2 _ => ?_
    obtain ⟨sb, bs2, eb, nb, _, Rb⟩ := T2
    have : N2 = NB := back_uniq l2 lB r2 rB dq e2 eB
    rw [this] at Rb
    refine ⟨dLists NB, dLists NB, rfl, .lst (SqL.of eb) Rb.isDs, (Z12.same (sa.trans sb)).isD, okD_lists _ _, dp_lists _, _, rfl, ?_⟩
    rw [eqD_lists, decide_eq_true rfl]
    exact hN _ _ ⟨rfl, sa.trans sb⟩
  rintro σ H13 ⟨rfl, s13⟩
  have V13 := V12.same s13
  have u13 := Same.urn s13 u12
  refine seq_cut (fun σ H14 => ∃ at' : Nat, σ = [some (.ref u), some (.int kd), some (.int (n : Int)), some (.ref st), o4, some (.ref hd), some (.ref tl), some (.ref kp), some (.int (at' : Int)), none, none, none, some (.ref l), some (.ref pd), none] ∧ SameX u H13 H14 ∧ UrnAt H14 u ∧ at' < n) (fun N hN => ?_) ?_
  · clean_wf
    refine ⟨u13, by omega, by omega, fun r H14 r0 r1 s14 u14 => ?_⟩
    obtain ⟨j, rfl⟩ : ∃ j : Nat, r = (j : Int) := ⟨r.toNat, by omega⟩
    exact hN _ _ ⟨j, rfl, s14, u14, by omega⟩
  rintro σ H14 ⟨at', rfl, s14, u14, han⟩
  have V14 := V13.samex s14 u13
  refine seq_cut (fun σ H15 => ∃ (rw' : Addr) (xs : List V), σ = [some (.ref u), some (.int kd), some (.int (n : Int)), some (.ref st), o4, some (.ref hd), some (.ref tl), some (.ref kp), some (.int (at' : Int)), some (.ref rw'), none, none, some (.ref l), some (.ref pd), none] ∧ Same H14 H15 ∧ LsX u H15 rw' xs (List.replicate n 0)) (fun N hN => ?_) ?_
  · subst_eqs
    refine ⟨by decide, fun p hp => ?_⟩
    obtain ⟨G1, y1, Z1, g1⟩ := new_any (.tup [.int 0, .int 1]) hp
    rw [← y1]
    refine ⟨by decide, fun p1 hp1 => ?_⟩
    obtain ⟨G2, y2, Z2, g2⟩ := new_any (.lst [.ref p]) hp1
    rw [← y2]
    refine ⟨_, g2, by omega, by omega, by show 1 * (n : Int).toNat ≤ sizeLine; exact Nat.le_trans (show _ ≤ 100 by omega) (by decide), fun p2 hp2 => ?_⟩
    rw [Int.toNat_natCast, List.flatten_replicate_singleton]
    have Z3 := Same.new hp2 (.lst (List.replicate n (V.ref p)))
    exact hN _ _ ⟨p2, _, rfl, (Z1.trans Z2).trans Z3, ⟨urn_ne (Same.urn (Z1.trans Z2) u14) hp2, upd_same, Nums.rep (show _ = some (.tup (numV 0)) from (Z2.trans Z3) _ _ g1) n⟩⟩
  rintro σ H15 ⟨rw0, xs0, rfl, s15, L15⟩
  have V15 := V14.same s15
  have u15 := Same.urn s15 u14
  refine seq_cut (fun σ H16 => ∃ (rw' : Addr) (xs : List V) (Lr : List Rat) (x : Nat → Rat) (o10 o14 : Option V), σ = [some (.ref u), some (.int kd), some (.int (n : Int)), some (.ref st), o4, some (.ref hd), some (.ref tl), some (.ref kp), some (.int (at' : Int)), some (.ref rw'), o10, none, some (.ref l), some (.ref pd), o14] ∧ SameX u H15 H16 ∧ UrnAt H16 u ∧ LsX u H16 rw' xs Lr ∧ Lr.length = n ∧ (∀ y ∈ Lr, OvB (60 ^ 9) 107 y) ∧ x at' = 0 ∧ ∀ c, c < n → aQ Lr c = sumTo (fun j => x j * qq M j c) n) (fun N hN => ?_) ?_
  · have lus : us.length = n := by rw [V15.rws.length, lM]
    have c1 : cutV (us.map V.ref) none (some (at' : Int)) = (us.take at').map V.ref := by rw [cut_take _ (by rw [List.length_map]; omega), List.map_take]
    have c2 : cutV (us.map V.ref) (some ((at' : Int) + 1)) none = (us.drop (at' + 1)).map V.ref := by rw [show (at' : Int) + 1 = ((at' + 1 : Nat) : Int) by omega, cut_from _ (by rw [List.length_map]; omega), List.map_drop]
    refine ⟨_, rfl, _, rfl, _, rfl, l, _, rfl, SqL.of V15.at', fun p0 hp0 => ?_⟩
    obtain ⟨G0, y0, Z0, g0⟩ := new_any (.lst (cutV (us.map V.ref) none (some (at' : Int)))) hp0
    rw [← y0]
    refine ⟨_, rfl, _, rfl, _, _, rfl, rfl, _, rfl, l, _, rfl, SqL.of (Z0 _ _ V15.at'), fun p1 hp1 => ?_⟩
    obtain ⟨G1, y1, Z1, g1⟩ := new_any (.lst (cutV (us.map V.ref) (some ((at' : Int) + 1)) none)) hp1
    rw [← y1]
    rw [c1] at g0
    rw [c2] at g1
    have Z01 := Z0.trans Z1
    refine ⟨p0, p1, _, _, rfl, rfl, Z1 _ _ g0, g1, ?_, fun p2 hp2 => ?_⟩
    · rw [List.length_map, List.length_map, List.length_take, List.length_drop]
      exact Nat.le_trans (show _ ≤ 100 by omega) (by decide)
    obtain ⟨G2, y2, Z2, g2⟩ := new_any (.lst ((us.take at').map V.ref ++ (us.drop (at' + 1)).map V.ref)) hp2
    rw [← y2]
    rw [← List.map_append] at g2
    have Z := Z01.trans Z2
    have uG := Same.urn Z u15
    have VG := V15.same Z
    have p2u : p2 ≠ u := urn_ne (Same.urn Z01 u15) hp2
    have lq : (us.take at' ++ us.drop (at' + 1)).length ≤ 6 := by rw [List.length_append, List.length_take, List.length_drop]; omega
    obtain ⟨I, hI⟩ : ∃ I : Nat → L2.St → Hp → Prop, ∀ p σ H16, I p σ H16 ↔ ∃ (rw' : Addr) (xs : List V) (Lr : List Rat) (x : Nat → Rat) (o10 o14 : Option V), σ = [some (.ref u), some (.int kd), some (.int (n : Int)), some (.ref st), o4, some (.ref hd), some (.ref tl), some (.ref kp), some (.int (at' : Int)), some (.ref rw'), o10, none, some (.ref l), some (.ref pd), o14] ∧ SameX u G2 H16 ∧ UrnAt H16 u ∧ LsX u H16 rw' xs Lr ∧ Lr.length = n ∧ (∀ y ∈ Lr, OvB (60 ^ 9) (101 + p) y) ∧ x at' = 0 ∧ ∀ c, c < n → aQ Lr c = sumTo (fun j => x j * qq M j c) n := ⟨_, fun _ _ _ => Iff.rfl⟩
    have mZ : ∀ c, aQ (List.replicate n (0 : Rat)) c = 0 := fun c => by
      unfold aQ
      by_cases z : c < n
      · rw [List.getElem?_replicate_of_lt z]; rfl
      · rw [List.getElem?_eq_none (by rw [List.length_replicate]; omega)]; rfl
    refine ⟨p2, rfl, ⟨_, SqL.of g2⟩, for_list (xs := (us.take at' ++ us.drop (at' + 1)).map V.ref) I ((hI _ _ _).mpr ⟨rw0, xs0, List.replicate n 0, fun _ => 0, _, _, rfl, fun b o h _ => h, uG, L15.same Z, List.length_replicate, fun y hy => by rw [(List.mem_replicate.mp hy).2]; exact OvB.zero _ _, rfl, fun c _ => by rw [mZ, sumTo_zero n fun j _ => Rat.zero_mul _]⟩) (fun p σ H16 _ h => ?_) ?_ ?_⟩
    · obtain ⟨_, _, _, _, _, _, _, s16, _⟩ := (hI _ _ _).mp h
      exact SqL.of (s16 _ _ g2 p2u)
    · rintro p v σ H16 hv h
      obtain ⟨rw', xs, Lr, x, o10, o14, rfl, s16, u16, L16, lLr, oLr, xa, vLr⟩ := (hI _ _ _).mp h
      obtain ⟨pt, hpt, rfl⟩ := refs_get hv
      have hp6 : p < 6 := by have := (List.getElem?_eq_some_iff.mp hpt).1; omega
      obtain ⟨j, ja, ej⟩ := cut_idx (by omega) hpt
      have V16 := VG.samex s16 uG
      refine seq_cut (fun σ H17 => ∃ (po : Addr) (z : Int), σ = [some (.ref u), some (.int kd), some (.int (n : Int)), some (.ref st), o4, some (.ref hd), some (.ref tl), some (.ref kp), some (.int (at' : Int)), some (.ref rw'), some (.ref pt), none, some (.ref l), some (.ref pd), some (.ref po)] ∧ SameX u H16 H17 ∧ UrnAt H17 u ∧ H17 po = some (.tup (numV ((z : Int) : Rat))) ∧ z.natAbs ≤ 1) (fun N hN => ?_) ?_
      · clean_wf
        refine ⟨u16, by decide, by decide, fun r H17 r0 r3 s17 u17 => ⟨by decide, fun po hpo => hN _ _ ⟨po, r - 1, rfl, s17.trans (Same.x (Same.new hpo _) u), urn_new u17 hpo, ?_, by omega⟩⟩⟩
        rw [upd_same]
        unfold numV
        rw [Rat.num_intCast, Rat.den_intCast]; rfl
      rintro σ H17 ⟨po, z, rfl, s17, u17, epo, hz⟩
      have V17 := V16.samex s17 u16
      have L17 := L16.samex s17 u16
      obtain ⟨xp, Lp, d1, d2, d3⟩ := V17.rws.get ej
      have lLp := (oM Lp (List.mem_of_getElem? d1)).1
      have qp : ∀ c, qq M j c = aQ Lp c := fun c => by unfold qq; rw [d1]; rfl
      have oz : OvB 1 1 ((z : Int) : Rat) := int_ov hz
      have hj : j < n := by have := (List.getElem?_eq_some_iff.mp ej).1; omega
      obtain ⟨NR, hNR⟩ : ∃ NR, NR = (List.range n).map fun y => aQ Lr y + ((z : Int) : Rat) * aQ Lp y := ⟨_, rfl⟩
      have nl : NR.length = n := by rw [hNR, List.length_map, List.length_range]
      have nv : ∀ y, y < n → NR[y]? = some (aQ Lr y + ((z : Int) : Rat) * aQ Lp y) := fun y hy => by rw [hNR, List.getElem?_map, List.getElem?_range hy]; rfl
      have at2 : ∀ {xs : List V} {L : List Rat}, Nums H17 xs L → L.length = n → ∀ y, y < n → ∃ py, xs[y]? = some (.ref py) ∧ H17 py = some (.tup (numV (aQ L y))) ∧ aQ L y ∈ L := fun hN hl y hy => by
        rename_i xs L
        have ey := List.getElem?_eq_getElem (l := L) (i := y) (by omega)
        obtain ⟨py, g1, g2⟩ := hN.get ey
        have ea : aQ L y = L[y]'(by omega) := by unfold aQ; rw [ey]; rfl
        exact ⟨py, g1, by rw [ea]; exact g2, by rw [ea]; exact List.mem_of_getElem? ey⟩
      have lxr : xs.length = n := by rw [L17.nums.length, lLr]
      have lxp : xp.length = n := by rw [d3.length, lLp]
      have mn : min xs.length xp.length = n := by omega
      subst_eqs
      refine ⟨⟨_, SqL.of L17.at'⟩, ⟨_, SqL.of d2⟩, fun D hD => ?_⟩
      obtain ⟨Pv, hPv⟩ : ∃ Pv : Nat → L2.St → Hp → Prop, ∀ y σ Ha, Pv y σ Ha ↔ ∃ (o1 o2 : Option V), σ = [some (.ref po), o1, o2] ∧ RowAt H17 D (NR.take y) Ha := ⟨_, fun _ _ _ => Iff.rfl⟩
      refine cw_zip xs xp Pv ((hPv _ _ _).mpr ⟨_, _, rfl, RowAt.start hD⟩) (fun y σ Ha h => ?_) ?_ ?_
      · obtain ⟨_, _, _, R⟩ := (hPv _ _ _).mp h
        exact ⟨SqL.of (R.same _ _ L17.at'), SqL.of (R.same _ _ d2)⟩
      · rintro y vx vy σ Ha pp hx hy h hpp
        obtain ⟨o1, o2, rfl, R⟩ := (hPv _ _ _).mp h
        have yn : y < n := by have := (List.getElem?_eq_some_iff.mp hx).1; omega
        obtain ⟨pa, ga, ha, ma⟩ := at2 L17.nums lLr y yn
        obtain ⟨pb, gb, hb, mb⟩ := at2 d3 lLp y yn
        rw [ga] at hx
        rw [gb] at hy
        cases hx
        cases hy
        obtain ⟨Hb, yb, Xb, gb⟩ := new_any (.tup [V.ref pa, V.ref pb]) hpp
        rw [← yb]
        have SS := R.same.trans Xb
        have bz : BdN 2 ((z : Int) : Rat) := OvB.bdN (by decide) (by decide) (oz.mono (by decide))
        have bp : BdN 107 (aQ Lp y) := OvB.bdN (Nat.pow_pos (by decide)) b9 (((oM Lp (List.mem_of_getElem? d1)).2 _ mb).mono (by decide))
        have br : BdN 107 (aQ Lr y) := OvB.bdN (Nat.pow_pos (by decide)) b9 ((oLr _ ma).mono (by omega))
        simp only [ipM, rLst, tComp_eq, tCompIf_eq, tMaxD, iZip, rRep, tSl, tPart, tNoPart, rSlL, rAppend, iEnum, capSt, List.map_cons, List.map_nil, Option.bind_none, Option.bind_some, Option.join_some, tSeq, tIfS, tAnd, tOr, tNot, tTest, tB, tOp, tUn, tBM0, tBM, tVar, tC, tCB, tRet, tAsg, gName, gSub, gTup, gCons, gNil, tCons, tNil, tPar, tTup, tLst, tIf, tAndV, tNotV, tDef, tCallX, tDrop, tNext, tNever, tRaise, tAug, rI, rI0, rU, rBitLen, rIxL, rIxT, rSetL, rEq, rNe, rCount, rIndex, rSplit, rIsI, rCat, iRng1, iRng2, iList, cxOf, cxR, cxX, Cx.nox, Cx.wish, Cx.body, Cx.suite, List.getElem?_cons_zero, List.getElem?_cons_succ, List.set_cons_zero, List.set_cons_succ, Option.some.injEq, V.int.injEq, V.bl.injEq, V.ref.injEq, V.str.injEq, exists_eq_left', exists_eq_left, exists_and_left, true_and, and_true, List.cons.injEq, reduceCtorEq, Bool.false_eq_true, if_false, if_true, exists_const, ↓reduceIte, tyV, List.length_cons, List.length_nil, exists_eq, List.append_nil, List.cons_append, List.nil_append, decide_eq_true_eq, not_true_eq_false, not_false_eq_true, Bool.not_eq_true', decide_eq_false_iff_not, Bool.not_true, Bool.not_false, and_assoc, false_and, false_or, or_false, spLBin]
        refine ⟨_, SqT.of gb, rfl, _, _, rfl, _, _, rfl, rfl, ?_⟩
        refine ⟨_, ⟨_, rfl, SqT.of (SS _ _ epo)⟩, _, ⟨_, rfl, SqT.of (SS _ _ hb)⟩, 2, bz.t (by omega), 107, bp.t (by omega), by omega, fun r1 Hc sc' ec => ?_⟩
        refine ⟨_, ⟨_, rfl, SqT.of (sc' _ _ (SS _ _ ha))⟩, _, ⟨_, rfl, SqT.of ec⟩, 107, br.t (by omega), 109, (bz.mul bp).t (by omega), by omega, fun r2 Hd sd ed => ?_⟩
        obtain ⟨ys, eD, yl, R'⟩ := R.add hD ((Xb.trans sc').trans sd) ed
        refine CompN.mk (by rw [mn]; exact yn) eD (len_ok (by rw [yl, List.length_take]; omega)) ((hPv _ _ _).mpr ⟨_, _, rfl, ?_⟩)
        rw [take_snoc_get (nv y yn)]
        exact R'
      · intro σ Ha h
        obtain ⟨o1, o2, rfl, R⟩ := (hPv _ _ _).mp h
        rw [take_all (by rw [mn, nl]; exact Nat.le_refl _)] at R
        obtain ⟨sa, ys, eD, nD⟩ := R
        refine (hI _ _ _).mpr ⟨D, ys, NR, fun t => x t + (if t = j then ((z : Int) : Rat) else 0), _, _, rfl, (s16.trans s17).trans (Same.x sa u), Same.urn sa u17, ⟨urn_ne u17 hD, eD, nD⟩, nl, fun y hy => ?_, ?_, fun c hc => ?_⟩
        · rw [hNR] at hy
          obtain ⟨c, hc, rfl⟩ := List.mem_map.mp hy
          have hc := List.mem_range.mp hc
          obtain ⟨_, _, _, m1⟩ := at2 L17.nums lLr c hc
          obtain ⟨_, _, _, m2⟩ := at2 d3 lLp c hc
          have o1 := oz.mul ((oM Lp (List.mem_of_getElem? d1)).2 _ m2)
          rw [Nat.one_mul] at o1
          exact (OvB.add (W := 101 + p) (Nat.pow_pos (by decide)) (oLr _ m1) (o1.mono (by omega))).mono (by omega)
        · show x at' + (if at' = j then _ else _) = 0
          rw [xa, if_neg (Ne.symm ja), Rat.add_zero]
        · have e1 : aQ NR c = aQ Lr c + ((z : Int) : Rat) * aQ Lp c := by
            have := nv c hc
            unfold aQ at this ⊢
            rw [this]; rfl
          rw [e1, vLr c hc, ← qp]
          exact (sum_upd x (fun t => qq M t c) _ hj).symm
    · intro σ H16 h
      obtain ⟨rw', xs, Lr, x, o10, o14, rfl, s16, u16, L16, lLr, oLr, xa, vLr⟩ := (hI _ _ _).mp h
      rw [List.length_map] at oLr
      exact hN _ _ ⟨rw', xs, Lr, x, o10, o14, rfl, (Same.x Z u).trans s16, u16, L16, lLr, fun y hy => (oLr y hy).mono (by omega), xa, vLr⟩
  rintro σ H16 ⟨rw', xs, Lr, x, o10, o14, rfl, s16, u16, L16, lLr, oLr, xa, vLr⟩
  have V16 := V15.samex s16 u15
  have lus : us.length = n := by rw [V16.rws.length, lM]
  have c1 : cutV (us.map V.ref) none (some (at' : Int)) = (us.take at').map V.ref := by rw [cut_take _ (by rw [List.length_map]; omega), List.map_take]
  have c2 : cutV (us.map V.ref) (some ((at' : Int) + 1)) none = (us.drop (at' + 1)).map V.ref := by rw [show (at' : Int) + 1 = ((at' + 1 : Nat) : Int) by omega, cut_from _ (by rw [List.length_map]; omega), List.map_drop]
  subst_eqs
  refine ⟨_, SqL.of V16.at', fun p0 hp0 => ?_⟩
  obtain ⟨G0, y0, Z0, g0⟩ := new_any (.lst (cutV (us.map V.ref) none (some (at' : Int)))) hp0
  rw [← y0]
  rw [c1] at g0
  refine ⟨by decide, fun p1 hp1 => ?_⟩
  obtain ⟨G1, y1, Z1, g1⟩ := new_any (.lst [V.ref rw']) hp1
  rw [← y1]
  refine ⟨_, Z1 _ _ g0, _, g1, ?_, fun p2 hp2 => ?_⟩
  · rw [List.length_map, List.length_take]
    exact Nat.le_trans (show _ + 1 ≤ 100 by omega) (by decide)
  obtain ⟨G2, y2, Z2, g2⟩ := new_any (.lst ((us.take at').map V.ref ++ [V.ref rw'])) hp2
  rw [← y2]
  have Z02 := (Z0.trans Z1).trans Z2
  refine ⟨_, SqL.of (Z02 _ _ V16.at'), fun p3 hp3 => ?_⟩
  obtain ⟨G3, y3, Z3, g3⟩ := new_any (.lst (cutV (us.map V.ref) (some ((at' : Int) + 1)) none)) hp3
  rw [← y3]
  rw [c2] at g3
  refine ⟨_, Z3 _ _ g2, _, g3, ?_, fun p4 hp4 => ?_⟩
  · rw [List.length_append, List.length_map, List.length_map, List.length_take, List.length_drop, List.length_singleton]
    exact Nat.le_trans (show _ ≤ 100 by omega) (by decide)
  obtain ⟨G4, y4, Z4, g4⟩ := new_any (.lst ((us.take at').map V.ref ++ [V.ref rw'] ++ (us.drop (at' + 1)).map V.ref)) hp4
  rw [← y4]
  have Z := (Z02.trans Z3).trans Z4
  have eU : (us.take at').map V.ref ++ [V.ref rw'] ++ (us.drop (at' + 1)).map V.ref = (us.take at' ++ [rw'] ++ us.drop (at' + 1)).map V.ref := by rw [List.map_append, List.map_append]; rfl
  rw [eU] at g4
  obtain ⟨FM, hFM⟩ : ∃ FM, FM = M.take at' ++ [Lr] ++ M.drop (at' + 1) := ⟨_, rfl⟩
  have RC := (V16.rws.toC (K := K)).same Z
  have RF : RwsC K G4 (us.take at' ++ [rw'] ++ us.drop (at' + 1)) FM := by
    rw [hFM]
    exact ((RC.take at').append (.cons (Z _ _ L16.at') (L16.nums.mono Z.tups).toC .nil)).append (RC.drop (at' + 1))
  have lF : FM.length = n := by rw [hFM, List.length_append, List.length_append, List.length_take, List.length_drop, List.length_singleton]; omega
  have cF : ∀ L ∈ FM, L.length = n ∧ ClN 107 L := fun L hL => by
    rw [hFM] at hL
    rcases List.mem_append.mp hL with z | z
    · rcases List.mem_append.mp z with z | z
      · exact cM L (List.mem_of_mem_take z)
      · rw [List.mem_singleton.mp z]
        exact ⟨lLr, ov_cl (Nat.pow_pos (by decide)) oLr b9 (Nat.le_refl _)⟩
    · exact cM L (List.mem_of_mem_drop z)
  have dF : dt n (qq FM) = 0 := flat_dt hFM lM han xa vLr
  have kF : ∀ H', Same G4 H' → spBackSaid K [.ref p4] H' (fun x H1 => 0 + 1 + 1 ≤ sizeLine ∧ ∀ p, H1 p = none → rEqD K x (V.ref p) (upd H1 p (.tup [V.str "refused", V.str "back"])) Q) E0 := fun H' sH => by
    refine ⟨p4, _, FM, n, 107, rfl, SqL.of (sH _ _ g4), RF.same sH, lF, cF, by omega, by decide, wn, fun _ t Ha sa ea => ⟨by decide, fun p hp => ?_⟩, fun z => absurd dF z⟩
    have X2 := Same.new hp (.tup [.str "refused", .str "back"])
    refine ⟨dStr2 "refused" "back", dStr2 "refused" "back", rfl, isD_str2 (SqT.of (X2 _ _ ea)), isD_str2 (SqT.of upd_same), okD_str2 _ _ _ _, dp_str2 _ _, ?_⟩
    rw [eqD_str2]
    have XX := ((Z.trans sH).trans sa).trans X2
    have SXX : SameX u H _ := (s12.trans (Same.x s13 u)).trans (s14.trans ((Same.x s15 u).trans (s16.trans (Same.x XX u))))
    exact k _ SXX (Same.urn XX u16)
  refine ⟨p4, _, FM, n, 107, rfl, SqL.of g4, RF, lF, cF, by omega, by decide, by omega, fun r Ha sa ea => ⟨by decide, fun p hp => ?_⟩⟩
  rw [dF] at ea
  have Xa := Same.new hp (.tup [.int 0, .int 1])
  refine ⟨dNum 0, dNum 0, rfl, isD_num (ea.mono Xa.tups).sqt, isD_num (SqT.of (show _ = some (.tup (numV 0)) from upd_same)), okD_num _ _, dp_num _, true, by rw [eqD_num], ?_⟩
  rw [if_pos rfl]
  exact kF _ (sa.trans Xa)
end
end R

set_option maxRecDepth 100000
namespace R
open PySem L2 PyProof.Rows
section
variable {P : Program} {w : World} {K : PySem.W.Frag} {mg : Str → Option Value} {base : Heap}
abbrev s_law : Stmt := top 57
theorem sc_law : FnScope ["_law_script", "_law_at"] ["_law_script"] (defScope s_law) := ⟨rfl, rfl, rfl, by decide +kernel, rfl, by decide +kernel, by decide +kernel⟩
set_option maxHeartbeats 0 in
theorem ok_law {f g1 g2 : Addr} {fd : FuncData} (F : Fun K "law" "law" s_law f fd) (G__law_urn : Def P w K mg base CX0 1 "_law_urn" g1 ["_law_script", "_law_at"] (spUrn K)) (G__law_right : Def P w K mg base CX0 6 "_law_right" g2 ["_law_urn_here"] (spRight K))
    (n_range : mg "range" = none) (n_max : mg "max" = none) (n_min : mg "min" = none) (n_len : mg "len" = none) : FnOk P w K mg base CX0 (6 + 1) f fd ["_law_script"] (spLaw K) := by
  refine F.ok (N := ["_law_script", "_law_at"]) sc_law (fun vs H Q E ⟨x, y, h, _⟩ => by rw [h]; rfl) (fun cdv A outer s H vs Q E hr h => ?_)
  obtain ⟨as, ns, rfl, hS, h63, k⟩ := h
  refine ⟨_, (pss_cons (ps_for PassesOwn.never rfl (pi_range1 rfl n_range (pa_cons (pe_callB (call_max2 rfl) rfl n_max (by decide +kernel) (pa_cons pe_int (pa_cons (pe_callB (call_min2 rfl) rfl n_min (by decide +kernel) (pa_cons pe_int (pa_cons (pe_callB call_len_seq rfl n_len (by decide +kernel) (pa_cons (pv 0) pa_nil)) pa_nil))) pa_nil))) pa_nil)) (pg_name (i := 1) sc_law.nd rfl (Or.inl rfl)) (pss_one (ps_if (pt_not (pt_val (pe_def G__law_right hr (pa_cons (pe_def G__law_urn hr (pa_cons (pv 0) (pa_cons (pv 1) pa_nil)) pass0) pa_nil) pass0))) (pss_one (ps_ret pe_bl)) pss_nil)))
      (pss_one (ps_ret pe_bl))), ?_⟩
  rw [show start ["_law_script", "_law_at"] [.ref as] = [some (.ref as), none] from rfl]
  have hlen : (((ns.map V.int).length : Nat) : Int) = (ns.length : Int) := by rw [List.length_map]
  refine ⟨_, rfl, as, _, rfl, .inl hS, 3, _, rfl, 1, _, rfl, _, rfl, ?_, ?_, for_range (fun i σ H1 => ∃ o1 : Option V, σ = [some (.ref as), o1] ∧ SqL K H1 as (ns.map V.int)) ⟨_, rfl, hS⟩ ?_ ?_⟩
  · rw [hlen]; split <;> split <;> omega
  · rw [hlen]; split <;> split <;> omega
  · rintro i σ H1 hi ⟨o1, rfl, hS1⟩
    rw [hlen] at hi
    have hi4 : i < 4 := by
      revert hi
      split <;> split <;> omega
    subst_eqs
    refine ⟨as, ns, _, rfl, hS1, by omega, by omega, fun u H2 s2 hu0 hu2 => ?_⟩
    refine ⟨u, rfl, hu2, fun H3 s3 hu3 => ?_⟩
    exact ⟨true, rfl, ite2 (fun h => absurd h (by decide)) (fun _ => ((Same.x s2 u).trans s3).seq hu0 hS1)⟩
  · rintro σ H1 ⟨o1, rfl, hS1⟩
    exact k H1
end
end R

set_option maxRecDepth 100000
def PySem.W.Fast.tw1246613794989949446 : Unit := ()
def PySem.W.Fast.tw15037640801934553880 : Unit := ()
def PySem.W.Fast.tw8067420922423027176 : Unit := ()
def PySem.W.Fast.tw599634034459019458 : Unit := ()
def PySem.W.Fast.tw9434712230943654845 : Unit := ()
def PySem.W.Fast.tw11871712981702074282 : Unit := ()
def PySem.W.Fast.tw12572180743305702747 : Unit := ()
def PySem.W.Fast.tw10471929831278022164 : Unit := ()
def PySem.W.Fast.tw2420700200517953605 : Unit := ()
def PySem.W.Fast.tw14747707618957607856 : Unit := ()
def PySem.W.Fast.tw8629016494991419301 : Unit := ()
def PySem.W.Fast.tw9954329907809878420 : Unit := ()
def PySem.W.Fast.tw14730954453303648247 : Unit := ()
def PySem.W.Fast.tw2526327460174843616 : Unit := ()
def PySem.W.Fast.tw16068309537623749978 : Unit := ()
def PySem.W.Fast.tw16295372428311356296 : Unit := ()
def PySem.W.Fast.tw9523394409266593778 : Unit := ()
def PySem.W.Fast.tw3748661092431278435 : Unit := ()
def PySem.W.Fast.tw3258043575850083114 : Unit := ()
def PySem.W.Fast.tw442534829688344768 : Unit := ()
def PySem.W.Fast.tw12040085153046303426 : Unit := ()
def PySem.W.Fast.tw4887330455736756664 : Unit := ()
def PySem.W.Fast.tw9490301031425643448 : Unit := ()
def PySem.W.Fast.tw10578882105508282632 : Unit := ()
def PySem.W.Fast.tw8653071686351070518 : Unit := ()
def PySem.W.Fast.tw17306815487569764659 : Unit := ()
def PySem.W.Fast.tw11614231894576256140 : Unit := ()
def PySem.W.Fast.tw11199869009597520102 : Unit := ()
def PySem.W.Fast.tw2564903894228830280 : Unit := ()
def PySem.W.Fast.tw16179965132921151548 : Unit := ()
def PySem.W.Fast.tw17900698906891639085 : Unit := ()
def PySem.W.Fast.tw16682004546543557588 : Unit := ()
def PySem.W.Fast.tw16541835804593778004 : Unit := ()
def PySem.W.Fast.tw9669928662098514642 : Unit := ()
def PySem.W.Fast.tw11031641552841492280 : Unit := ()
def PySem.W.Fast.tw16118870249792043873 : Unit := ()
def PySem.W.Fast.tw6124512686426954912 : Unit := ()
def PySem.W.Fast.tw3382485579600070902 : Unit := ()
def PySem.W.Fast.tw2752445071278873131 : Unit := ()
def PySem.W.Fast.tw5913292097951771939 : Unit := ()
def PySem.W.Fast.tw6015138805294133151 : Unit := ()
def PySem.W.Fast.tw13957372169320188816 : Unit := ()
def PySem.W.Fast.tw6535904057573300922 : Unit := ()
def PySem.W.Fast.tw8601846504036875653 : Unit := ()
def PySem.W.Fast.tw10921520084009067596 : Unit := ()
def PySem.W.Fast.tw9234742650823709605 : Unit := ()
def PySem.W.Fast.tw13905661895563071110 : Unit := ()
def PySem.W.Fast.tw12388573399417554184 : Unit := ()
def PySem.W.Fast.tw12651990477367835099 : Unit := ()
def PySem.W.Fast.tw693217138784788424 : Unit := ()
def PySem.W.Fast.tw5318508216701983675 : Unit := ()
def PySem.W.Fast.tw18293366998098441931 : Unit := ()
def PySem.W.Fast.tw3434013822791635604 : Unit := ()
def PySem.W.Fast.tw12343671958887897855 : Unit := ()
def PySem.W.Fast.tw12809935497032476359 : Unit := ()
def PySem.W.Fast.tw16441169461300802576 : Unit := ()
def PySem.W.Fast.tw9131274434279238807 : Unit := ()
def PySem.W.Fast.tw6895270130926768573 : Unit := ()
def PySem.W.Fast.tw4613349839022484273 : Unit := ()
def PySem.W.Fast.tw4643284543571424667 : Unit := ()
def PySem.W.Fast.tw16517978757538429569 : Unit := ()
def PySem.W.Fast.tw1693651613377958959 : Unit := ()
def PySem.W.Fast.tw13735046426538072798 : Unit := ()
def PySem.W.Fast.tw2681726885406885565 : Unit := ()
def PySem.W.Fast.tw8923561110349651295 : Unit := ()
def PySem.W.Fast.tw11565284721584919260 : Unit := ()
def PySem.W.Fast.tw12834990871153141941 : Unit := ()
def PySem.W.Fast.tw13023736761535721389 : Unit := ()
def PySem.W.Fast.tw1224426524348563930 : Unit := ()
def PySem.W.Fast.tw7118238895896054320 : Unit := ()
def PySem.W.Fast.tw1973580326961310778 : Unit := ()
def PySem.W.Fast.tw14733540847282031408 : Unit := ()
def PySem.W.Fast.tw6845578648143789208 : Unit := ()
def PySem.W.Fast.tw4844929880314058810 : Unit := ()
def PySem.W.Fast.tw10720852949699600821 : Unit := ()
def PySem.W.Fast.tw3408188283418735164 : Unit := ()
def PySem.W.Fast.tw16059718646436361803 : Unit := ()
def PySem.W.Fast.tw4926346182373403324 : Unit := ()
def PySem.W.Fast.tw962316317635047273 : Unit := ()
def PySem.W.Fast.tw9346689652920876255 : Unit := ()
def PySem.W.Fast.tw145086615593150187 : Unit := ()
def PySem.W.Fast.tw12394202393187470775 : Unit := ()
def PySem.W.Fast.tw5414207535825119450 : Unit := ()
def PySem.W.Fast.tw9503193416840411708 : Unit := ()
def PySem.W.Fast.tw1198293847500635713 : Unit := ()
def PySem.W.Fast.tw2483892668644529797 : Unit := ()
def PySem.W.Fast.tw13493707035068014639 : Unit := ()
def PySem.W.Fast.tw17040689057902135853 : Unit := ()
def PySem.W.Fast.tw293177664607240830 : Unit := ()
def PySem.W.Fast.tw7509292599969526301 : Unit := ()
def PySem.W.Fast.tw17904706825864733976 : Unit := ()
def PySem.W.Fast.tw11943978983941821180 : Unit := ()
def PySem.W.Fast.tw12338615151888252729 : Unit := ()
def PySem.W.Fast.tw11657903321184302107 : Unit := ()
def PySem.W.Fast.tw8504304052634003130 : Unit := ()
def PySem.W.Fast.tw1843350690806856303 : Unit := ()
def PySem.W.Fast.tw6379085665771222024 : Unit := ()
def PySem.W.Fast.tw3094315266464134802 : Unit := ()
def PySem.W.Fast.tw17919909232597085659 : Unit := ()
def PySem.W.Fast.tw12747924910142866587 : Unit := ()
def PySem.W.Fast.tw17817280348336380337 : Unit := ()
def PySem.W.Fast.tw1841751569143058076 : Unit := ()
def PySem.W.Fast.tw884439362161658779 : Unit := ()
def PySem.W.Fast.tw164384910483429793 : Unit := ()
def PySem.W.Fast.tw7398149750047513709 : Unit := ()
def PySem.W.Fast.tw15813213779094357746 : Unit := ()
def PySem.W.Fast.tw8834077107935501085 : Unit := ()
def PySem.W.Fast.tw4671683465485793491 : Unit := ()
def PySem.W.Fast.tw7527498499770432565 : Unit := ()
def PySem.W.Fast.tw2420778664385989271 : Unit := ()
def PySem.W.Fast.tw7011378107836854904 : Unit := ()
def PySem.W.Fast.tw14090429415554513466 : Unit := ()
def PySem.W.Fast.tw1758941439605550273 : Unit := ()
def PySem.W.Fast.tw6289793152812621360 : Unit := ()
def PySem.W.Fast.tw18066354585431459269 : Unit := ()
def PySem.W.Fast.tw3330721353910774120 : Unit := ()
def PySem.W.Fast.tw18021472022530132437 : Unit := ()
def PySem.W.Fast.tw10809903421658440971 : Unit := ()
def PySem.W.Fast.tw3841221734216623326 : Unit := ()
def PySem.W.Fast.tw3722905045669403116 : Unit := ()
def PySem.W.Fast.tw9810390015713756434 : Unit := ()
def PySem.W.Fast.tw583554620332858159 : Unit := ()
def PySem.W.Fast.tw17790071366699531903 : Unit := ()
def PySem.W.Fast.tw14957742528048763563 : Unit := ()
def PySem.W.Fast.tw18375556575901761493 : Unit := ()
def PySem.W.Fast.tw9976854927472969102 : Unit := ()
def PySem.W.Fast.tw10065534400545681458 : Unit := ()
def PySem.W.Fast.tw16853219556141850454 : Unit := ()
def PySem.W.Fast.tw10208942665382769997 : Unit := ()
def PySem.W.Fast.tw1734968822449078855 : Unit := ()
def PySem.W.Fast.tw16534846132818781052 : Unit := ()
def PySem.W.Fast.tw5668170245140802171 : Unit := ()
def PySem.W.Fast.tw8715877598834457545 : Unit := ()
def PySem.W.Fast.tw2381627485905583823 : Unit := ()
def PySem.W.Fast.tw7622086758683682701 : Unit := ()
def PySem.W.Fast.tw3942350171805070820 : Unit := ()
def PySem.W.Fast.tw10462881095307203638 : Unit := ()
def PySem.W.Fast.tw1261076482905704194 : Unit := ()
def PySem.W.Fast.tw530484444404900533 : Unit := ()
def PySem.W.Fast.tw8352607299835155970 : Unit := ()
def PySem.W.Fast.tw3724191501940214824 : Unit := ()
def PySem.W.Fast.tw10321194502570851858 : Unit := ()
def PySem.W.Fast.tw15531535116342775890 : Unit := ()
def PySem.W.Fast.tw3764247791989586715 : Unit := ()
def PySem.W.Fast.tw780319178322938235 : Unit := ()
def PySem.W.Fast.tw13266240503327231591 : Unit := ()
def PySem.W.Fast.tw17196013566368702117 : Unit := ()
def PySem.W.Fast.tw8359499491607698779 : Unit := ()
def PySem.W.Fast.tw18049344071467191884 : Unit := ()
def PySem.W.Fast.tw10775735763665957901 : Unit := ()
def PySem.W.Fast.tw11507331504977631914 : Unit := ()
def PySem.W.Fast.tw17390504729232377122 : Unit := ()
def PySem.W.Fast.tw17573889488856506436 : Unit := ()
def PySem.W.Fast.tw17792368886314048388 : Unit := ()
def PySem.W.Fast.tw14517018175955574093 : Unit := ()
def PySem.W.Fast.tw18326405400868560490 : Unit := ()
def PySem.W.Fast.tw7086397476457645995 : Unit := ()
def PySem.W.Fast.tw1841739165684272149 : Unit := ()
def PySem.W.Fast.tw15473881327376226695 : Unit := ()
def PySem.W.Fast.tw6045657284228173339 : Unit := ()
def PySem.W.Fast.tw12945435905577424980 : Unit := ()
def PySem.W.Fast.tw17617324721058697590 : Unit := ()
def PySem.W.Fast.tw2947375239512783236 : Unit := ()
def PySem.W.Fast.tw15126626622675814361 : Unit := ()
def PySem.W.Fast.tw17675960748014210225 : Unit := ()
def PySem.W.Fast.tw11791962316470657357 : Unit := ()
def PySem.W.Fast.tw9606282105237297224 : Unit := ()
def PySem.W.Fast.tw2207248850420646217 : Unit := ()
def PySem.W.Fast.tw9494967292231987758 : Unit := ()
def PySem.W.Fast.tw6949750160177574749 : Unit := ()
def PySem.W.Fast.tw3724748578682356856 : Unit := ()
def PySem.W.Fast.tw14781343241679444363 : Unit := ()
def PySem.W.Fast.tw13583995699290324564 : Unit := ()
def PySem.W.Fast.tw9560371156401130235 : Unit := ()
def PySem.W.Fast.tw7837242886702366200 : Unit := ()
def PySem.W.Fast.tw2677602059197277773 : Unit := ()
def PySem.W.Fast.tw7935163942608199613 : Unit := ()
def PySem.W.Fast.tw1482554832587198059 : Unit := ()
def PySem.W.Fast.tw10236501487170938151 : Unit := ()
def PySem.W.Fast.tw14421892599502537775 : Unit := ()
def PySem.W.Fast.tw4084105884764234621 : Unit := ()
def PySem.W.Fast.tw18310987016810398529 : Unit := ()
def PySem.W.Fast.tw15790600339967136781 : Unit := ()
def PySem.W.Fast.tw3668506610144710200 : Unit := ()
def PySem.W.Fast.tw7754594442556674327 : Unit := ()
def PySem.W.Fast.tw1714502466711327745 : Unit := ()
def PySem.W.Fast.tw8651229710708235457 : Unit := ()
def PySem.W.Fast.tw7535894251736182966 : Unit := ()
def PySem.W.Fast.tw12906630871289543771 : Unit := ()
def PySem.W.Fast.tw10425497265417180205 : Unit := ()
def PySem.W.Fast.tw7952837266360033158 : Unit := ()
def PySem.W.Fast.tw18406552170274606552 : Unit := ()
def PySem.W.Fast.tw6092762521830196304 : Unit := ()
def PySem.W.Fast.tw14776289974937770170 : Unit := ()
def PySem.W.Fast.tw6158746906126344877 : Unit := ()
def PySem.W.Fast.tw17407701726506908957 : Unit := ()
def PySem.W.Fast.tw8954622144173810004 : Unit := ()
def PySem.W.Fast.tw11693701472514185653 : Unit := ()
def PySem.W.Fast.tw15277111747398964296 : Unit := ()
def PySem.W.Fast.tw4959065168634653952 : Unit := ()
def PySem.W.Fast.tw10168847056555895080 : Unit := ()
def PySem.W.Fast.tw11752671310401356700 : Unit := ()
def PySem.W.Fast.tw15805112020601400129 : Unit := ()
def PySem.W.Fast.tw6235744206249360010 : Unit := ()
def PySem.W.Fast.tw15240358610990104791 : Unit := ()
def PySem.W.Fast.tw10003472329206176409 : Unit := ()
def PySem.W.Fast.tw4721189697267289024 : Unit := ()
def PySem.W.Fast.tw16811858441826114667 : Unit := ()
def PySem.W.Fast.tw16439074202517450073 : Unit := ()
def PySem.W.Fast.tw15806121966760324133 : Unit := ()
def PySem.W.Fast.tw7479649642083675397 : Unit := ()
def PySem.W.Fast.tw17387940121163817912 : Unit := ()
def PySem.W.Fast.tw1848610436669529855 : Unit := ()
def PySem.W.Fast.tw7473423278628684222 : Unit := ()
def PySem.W.Fast.tw7421375735086151642 : Unit := ()
def PySem.W.Fast.tw12264290406959909940 : Unit := ()
def PySem.W.Fast.tw16237889340151545688 : Unit := ()
def PySem.W.Fast.tw10610851380080067356 : Unit := ()
def PySem.W.Fast.tw8083103075068771381 : Unit := ()
def PySem.W.Fast.tw9438952137848573119 : Unit := ()
def PySem.W.Fast.tw8748396933876240292 : Unit := ()
def PySem.W.Fast.tw17656904760107718991 : Unit := ()
def PySem.W.Fast.tw8003710372400422230 : Unit := ()
def PySem.W.Fast.tw14606428251348828309 : Unit := ()
def PySem.W.Fast.tw8042888408657774783 : Unit := ()
def PySem.W.Fast.tw3685228992867435638 : Unit := ()
def PySem.W.Fast.tw9402122113886940840 : Unit := ()
def PySem.W.Fast.tw16649009512024554090 : Unit := ()
def PySem.W.Fast.tw3814122366273109662 : Unit := ()
def PySem.W.Fast.tw8695213780074339455 : Unit := ()
def PySem.W.Fast.tw9927175810874079153 : Unit := ()
def PySem.W.Fast.tw6093246095803555467 : Unit := ()
def PySem.W.Fast.tw15142487225331714560 : Unit := ()
def PySem.W.Fast.tw16178279887152361672 : Unit := ()
def PySem.W.Fast.tw14530991648509785893 : Unit := ()
def PySem.W.Fast.tw10012885847077340430 : Unit := ()
def PySem.W.Fast.tw13910161452779722945 : Unit := ()
def PySem.W.Fast.tw5340741289901100472 : Unit := ()
def PySem.W.Fast.tw382497583578772522 : Unit := ()
def PySem.W.Fast.tw11830970792245625643 : Unit := ()
def PySem.W.Fast.tw3030738006480986304 : Unit := ()
def PySem.W.Fast.tw4006524734348620309 : Unit := ()
def PySem.W.Fast.tw8816917523268703299 : Unit := ()
def PySem.W.Fast.tw823361004906263272 : Unit := ()
def PySem.W.Fast.tw4265054099795374715 : Unit := ()
def PySem.W.Fast.tw16031578370323526581 : Unit := ()
def PySem.W.Fast.tw13758934428261845705 : Unit := ()
def PySem.W.Fast.tw4118916972751853664 : Unit := ()
def PySem.W.Fast.tw7971591542096872124 : Unit := ()
def PySem.W.Fast.tw3026576053521208332 : Unit := ()
def PySem.W.Fast.tw4131510057664131547 : Unit := ()
def PySem.W.Fast.tw7501355075046327490 : Unit := ()
def PySem.W.Fast.tw8062629028035991181 : Unit := ()
def PySem.W.Fast.tw3024904085001061211 : Unit := ()
def PySem.W.Fast.tw17781917880091116055 : Unit := ()
def PySem.W.Fast.tw10278142365950658370 : Unit := ()
def PySem.W.Fast.tw14977174054054217103 : Unit := ()
def PySem.W.Fast.tw5551510542878753781 : Unit := ()
def PySem.W.Fast.tw13338290782389078650 : Unit := ()
def PySem.W.Fast.tw16917505685265874454 : Unit := ()
def PySem.W.Fast.tw9155107488885092646 : Unit := ()
def PySem.W.Fast.tw7781525169958077817 : Unit := ()
def PySem.W.Fast.tw7388719138187779629 : Unit := ()
def PySem.W.Fast.tw14447777811624520053 : Unit := ()
def PySem.W.Fast.tw18122573310397325698 : Unit := ()
def PySem.W.Fast.tw7679656651993060614 : Unit := ()
def PySem.W.Fast.tw781982212409340067 : Unit := ()
def PySem.W.Fast.tw13349543066675493850 : Unit := ()
def PySem.W.Fast.tw4153902188236297558 : Unit := ()
def PySem.W.Fast.tw14190952888951681261 : Unit := ()
def PySem.W.Fast.tw15266353067085888242 : Unit := ()
def PySem.W.Fast.tw1444951591275715248 : Unit := ()
def PySem.W.Fast.tw10867027270363663474 : Unit := ()
def PySem.W.Fast.tw8773053337637374939 : Unit := ()
def PySem.W.Fast.tw114370406734613699 : Unit := ()
def PySem.W.Fast.tw5339395433482177075 : Unit := ()
def PySem.W.Fast.tw1279663488178424558 : Unit := ()
def PySem.W.Fast.tw13235176969024044404 : Unit := ()
def PySem.W.Fast.tw13135073453262682387 : Unit := ()
def PySem.W.Fast.tw10113984698291955416 : Unit := ()
def PySem.W.Fast.tw6584044225715349228 : Unit := ()
namespace R
open PySem L2 PyProof.Rows
section
variable {l : PySem.W.OpenLaw} {w : World} {K : PySem.W.Frag} {h : Heap} {mg : Str → Option Value}
set_option maxHeartbeats 0 in
theorem all_mk {fa f_with_lead f_cleaned f_eliminated f_common_divisor f_fraction f_cleared f_determinant f_divisor_for_all f_lowered f_back_of f__law_low f__law_urn f__law_draw f__law_number f__law_whole f__law_is_number f__law_other f__law_plus f__law_times f__law_dot f__law_flipped f__law_unit f__law_table_times f__law_which f__law_said f__law_steep f__law_stepped f__law_is_table f__law_right f_law : Addr} {C_NoFraction C_NoPolynomial C_NoStretch C_NoRow C_NoPair C_NoBack C_NoForm C_NoParts C_NoDegree C_NoSteps C_NoBox C_NoGain C_NoText C_NoLine C_NoName C_NoDeed C_RestError : Addr} {od_with_lead an_with_lead : Option Addr} {sl_with_lead : Array (Option Value)} {oc_with_lead kV_with_lead dc_with_lead pm_with_lead cd_with_lead ct_with_lead : Value} {od_cleaned an_cleaned : Option Addr} {sl_cleaned : Array (Option Value)} {oc_cleaned kV_cleaned dc_cleaned pm_cleaned cd_cleaned ct_cleaned : Value} {od_eliminated an_eliminated : Option Addr} {sl_eliminated : Array (Option Value)} {oc_eliminated kV_eliminated dc_eliminated pm_eliminated cd_eliminated ct_eliminated : Value} {od_common_divisor an_common_divisor : Option Addr} {sl_common_divisor : Array (Option Value)} {oc_common_divisor kV_common_divisor dc_common_divisor pm_common_divisor cd_common_divisor ct_common_divisor : Value} {od_fraction an_fraction : Option Addr} {sl_fraction : Array (Option Value)} {oc_fraction kV_fraction dc_fraction pm_fraction cd_fraction ct_fraction : Value} {od_cleared an_cleared : Option Addr} {sl_cleared : Array (Option Value)} {oc_cleared kV_cleared dc_cleared pm_cleared cd_cleared ct_cleared : Value} {od_determinant an_determinant : Option Addr} {sl_determinant : Array (Option Value)} {oc_determinant kV_determinant dc_determinant pm_determinant cd_determinant ct_determinant : Value} {od_divisor_for_all an_divisor_for_all : Option Addr} {sl_divisor_for_all : Array (Option Value)} {oc_divisor_for_all kV_divisor_for_all dc_divisor_for_all pm_divisor_for_all cd_divisor_for_all ct_divisor_for_all : Value} {od_lowered an_lowered : Option Addr} {sl_lowered : Array (Option Value)} {oc_lowered kV_lowered dc_lowered pm_lowered cd_lowered ct_lowered : Value} {od_back_of an_back_of : Option Addr} {sl_back_of : Array (Option Value)} {oc_back_of kV_back_of dc_back_of pm_back_of cd_back_of ct_back_of : Value} {od__law_low an__law_low : Option Addr} {sl__law_low : Array (Option Value)} {oc__law_low kV__law_low dc__law_low pm__law_low cd__law_low ct__law_low : Value} {od__law_urn an__law_urn : Option Addr} {sl__law_urn : Array (Option Value)} {oc__law_urn kV__law_urn dc__law_urn pm__law_urn cd__law_urn ct__law_urn : Value} {od__law_draw an__law_draw : Option Addr} {sl__law_draw : Array (Option Value)} {oc__law_draw kV__law_draw dc__law_draw pm__law_draw cd__law_draw ct__law_draw : Value} {od__law_number an__law_number : Option Addr} {sl__law_number : Array (Option Value)} {oc__law_number kV__law_number dc__law_number pm__law_number cd__law_number ct__law_number : Value} {od__law_whole an__law_whole : Option Addr} {sl__law_whole : Array (Option Value)} {oc__law_whole kV__law_whole dc__law_whole pm__law_whole cd__law_whole ct__law_whole : Value} {od__law_is_number an__law_is_number : Option Addr} {sl__law_is_number : Array (Option Value)} {oc__law_is_number kV__law_is_number dc__law_is_number pm__law_is_number cd__law_is_number ct__law_is_number : Value} {od__law_other an__law_other : Option Addr} {sl__law_other : Array (Option Value)} {oc__law_other kV__law_other dc__law_other pm__law_other cd__law_other ct__law_other : Value} {od__law_plus an__law_plus : Option Addr} {sl__law_plus : Array (Option Value)} {oc__law_plus kV__law_plus dc__law_plus pm__law_plus cd__law_plus ct__law_plus : Value} {od__law_times an__law_times : Option Addr} {sl__law_times : Array (Option Value)} {oc__law_times kV__law_times dc__law_times pm__law_times cd__law_times ct__law_times : Value} {od__law_dot an__law_dot : Option Addr} {sl__law_dot : Array (Option Value)} {oc__law_dot kV__law_dot dc__law_dot pm__law_dot cd__law_dot ct__law_dot : Value} {od__law_flipped an__law_flipped : Option Addr} {sl__law_flipped : Array (Option Value)} {oc__law_flipped kV__law_flipped dc__law_flipped pm__law_flipped cd__law_flipped ct__law_flipped : Value} {od__law_unit an__law_unit : Option Addr} {sl__law_unit : Array (Option Value)} {oc__law_unit kV__law_unit dc__law_unit pm__law_unit cd__law_unit ct__law_unit : Value} {od__law_table_times an__law_table_times : Option Addr} {sl__law_table_times : Array (Option Value)} {oc__law_table_times kV__law_table_times dc__law_table_times pm__law_table_times cd__law_table_times ct__law_table_times : Value} {od__law_which an__law_which : Option Addr} {sl__law_which : Array (Option Value)} {oc__law_which kV__law_which dc__law_which pm__law_which cd__law_which ct__law_which : Value} {od__law_said an__law_said : Option Addr} {sl__law_said : Array (Option Value)} {oc__law_said kV__law_said dc__law_said pm__law_said cd__law_said ct__law_said : Value} {od__law_steep an__law_steep : Option Addr} {sl__law_steep : Array (Option Value)} {oc__law_steep kV__law_steep dc__law_steep pm__law_steep cd__law_steep ct__law_steep : Value} {od__law_stepped an__law_stepped : Option Addr} {sl__law_stepped : Array (Option Value)} {oc__law_stepped kV__law_stepped dc__law_stepped pm__law_stepped cd__law_stepped ct__law_stepped : Value} {od__law_is_table an__law_is_table : Option Addr} {sl__law_is_table : Array (Option Value)} {oc__law_is_table kV__law_is_table dc__law_is_table pm__law_is_table cd__law_is_table ct__law_is_table : Value} {od__law_right an__law_right : Option Addr} {sl__law_right : Array (Option Value)} {oc__law_right kV__law_right dc__law_right pm__law_right cd__law_right ct__law_right : Value} {od_law an_law : Option Addr} {sl_law : Array (Option Value)} {oc_law kV_law dc_law pm_law cd_law ct_law : Value} {t_SHORT : Tok} {t_LONG : Tok} {A_NOUGHT : Addr} {td_NOUGHT : Option Addr} {ts_NOUGHT : Array (Option Value)} {tn_NOUGHT : Nat} {tt0_NOUGHT tt1_NOUGHT : Tok}
    (X : K.In h) (G : h.Ns mainGlobals mg) (hfa : mg "law" = some (.ref fa))
    (a_with_lead : PySem.W.nsIn K mainGlobals "with_lead" = some (some (.ref f_with_lead)))
    (l_with_lead : K.lookup f_with_lead = some ⟨oc_with_lead, od_with_lead, .func (PySem.W.fnOf "with_lead" "with_lead" (defArgs s_with_lead) (defBody s_with_lead) (defScope s_with_lead) .none kV_with_lead dc_with_lead pm_with_lead an_with_lead cd_with_lead ct_with_lead), sl_with_lead⟩)
    (c_with_lead : PySem.W.codeIn K cd_with_lead "with_lead" = true) (k_with_lead : PySem.W.keepIn K (.ref f_with_lead) = true)
    (a_cleaned : PySem.W.nsIn K mainGlobals "cleaned" = some (some (.ref f_cleaned)))
    (l_cleaned : K.lookup f_cleaned = some ⟨oc_cleaned, od_cleaned, .func (PySem.W.fnOf "cleaned" "cleaned" (defArgs s_cleaned) (defBody s_cleaned) (defScope s_cleaned) .none kV_cleaned dc_cleaned pm_cleaned an_cleaned cd_cleaned ct_cleaned), sl_cleaned⟩)
    (c_cleaned : PySem.W.codeIn K cd_cleaned "cleaned" = true) (k_cleaned : PySem.W.keepIn K (.ref f_cleaned) = true)
    (a_eliminated : PySem.W.nsIn K mainGlobals "eliminated" = some (some (.ref f_eliminated)))
    (l_eliminated : K.lookup f_eliminated = some ⟨oc_eliminated, od_eliminated, .func (PySem.W.fnOf "eliminated" "eliminated" (defArgs s_eliminated) (defBody s_eliminated) (defScope s_eliminated) .none kV_eliminated dc_eliminated pm_eliminated an_eliminated cd_eliminated ct_eliminated), sl_eliminated⟩)
    (c_eliminated : PySem.W.codeIn K cd_eliminated "eliminated" = true) (k_eliminated : PySem.W.keepIn K (.ref f_eliminated) = true)
    (a_common_divisor : PySem.W.nsIn K mainGlobals "common_divisor" = some (some (.ref f_common_divisor)))
    (l_common_divisor : K.lookup f_common_divisor = some ⟨oc_common_divisor, od_common_divisor, .func (PySem.W.fnOf "common_divisor" "common_divisor" (defArgs s_common_divisor) (defBody s_common_divisor) (defScope s_common_divisor) .none kV_common_divisor dc_common_divisor pm_common_divisor an_common_divisor cd_common_divisor ct_common_divisor), sl_common_divisor⟩)
    (c_common_divisor : PySem.W.codeIn K cd_common_divisor "common_divisor" = true) (k_common_divisor : PySem.W.keepIn K (.ref f_common_divisor) = true)
    (a_fraction : PySem.W.nsIn K mainGlobals "fraction" = some (some (.ref f_fraction)))
    (l_fraction : K.lookup f_fraction = some ⟨oc_fraction, od_fraction, .func (PySem.W.fnOf "fraction" "fraction" (defArgs s_fraction) (defBody s_fraction) (defScope s_fraction) .none kV_fraction dc_fraction pm_fraction an_fraction cd_fraction ct_fraction), sl_fraction⟩)
    (c_fraction : PySem.W.codeIn K cd_fraction "fraction" = true) (k_fraction : PySem.W.keepIn K (.ref f_fraction) = true)
    (a_cleared : PySem.W.nsIn K mainGlobals "cleared" = some (some (.ref f_cleared)))
    (l_cleared : K.lookup f_cleared = some ⟨oc_cleared, od_cleared, .func (PySem.W.fnOf "cleared" "cleared" (defArgs s_cleared) (defBody s_cleared) (defScope s_cleared) .none kV_cleared dc_cleared pm_cleared an_cleared cd_cleared ct_cleared), sl_cleared⟩)
    (c_cleared : PySem.W.codeIn K cd_cleared "cleared" = true) (k_cleared : PySem.W.keepIn K (.ref f_cleared) = true)
    (a_determinant : PySem.W.nsIn K mainGlobals "determinant" = some (some (.ref f_determinant)))
    (l_determinant : K.lookup f_determinant = some ⟨oc_determinant, od_determinant, .func (PySem.W.fnOf "determinant" "determinant" (defArgs s_determinant) (defBody s_determinant) (defScope s_determinant) .none kV_determinant dc_determinant pm_determinant an_determinant cd_determinant ct_determinant), sl_determinant⟩)
    (c_determinant : PySem.W.codeIn K cd_determinant "determinant" = true) (k_determinant : PySem.W.keepIn K (.ref f_determinant) = true)
    (a_divisor_for_all : PySem.W.nsIn K mainGlobals "divisor_for_all" = some (some (.ref f_divisor_for_all)))
    (l_divisor_for_all : K.lookup f_divisor_for_all = some ⟨oc_divisor_for_all, od_divisor_for_all, .func (PySem.W.fnOf "divisor_for_all" "divisor_for_all" (defArgs s_divisor_for_all) (defBody s_divisor_for_all) (defScope s_divisor_for_all) .none kV_divisor_for_all dc_divisor_for_all pm_divisor_for_all an_divisor_for_all cd_divisor_for_all ct_divisor_for_all), sl_divisor_for_all⟩)
    (c_divisor_for_all : PySem.W.codeIn K cd_divisor_for_all "divisor_for_all" = true) (k_divisor_for_all : PySem.W.keepIn K (.ref f_divisor_for_all) = true)
    (a_lowered : PySem.W.nsIn K mainGlobals "lowered" = some (some (.ref f_lowered)))
    (l_lowered : K.lookup f_lowered = some ⟨oc_lowered, od_lowered, .func (PySem.W.fnOf "lowered" "lowered" (defArgs s_lowered) (defBody s_lowered) (defScope s_lowered) .none kV_lowered dc_lowered pm_lowered an_lowered cd_lowered ct_lowered), sl_lowered⟩)
    (c_lowered : PySem.W.codeIn K cd_lowered "lowered" = true) (k_lowered : PySem.W.keepIn K (.ref f_lowered) = true)
    (a_back_of : PySem.W.nsIn K mainGlobals "back_of" = some (some (.ref f_back_of)))
    (l_back_of : K.lookup f_back_of = some ⟨oc_back_of, od_back_of, .func (PySem.W.fnOf "back_of" "back_of" (defArgs s_back_of) (defBody s_back_of) (defScope s_back_of) .none kV_back_of dc_back_of pm_back_of an_back_of cd_back_of ct_back_of), sl_back_of⟩)
    (c_back_of : PySem.W.codeIn K cd_back_of "back_of" = true) (k_back_of : PySem.W.keepIn K (.ref f_back_of) = true)
    (a__law_low : PySem.W.nsIn K mainGlobals "_law_low" = some (some (.ref f__law_low)))
    (l__law_low : K.lookup f__law_low = some ⟨oc__law_low, od__law_low, .func (PySem.W.fnOf "_law_low" "_law_low" (defArgs s__law_low) (defBody s__law_low) (defScope s__law_low) .none kV__law_low dc__law_low pm__law_low an__law_low cd__law_low ct__law_low), sl__law_low⟩)
    (c__law_low : PySem.W.codeIn K cd__law_low "_law_low" = true) (k__law_low : PySem.W.keepIn K (.ref f__law_low) = true)
    (a__law_urn : PySem.W.nsIn K mainGlobals "_law_urn" = some (some (.ref f__law_urn)))
    (l__law_urn : K.lookup f__law_urn = some ⟨oc__law_urn, od__law_urn, .func (PySem.W.fnOf "_law_urn" "_law_urn" (defArgs s__law_urn) (defBody s__law_urn) (defScope s__law_urn) .none kV__law_urn dc__law_urn pm__law_urn an__law_urn cd__law_urn ct__law_urn), sl__law_urn⟩)
    (c__law_urn : PySem.W.codeIn K cd__law_urn "_law_urn" = true) (k__law_urn : PySem.W.keepIn K (.ref f__law_urn) = true)
    (a__law_draw : PySem.W.nsIn K mainGlobals "_law_draw" = some (some (.ref f__law_draw)))
    (l__law_draw : K.lookup f__law_draw = some ⟨oc__law_draw, od__law_draw, .func (PySem.W.fnOf "_law_draw" "_law_draw" (defArgs s__law_draw) (defBody s__law_draw) (defScope s__law_draw) .none kV__law_draw dc__law_draw pm__law_draw an__law_draw cd__law_draw ct__law_draw), sl__law_draw⟩)
    (c__law_draw : PySem.W.codeIn K cd__law_draw "_law_draw" = true) (k__law_draw : PySem.W.keepIn K (.ref f__law_draw) = true)
    (a__law_number : PySem.W.nsIn K mainGlobals "_law_number" = some (some (.ref f__law_number)))
    (l__law_number : K.lookup f__law_number = some ⟨oc__law_number, od__law_number, .func (PySem.W.fnOf "_law_number" "_law_number" (defArgs s__law_number) (defBody s__law_number) (defScope s__law_number) .none kV__law_number dc__law_number pm__law_number an__law_number cd__law_number ct__law_number), sl__law_number⟩)
    (c__law_number : PySem.W.codeIn K cd__law_number "_law_number" = true) (k__law_number : PySem.W.keepIn K (.ref f__law_number) = true)
    (a__law_whole : PySem.W.nsIn K mainGlobals "_law_whole" = some (some (.ref f__law_whole)))
    (l__law_whole : K.lookup f__law_whole = some ⟨oc__law_whole, od__law_whole, .func (PySem.W.fnOf "_law_whole" "_law_whole" (defArgs s__law_whole) (defBody s__law_whole) (defScope s__law_whole) .none kV__law_whole dc__law_whole pm__law_whole an__law_whole cd__law_whole ct__law_whole), sl__law_whole⟩)
    (c__law_whole : PySem.W.codeIn K cd__law_whole "_law_whole" = true) (k__law_whole : PySem.W.keepIn K (.ref f__law_whole) = true)
    (a__law_is_number : PySem.W.nsIn K mainGlobals "_law_is_number" = some (some (.ref f__law_is_number)))
    (l__law_is_number : K.lookup f__law_is_number = some ⟨oc__law_is_number, od__law_is_number, .func (PySem.W.fnOf "_law_is_number" "_law_is_number" (defArgs s__law_is_number) (defBody s__law_is_number) (defScope s__law_is_number) .none kV__law_is_number dc__law_is_number pm__law_is_number an__law_is_number cd__law_is_number ct__law_is_number), sl__law_is_number⟩)
    (c__law_is_number : PySem.W.codeIn K cd__law_is_number "_law_is_number" = true) (k__law_is_number : PySem.W.keepIn K (.ref f__law_is_number) = true)
    (a__law_other : PySem.W.nsIn K mainGlobals "_law_other" = some (some (.ref f__law_other)))
    (l__law_other : K.lookup f__law_other = some ⟨oc__law_other, od__law_other, .func (PySem.W.fnOf "_law_other" "_law_other" (defArgs s__law_other) (defBody s__law_other) (defScope s__law_other) .none kV__law_other dc__law_other pm__law_other an__law_other cd__law_other ct__law_other), sl__law_other⟩)
    (c__law_other : PySem.W.codeIn K cd__law_other "_law_other" = true) (k__law_other : PySem.W.keepIn K (.ref f__law_other) = true)
    (a__law_plus : PySem.W.nsIn K mainGlobals "_law_plus" = some (some (.ref f__law_plus)))
    (l__law_plus : K.lookup f__law_plus = some ⟨oc__law_plus, od__law_plus, .func (PySem.W.fnOf "_law_plus" "_law_plus" (defArgs s__law_plus) (defBody s__law_plus) (defScope s__law_plus) .none kV__law_plus dc__law_plus pm__law_plus an__law_plus cd__law_plus ct__law_plus), sl__law_plus⟩)
    (c__law_plus : PySem.W.codeIn K cd__law_plus "_law_plus" = true) (k__law_plus : PySem.W.keepIn K (.ref f__law_plus) = true)
    (a__law_times : PySem.W.nsIn K mainGlobals "_law_times" = some (some (.ref f__law_times)))
    (l__law_times : K.lookup f__law_times = some ⟨oc__law_times, od__law_times, .func (PySem.W.fnOf "_law_times" "_law_times" (defArgs s__law_times) (defBody s__law_times) (defScope s__law_times) .none kV__law_times dc__law_times pm__law_times an__law_times cd__law_times ct__law_times), sl__law_times⟩)
    (c__law_times : PySem.W.codeIn K cd__law_times "_law_times" = true) (k__law_times : PySem.W.keepIn K (.ref f__law_times) = true)
    (a__law_dot : PySem.W.nsIn K mainGlobals "_law_dot" = some (some (.ref f__law_dot)))
    (l__law_dot : K.lookup f__law_dot = some ⟨oc__law_dot, od__law_dot, .func (PySem.W.fnOf "_law_dot" "_law_dot" (defArgs s__law_dot) (defBody s__law_dot) (defScope s__law_dot) .none kV__law_dot dc__law_dot pm__law_dot an__law_dot cd__law_dot ct__law_dot), sl__law_dot⟩)
    (c__law_dot : PySem.W.codeIn K cd__law_dot "_law_dot" = true) (k__law_dot : PySem.W.keepIn K (.ref f__law_dot) = true)
    (a__law_flipped : PySem.W.nsIn K mainGlobals "_law_flipped" = some (some (.ref f__law_flipped)))
    (l__law_flipped : K.lookup f__law_flipped = some ⟨oc__law_flipped, od__law_flipped, .func (PySem.W.fnOf "_law_flipped" "_law_flipped" (defArgs s__law_flipped) (defBody s__law_flipped) (defScope s__law_flipped) .none kV__law_flipped dc__law_flipped pm__law_flipped an__law_flipped cd__law_flipped ct__law_flipped), sl__law_flipped⟩)
    (c__law_flipped : PySem.W.codeIn K cd__law_flipped "_law_flipped" = true) (k__law_flipped : PySem.W.keepIn K (.ref f__law_flipped) = true)
    (a__law_unit : PySem.W.nsIn K mainGlobals "_law_unit" = some (some (.ref f__law_unit)))
    (l__law_unit : K.lookup f__law_unit = some ⟨oc__law_unit, od__law_unit, .func (PySem.W.fnOf "_law_unit" "_law_unit" (defArgs s__law_unit) (defBody s__law_unit) (defScope s__law_unit) .none kV__law_unit dc__law_unit pm__law_unit an__law_unit cd__law_unit ct__law_unit), sl__law_unit⟩)
    (c__law_unit : PySem.W.codeIn K cd__law_unit "_law_unit" = true) (k__law_unit : PySem.W.keepIn K (.ref f__law_unit) = true)
    (a__law_table_times : PySem.W.nsIn K mainGlobals "_law_table_times" = some (some (.ref f__law_table_times)))
    (l__law_table_times : K.lookup f__law_table_times = some ⟨oc__law_table_times, od__law_table_times, .func (PySem.W.fnOf "_law_table_times" "_law_table_times" (defArgs s__law_table_times) (defBody s__law_table_times) (defScope s__law_table_times) .none kV__law_table_times dc__law_table_times pm__law_table_times an__law_table_times cd__law_table_times ct__law_table_times), sl__law_table_times⟩)
    (c__law_table_times : PySem.W.codeIn K cd__law_table_times "_law_table_times" = true) (k__law_table_times : PySem.W.keepIn K (.ref f__law_table_times) = true)
    (a__law_which : PySem.W.nsIn K mainGlobals "_law_which" = some (some (.ref f__law_which)))
    (l__law_which : K.lookup f__law_which = some ⟨oc__law_which, od__law_which, .func (PySem.W.fnOf "_law_which" "_law_which" (defArgs s__law_which) (defBody s__law_which) (defScope s__law_which) .none kV__law_which dc__law_which pm__law_which an__law_which cd__law_which ct__law_which), sl__law_which⟩)
    (c__law_which : PySem.W.codeIn K cd__law_which "_law_which" = true) (k__law_which : PySem.W.keepIn K (.ref f__law_which) = true)
    (a__law_said : PySem.W.nsIn K mainGlobals "_law_said" = some (some (.ref f__law_said)))
    (l__law_said : K.lookup f__law_said = some ⟨oc__law_said, od__law_said, .func (PySem.W.fnOf "_law_said" "_law_said" (defArgs s__law_said) (defBody s__law_said) (defScope s__law_said) .none kV__law_said dc__law_said pm__law_said an__law_said cd__law_said ct__law_said), sl__law_said⟩)
    (c__law_said : PySem.W.codeIn K cd__law_said "_law_said" = true) (k__law_said : PySem.W.keepIn K (.ref f__law_said) = true)
    (a__law_steep : PySem.W.nsIn K mainGlobals "_law_steep" = some (some (.ref f__law_steep)))
    (l__law_steep : K.lookup f__law_steep = some ⟨oc__law_steep, od__law_steep, .func (PySem.W.fnOf "_law_steep" "_law_steep" (defArgs s__law_steep) (defBody s__law_steep) (defScope s__law_steep) .none kV__law_steep dc__law_steep pm__law_steep an__law_steep cd__law_steep ct__law_steep), sl__law_steep⟩)
    (c__law_steep : PySem.W.codeIn K cd__law_steep "_law_steep" = true) (k__law_steep : PySem.W.keepIn K (.ref f__law_steep) = true)
    (a__law_stepped : PySem.W.nsIn K mainGlobals "_law_stepped" = some (some (.ref f__law_stepped)))
    (l__law_stepped : K.lookup f__law_stepped = some ⟨oc__law_stepped, od__law_stepped, .func (PySem.W.fnOf "_law_stepped" "_law_stepped" (defArgs s__law_stepped) (defBody s__law_stepped) (defScope s__law_stepped) .none kV__law_stepped dc__law_stepped pm__law_stepped an__law_stepped cd__law_stepped ct__law_stepped), sl__law_stepped⟩)
    (c__law_stepped : PySem.W.codeIn K cd__law_stepped "_law_stepped" = true) (k__law_stepped : PySem.W.keepIn K (.ref f__law_stepped) = true)
    (a__law_is_table : PySem.W.nsIn K mainGlobals "_law_is_table" = some (some (.ref f__law_is_table)))
    (l__law_is_table : K.lookup f__law_is_table = some ⟨oc__law_is_table, od__law_is_table, .func (PySem.W.fnOf "_law_is_table" "_law_is_table" (defArgs s__law_is_table) (defBody s__law_is_table) (defScope s__law_is_table) .none kV__law_is_table dc__law_is_table pm__law_is_table an__law_is_table cd__law_is_table ct__law_is_table), sl__law_is_table⟩)
    (c__law_is_table : PySem.W.codeIn K cd__law_is_table "_law_is_table" = true) (k__law_is_table : PySem.W.keepIn K (.ref f__law_is_table) = true)
    (a__law_right : PySem.W.nsIn K mainGlobals "_law_right" = some (some (.ref f__law_right)))
    (l__law_right : K.lookup f__law_right = some ⟨oc__law_right, od__law_right, .func (PySem.W.fnOf "_law_right" "_law_right" (defArgs s__law_right) (defBody s__law_right) (defScope s__law_right) .none kV__law_right dc__law_right pm__law_right an__law_right cd__law_right ct__law_right), sl__law_right⟩)
    (c__law_right : PySem.W.codeIn K cd__law_right "_law_right" = true) (k__law_right : PySem.W.keepIn K (.ref f__law_right) = true)
    (a_law : PySem.W.nsIn K mainGlobals "law" = some (some (.ref f_law)))
    (l_law : K.lookup f_law = some ⟨oc_law, od_law, .func (PySem.W.fnOf "law" "law" (defArgs s_law) (defBody s_law) (defScope s_law) .none kV_law dc_law pm_law an_law cd_law ct_law), sl_law⟩)
    (c_law : PySem.W.codeIn K cd_law "law" = true) (k_law : PySem.W.keepIn K (.ref f_law) = true)
    (z_ValueError : PySem.W.nsIn K mainGlobals "ValueError" = some none)
    (z_abs : PySem.W.nsIn K mainGlobals "abs" = some none)
    (z_all : PySem.W.nsIn K mainGlobals "all" = some none)
    (z_bool : PySem.W.nsIn K mainGlobals "bool" = some none)
    (z_enumerate : PySem.W.nsIn K mainGlobals "enumerate" = some none)
    (z_int : PySem.W.nsIn K mainGlobals "int" = some none)
    (z_isinstance : PySem.W.nsIn K mainGlobals "isinstance" = some none)
    (z_len : PySem.W.nsIn K mainGlobals "len" = some none)
    (z_list : PySem.W.nsIn K mainGlobals "list" = some none)
    (z_max : PySem.W.nsIn K mainGlobals "max" = some none)
    (z_min : PySem.W.nsIn K mainGlobals "min" = some none)
    (z_range : PySem.W.nsIn K mainGlobals "range" = some none)
    (z_tuple : PySem.W.nsIn K mainGlobals "tuple" = some none)
    (z_zip : PySem.W.nsIn K mainGlobals "zip" = some none)
    (y_SHORT : PySem.W.nsIn K mainGlobals "SHORT" = some (some (.int 6000 t_SHORT)))
    (y_LONG : PySem.W.nsIn K mainGlobals "LONG" = some (some (.int 1000 t_LONG)))
    (y_NOUGHT : PySem.W.nsIn K mainGlobals "NOUGHT" = some (some (.ref A_NOUGHT)))
    (u_NOUGHT : K.lookup A_NOUGHT = some ⟨.type "tuple", td_NOUGHT, .seq #[.int 0 tt0_NOUGHT, .int 1 tt1_NOUGHT] tn_NOUGHT, ts_NOUGHT⟩)
    (m_NoFraction : PySem.W.nsIn K mainGlobals "NoFraction" = some (some (.ref C_NoFraction)))
    (x_NoFraction : PySem.W.excIn K C_NoFraction [.type "ValueError", .type "Exception", .type "BaseException", .type "object"] "ValueError.__new__" = true)
    (e_NoFraction : ExcCls K C_NoFraction)
    (m_NoPolynomial : PySem.W.nsIn K mainGlobals "NoPolynomial" = some (some (.ref C_NoPolynomial)))
    (x_NoPolynomial : PySem.W.excIn K C_NoPolynomial [.type "ValueError", .type "Exception", .type "BaseException", .type "object"] "ValueError.__new__" = true)
    (e_NoPolynomial : ExcCls K C_NoPolynomial)
    (m_NoStretch : PySem.W.nsIn K mainGlobals "NoStretch" = some (some (.ref C_NoStretch)))
    (x_NoStretch : PySem.W.excIn K C_NoStretch [.type "ValueError", .type "Exception", .type "BaseException", .type "object"] "ValueError.__new__" = true)
    (e_NoStretch : ExcCls K C_NoStretch)
    (m_NoRow : PySem.W.nsIn K mainGlobals "NoRow" = some (some (.ref C_NoRow)))
    (x_NoRow : PySem.W.excIn K C_NoRow [.type "ValueError", .type "Exception", .type "BaseException", .type "object"] "ValueError.__new__" = true)
    (e_NoRow : ExcCls K C_NoRow)
    (m_NoPair : PySem.W.nsIn K mainGlobals "NoPair" = some (some (.ref C_NoPair)))
    (x_NoPair : PySem.W.excIn K C_NoPair [.type "ValueError", .type "Exception", .type "BaseException", .type "object"] "ValueError.__new__" = true)
    (e_NoPair : ExcCls K C_NoPair)
    (m_NoBack : PySem.W.nsIn K mainGlobals "NoBack" = some (some (.ref C_NoBack)))
    (x_NoBack : PySem.W.excIn K C_NoBack [.type "ValueError", .type "Exception", .type "BaseException", .type "object"] "ValueError.__new__" = true)
    (e_NoBack : ExcCls K C_NoBack)
    (m_NoForm : PySem.W.nsIn K mainGlobals "NoForm" = some (some (.ref C_NoForm)))
    (x_NoForm : PySem.W.excIn K C_NoForm [.type "ValueError", .type "Exception", .type "BaseException", .type "object"] "ValueError.__new__" = true)
    (e_NoForm : ExcCls K C_NoForm)
    (m_NoParts : PySem.W.nsIn K mainGlobals "NoParts" = some (some (.ref C_NoParts)))
    (x_NoParts : PySem.W.excIn K C_NoParts [.type "ValueError", .type "Exception", .type "BaseException", .type "object"] "ValueError.__new__" = true)
    (e_NoParts : ExcCls K C_NoParts)
    (m_NoDegree : PySem.W.nsIn K mainGlobals "NoDegree" = some (some (.ref C_NoDegree)))
    (x_NoDegree : PySem.W.excIn K C_NoDegree [.type "ValueError", .type "Exception", .type "BaseException", .type "object"] "ValueError.__new__" = true)
    (e_NoDegree : ExcCls K C_NoDegree)
    (m_NoSteps : PySem.W.nsIn K mainGlobals "NoSteps" = some (some (.ref C_NoSteps)))
    (x_NoSteps : PySem.W.excIn K C_NoSteps [.type "ValueError", .type "Exception", .type "BaseException", .type "object"] "ValueError.__new__" = true)
    (e_NoSteps : ExcCls K C_NoSteps)
    (m_NoBox : PySem.W.nsIn K mainGlobals "NoBox" = some (some (.ref C_NoBox)))
    (x_NoBox : PySem.W.excIn K C_NoBox [.type "ValueError", .type "Exception", .type "BaseException", .type "object"] "ValueError.__new__" = true)
    (e_NoBox : ExcCls K C_NoBox)
    (m_NoGain : PySem.W.nsIn K mainGlobals "NoGain" = some (some (.ref C_NoGain)))
    (x_NoGain : PySem.W.excIn K C_NoGain [.type "ValueError", .type "Exception", .type "BaseException", .type "object"] "ValueError.__new__" = true)
    (e_NoGain : ExcCls K C_NoGain)
    (m_NoText : PySem.W.nsIn K mainGlobals "NoText" = some (some (.ref C_NoText)))
    (x_NoText : PySem.W.excIn K C_NoText [.type "ValueError", .type "Exception", .type "BaseException", .type "object"] "ValueError.__new__" = true)
    (e_NoText : ExcCls K C_NoText)
    (m_NoLine : PySem.W.nsIn K mainGlobals "NoLine" = some (some (.ref C_NoLine)))
    (x_NoLine : PySem.W.excIn K C_NoLine [.type "ValueError", .type "Exception", .type "BaseException", .type "object"] "ValueError.__new__" = true)
    (e_NoLine : ExcCls K C_NoLine)
    (m_NoName : PySem.W.nsIn K mainGlobals "NoName" = some (some (.ref C_NoName)))
    (x_NoName : PySem.W.excIn K C_NoName [.type "ValueError", .type "Exception", .type "BaseException", .type "object"] "ValueError.__new__" = true)
    (e_NoName : ExcCls K C_NoName)
    (m_NoDeed : PySem.W.nsIn K mainGlobals "NoDeed" = some (some (.ref C_NoDeed)))
    (x_NoDeed : PySem.W.excIn K C_NoDeed [.type "ValueError", .type "Exception", .type "BaseException", .type "object"] "ValueError.__new__" = true)
    (e_NoDeed : ExcCls K C_NoDeed)
    (m_RestError : PySem.W.nsIn K mainGlobals "RestError" = some (some (.ref C_RestError)))
    (x_RestError : PySem.W.excIn K C_RestError [.type "ValueError", .type "Exception", .type "BaseException", .type "object"] "ValueError.__new__" = true)
    (e_RestError : ExcCls K C_RestError)
    (kt_NoBack : Kits K (⟨C_NoFraction, C_NoPolynomial, C_NoStretch, C_NoRow, C_NoPair, C_NoBack, C_NoForm, C_NoParts, C_NoDegree, C_NoSteps, C_NoBox, C_NoGain, C_NoText, C_NoLine, C_NoName, C_NoDeed, C_RestError⟩ : CAd) C_NoBack 5) :
    ∃ fd : FuncData, (∀ (s : Shared) (v : Value), BindsTo s fd ⟨[v], []⟩ [("_law_script", v)]) ∧ ∀ base : Heap, K.In base → base.Ns mainGlobals mg → FnOk l.prog w K mg base CX0 (6 + 1) fa fd ["_law_script"] (spLaw K) := by
  have e := hfa.symm.trans (PySem.W.mg_of X G a_law)
  cases e
  have F_with_lead := fun_mk (st := s_with_lead) l_with_lead c_with_lead k_with_lead
  have b_with_lead := F_with_lead.binds (ps := ["rows", "at"]) fun _ _ _ _ _ _ us hl => match us, hl with | [_, _], _ => rfl
  have d_with_lead : Df K mg "with_lead" s_with_lead ["rows", "at"] f_with_lead := ⟨⟨_, F_with_lead, b_with_lead⟩, PySem.W.mg_of X G a_with_lead⟩
  have F_cleaned := fun_mk (st := s_cleaned) l_cleaned c_cleaned k_cleaned
  have b_cleaned := F_cleaned.binds (ps := ["row", "chosen", "at", "before"]) fun _ _ _ _ _ _ us hl => match us, hl with | [_, _, _, _], _ => rfl
  have d_cleaned : Df K mg "cleaned" s_cleaned ["row", "chosen", "at", "before"] f_cleaned := ⟨⟨_, F_cleaned, b_cleaned⟩, PySem.W.mg_of X G a_cleaned⟩
  have F_eliminated := fun_mk (st := s_eliminated) l_eliminated c_eliminated k_eliminated
  have b_eliminated := F_eliminated.binds (ps := ["rows"]) fun _ _ _ _ _ _ us hl => match us, hl with | [_], _ => rfl
  have d_eliminated : Df K mg "eliminated" s_eliminated ["rows"] f_eliminated := ⟨⟨_, F_eliminated, b_eliminated⟩, PySem.W.mg_of X G a_eliminated⟩
  have F_common_divisor := fun_mk (st := s_common_divisor) l_common_divisor c_common_divisor k_common_divisor
  have b_common_divisor := F_common_divisor.binds (ps := ["one", "other"]) fun _ _ _ _ _ _ us hl => match us, hl with | [_, _], _ => rfl
  have d_common_divisor : Df K mg "common_divisor" s_common_divisor ["one", "other"] f_common_divisor := ⟨⟨_, F_common_divisor, b_common_divisor⟩, PySem.W.mg_of X G a_common_divisor⟩
  have F_fraction := fun_mk (st := s_fraction) l_fraction c_fraction k_fraction
  have b_fraction := F_fraction.binds (ps := ["top", "bottom"]) fun _ _ _ _ _ _ us hl => match us, hl with | [_, _], _ => rfl
  have d_fraction : Df K mg "fraction" s_fraction ["top", "bottom"] f_fraction := ⟨⟨_, F_fraction, b_fraction⟩, PySem.W.mg_of X G a_fraction⟩
  have F_cleared := fun_mk (st := s_cleared) l_cleared c_cleared k_cleared
  have b_cleared := F_cleared.binds (ps := ["numbers"]) fun _ _ _ _ _ _ us hl => match us, hl with | [_], _ => rfl
  have d_cleared : Df K mg "cleared" s_cleared ["numbers"] f_cleared := ⟨⟨_, F_cleared, b_cleared⟩, PySem.W.mg_of X G a_cleared⟩
  have F_determinant := fun_mk (st := s_determinant) l_determinant c_determinant k_determinant
  have b_determinant := F_determinant.binds (ps := ["table"]) fun _ _ _ _ _ _ us hl => match us, hl with | [_], _ => rfl
  have d_determinant : Df K mg "determinant" s_determinant ["table"] f_determinant := ⟨⟨_, F_determinant, b_determinant⟩, PySem.W.mg_of X G a_determinant⟩
  have F_divisor_for_all := fun_mk (st := s_divisor_for_all) l_divisor_for_all c_divisor_for_all k_divisor_for_all
  have b_divisor_for_all := F_divisor_for_all.binds (ps := ["wholes", "bottom"]) fun _ _ _ _ _ _ us hl => match us, hl with | [_, _], _ => rfl
  have d_divisor_for_all : Df K mg "divisor_for_all" s_divisor_for_all ["wholes", "bottom"] f_divisor_for_all := ⟨⟨_, F_divisor_for_all, b_divisor_for_all⟩, PySem.W.mg_of X G a_divisor_for_all⟩
  have F_lowered := fun_mk (st := s_lowered) l_lowered c_lowered k_lowered
  have b_lowered := F_lowered.binds (ps := ["scale", "wholes"]) fun _ _ _ _ _ _ us hl => match us, hl with | [_, _], _ => rfl
  have d_lowered : Df K mg "lowered" s_lowered ["scale", "wholes"] f_lowered := ⟨⟨_, F_lowered, b_lowered⟩, PySem.W.mg_of X G a_lowered⟩
  have F_back_of := fun_mk (st := s_back_of) l_back_of c_back_of k_back_of
  have b_back_of := F_back_of.binds (ps := ["table"]) fun _ _ _ _ _ _ us hl => match us, hl with | [_], _ => rfl
  have d_back_of : Df K mg "back_of" s_back_of ["table"] f_back_of := ⟨⟨_, F_back_of, b_back_of⟩, PySem.W.mg_of X G a_back_of⟩
  have F__law_low := fun_mk (st := s__law_low) l__law_low c__law_low k__law_low
  have b__law_low := F__law_low.binds (ps := ["_law_top", "_law_bottom"]) fun _ _ _ _ _ _ us hl => match us, hl with | [_, _], _ => rfl
  have d__law_low : Df K mg "_law_low" s__law_low ["_law_top", "_law_bottom"] f__law_low := ⟨⟨_, F__law_low, b__law_low⟩, PySem.W.mg_of X G a__law_low⟩
  have F__law_urn := fun_mk (st := s__law_urn) l__law_urn c__law_urn k__law_urn
  have b__law_urn := F__law_urn.binds (ps := ["_law_script", "_law_at"]) fun _ _ _ _ _ _ us hl => match us, hl with | [_, _], _ => rfl
  have d__law_urn : Df K mg "_law_urn" s__law_urn ["_law_script", "_law_at"] f__law_urn := ⟨⟨_, F__law_urn, b__law_urn⟩, PySem.W.mg_of X G a__law_urn⟩
  have F__law_draw := fun_mk (st := s__law_draw) l__law_draw c__law_draw k__law_draw
  have b__law_draw := F__law_draw.binds (ps := ["_law_urn_here", "_law_many"]) fun _ _ _ _ _ _ us hl => match us, hl with | [_, _], _ => rfl
  have d__law_draw : Df K mg "_law_draw" s__law_draw ["_law_urn_here", "_law_many"] f__law_draw := ⟨⟨_, F__law_draw, b__law_draw⟩, PySem.W.mg_of X G a__law_draw⟩
  have F__law_number := fun_mk (st := s__law_number) l__law_number c__law_number k__law_number
  have b__law_number := F__law_number.binds (ps := ["_law_urn_here", "_law_kind"]) fun _ _ _ _ _ _ us hl => match us, hl with | [_, _], _ => rfl
  have d__law_number : Df K mg "_law_number" s__law_number ["_law_urn_here", "_law_kind"] f__law_number := ⟨⟨_, F__law_number, b__law_number⟩, PySem.W.mg_of X G a__law_number⟩
  have F__law_whole := fun_mk (st := s__law_whole) l__law_whole c__law_whole k__law_whole
  have b__law_whole := F__law_whole.binds (ps := ["_law_thing"]) fun _ _ _ _ _ _ us hl => match us, hl with | [_], _ => rfl
  have d__law_whole : Df K mg "_law_whole" s__law_whole ["_law_thing"] f__law_whole := ⟨⟨_, F__law_whole, b__law_whole⟩, PySem.W.mg_of X G a__law_whole⟩
  have F__law_is_number := fun_mk (st := s__law_is_number) l__law_is_number c__law_is_number k__law_is_number
  have b__law_is_number := F__law_is_number.binds (ps := ["_law_thing"]) fun _ _ _ _ _ _ us hl => match us, hl with | [_], _ => rfl
  have d__law_is_number : Df K mg "_law_is_number" s__law_is_number ["_law_thing"] f__law_is_number := ⟨⟨_, F__law_is_number, b__law_is_number⟩, PySem.W.mg_of X G a__law_is_number⟩
  have F__law_other := fun_mk (st := s__law_other) l__law_other c__law_other k__law_other
  have b__law_other := F__law_other.binds (ps := ["_law_urn_here", "_law_kind"]) fun _ _ _ _ _ _ us hl => match us, hl with | [_, _], _ => rfl
  have d__law_other : Df K mg "_law_other" s__law_other ["_law_urn_here", "_law_kind"] f__law_other := ⟨⟨_, F__law_other, b__law_other⟩, PySem.W.mg_of X G a__law_other⟩
  have F__law_plus := fun_mk (st := s__law_plus) l__law_plus c__law_plus k__law_plus
  have b__law_plus := F__law_plus.binds (ps := ["_law_one", "_law_other_here"]) fun _ _ _ _ _ _ us hl => match us, hl with | [_, _], _ => rfl
  have d__law_plus : Df K mg "_law_plus" s__law_plus ["_law_one", "_law_other_here"] f__law_plus := ⟨⟨_, F__law_plus, b__law_plus⟩, PySem.W.mg_of X G a__law_plus⟩
  have F__law_times := fun_mk (st := s__law_times) l__law_times c__law_times k__law_times
  have b__law_times := F__law_times.binds (ps := ["_law_one", "_law_other_here"]) fun _ _ _ _ _ _ us hl => match us, hl with | [_, _], _ => rfl
  have d__law_times : Df K mg "_law_times" s__law_times ["_law_one", "_law_other_here"] f__law_times := ⟨⟨_, F__law_times, b__law_times⟩, PySem.W.mg_of X G a__law_times⟩
  have F__law_dot := fun_mk (st := s__law_dot) l__law_dot c__law_dot k__law_dot
  have b__law_dot := F__law_dot.binds (ps := ["_law_row", "_law_column"]) fun _ _ _ _ _ _ us hl => match us, hl with | [_, _], _ => rfl
  have d__law_dot : Df K mg "_law_dot" s__law_dot ["_law_row", "_law_column"] f__law_dot := ⟨⟨_, F__law_dot, b__law_dot⟩, PySem.W.mg_of X G a__law_dot⟩
  have F__law_flipped := fun_mk (st := s__law_flipped) l__law_flipped c__law_flipped k__law_flipped
  have b__law_flipped := F__law_flipped.binds (ps := ["_law_table"]) fun _ _ _ _ _ _ us hl => match us, hl with | [_], _ => rfl
  have d__law_flipped : Df K mg "_law_flipped" s__law_flipped ["_law_table"] f__law_flipped := ⟨⟨_, F__law_flipped, b__law_flipped⟩, PySem.W.mg_of X G a__law_flipped⟩
  have F__law_unit := fun_mk (st := s__law_unit) l__law_unit c__law_unit k__law_unit
  have b__law_unit := F__law_unit.binds (ps := ["_law_n"]) fun _ _ _ _ _ _ us hl => match us, hl with | [_], _ => rfl
  have d__law_unit : Df K mg "_law_unit" s__law_unit ["_law_n"] f__law_unit := ⟨⟨_, F__law_unit, b__law_unit⟩, PySem.W.mg_of X G a__law_unit⟩
  have F__law_table_times := fun_mk (st := s__law_table_times) l__law_table_times c__law_table_times k__law_table_times
  have b__law_table_times := F__law_table_times.binds (ps := ["_law_one", "_law_other_here"]) fun _ _ _ _ _ _ us hl => match us, hl with | [_, _], _ => rfl
  have d__law_table_times : Df K mg "_law_table_times" s__law_table_times ["_law_one", "_law_other_here"] f__law_table_times := ⟨⟨_, F__law_table_times, b__law_table_times⟩, PySem.W.mg_of X G a__law_table_times⟩
  have F__law_which := fun_mk (st := s__law_which) l__law_which c__law_which k__law_which
  have b__law_which := F__law_which.binds (ps := ["_law_e"]) fun _ _ _ _ _ _ us hl => match us, hl with | [_], _ => rfl
  have d__law_which : Df K mg "_law_which" s__law_which ["_law_e"] f__law_which := ⟨⟨_, F__law_which, b__law_which⟩, PySem.W.mg_of X G a__law_which⟩
  have F__law_said := fun_mk (st := s__law_said) l__law_said c__law_said k__law_said
  have b__law_said := F__law_said.binds (ps := ["_law_table"]) fun _ _ _ _ _ _ us hl => match us, hl with | [_], _ => rfl
  have d__law_said : Df K mg "_law_said" s__law_said ["_law_table"] f__law_said := ⟨⟨_, F__law_said, b__law_said⟩, PySem.W.mg_of X G a__law_said⟩
  have F__law_steep := fun_mk (st := s__law_steep) l__law_steep c__law_steep k__law_steep
  have b__law_steep := F__law_steep.binds (ps := ["_law_urn_here", "_law_kind", "_law_n"]) fun _ _ _ _ _ _ us hl => match us, hl with | [_, _, _], _ => rfl
  have d__law_steep : Df K mg "_law_steep" s__law_steep ["_law_urn_here", "_law_kind", "_law_n"] f__law_steep := ⟨⟨_, F__law_steep, b__law_steep⟩, PySem.W.mg_of X G a__law_steep⟩
  have F__law_stepped := fun_mk (st := s__law_stepped) l__law_stepped c__law_stepped k__law_stepped
  have b__law_stepped := F__law_stepped.binds (ps := ["_law_urn_here", "_law_kind", "_law_table"]) fun _ _ _ _ _ _ us hl => match us, hl with | [_, _, _], _ => rfl
  have d__law_stepped : Df K mg "_law_stepped" s__law_stepped ["_law_urn_here", "_law_kind", "_law_table"] f__law_stepped := ⟨⟨_, F__law_stepped, b__law_stepped⟩, PySem.W.mg_of X G a__law_stepped⟩
  have F__law_is_table := fun_mk (st := s__law_is_table) l__law_is_table c__law_is_table k__law_is_table
  have b__law_is_table := F__law_is_table.binds (ps := ["_law_thing", "_law_n"]) fun _ _ _ _ _ _ us hl => match us, hl with | [_, _], _ => rfl
  have d__law_is_table : Df K mg "_law_is_table" s__law_is_table ["_law_thing", "_law_n"] f__law_is_table := ⟨⟨_, F__law_is_table, b__law_is_table⟩, PySem.W.mg_of X G a__law_is_table⟩
  have F__law_right := fun_mk (st := s__law_right) l__law_right c__law_right k__law_right
  have b__law_right := F__law_right.binds (ps := ["_law_urn_here"]) fun _ _ _ _ _ _ us hl => match us, hl with | [_], _ => rfl
  have d__law_right : Df K mg "_law_right" s__law_right ["_law_urn_here"] f__law_right := ⟨⟨_, F__law_right, b__law_right⟩, PySem.W.mg_of X G a__law_right⟩
  have F_law := fun_mk (st := s_law) l_law c_law k_law
  have b_law := F_law.binds (ps := ["_law_script"]) fun _ _ _ _ _ _ us hl => match us, hl with | [_], _ => rfl
  have d_law : Df K mg "law" s_law ["_law_script"] fa := ⟨⟨_, F_law, b_law⟩, PySem.W.mg_of X G a_law⟩
  have n_ValueError := PySem.W.mg_none_of X G z_ValueError
  have n_abs := PySem.W.mg_none_of X G z_abs
  have n_all := PySem.W.mg_none_of X G z_all
  have n_bool := PySem.W.mg_none_of X G z_bool
  have n_enumerate := PySem.W.mg_none_of X G z_enumerate
  have n_int := PySem.W.mg_none_of X G z_int
  have n_isinstance := PySem.W.mg_none_of X G z_isinstance
  have n_len := PySem.W.mg_none_of X G z_len
  have n_list := PySem.W.mg_none_of X G z_list
  have n_max := PySem.W.mg_none_of X G z_max
  have n_min := PySem.W.mg_none_of X G z_min
  have n_range := PySem.W.mg_none_of X G z_range
  have n_tuple := PySem.W.mg_none_of X G z_tuple
  have n_zip := PySem.W.mg_none_of X G z_zip
  have c_SHORT := PySem.W.mg_of X G y_SHORT
  have c_LONG := PySem.W.mg_of X G y_LONG
  have c_NOUGHT := PySem.W.mg_of X G y_NOUGHT
  have t_NOUGHT : ∀ H : Hp, SqT K H A_NOUGHT [.int 0, .int 1] := fun H => .inr ⟨_, _, _, u_NOUGHT, rfl, rfl, (show 2 ≤ sizeLine by decide), (.cons ⟨_, rfl⟩ (.cons ⟨_, rfl⟩ .nil))⟩
  have X_NoFraction : ExT K mg "NoFraction" C_NoFraction := ⟨PySem.W.mg_of X G m_NoFraction, ⟨x_NoFraction⟩, e_NoFraction⟩
  have X_NoPolynomial : ExT K mg "NoPolynomial" C_NoPolynomial := ⟨PySem.W.mg_of X G m_NoPolynomial, ⟨x_NoPolynomial⟩, e_NoPolynomial⟩
  have X_NoStretch : ExT K mg "NoStretch" C_NoStretch := ⟨PySem.W.mg_of X G m_NoStretch, ⟨x_NoStretch⟩, e_NoStretch⟩
  have X_NoRow : ExT K mg "NoRow" C_NoRow := ⟨PySem.W.mg_of X G m_NoRow, ⟨x_NoRow⟩, e_NoRow⟩
  have X_NoPair : ExT K mg "NoPair" C_NoPair := ⟨PySem.W.mg_of X G m_NoPair, ⟨x_NoPair⟩, e_NoPair⟩
  have X_NoBack : ExT K mg "NoBack" C_NoBack := ⟨PySem.W.mg_of X G m_NoBack, ⟨x_NoBack⟩, e_NoBack⟩
  have X_NoForm : ExT K mg "NoForm" C_NoForm := ⟨PySem.W.mg_of X G m_NoForm, ⟨x_NoForm⟩, e_NoForm⟩
  have X_NoParts : ExT K mg "NoParts" C_NoParts := ⟨PySem.W.mg_of X G m_NoParts, ⟨x_NoParts⟩, e_NoParts⟩
  have X_NoDegree : ExT K mg "NoDegree" C_NoDegree := ⟨PySem.W.mg_of X G m_NoDegree, ⟨x_NoDegree⟩, e_NoDegree⟩
  have X_NoSteps : ExT K mg "NoSteps" C_NoSteps := ⟨PySem.W.mg_of X G m_NoSteps, ⟨x_NoSteps⟩, e_NoSteps⟩
  have X_NoBox : ExT K mg "NoBox" C_NoBox := ⟨PySem.W.mg_of X G m_NoBox, ⟨x_NoBox⟩, e_NoBox⟩
  have X_NoGain : ExT K mg "NoGain" C_NoGain := ⟨PySem.W.mg_of X G m_NoGain, ⟨x_NoGain⟩, e_NoGain⟩
  have X_NoText : ExT K mg "NoText" C_NoText := ⟨PySem.W.mg_of X G m_NoText, ⟨x_NoText⟩, e_NoText⟩
  have X_NoLine : ExT K mg "NoLine" C_NoLine := ⟨PySem.W.mg_of X G m_NoLine, ⟨x_NoLine⟩, e_NoLine⟩
  have X_NoName : ExT K mg "NoName" C_NoName := ⟨PySem.W.mg_of X G m_NoName, ⟨x_NoName⟩, e_NoName⟩
  have X_NoDeed : ExT K mg "NoDeed" C_NoDeed := ⟨PySem.W.mg_of X G m_NoDeed, ⟨x_NoDeed⟩, e_NoDeed⟩
  have X_RestError : ExT K mg "RestError" C_RestError := ⟨PySem.W.mg_of X G m_RestError, ⟨x_RestError⟩, e_RestError⟩
  have XX : XTx K mg (⟨C_NoFraction, C_NoPolynomial, C_NoStretch, C_NoRow, C_NoPair, C_NoBack, C_NoForm, C_NoParts, C_NoDegree, C_NoSteps, C_NoBox, C_NoGain, C_NoText, C_NoLine, C_NoName, C_NoDeed, C_RestError⟩ : CAd) := ⟨X_NoFraction, X_NoPolynomial, X_NoStretch, X_NoRow, X_NoPair, X_NoBack, X_NoForm, X_NoParts, X_NoDegree, X_NoSteps, X_NoBox, X_NoGain, X_NoText, X_NoLine, X_NoName, X_NoDeed⟩
  refine ⟨PySem.W.fnOf "law" "law" (defArgs s_law) (defBody s_law) (defScope s_law) .none kV_law dc_law pm_law an_law cd_law ct_law, fun s v => .of_eq rfl, fun base _ _ => ?_⟩
  have G_with_lead := ok_with_lead (P := l.prog) (w := w) (base := base) d_with_lead n_len n_range
  have G_cleaned := ok_cleaned (P := l.prog) (w := w) (base := base) d_cleaned n_zip
  have G_eliminated := ok_eliminated (P := l.prog) (w := w) (base := base) d_eliminated G_with_lead G_cleaned n_len n_range n_enumerate
  have G_common_divisor := ok_common_divisor (P := l.prog) (w := w) (base := base) d_common_divisor ⟨_, c_SHORT⟩ n_abs
  have G_fraction := ok_fraction (P := l.prog) (w := w) (base := base) d_fraction G_common_divisor
  have G_cleared := ok_cleared (P := l.prog) (w := w) (base := base) d_cleared G_common_divisor
  have G_determinant := ok_determinant (P := l.prog) (w := w) (base := base) d_determinant G_cleared G_eliminated G_fraction c_NOUGHT t_NOUGHT n_len
  have G_divisor_for_all := ok_divisor_for_all (P := l.prog) (w := w) (base := base) d_divisor_for_all G_common_divisor c_LONG n_max
  have G_lowered := ok_lowered (P := l.prog) (w := w) (base := base) d_lowered G_divisor_for_all G_common_divisor
  have G_back_of := ok_back_of (P := l.prog) (w := w) (base := base) d_back_of G_cleared G_eliminated G_fraction G_lowered X_NoBack n_len n_range n_enumerate
  have G__law_low := ok__law_low (P := l.prog) (w := w) (base := base) d__law_low n_abs
  have G__law_urn := ok__law_urn (P := l.prog) (w := w) (base := base) d__law_urn n_len n_abs
  have G__law_draw := ok__law_draw (P := l.prog) (w := w) (base := base) d__law_draw
  have G__law_whole := ok__law_whole (P := l.prog) (w := w) (base := base) d__law_whole n_isinstance n_int n_bool
  have G__law_is_number := ok__law_is_number (P := l.prog) (w := w) (base := base) d__law_is_number G__law_whole G__law_low n_isinstance n_tuple n_len
  have G__law_plus := ok__law_plus (P := l.prog) (w := w) (base := base) d__law_plus G__law_low
  have G__law_times := ok__law_times (P := l.prog) (w := w) (base := base) d__law_times G__law_low
  have G__law_dot := ok__law_dot (P := l.prog) (w := w) (base := base) d__law_dot G__law_plus G__law_times n_zip
  have G__law_flipped := ok__law_flipped (P := l.prog) (w := w) (base := base) d__law_flipped n_range n_len
  have G__law_unit := ok__law_unit (P := l.prog) (w := w) (base := base) d__law_unit n_range n_int
  have G__law_table_times := ok__law_table_times (P := l.prog) (w := w) (base := base) d__law_table_times G__law_flipped G__law_dot
  have G__law_which := ok__law_which (P := l.prog) (w := w) (base := base) d__law_which XX n_isinstance n_ValueError
  have GD__law_number := okD__law_number (P := l.prog) (w := w) (base := base) d__law_number G__law_draw G__law_low n_int
  have GD__law_other := okD__law_other (P := l.prog) (w := w) (base := base) d__law_other G__law_draw GD__law_number
  have G__law_said := ok__law_said (P := l.prog) (w := w) (base := base) d__law_said G_back_of G__law_which X_RestError kt_NoBack
  have G__law_steep := ok__law_steep (P := l.prog) (w := w) (base := base) d__law_steep GD__law_number GD__law_other n_range
  have G__law_stepped := ok__law_stepped (P := l.prog) (w := w) (base := base) d__law_stepped G__law_draw GD__law_other G__law_plus G__law_times n_len n_range n_list n_max n_zip
  have G__law_is_table := ok__law_is_table (P := l.prog) (w := w) (base := base) d__law_is_table G__law_is_number n_isinstance n_list n_len n_all
  have G__law_right := ok__law_right (P := l.prog) (w := w) (base := base) d__law_right G__law_draw G__law_steep G__law_stepped G__law_times G_determinant G__law_is_number G__law_said G__law_is_table G__law_table_times G__law_unit G__law_plus n_range n_list n_zip
  exact ok_law (P := l.prog) (w := w) (base := base) F_law G__law_urn G__law_right n_range n_max n_min n_len
end
theorem walk {l : PySem.W.OpenLaw} {q : Program} {loose : List Str} {XP : (Str → Option Value) → Heap → Prop} {YP : World → Heap → Prop} {d : DefRec} {K : Params → PySem.W.Frag} (hn : l.most = some 63) (hdf : d.params.defaults = [])
    (hY : ∀ (w : World) (h : Heap), YP w h → (K w.params).In h)
    (F : ∀ (w : World) (mg : Str → Option Value) (fa : Addr) (h : Heap), (K w.params).In h → h.Ns mainGlobals mg → mg d.name = some (.ref fa) →
      ∃ fd : FuncData, (∀ (s : Shared) (u : Value), BindsTo s fd ⟨[u], []⟩ [("_law_script", u)]) ∧ ∀ base : Heap, (K w.params).In base → base.Ns mainGlobals mg → FnOk l.prog w (K w.params) mg base CX0 (6 + 1) fa fd ["_law_script"] (spLaw (K w.params))) :
    PySem.W.WalkO q loose XP YP l.row.toRowW d [] (fun f vs => PySem.call f vs) :=
  L2.walk_of (n := 63) (k := (6 + 1)) (x := "_law_script") (CX := fun _ => CX0) (sp := fun w => spLaw (K w.params)) hn (by decide) hdf ⟨rfl, by decide, by decide⟩ hY F (fun _ _ a ns hl _ hS => ⟨a, ns, rfl, hS, hl, fun _ => rfl⟩) fun _ _ _ _ _ z => z
end R
open PySem PySem.W PyProof.Rows
set_option maxRecDepth 100000 in
set_option maxHeartbeats 0 in
theorem PySem.Challenge.cw_restward_k20_determinants_and_backs_holds : PySem.Challenge.rw_restward_k20_determinants_and_backs.Holds := by
  w_on; o_law; k_head; (case hw => w_witness2)
  k_fill
  refine R.walk (l := PySem.Challenge.rw_restward_k20_determinants_and_backs) rfl rfl (fun w h Y => PySem.W.kIn_of Y) ?F
  case F =>
    intro w mg fa h KX G hmg
    refine' R.all_mk KX G hmg ?a_with_lead ?l_with_lead ?c_with_lead ?k_with_lead ?a_cleaned ?l_cleaned ?c_cleaned ?k_cleaned ?a_eliminated ?l_eliminated ?c_eliminated ?k_eliminated ?a_common_divisor ?l_common_divisor ?c_common_divisor ?k_common_divisor ?a_fraction ?l_fraction ?c_fraction ?k_fraction ?a_cleared ?l_cleared ?c_cleared ?k_cleared ?a_determinant ?l_determinant ?c_determinant ?k_determinant ?a_divisor_for_all ?l_divisor_for_all ?c_divisor_for_all ?k_divisor_for_all ?a_lowered ?l_lowered ?c_lowered ?k_lowered ?a_back_of ?l_back_of ?c_back_of ?k_back_of ?a__law_low ?l__law_low ?c__law_low ?k__law_low ?a__law_urn ?l__law_urn ?c__law_urn ?k__law_urn ?a__law_draw ?l__law_draw ?c__law_draw ?k__law_draw ?a__law_number ?l__law_number ?c__law_number ?k__law_number ?a__law_whole ?l__law_whole ?c__law_whole ?k__law_whole ?a__law_is_number ?l__law_is_number ?c__law_is_number ?k__law_is_number ?a__law_other ?l__law_other ?c__law_other ?k__law_other ?a__law_plus ?l__law_plus ?c__law_plus ?k__law_plus ?a__law_times ?l__law_times ?c__law_times ?k__law_times ?a__law_dot ?l__law_dot ?c__law_dot ?k__law_dot ?a__law_flipped ?l__law_flipped ?c__law_flipped ?k__law_flipped ?a__law_unit ?l__law_unit ?c__law_unit ?k__law_unit ?a__law_table_times ?l__law_table_times ?c__law_table_times ?k__law_table_times ?a__law_which ?l__law_which ?c__law_which ?k__law_which ?a__law_said ?l__law_said ?c__law_said ?k__law_said ?a__law_steep ?l__law_steep ?c__law_steep ?k__law_steep ?a__law_stepped ?l__law_stepped ?c__law_stepped ?k__law_stepped ?a__law_is_table ?l__law_is_table ?c__law_is_table ?k__law_is_table ?a__law_right ?l__law_right ?c__law_right ?k__law_right ?a_law ?l_law ?c_law ?k_law ?z_ValueError ?z_abs ?z_all ?z_bool ?z_enumerate ?z_int ?z_isinstance ?z_len ?z_list ?z_max ?z_min ?z_range ?z_tuple ?z_zip ?y_SHORT ?y_LONG ?y_NOUGHT ?u_NOUGHT ?m_NoFraction ?x_NoFraction ?e_NoFraction ?m_NoPolynomial ?x_NoPolynomial ?e_NoPolynomial ?m_NoStretch ?x_NoStretch ?e_NoStretch ?m_NoRow ?x_NoRow ?e_NoRow ?m_NoPair ?x_NoPair ?e_NoPair ?m_NoBack ?x_NoBack ?e_NoBack ?m_NoForm ?x_NoForm ?e_NoForm ?m_NoParts ?x_NoParts ?e_NoParts ?m_NoDegree ?x_NoDegree ?e_NoDegree ?m_NoSteps ?x_NoSteps ?e_NoSteps ?m_NoBox ?x_NoBox ?e_NoBox ?m_NoGain ?x_NoGain ?e_NoGain ?m_NoText ?x_NoText ?e_NoText ?m_NoLine ?x_NoLine ?e_NoLine ?m_NoName ?x_NoName ?e_NoName ?m_NoDeed ?x_NoDeed ?e_NoDeed ?m_RestError ?x_RestError ?e_RestError ?kt_NoBack
    (case a_with_lead => k_is); (case l_with_lead => k_is); (case c_with_lead => k_is); (case k_with_lead => k_is)
    (case a_cleaned => k_is); (case l_cleaned => k_is); (case c_cleaned => k_is); (case k_cleaned => k_is)
    (case a_eliminated => k_is); (case l_eliminated => k_is); (case c_eliminated => k_is); (case k_eliminated => k_is)
    (case a_common_divisor => k_is); (case l_common_divisor => k_is); (case c_common_divisor => k_is); (case k_common_divisor => k_is)
    (case a_fraction => k_is); (case l_fraction => k_is); (case c_fraction => k_is); (case k_fraction => k_is)
    (case a_cleared => k_is); (case l_cleared => k_is); (case c_cleared => k_is); (case k_cleared => k_is)
    (case a_determinant => k_is); (case l_determinant => k_is); (case c_determinant => k_is); (case k_determinant => k_is)
    (case a_divisor_for_all => k_is); (case l_divisor_for_all => k_is); (case c_divisor_for_all => k_is); (case k_divisor_for_all => k_is)
    (case a_lowered => k_is); (case l_lowered => k_is); (case c_lowered => k_is); (case k_lowered => k_is)
    (case a_back_of => k_is); (case l_back_of => k_is); (case c_back_of => k_is); (case k_back_of => k_is)
    (case a__law_low => k_is); (case l__law_low => k_is); (case c__law_low => k_is); (case k__law_low => k_is)
    (case a__law_urn => k_is); (case l__law_urn => k_is); (case c__law_urn => k_is); (case k__law_urn => k_is)
    (case a__law_draw => k_is); (case l__law_draw => k_is); (case c__law_draw => k_is); (case k__law_draw => k_is)
    (case a__law_number => k_is); (case l__law_number => k_is); (case c__law_number => k_is); (case k__law_number => k_is)
    (case a__law_whole => k_is); (case l__law_whole => k_is); (case c__law_whole => k_is); (case k__law_whole => k_is)
    (case a__law_is_number => k_is); (case l__law_is_number => k_is); (case c__law_is_number => k_is); (case k__law_is_number => k_is)
    (case a__law_other => k_is); (case l__law_other => k_is); (case c__law_other => k_is); (case k__law_other => k_is)
    (case a__law_plus => k_is); (case l__law_plus => k_is); (case c__law_plus => k_is); (case k__law_plus => k_is)
    (case a__law_times => k_is); (case l__law_times => k_is); (case c__law_times => k_is); (case k__law_times => k_is)
    (case a__law_dot => k_is); (case l__law_dot => k_is); (case c__law_dot => k_is); (case k__law_dot => k_is)
    (case a__law_flipped => k_is); (case l__law_flipped => k_is); (case c__law_flipped => k_is); (case k__law_flipped => k_is)
    (case a__law_unit => k_is); (case l__law_unit => k_is); (case c__law_unit => k_is); (case k__law_unit => k_is)
    (case a__law_table_times => k_is); (case l__law_table_times => k_is); (case c__law_table_times => k_is); (case k__law_table_times => k_is)
    (case a__law_which => k_is); (case l__law_which => k_is); (case c__law_which => k_is); (case k__law_which => k_is)
    (case a__law_said => k_is); (case l__law_said => k_is); (case c__law_said => k_is); (case k__law_said => k_is)
    (case a__law_steep => k_is); (case l__law_steep => k_is); (case c__law_steep => k_is); (case k__law_steep => k_is)
    (case a__law_stepped => k_is); (case l__law_stepped => k_is); (case c__law_stepped => k_is); (case k__law_stepped => k_is)
    (case a__law_is_table => k_is); (case l__law_is_table => k_is); (case c__law_is_table => k_is); (case k__law_is_table => k_is)
    (case a__law_right => k_is); (case l__law_right => k_is); (case c__law_right => k_is); (case k__law_right => k_is)
    (case a_law => k_is); (case l_law => k_is); (case c_law => k_is); (case k_law => k_is)
    (case z_ValueError => k_is)
    (case z_abs => k_is)
    (case z_all => k_is)
    (case z_bool => k_is)
    (case z_enumerate => k_is)
    (case z_int => k_is)
    (case z_isinstance => k_is)
    (case z_len => k_is)
    (case z_list => k_is)
    (case z_max => k_is)
    (case z_min => k_is)
    (case z_range => k_is)
    (case z_tuple => k_is)
    (case z_zip => k_is)
    (case y_SHORT => k_is)
    (case y_LONG => k_is)
    (case y_NOUGHT => k_is); (case u_NOUGHT => k_is)
    (case m_NoFraction => k_is); (case x_NoFraction => k_exc); (case e_NoFraction => (refine ⟨?_, ?_, ?_, ?_, ?_, ?_⟩ <;> first | k_is | kernel_rfl))
    (case m_NoPolynomial => k_is); (case x_NoPolynomial => k_exc); (case e_NoPolynomial => (refine ⟨?_, ?_, ?_, ?_, ?_, ?_⟩ <;> first | k_is | kernel_rfl))
    (case m_NoStretch => k_is); (case x_NoStretch => k_exc); (case e_NoStretch => (refine ⟨?_, ?_, ?_, ?_, ?_, ?_⟩ <;> first | k_is | kernel_rfl))
    (case m_NoRow => k_is); (case x_NoRow => k_exc); (case e_NoRow => (refine ⟨?_, ?_, ?_, ?_, ?_, ?_⟩ <;> first | k_is | kernel_rfl))
    (case m_NoPair => k_is); (case x_NoPair => k_exc); (case e_NoPair => (refine ⟨?_, ?_, ?_, ?_, ?_, ?_⟩ <;> first | k_is | kernel_rfl))
    (case m_NoBack => k_is); (case x_NoBack => k_exc); (case e_NoBack => (refine ⟨?_, ?_, ?_, ?_, ?_, ?_⟩ <;> first | k_is | kernel_rfl))
    (case m_NoForm => k_is); (case x_NoForm => k_exc); (case e_NoForm => (refine ⟨?_, ?_, ?_, ?_, ?_, ?_⟩ <;> first | k_is | kernel_rfl))
    (case m_NoParts => k_is); (case x_NoParts => k_exc); (case e_NoParts => (refine ⟨?_, ?_, ?_, ?_, ?_, ?_⟩ <;> first | k_is | kernel_rfl))
    (case m_NoDegree => k_is); (case x_NoDegree => k_exc); (case e_NoDegree => (refine ⟨?_, ?_, ?_, ?_, ?_, ?_⟩ <;> first | k_is | kernel_rfl))
    (case m_NoSteps => k_is); (case x_NoSteps => k_exc); (case e_NoSteps => (refine ⟨?_, ?_, ?_, ?_, ?_, ?_⟩ <;> first | k_is | kernel_rfl))
    (case m_NoBox => k_is); (case x_NoBox => k_exc); (case e_NoBox => (refine ⟨?_, ?_, ?_, ?_, ?_, ?_⟩ <;> first | k_is | kernel_rfl))
    (case m_NoGain => k_is); (case x_NoGain => k_exc); (case e_NoGain => (refine ⟨?_, ?_, ?_, ?_, ?_, ?_⟩ <;> first | k_is | kernel_rfl))
    (case m_NoText => k_is); (case x_NoText => k_exc); (case e_NoText => (refine ⟨?_, ?_, ?_, ?_, ?_, ?_⟩ <;> first | k_is | kernel_rfl))
    (case m_NoLine => k_is); (case x_NoLine => k_exc); (case e_NoLine => (refine ⟨?_, ?_, ?_, ?_, ?_, ?_⟩ <;> first | k_is | kernel_rfl))
    (case m_NoName => k_is); (case x_NoName => k_exc); (case e_NoName => (refine ⟨?_, ?_, ?_, ?_, ?_, ?_⟩ <;> first | k_is | kernel_rfl))
    (case m_NoDeed => k_is); (case x_NoDeed => k_exc); (case e_NoDeed => (refine ⟨?_, ?_, ?_, ?_, ?_, ?_⟩ <;> first | k_is | kernel_rfl))
    (case m_RestError => k_is); (case x_RestError => k_exc); (case e_RestError => (refine ⟨?_, ?_, ?_, ?_, ?_, ?_⟩ <;> first | k_is | kernel_rfl))
    (case kt_NoBack => (refine ⟨?_, ?_, ?_, ?_, ?_, ?_, ?_, ?_, ?_, ?_, ?_, ?_, ?_, ?_, ?_, ?_, ?_, ?_, ?_⟩ <;> first | kernel_rfl | (refine ⟨?_, ?_, ?_, ?_, ?_, ?_⟩ <;> first | k_is | kernel_rfl)))

