import PyProof.Rows.All
import Wide.All
import OpenK.AllK
import Wide.FinOn
import PyProof.EqAt
import PyProof.EqKinds
import PyProof.TupleCall
import KE.KTryMore
import KE.KIsNot
import PyProof.MeetsStr
import PyProof.Rows.RuleM_int
import PyProof.CompFree
import PyProof.WalksEnum
import PyProof.EnumMake
import PyProof.NeKinds
import PyProof.ConsumeWalk
import PyProof.CompMap
import PyProof.Rows.EqBoolInt
import KE.IntBitsLaws
import PyProof.ZipIter
import PyProof.Rows.ZipGen
import PyProof.MinMaxWalk
import PyProof.WalkInts
import PyProof.Rows.CallKwBuiltin
import PyProof.CompUse
import KE.KRevIter
import PyProof.Rows.Range3
import PyProof.NsDelKeeps
import PyProof.SumAny
import PyProof.TupleIter
import PyProof.WalksMore
import PyProof.ListRange
import PyProof.CollectStr
import PyProof.TupleOfStr
import PySem.Challenge.RW_restward_k06_parts_told
set_option Elab.async false
set_option linter.all false
-- CHANGE: your row's module here, as the last of these rows
set_option maxRecDepth 100000
namespace L2
open PySem PySem.Spec PyProof.Rows
abbrev Key := Sum Int Str
def keyIs : Key → Value → Bool
  | .inl k, v => Value.isInt k v
  | .inr x, v => Value.isStrOf x v
def keyH (w : World) : Key → Int
  | .inl k => hashInt k
  | .inr x => hashStr w x
theorem keyIs_shape : ∀ {k : Key} {v : Value}, keyIs k v = true → (∃ i t, k = Sum.inl i ∧ v = Value.int i t) ∨ (∃ x t, k = Sum.inr x ∧ v = Value.str x t)
  | .inl i, v, h => by
    obtain ⟨t, e⟩ := Value.isInt_shape (k := i) (v := v) h
    exact .inl ⟨i, t, rfl, e⟩
  | .inr x, v, h => by
    obtain ⟨t, e⟩ := Value.isStrOf_shape (x := x) (v := v) h
    exact .inr ⟨x, t, rfl, e⟩
theorem key_ll (a b : Int) : decide ((Sum.inl a : Key) = Sum.inl b) = (a == b) := by
  by_cases e : a = b
  · subst e; simp
  · have h : ¬ (Sum.inl a : Key) = Sum.inl b := fun q => e (Sum.inl.inj q)
    rw [decide_eq_false h]
    exact (beq_eq_false_iff_ne.mpr e).symm
theorem key_rr (a b : Str) : decide ((Sum.inr a : Key) = Sum.inr b) = decide (a = b) := by
  by_cases e : a = b
  · subst e; simp
  · have h : ¬ (Sum.inr a : Key) = Sum.inr b := fun q => e (Sum.inr.inj q)
    rw [decide_eq_false h, decide_eq_false e]
theorem key_lr (a : Int) (b : Str) : decide ((Sum.inl a : Key) = Sum.inr b) = false := decide_eq_false (fun q => nomatch q)
theorem key_rl (a : Str) (b : Int) : decide ((Sum.inr a : Key) = Sum.inl b) = false := decide_eq_false (fun q => nomatch q)
def mixKind (prog : Program) (w : World) : PySem.KeyKind prog w Key where
  is := keyIs
  hash := keyH w
  inj := fun v a b ha hb => by
    rcases keyIs_shape ha with ⟨i, t, rfl, rfl⟩ | ⟨x, t, rfl, rfl⟩
    · rcases keyIs_shape hb with ⟨j, u, rfl, e⟩ | ⟨y, u, rfl, e⟩
      · injection e with e1 _; rw [e1]
      · exact nomatch e
    · rcases keyIs_shape hb with ⟨j, u, rfl, e⟩ | ⟨y, u, rfl, e⟩
      · exact nomatch e
      · injection e with e1 _; rw [e1]
  byValue := fun k v h => by
    rcases keyIs_shape h with ⟨i, t, rfl, rfl⟩ | ⟨x, t, rfl, rfl⟩ <;> rfl
  pyHash := fun hv h => by
    rcases keyIs_shape hv with ⟨i, t, rfl, rfl⟩ | ⟨x, t, rfl, rfl⟩
    · exact wpAny_pyHash_int h
    · exact wpAny_pyHash_str h
  eqBool := fun hu hv h => by
    rcases keyIs_shape hu with ⟨i, t, rfl, rfl⟩ | ⟨x, t, rfl, rfl⟩
    · rcases keyIs_shape hv with ⟨j, u, rfl, rfl⟩ | ⟨y, u, rfl, rfl⟩
      · rw [key_ll] at h; exact wpAny_eqBool_int h
      · rw [key_lr] at h; exact SeqAt.EqAt.int_str i t y u _ _ _ _ h
    · rcases keyIs_shape hv with ⟨j, u, rfl, rfl⟩ | ⟨y, u, rfl, rfl⟩
      · rw [key_rl] at h; exact SeqAt.EqAt.str_int x t j u _ _ _ _ h
      · rw [key_rr] at h; exact wpAny_eqBool_str h
  «strs» := fun k x t v h => by
    rcases keyIs_shape h with ⟨i, u, rfl, e⟩ | ⟨y, u, rfl, e⟩
    · exact nomatch e
    · injection e with e1 _
      subst e1
      cases v <;> rfl
inductive V where
  | non | bl (b : Bool) | int (i : Int) | str (x : Str) | byt (b : Array UInt8) | flt (b : UInt64) | ref (a : Addr) | ty (n : String)
  deriving DecidableEq
def RelV : V → Value → Prop
  | .non, u => u = Value.none
  | .bl b, u => u = Value.bool b
  | .int i, u => ∃ t, u = Value.int i t
  | .str x, u => ∃ t, u = Value.str x t
  | .byt b, u => ∃ t, u = Value.bytes b t
  | .flt b, u => ∃ t, u = Value.float b t
  | .ref a, u => u = Value.ref a
  | .ty n, u => u = Value.type n
abbrev Vals : List V → List Value → Prop := Paired RelV
theorem Vals.length {xs : List V} {us : List Value} (r : Vals xs us) : xs.length = us.length := Paired.length r
theorem Vals.get : ∀ {xs : List V} {us : List Value} {i : Nat} {x : V}, Vals xs us → xs[i]? = some x → ∃ u, us[i]? = some u ∧ RelV x u
  | _, _, _, _, .nil, e => by simp at e
  | _, _, 0, _, .cons r _, e => by simp at e; subst e; exact ⟨_, rfl, r⟩
  | _, _, i + 1, x, .cons _ t, e => by
    obtain ⟨u, h1, h2⟩ := Vals.get (i := i) (x := x) t (by simpa using e)
    exact ⟨u, by simpa using h1, h2⟩
theorem Vals.set {x : V} {u : Value} (r : RelV x u) : ∀ {xs : List V} {us : List Value} (i : Nat), Vals xs us → Vals (xs.set i x) (us.set i u)
  | _, _, _, .nil => .nil
  | _, _, 0, .cons _ t => .cons r t
  | _, _, i + 1, .cons q t => .cons q (Vals.set r i t)
theorem Vals.append : ∀ {xs ys : List V} {us ws : List Value}, Vals xs us → Vals ys ws → Vals (xs ++ ys) (us ++ ws)
  | _, _, _, _, .nil, s => s
  | _, _, _, _, .cons r t, s => .cons r (Vals.append t s)
theorem Vals.take : ∀ {xs : List V} {us : List Value} (n : Nat), Vals xs us → Vals (xs.take n) (us.take n)
  | _, _, 0, _ => .nil
  | _, _, _ + 1, .nil => .nil
  | _, _, n + 1, .cons r t => .cons r (Vals.take n t)
theorem Vals.drop : ∀ {xs : List V} {us : List Value} (n : Nat), Vals xs us → Vals (xs.drop n) (us.drop n)
  | _, _, 0, r => r
  | _, _, _ + 1, .nil => .nil
  | _, _, n + 1, .cons _ t => Vals.drop n t
def RelO : Option V → Option Value → Prop
  | some v, some u => RelV v u
  | none, none => True
  | _, _ => False
def KV {κ : Type} : List (κ × V) → List (κ × Value) → Prop := Paired fun (p : κ × V) (q : κ × Value) => p.1 = q.1 ∧ RelV p.2 q.2
def kV : Key → V
  | .inl i => .int i
  | .inr x => .str x
inductive HO where
  /-- a list -/
  | lst (xs : List V)
  /-- a tuple (never changes) -/
  | tup (xs : List V)
  /-- a dict whose keys are ints and texts; one whose keys are tuples of ints and texts (the empty one is both) -/
  | dK (kvs : List (Key × V)) | dT (kvs : List (List Key × V))
  /-- a set of ints: its members, its size -/
  | set (S : Int → Bool) (n : Nat)
  /-- an instance of the class at C, its dict at dx, its attributes -/
  | ins (C dx : Addr) (fs : List (Str × V))
  /-- the dict of the instance at x -/
  | own (x : Addr)
  /-- the dict of an exception -/
  | xd (fs : List (Str × V))
  /-- a bound method, f of x -/
  | met (f x : Addr)
  /-- a range object lo, lo + 1, .. below hi -/
  | rng (lo hi : Int)
  /-- a thing that is known to the object (the script; a dict while a loop walks it): read, never written while it is so -/
  | frz (o : Obj) (u : HO)
  /-- a code object's table -/
  | tbl (ps : Array Value)
  /-- any other thing, by what is true of its one object (a def of one's own: SetO a S n := HO.ext fun h => ..) -/
  | ext (φ : Heap → Prop)
abbrev Hp := Addr → Option HO
def upd (H : Hp) (a : Addr) (o : HO) : Hp := fun b => if b = a then some o else H b
theorem upd_same {H : Hp} {a : Addr} {o : HO} : upd H a o a = some o := by unfold upd; rw [if_pos rfl]
theorem upd_ne {H : Hp} {a b : Addr} {o : HO} (h : b ≠ a) : upd H a o b = H b := by unfold upd; rw [if_neg h]
theorem ne_of {H : Hp} {a b : Addr} {o u : HO} (h : H a = some o) (h' : H b = some u) (d : o ≠ u) : a ≠ b := by
  intro e; subst e; rw [h] at h'; exact d (Option.some.inj h')
theorem ne_of_none {H : Hp} {a b : Addr} {o : HO} (h : H a = some o) (h' : H b = none) : a ≠ b := by
  intro e; subst e; rw [h] at h'; cases h'
section
variable (P : Program) (w : World)
def ObjOk (H : Hp) (h : Heap) (a : Addr) : HO → Prop
  | .lst xs => xs.length ≤ sizeLine ∧ ∃ (its : List Value) (n : Nat), Vals xs its ∧ h.get? a = some { cls := .type "list", data := .seq its.toArray n }
  | .tup xs => xs.length ≤ sizeLine ∧ ∃ its : List Value, Vals xs its ∧ IsTup h a its.toArray
  | .dK kvs => kvs.length ≤ sizeLine ∧ (a == sysModules) = false ∧ ∃ vs, KV kvs vs ∧ h.DictOf (mixKind P w) a vs
  | .dT kvs => kvs.length ≤ sizeLine ∧ (a == sysModules) = false ∧ ∃ xs : List (List Key × Addr × Value),
      Paired (fun (p : List Key × V) (q : List Key × Addr × Value) => p.1 = q.1 ∧ H q.2.1 = some (.tup (p.1.map kV)) ∧ RelV p.2 q.2.2) kvs xs ∧
      ∃ o es ep, h.get? a = some o ∧ o.ExactDict ∧ o.data = .dict es ep ∧ es.toList = xs.map (entryOfKey (tupleKind (mixKind P w))) ∧ (xs.map (·.1)).Nodup
  | .set S n => h.SetOf (intKind P w) a S n
  | .ins C dx fs => H dx = some (.own a) ∧ fs.length ≤ 1000 ∧ dx ≠ a ∧ h.get? a = some (PySem.W.instObj C dx) ∧
      ∃ mA, h.Ns1 dx mA ∧ (∀ f, RelO (fs.lookup f) (mA f)) ∧ PySem.Within mA (fs.map (·.1))
  | .own _ => ∃ o, h.get? a = some o
  | .xd fs => ∃ mA, h.Ns1 a mA ∧ ∀ f, RelO (fs.lookup f) (mA f)
  | .rng lo hi => ∃ t u v, h.get? a = some { cls := .type "range", data := .fields #[.int lo t, .int hi u, .int 1 v] }
  | .frz o u => h.get? a = some o ∧ ObjOk H h a u
  | .tbl ps => h.get? a = some { cls := .none, data := .fields ps }
  | .met f x => h.get? a = some (PySem.W.methodObj (.ref f) (.ref x))
  | .ext φ => φ h ∧ (∃ o, h.get? a = some o) ∧ ∀ h1 h2 : Heap, φ h1 → (∀ o, h1.get? a = some o → h2.get? a = some o) → φ h2
def HOk (H : Hp) (h : Heap) : Prop := ∀ a o, H a = some o → ObjOk P w H h a o
end
section
variable {P : Program} {w : World} {H H' : Hp} {h h' : Heap} {a : Addr} {o : HO}
theorem ObjOk.lt (x : ObjOk P w H h a o) : a < h.objs.size := by
  cases o with
  | lst xs => obtain ⟨_, _, _, _, e⟩ := x; exact Heap.lt_size e
  | tup xs => obtain ⟨_, _, _, p⟩ := x; exact p.lt
  | dK kvs => obtain ⟨_, _, _, _, o, _, _, e, _⟩ := x; exact Heap.lt_size e
  | dT kvs => obtain ⟨_, _, _, _, o, _, _, e, _⟩ := x; exact Heap.lt_size e
  | set S n => obtain ⟨o, _, _, _, e, _⟩ := x; exact Heap.lt_size e
  | ins C dx fs => obtain ⟨_, _, _, e, _⟩ := x; exact Heap.lt_size e
  | own y => obtain ⟨_, e⟩ := x; exact Heap.lt_size e
  | xd fs => obtain ⟨_, ⟨_, _, _, e, _⟩, _⟩ := x; exact Heap.lt_size e
  | rng lo hi => obtain ⟨_, _, _, e⟩ := x; exact Heap.lt_size e
  | frz ob u => obtain ⟨e, _⟩ := x; exact Heap.lt_size e
  | tbl ps => exact Heap.lt_size (show h.get? a = some _ from x)
  | met f y => exact Heap.lt_size (show h.get? a = some _ from x)
  | ext φ => obtain ⟨_, ⟨_, e⟩, _⟩ := x; exact Heap.lt_size e
theorem Paired.mapP {α β : Type} {F G : α → β → Prop} : ∀ {l₁ : List α} {l₂ : List β}, Paired F l₁ l₂ → (∀ a b, F a b → G a b) → Paired G l₁ l₂
  | _, _, .nil, _ => .nil
  | _, _, .cons r t, f => .cons (f _ _ r) (Paired.mapP t f)
theorem ObjOk.stay (x : ObjOk P w H h a o) (k : ∀ b u, (b = a ∨ H b = some (.own a)) → h.get? b = some u → h'.get? b = some u)
    (ho : ∀ b, H b = some (.own a) → H' b = some (.own a)) (ht : ∀ b xs, H b = some (.tup xs) → H' b = some (.tup xs)) : ObjOk P w H' h' a o := by
  induction o with
  | lst xs => obtain ⟨z, its, n, r, e⟩ := x; exact ⟨z, its, n, r, k _ _ (.inl rfl) e⟩
  | tup xs => obtain ⟨z, its, r, ob, e, c⟩ := x; exact ⟨z, its, r, ob, k _ _ (.inl rfl) e, c⟩
  | dK kvs => obtain ⟨z, y, vs, r, ob, es, ep, e, c⟩ := x; exact ⟨z, y, vs, r, ob, es, ep, k _ _ (.inl rfl) e, c⟩
  | dT kvs =>
    obtain ⟨z, y, xs, r, ob, es, ep, e, c⟩ := x
    exact ⟨z, y, xs, Paired.mapP r fun p q z => ⟨z.1, ht _ _ z.2.1, z.2.2⟩, ob, es, ep, k _ _ (.inl rfl) e, c⟩
  | set S n => obtain ⟨ob, es, ep, t, e, c⟩ := x; exact ⟨ob, es, ep, t, k _ _ (.inl rfl) e, c⟩
  | ins C dx fs =>
    obtain ⟨d, z, ne, e, mA, ⟨od, es, ep, e2, c⟩, r⟩ := x
    exact ⟨ho _ d, z, ne, k _ _ (.inl rfl) e, mA, ⟨od, es, ep, k _ _ (.inr d) e2, c⟩, r⟩
  | own y => obtain ⟨ob, e⟩ := x; exact ⟨ob, k _ _ (.inl rfl) e⟩
  | xd fs => obtain ⟨mA, ⟨od, es, ep, e, c⟩, r⟩ := x; exact ⟨mA, ⟨od, es, ep, k _ _ (.inl rfl) e, c⟩, r⟩
  | rng lo hi => obtain ⟨t, u, v, e⟩ := x; exact ⟨t, u, v, k _ _ (.inl rfl) e⟩
  | frz ob u ih => obtain ⟨e, q⟩ := x; exact ⟨k _ _ (.inl rfl) e, ih q⟩
  | tbl ps =>
    have e : h.get? a = some { cls := .none, data := .fields ps } := x
    show h'.get? a = some { cls := .none, data := .fields ps }
    exact k a _ (.inl rfl) e
  | met f y =>
    have e : h.get? a = some (PySem.W.methodObj (.ref f) (.ref y)) := x
    show h'.get? a = some (PySem.W.methodObj (.ref f) (.ref y))
    exact k a _ (.inl rfl) e
  | ext φ => obtain ⟨p, ⟨o, e⟩, st⟩ := x; exact ⟨st _ _ p fun o q => k _ _ (.inl rfl) q, ⟨o, k _ _ (.inl rfl) e⟩, st⟩
theorem HOk.lt (x : HOk P w H h) (e : H a = some o) : a < h.objs.size := (x a o e).lt
theorem HOk.fresh (x : HOk P w H h) (e : h.objs.size ≤ a) : H a = none := by
  cases q : H a with
  | none => rfl
  | some u => exact absurd (Nat.lt_of_lt_of_le (x.lt q) e) (Nat.lt_irrefl _)
theorem HOk.kept (x : HOk P w H h) (k : ∀ b u, h.get? b = some u → h'.get? b = some u) : HOk P w H h' := fun a o e =>
  (x a o e).stay (fun b u _ q => k b u q) (fun _ q => q) fun _ _ q => q
theorem HOk.laid (x : HOk P w H h) (k : ∀ b u, h.get? b = some u → h'.get? b = some u) (hp : h.objs.size ≤ a) (new : ObjOk P w (upd H a o) h' a o) : HOk P w (upd H a o) h' := fun b u e => by
  have hn := x.fresh hp
  by_cases hb : b = a
  · subst hb; rw [upd_same] at e; cases e; exact new
  · rw [upd_ne hb] at e
    exact (x b u e).stay (fun c v _ q => k c v q) (fun c q => by rw [upd_ne (ne_of_none q hn)]; exact q) fun c xs q => by rw [upd_ne (ne_of_none q hn)]; exact q
end
def Rd (H : Hp) (a : Addr) (u : HO) : Prop := H a = some u ∨ ∃ o, H a = some (.frz o u)
theorem Rd.ok {P : Program} {w : World} {H : Hp} {h : Heap} {a : Addr} {u : HO} (r : Rd H a u) (x : HOk P w H h) : ObjOk P w H h a u := by
  rcases r with r | ⟨o, r⟩
  · exact x a u r
  · obtain ⟨_, q⟩ := x a _ r
    exact q
def Mut : Option HO → Prop
  | some (.lst _) => True
  | some (.dK _) => True
  | some (.dT _) => True
  | some (.set _ _) => True
  | some (.ins _ _ _) => True
  | some (.ext _) => True
  | _ => False
section
variable {P : Program} {w : World} {H : Hp} {h h' : Heap} {x e : Addr} {o' : HO}
theorem HOk.write (ok : HOk P w H h) (mu : Mut (H x)) (he : e = x ∨ H e = some (.own x)) (k : ∀ b u, b ≠ e → h.get? b = some u → h'.get? b = some u) (heo : ∃ u, h'.get? e = some u)
    (new : ObjOk P w (upd H x o') h' x o') : HOk P w (upd H x o') h' := fun b u q => by
  have nown : ∀ c y, H c = some (.own y) → c ≠ x := fun c y r z => by subst z; rw [r] at mu; exact mu
  have ntup : ∀ c xs, H c = some (.tup xs) → c ≠ x := fun c xs r z => by subst z; rw [r] at mu; exact mu
  by_cases hb : b = x
  · subst hb; rw [upd_same] at q; cases q; exact new
  · rw [upd_ne hb] at q
    by_cases hbe : b = e
    · have q' : H b = some (.own x) := by
        rcases he with z | z
        · exact absurd (hbe.trans z) hb
        · rw [hbe]; exact z
      rw [q] at q'; cases q'
      obtain ⟨v, hv⟩ := heo
      exact ⟨v, by rw [hbe]; exact hv⟩
    · refine (ok b u q).stay (fun c v hc r => k c v ?_ r) (fun c r => by rw [upd_ne (nown c b r)]; exact r) fun c xs r => by rw [upd_ne (ntup c xs r)]; exact r
      rcases hc with rfl | hc
      · exact hbe
      · rintro rfl
        rcases he with z | z
        · exact nown c b hc z
        · rw [hc] at z; cases z; exact hb rfl
end
structure Un (fs ex : List Addr) (H H' : Hp) (h h' : Heap) : Prop where
  keep : ∀ b o, h.get? b = some o → H b = none → b ∉ fs → b ∉ ex → h'.get? b = some o
  slot : ∀ b o, h.get? b = some o → H b = none → b ∈ fs → b ∉ ex → ∃ sl, h'.get? b = some { o with slots := sl }
  free : ∀ b o, h.get? b = some o → H b = none → b ∉ ex → H' b = none
  there : ∀ b o, h.get? b = some o → b ∉ ex → ∃ o', h'.get? b = some o'
  tups : ∀ b xs, H b = some (.tup xs) → H' b = some (.tup xs)
  frzs : ∀ b o u, H b = some (.frz o u) → H' b = some (.frz o u)
  tbls : ∀ b ps, H b = some (.tbl ps) → ∃ more, H' b = some (.tbl (ps ++ more))
section
variable {fs fs' ex ex' : List Addr} {H H1 H2 : Hp} {h h1 h2 h' : Heap} {a x e : Addr} {o : HO}
theorem Un.any (u : Un fs ex H H1 h h1) {b : Addr} {ob : Obj} (q : h.get? b = some ob) (n : H b = none) (hx : b ∉ ex) : ∃ sl, h1.get? b = some { ob with slots := sl } := by
  by_cases hb : b ∈ fs
  · exact u.slot b ob q n hb hx
  · exact ⟨ob.slots, u.keep b ob q n hb hx⟩
theorem Un.kept (k : ∀ b u, h.get? b = some u → h'.get? b = some u) : Un fs ex H H h h' :=
  ⟨fun b ob q _ _ _ => k b ob q, fun b ob q _ _ _ => ⟨ob.slots, k b ob q⟩, fun _ _ _ n _ => n, fun b ob q _ => ⟨ob, k b ob q⟩, fun _ _ q => q, fun _ _ _ q => q, fun _ ps q => ⟨#[], by rw [q]; simp⟩⟩
theorem Un.refl : Un fs ex H H h h := Un.kept fun _ _ q => q
theorem Un.laid (k : ∀ b u, h.get? b = some u → h'.get? b = some u) (hp : h.objs.size ≤ a) (hn : H a = none) : Un fs ex H (upd H a o) h h' where
  keep := fun b u q _ _ _ => k b u q
  slot := fun b u q _ _ _ => ⟨u.slots, k b u q⟩
  free := fun b u q n _ => by rw [upd_ne (Nat.ne_of_lt (Nat.lt_of_lt_of_le (Heap.lt_size q) hp))]; exact n
  there := fun b u q _ => ⟨u, k b u q⟩
  tups := fun b xs q => by rw [upd_ne (ne_of_none q hn)]; exact q
  frzs := fun b u xs q => by rw [upd_ne (ne_of_none q hn)]; exact q
  tbls := fun b ps q => ⟨#[], by rw [upd_ne (ne_of_none q hn), q]; simp⟩
theorem Un.write (mu : Mut (H x)) (he : e = x ∨ H e = some (.own x)) (k : ∀ b u, b ≠ e → h.get? b = some u → h'.get? b = some u) (heo : ∃ u, h'.get? e = some u) : Un fs ex H (upd H x o) h h' := by
  have hx : ∀ b, H b = none → b ≠ x := fun b n z => by subst z; rw [n] at mu; exact mu
  have hb : ∀ b, H b = none → b ≠ e := fun b n z => by
    subst z
    rcases he with r | r
    · exact hx b n r
    · rw [n] at r; cases r
  have hm : ∀ b u, H b = some u → ¬ Mut (some u) → b ≠ x := fun b u q nm z => by subst z; rw [q] at mu; exact nm mu
  refine ⟨fun b u q n _ _ => k b u (hb b n) q, fun b u q n _ _ => ⟨u.slots, k b u (hb b n) q⟩, fun b u q n _ => by rw [upd_ne (hx b n)]; exact n, fun b u q _ => ?_,
    fun b xs q => by rw [upd_ne (hm b _ q fun z => z)]; exact q, fun b u xs q => by rw [upd_ne (hm b _ q fun z => z)]; exact q, fun b ps q => ⟨#[], by rw [upd_ne (hm b _ q fun z => z), q]; simp⟩⟩
  by_cases hbe : b = e
  · subst hbe; exact heo
  · exact ⟨u, k b u hbe q⟩
end
def trk (h : Heap) (H : Hp) : List Addr := (List.range h.objs.size).filter fun a => (H a).isSome
def hidT (h : Heap) (H : Hp) : Heap := PySem.W.hideAll h (trk h H)
theorem hidT_size (h : Heap) (H : Hp) : (hidT h H).objs.size = h.objs.size := PySem.W.hideAll_size _ _
theorem hidT_get {h : Heap} {H : Hp} {b : Addr} {o : Obj} (e : h.get? b = some o) (n : H b = none) : (hidT h H).get? b = some o :=
  PySem.W.hideAll_get _ e fun hm => by
    have q : (H b).isSome = true := (List.mem_filter.mp hm).2
    rw [n] at q; simp at q
theorem of_hidT {h : Heap} {H : Hp} {b : Addr} {o : Obj} (e : (hidT h H).get? b = some o) : h.get? b = some o ∧ H b = none := by
  have e' : h.get? b = some o := PySem.W.of_hideAll (trk h H) e
  refine ⟨e', ?_⟩
  cases q : H b with
  | none => rfl
  | some x =>
    have hm : b ∈ trk h H := List.mem_filter.mpr ⟨List.mem_range.mpr (Heap.lt_size e'), by simp [q]⟩
    have z : (hidT h H).get? b = none := PySem.W.hideAll_none (trk h H) hm
    rw [z] at e; cases e
def allNews (g h : Heap) (L : Addr) : List (Addr × Obj) := (List.range h.objs.size).filterMap fun a => if a = L ∨ (g.get? a).isSome = true then none else (h.get? a).map fun o => (a, o)
def rest (g h : Heap) (L d : Addr) : List (Addr × Obj) := (allNews g h L).filter fun p => decide (p.1 ≠ d)
structure Mod (K : PySem.W.Frag) (mg : Str → Option Value) (base : Heap) : Prop where
  kin : K.In base
  glob : base.Ns mainGlobals mg
  blt : ∃ mb, base.Ns builtinsNs mb ∧ ∀ x : Str, x ≠ "__name__" → mb x = bootBuiltins x
  nolimit : base.NoLimit
/-- the context: a def's body (or a comprehension's block) running. base: fixed through the whole law; s₀, H₀: the entry; outer: the frames whose slots others may change (a def's callers); stack: all frames that run;
   ex: iterators that were made ahead of the entry and are walked here (a comprehension's); fn: the names whose cells were made at the entry (a def: all; a comprehension's block: its own); calm: not within an except suite; pn: pins that every state bears; xe: what is wanted of an exception that leaves the code -/
structure Cx where
  prog : Program
  w : World
  K : PySem.W.Frag
  mg : Str → Option Value
  base : Heap
  A : Around
  N : List Str
  s₀ : Shared
  H₀ : Hp
  env : Env
  outer : List Env
  stack : List Env
  ex : List Addr
  fn : Str → Bool
  calm : Bool
  pn : List (Addr × Obj)
  xe : Value → Shared → Prop
def frs (l : List Env) : List Addr := l.filterMap (·.frame)
abbrev Cx.fs (X : Cx) : List Addr := frs X.outer
def Vis (sc : Scope) (x : Str) : Prop := sc.names.lookup x = some .local ∨ sc.names.lookup x = some .cell ∨ sc.names.lookup x = some .free
def Loc (sc : Scope) (x : Str) : Prop := sc.names.lookup x = some .local ∨ sc.names.lookup x = some .cell
def Look (env : Env) (h : Heap) (m : Str → Option Value) (x : Str) (u : Value) : Prop :=
  (env.kindOf x = some .local ∧ m x = some u) ∨ ((env.kindOf x = some .cell ∨ env.kindOf x = some .free) ∧ ∃ c, env.cells.lookup x = some c ∧ h.IsCell c (some u))
structure Cx.Ok (X : Cx) : Prop where
  mod : Mod X.K X.mg X.base
  kind : X.env.scope.kind = .function
  glob : X.env.globals = mainGlobals
  blt : X.env.builtins = builtinsNs
  above : X.s₀.heap.objs.size ≤ X.env.locals
  inj : ∀ x y c, X.env.cells.lookup x = some c → X.env.cells.lookup y = some c → x = y
  has : ∀ x, (X.env.kindOf x = some .cell ∨ X.env.kindOf x = some .free) → ∃ c, X.env.cells.lookup x = some c
  cab : ∀ x c, X.fn x = true → X.env.cells.lookup x = some c → X.s₀.heap.objs.size ≤ c
  hd : X.calm = true → X.A.handled = none
  frames : X.A.frames = some X.stack
  stk : X.stack = X.outer ∨ (X.stack = X.env :: X.outer ∧ X.env.frame = some X.env.locals)
  exf : ∀ b ∈ X.ex, b ≠ X.env.locals ∧ ∀ x c, X.env.cells.lookup x = some c → c ≠ b
  bs : ∀ b o, X.base.get? b = some o → X.s₀.heap.get? b = some o ∧ X.H₀ b = none
  bsz : X.base.objs.size ≤ X.s₀.heap.objs.size
  noex : ∀ b o, X.base.get? b = some o → b ∉ X.ex
  exfs : ∀ b ∈ X.ex, b ∉ X.fs
  funs : X.s₀.heap.FunFrames X.base X.outer
  frf : ∀ b ∈ X.fs, X.H₀ b = none
structure Inv (X : Cx) (pins : List (Addr × Obj)) (σ : List (Option V)) (H : Hp) (s : Shared) : Prop where
  ok : X.Ok
  os : s.os = X.s₀.os
  bare : AllBare s.gens
  base : Un X.fs X.ex X.H₀ H X.s₀.heap s.heap
  loc : ∃ m, s.heap.Ns X.env.locals m ∧ ∀ (i : Nat) (x : Str) (v : V), X.N[i]? = some x → σ[i]? = some (some v) → Vis X.env.scope x → ∃ u, RelV v u ∧ Look X.env s.heap m x u
  cell : ∀ x c, X.env.cells.lookup x = some c → ∃ v, s.heap.IsCell c v
  free : H X.env.locals = none
  freeC : ∀ x c, X.env.cells.lookup x = some c → H c = none
  pin : ∀ p ∈ X.pn ++ pins, s.heap.get? p.1 = some p.2 ∧ H p.1 = none ∧ p.1 ≠ X.env.locals ∧ p.1 ∉ X.fs ∧ ∀ v, p.2.data ≠ .cell v
  hok : HOk X.prog X.w H s.heap
  len : σ.length = X.N.length
section
variable {X : Cx} {pins : List (Addr × Obj)} {σ : List (Option V)} {H H' : Hp} {s : Shared} {h' : Heap}
theorem Cx.Ok.nofr (ok : X.Ok) {b : Addr} {o : Obj} (e : X.base.get? b = some o) : b ∉ X.fs := fun hb => by
  have := (ok.funs.mem hb).1
  rw [e] at this; cases this
theorem Inv.bs (I : Inv X pins σ H s) : ∀ b o, X.base.get? b = some o → s.heap.get? b = some o ∧ H b = none := fun b o e =>
  ⟨I.base.keep b o (I.ok.bs b o e).1 (I.ok.bs b o e).2 (I.ok.nofr e) (I.ok.noex b o e), I.base.free b o (I.ok.bs b o e).1 (I.ok.bs b o e).2 (I.ok.noex b o e)⟩
theorem Inv.bk (I : Inv X pins σ H s) : ∀ b o, X.base.get? b = some o → s.heap.get? b = some o := fun b o e => (I.bs b o e).1
theorem Inv.mod (I : Inv X pins σ H s) : Mod X.K X.mg X.base := I.ok.mod
theorem Inv.kIn (I : Inv X pins σ H s) : X.K.In s.heap := I.ok.mod.kin.keeps I.bk
theorem Inv.fr (I : Inv X pins σ H s) : ∃ m, Fr X.base X.env.locals s.heap m :=
  let ⟨m, hn, _⟩ := I.loc
  ⟨m, hn, I.bk, Nat.le_trans I.ok.bsz I.ok.above⟩
theorem Inv.lt (I : Inv X pins σ H s) : X.env.locals < s.heap.objs.size := let ⟨_, hn, _⟩ := I.loc; hn.lt
theorem Inv.sz (I : Inv X pins σ H s) : X.s₀.heap.objs.size ≤ s.heap.objs.size := Nat.le_trans I.ok.above (Nat.le_of_lt I.lt)
theorem Inv.nofs (I : Inv X pins σ H s) {a : Addr} (h : s.heap.objs.size ≤ a) : a ∉ X.fs := fun hb => by
  obtain ⟨_, o, ho, _⟩ := I.ok.funs.mem hb
  exact absurd (Nat.lt_of_lt_of_le (Heap.lt_size ho) (Nat.le_trans I.sz h)) (Nat.lt_irrefl _)
theorem Inv.cne (I : Inv X pins σ H s) : ∀ x c, X.env.cells.lookup x = some c → c ≠ X.env.locals := fun x c e z => by
  obtain ⟨v, o, ho, hd⟩ := I.cell x c e
  obtain ⟨m, ⟨o', es, ep, ho', hd', _⟩, _⟩ := I.loc
  rw [z, ho'] at ho; cases ho; rw [hd'] at hd; cases hd
theorem Inv.funs (I : Inv X pins σ H s) : s.heap.FunFrames X.base X.outer := by
  have all : ∀ (l : List Env), (∀ b ∈ frs l, b ∈ X.fs) → X.s₀.heap.FunFrames X.base l → s.heap.FunFrames X.base l := by
    intro l
    induction l with
    | nil => intro _ _; trivial
    | cons env r ih =>
      intro hs hl
      obtain ⟨hk, ⟨L, o, hf, hn, ho, hd⟩, hr⟩ := hl
      have hL : L ∈ X.fs := hs L (by unfold frs; rw [List.filterMap_cons, hf]; exact List.mem_cons_self)
      obtain ⟨sl, e⟩ := I.base.slot L o ho (I.ok.frf L hL) hL fun z => I.ok.exfs L z hL
      exact ⟨hk, ⟨L, _, hf, hn, e, hd⟩, ih (fun b hb => hs b (by unfold frs; rw [List.filterMap_cons, hf]; exact List.mem_cons_of_mem _ hb)) hr⟩
  exact all X.outer (fun _ hb => hb) I.ok.funs
theorem Inv.stack (I : Inv X pins σ H s) : s.heap.FunFrames X.base X.stack := by
  rcases I.ok.stk with e | ⟨e, hf⟩
  · rw [e]; exact I.funs
  · rw [e]
    obtain ⟨m, hn, _⟩ := I.loc
    refine .cons (by rw [I.ok.kind]; decide) hf hn ?_ I.funs
    exact Heap.get?_none_of_le (Nat.le_trans I.ok.bsz I.ok.above)
theorem Inv.stkSub (I : Inv X pins σ H s) : ∀ b ∈ frs X.stack, b ∈ X.env.locals :: X.fs := fun b hb => by
  rcases I.ok.stk with e | ⟨e, hf⟩
  · rw [e] at hb; exact List.mem_cons_of_mem _ hb
  · rw [e] at hb
    unfold frs at hb
    rw [List.filterMap_cons, hf] at hb
    exact hb
theorem Inv.stkFree (I : Inv X pins σ H s) : ∀ b ∈ frs X.stack, H b = none := fun b hb => by
  rcases List.mem_cons.mp (I.stkSub b hb) with e | hb
  · rw [e]; exact I.free
  · obtain ⟨_, o, ho, _⟩ := I.ok.funs.mem hb
    exact I.base.free b o ho (I.ok.frf b hb) fun z => I.ok.exfs b z hb
theorem Inv.step {g' : Array GenState} {t' : Nat} {d' : Drawn} {ch : List Addr} (I : Inv X pins σ H s)
    (hch : ∀ b ∈ ch, (b ∈ X.ex ∨ X.s₀.heap.objs.size ≤ b) ∧ b ≠ X.env.locals ∧ (∀ x c, X.env.cells.lookup x = some c → c ≠ b) ∧ ∀ p ∈ X.pn ++ pins, p.1 ≠ b)
    (keep : ∀ b o, b ≠ X.env.locals → b ∉ X.fs → b ∉ ch → s.heap.get? b = some o → H b = none → h'.get? b = some o)
    (slot : ∀ b o, b ≠ X.env.locals → b ∈ X.fs → b ∉ ch → s.heap.get? b = some o → H b = none → ∃ sl, h'.get? b = some { o with slots := sl }) (free : ∀ b o, b ∉ ch → s.heap.get? b = some o → H b = none → H' b = none)
    (there : ∀ b o, b ∉ ch → s.heap.get? b = some o → ∃ o', h'.get? b = some o')
    (tups : ∀ b xs, H b = some (.tup xs) → H' b = some (.tup xs)) (frzs : ∀ b o u, H b = some (.frz o u) → H' b = some (.frz o u)) (tbls : ∀ b ps, H b = some (.tbl ps) → ∃ more, H' b = some (.tbl (ps ++ more)))
    (ns : ∀ m, s.heap.Ns X.env.locals m → h'.Ns X.env.locals m) (hok : HOk X.prog X.w H' h') (hg : AllBare g') :
    Inv X pins σ H' { s with heap := h', gens := g', drawn := d', toks := t' } := by
  have neL : ∀ b o, X.s₀.heap.get? b = some o → b ≠ X.env.locals := fun b o e => Nat.ne_of_lt (Nat.lt_of_lt_of_le (Heap.lt_size e) I.ok.above)
  have neC : ∀ b o, X.s₀.heap.get? b = some o → b ∉ X.ex → b ∉ ch := fun b o e hx hb => by
    rcases (hch b hb).1 with z | z
    · exact hx z
    · exact absurd (Nat.lt_of_lt_of_le (Heap.lt_size e) z) (Nat.lt_irrefl _)
  have cellK : ∀ x c, X.env.cells.lookup x = some c → ∀ v, s.heap.IsCell c v → h'.IsCell c v := fun x c e v ⟨o, ho, hd⟩ => by
    have nch : c ∉ ch := fun z => (hch c z).2.2.1 x c e rfl
    by_cases hc : c ∈ X.fs
    · obtain ⟨sl, q⟩ := slot c o (I.cne x c e) hc nch ho (I.freeC x c e)
      exact ⟨_, q, hd⟩
    · exact ⟨o, keep c o (I.cne x c e) hc nch ho (I.freeC x c e), hd⟩
  refine ⟨I.ok, I.os, hg, ⟨fun b o e n hb hx => ?_, fun b o e n hb hx => ?_, fun b o e n hx => ?_, fun b o e hx => ?_, fun b xs e => tups b xs (I.base.tups b xs e), fun b o xs e => frzs b o xs (I.base.frzs b o xs e), fun b ps e => ?_⟩, ?_, fun x c e => ?_, ?_, fun x c e => ?_, fun p hp => ?_, hok, I.len⟩
  · exact keep b o (neL b o e) hb (neC b o e hx) (I.base.keep b o e n hb hx) (I.base.free b o e n hx)
  · obtain ⟨sl, e1⟩ := I.base.slot b o e n hb hx
    obtain ⟨sl', e2⟩ := slot b _ (neL b o e) hb (neC b o e hx) e1 (I.base.free b o e n hx)
    exact ⟨sl', e2⟩
  · obtain ⟨o', e1⟩ := I.base.there b o e hx
    exact free b o' (neC b o e hx) e1 (I.base.free b o e n hx)
  · obtain ⟨o', e1⟩ := I.base.there b o e hx
    exact there b o' (neC b o e hx) e1
  · obtain ⟨m1, e1⟩ := I.base.tbls b ps e
    obtain ⟨m2, e2⟩ := tbls b _ e1
    exact ⟨m1 ++ m2, by rw [e2, Array.append_assoc]⟩
  · obtain ⟨m, hn, hl⟩ := I.loc
    refine ⟨m, ns m hn, fun i x v e1 e2 e3 => ?_⟩
    obtain ⟨u, r, l⟩ := hl i x v e1 e2 e3
    refine ⟨u, r, ?_⟩
    rcases l with l | ⟨k, c, e, z⟩
    · exact .inl l
    · exact .inr ⟨k, c, e, cellK x c e _ z⟩
  · obtain ⟨v, z⟩ := I.cell x c e
    exact ⟨v, cellK x c e v z⟩
  · obtain ⟨m, ⟨o, _, _, ho, _⟩, _⟩ := I.loc
    exact free _ o (fun z => (hch _ z).2.1 rfl) ho I.free
  · obtain ⟨v, o, ho, hd⟩ := I.cell x c e
    exact free c o (fun z => (hch c z).2.2.1 x c e rfl) ho (I.freeC x c e)
  · obtain ⟨e, n, ne, nf, d⟩ := I.pin p hp
    have nch : p.1 ∉ ch := fun z => (hch p.1 z).2.2.2 p hp rfl
    exact ⟨keep p.1 p.2 ne nf nch e n, free p.1 p.2 nch e n, ne, nf, d⟩
theorem Inv.un {t' : Nat} (I : Inv X pins σ H s) (u : Un X.fs [] H H' s.heap h') (hok : HOk X.prog X.w H' h') : Inv X pins σ H' { s with heap := h', toks := t' } := by
  obtain ⟨m, ⟨o, es, ep, ho, r⟩, _⟩ := id I.loc
  obtain ⟨sl, hL⟩ := u.any ho I.free (by simp)
  exact I.step (g' := s.gens) (d' := s.drawn) (ch := []) (fun _ z => nomatch z) (fun b o _ hb _ e n => u.keep b o e n hb (by simp)) (fun b o _ hb _ e n => u.slot b o e n hb (by simp)) (fun b o _ e n => u.free b o e n (by simp)) (fun b o _ e => u.there b o e (by simp)) u.tups u.frzs u.tbls (fun m' hm => by
    obtain ⟨o', es', ep', ho', r'⟩ := hm
    rw [ho] at ho'; cases ho'
    exact ⟨_, es', ep', hL, r'⟩) hok I.bare
theorem Inv.call {g' : Array GenState} {t' : Nat} {d' : Drawn} {ch : List Addr} (I : Inv X pins σ H s) (u : Un (frs X.stack) ch H H' s.heap h') (hok : HOk X.prog X.w H' h') (hg : AllBare g')
    (hch : ∀ b ∈ ch, (b ∈ X.ex ∨ X.s₀.heap.objs.size ≤ b) ∧ b ≠ X.env.locals ∧ (∀ x c, X.env.cells.lookup x = some c → c ≠ b) ∧ ∀ p ∈ X.pn ++ pins, p.1 ≠ b) :
    Inv X pins σ H' { s with heap := h', gens := g', drawn := d', toks := t' } := by
  obtain ⟨m, ⟨o, es, ep, ho, r⟩, _⟩ := id I.loc
  obtain ⟨sl, hL⟩ := u.any ho I.free fun z => (hch _ z).2.1 rfl
  exact I.step (ch := ch) hch (fun b o hL hb hc e n => u.keep b o e n (fun z => (List.mem_cons.mp (I.stkSub b z)).elim hL hb) hc) (fun b o _ _ hc e n => u.any e n hc) (fun b o hc e n => u.free b o e n hc) (fun b o hc e => u.there b o e hc) u.tups u.frzs u.tbls (fun m' hm => by
    obtain ⟨o', es', ep', ho', r'⟩ := hm
    rw [ho] at ho'; cases ho'
    exact ⟨_, es', ep', hL, r'⟩) hok hg
theorem Inv.turned {t' : Nat} {it : Addr} (I : Inv X pins σ H s) (k : ∀ b o, b ≠ it → s.heap.get? b = some o → h'.get? b = some o) (hn : H it = none) (hL : it ≠ X.env.locals)
    (h1 : it ∈ X.ex ∨ X.s₀.heap.objs.size ≤ it) (h2 : ∀ x c, X.env.cells.lookup x = some c → c ≠ it) (h3 : ∀ p ∈ X.pn ++ pins, p.1 ≠ it) : Inv X pins σ H { s with heap := h', toks := t' } := by
  have nit : ∀ b u, H b = some u → b ≠ it := fun b u e z => by rw [z, hn] at e; cases e
  refine I.step (g' := s.gens) (d' := s.drawn) (ch := [it]) (fun b hb => ?_) (fun b o _ _ hc e _ => k b o (fun z => hc (by simp [z])) e) (fun b o _ _ hc e _ => ⟨o.slots, k b o (fun z => hc (by simp [z])) e⟩) (fun _ _ _ _ n => n)
    (fun b o hc e => ⟨o, k b o (fun z => hc (by simp [z])) e⟩) (fun _ _ e => e) (fun _ _ _ e => e) (fun b ps e => ⟨#[], by rw [e]; simp⟩) (fun m hm => ?_) (fun b u e => ?_) I.bare
  · have e : b = it := by simpa using hb
    subst e
    exact ⟨h1, hL, h2, h3⟩
  · obtain ⟨o, es, ep, ho, r⟩ := hm
    exact ⟨o, es, ep, k _ o (Ne.symm hL) ho, r⟩
  · refine (I.hok b u e).stay (fun c v hc q => k c v ?_ q) (fun _ q => q) fun _ _ q => q
    rcases hc with z | z
    · rw [z]; exact nit b u e
    · exact nit c _ z
theorem Inv.tok (I : Inv X pins σ H s) (t : Nat) : Inv X pins σ H { s with toks := t } := I.un (h' := s.heap) (t' := t) Un.refl I.hok
theorem Inv.kept {t' : Nat} (I : Inv X pins σ H s) (k : ∀ b u, s.heap.get? b = some u → h'.get? b = some u) : Inv X pins σ H { s with heap := h', toks := t' } := I.un (Un.kept k) (I.hok.kept k)
theorem Inv.laid {a : Addr} {o : HO} {t' : Nat} (I : Inv X pins σ H s) (k : ∀ b u, s.heap.get? b = some u → h'.get? b = some u) (hp : s.heap.objs.size ≤ a) (new : ObjOk X.prog X.w (upd H a o) h' a o) :
    Inv X pins σ (upd H a o) { s with heap := h', toks := t' } := I.un (Un.laid k hp (I.hok.fresh hp)) (I.hok.laid k hp new)
theorem Inv.write {x e : Addr} {o : HO} {t' : Nat} (I : Inv X pins σ H s) (mu : Mut (H x)) (he : e = x ∨ H e = some (.own x)) (k : ∀ b u, b ≠ e → s.heap.get? b = some u → h'.get? b = some u) (heo : ∃ u, h'.get? e = some u)
    (new : ObjOk X.prog X.w (upd H x o) h' x o) : Inv X pins σ (upd H x o) { s with heap := h', toks := t' } := I.un (Un.write mu he k heo) (I.hok.write mu he k heo new)
theorem Inv.weak {σ' : List (Option V)} (I : Inv X pins σ H s) (hl : σ'.length = σ.length) (w : ∀ (i : Nat) v, σ'[i]? = some (some v) → σ[i]? = some (some v)) : Inv X pins σ' H s :=
  ⟨I.ok, I.os, I.bare, I.base, let ⟨m, hn, hl'⟩ := I.loc; ⟨m, hn, fun i x v e1 e2 e3 => hl' i x v e1 (w i v e2) e3⟩, I.cell, I.free, I.freeC, I.pin, I.hok, hl.trans I.len⟩
theorem Inv.pins_of {pins' : List (Addr × Obj)} (I : Inv X pins σ H s) (h : ∀ p ∈ pins', s.heap.get? p.1 = some p.2 ∧ H p.1 = none ∧ p.1 ≠ X.env.locals ∧ p.1 ∉ X.fs ∧ ∀ v, p.2.data ≠ .cell v) : Inv X pins' σ H s :=
  ⟨I.ok, I.os, I.bare, I.base, I.loc, I.cell, I.free, I.freeC, fun p hp => (List.mem_append.mp hp).elim (fun z => I.pin p (List.mem_append_left _ z)) (h p), I.hok, I.len⟩
theorem nodup_ix {N : List Str} (hN : N.Nodup) {i j : Nat} {x : Str} (a : N[i]? = some x) (b : N[j]? = some x) : i = j := by
  obtain ⟨h1, e1⟩ := List.getElem?_eq_some_iff.mp a
  obtain ⟨h2, e2⟩ := List.getElem?_eq_some_iff.mp b
  exact (List.getElem_inj hN).mp (e1.trans e2.symm)
theorem store_ok2 {M : Model} {A : Around} {E : Value → Shared → Prop} {i : Nat} {x : Str} {v : V} {u : Value} {Q : Unit → Shared → Prop} (I : Inv X pins σ H s) (hN : X.N.Nodup) (hi : X.N[i]? = some x) (hx : Loc X.env.scope x) (r : RelV v u)
    (h : ∀ s', Inv X pins (σ.set i (some v)) H s' → (∃ a, Heap.SameBut a s.heap s'.heap ∧ (a = X.env.locals ∨ X.env.cells.lookup x = some a)) → Q () s') (hf : X.fn x = true ∨ X.env.scope.names.lookup x = some .local := by first | exact .inl rfl | exact .inr rfl | assumption) : wpAny M A (storeName X.env x u) Q E s := by
  obtain ⟨m, hn, hl⟩ := id I.loc
  have hcls : (X.env.scope.kind == .class || (X.env.scope.kind == .module && X.env.locals != X.env.globals)) = false := by rw [I.ok.kind]; rfl
  have hiσ : i < σ.length := by rw [I.len]; exact (List.getElem?_eq_some_iff.mp hi).1
  have cne := I.cne
  have tracked : ∀ {a : Addr} {h' : Heap}, (∃ o, s.heap.get? a = some o ∧ H a = none) → Heap.SameBut a s.heap h' → HOk X.prog X.w H h' := fun {a h'} ha hs b ob e => by
    obtain ⟨_, _, hfree⟩ := ha
    refine (I.hok b ob e).stay (fun c w' hc q => (hs.2 c ?_).trans q) (fun _ q => q) fun _ _ q => q
    rintro rfl
    rcases hc with rfl | hc
    · rw [hfree] at e; cases e
    · rw [hfree] at hc; cases hc
  rcases hx with hk | hk
  · refine wpAny_storeName_local hk hn (fun h' hn' hs => ?_) hcls
    obtain ⟨oL, _, _, hoL, _⟩ := id hn
    refine h _ ⟨I.ok, I.os, I.bare, ⟨fun b o e n hb hx => ?_, fun b o e n hb hx => ?_, I.base.free, fun b o e hx => ?_, I.base.tups, I.base.frzs, I.base.tbls⟩, ⟨_, hn', fun j y v' e1 e2 e3 => ?_⟩, fun y c e => ?_, I.free, I.freeC, fun p hp => ?_, tracked ⟨oL, hoL, I.free⟩ hs, by simpa using I.len⟩ ⟨_, hs, .inl rfl⟩
    · exact (hs.2 b (Nat.ne_of_lt (Nat.lt_of_lt_of_le (Heap.lt_size e) I.ok.above))).trans (I.base.keep b o e n hb hx)
    · obtain ⟨sl, e1⟩ := I.base.slot b o e n hb hx
      exact ⟨sl, (hs.2 b (Nat.ne_of_lt (Nat.lt_of_lt_of_le (Heap.lt_size e) I.ok.above))).trans e1⟩
    · obtain ⟨o', e1⟩ := I.base.there b o e hx
      exact ⟨o', (hs.2 b (Nat.ne_of_lt (Nat.lt_of_lt_of_le (Heap.lt_size e) I.ok.above))).trans e1⟩
    · by_cases hj : j = i
      · subst hj
        rw [hi] at e1; cases e1
        rw [List.getElem?_set_self hiσ] at e2
        cases e2
        exact ⟨u, r, .inl ⟨hk, by simp⟩⟩
      · rw [List.getElem?_set_ne (Ne.symm hj)] at e2
        obtain ⟨u', r', q⟩ := hl j y v' e1 e2 e3
        refine ⟨u', r', ?_⟩
        rcases q with ⟨k, e⟩ | ⟨k, c, e, z⟩
        · refine .inl ⟨k, ?_⟩
          have : y ≠ x := fun e => hj (nodup_ix hN e1 (e ▸ hi))
          simp [this, e]
        · exact .inr ⟨k, c, e, z.sameBut hs (cne y c e)⟩
    · obtain ⟨w', z⟩ := I.cell y c e
      exact ⟨w', z.sameBut hs (cne y c e)⟩
    · obtain ⟨e, n, ne, nf, d⟩ := I.pin p hp
      exact ⟨(hs.2 p.1 ne).trans e, n, ne, nf, d⟩
  · have hfn : X.fn x = true := by
      rcases hf with z | z
      · exact z
      · rw [z] at hk; cases hk
    obtain ⟨c, hc⟩ := I.ok.has x (.inl hk)
    obtain ⟨w', z⟩ := I.cell x c hc
    refine wpAny_storeName_cell I.ok.kind hk hc z (fun h' hc' hs => ?_)
    obtain ⟨oc, hoc, hocd⟩ := id z
    refine h { s with heap := h' } ⟨I.ok, I.os, I.bare, ⟨fun b o e n hb hx => ?_, fun b o e n hb hx => ?_, I.base.free, fun b o e hx => ?_, I.base.tups, I.base.frzs, I.base.tbls⟩, ⟨m, hn.sameBut hs (Ne.symm (cne x c hc)), fun j y v' e1 e2 e3 => ?_⟩, fun y c' e => ?_, I.free, I.freeC, fun p hp => ?_, tracked ⟨oc, hoc, I.freeC x c hc⟩ hs, by simpa using I.len⟩ ⟨c, hs, .inr hc⟩
    · exact (hs.2 b (Nat.ne_of_lt (Nat.lt_of_lt_of_le (Heap.lt_size e) (I.ok.cab x c hfn hc)))).trans (I.base.keep b o e n hb hx)
    · obtain ⟨sl, e1⟩ := I.base.slot b o e n hb hx
      exact ⟨sl, (hs.2 b (Nat.ne_of_lt (Nat.lt_of_lt_of_le (Heap.lt_size e) (I.ok.cab x c hfn hc)))).trans e1⟩
    · obtain ⟨o', e1⟩ := I.base.there b o e hx
      exact ⟨o', (hs.2 b (Nat.ne_of_lt (Nat.lt_of_lt_of_le (Heap.lt_size e) (I.ok.cab x c hfn hc)))).trans e1⟩
    · by_cases hj : j = i
      · subst hj
        rw [hi] at e1; cases e1
        rw [List.getElem?_set_self hiσ] at e2
        cases e2
        exact ⟨u, r, .inr ⟨.inl hk, c, hc, hc'⟩⟩
      · rw [List.getElem?_set_ne (Ne.symm hj)] at e2
        obtain ⟨u', r', q⟩ := hl j y v' e1 e2 e3
        refine ⟨u', r', ?_⟩
        rcases q with q | ⟨k, c', e, z'⟩
        · exact .inl q
        · refine .inr ⟨k, c', e, z'.sameBut hs ?_⟩
          rintro rfl
          exact hj (nodup_ix hN e1 (I.ok.inj _ _ _ e hc ▸ hi))
    · by_cases hcc : c' = c
      · subst hcc; exact ⟨_, hc'⟩
      · obtain ⟨w2, z2⟩ := I.cell y c' e
        exact ⟨w2, z2.sameBut hs hcc⟩
    · obtain ⟨e, n, ne, nf, d⟩ := I.pin p hp
      refine ⟨(hs.2 p.1 ?_).trans e, n, ne, nf, d⟩
      intro q
      rw [q, hoc] at e
      have q' : oc = p.2 := Option.some.inj e
      exact d w' (by rw [← q']; exact hocd)
theorem store_ok {M : Model} {A : Around} {E : Value → Shared → Prop} {i : Nat} {x : Str} {v : V} {u : Value} {Q : Unit → Shared → Prop} (I : Inv X pins σ H s) (hN : X.N.Nodup) (hi : X.N[i]? = some x) (hx : Loc X.env.scope x) (r : RelV v u)
    (h : ∀ s', Inv X pins (σ.set i (some v)) H s' → Q () s') (hf : X.fn x = true ∨ X.env.scope.names.lookup x = some .local := by first | exact .inl rfl | exact .inr rfl | assumption) : wpAny M A (storeName X.env x u) Q E s :=
  store_ok2 I hN hi hx r (fun s' I' _ => h s' I') hf
theorem Inv.call' {s' : Shared} {ch : List Addr} (I : Inv X pins σ H s) (ho : s'.os = s.os) (u : Un (frs X.stack) ch H H' s.heap s'.heap) (hok : HOk X.prog X.w H' s'.heap) (hg : AllBare s'.gens)
    (hch : ∀ b ∈ ch, (b ∈ X.ex ∨ X.s₀.heap.objs.size ≤ b) ∧ b ≠ X.env.locals ∧ (∀ x c, X.env.cells.lookup x = some c → c ≠ b) ∧ ∀ p ∈ X.pn ++ pins, p.1 ≠ b) : Inv X pins σ H' s' := by
  obtain ⟨h', g', d', t', o'⟩ := s'
  have e : o' = s.os := ho
  subst e
  exact I.call (g' := g') (t' := t') (d' := d') u hok hg hch
end
abbrev XK := Value → Option Addr → Hp → Prop
abbrev St := List (Option V)
abbrev VK := V → Hp → Prop
abbrev TE := St → Hp → VK → Prop
abbrev TT := St → Hp → (Bool → Hp → Prop) → Prop
abbrev TA := St → Hp → (List V → Hp → Prop) → Prop
structure Ends where
  nx : St → Hp → Prop
  rt : VK
  bk : St → Hp → Prop := fun _ _ => False
  ct : St → Hp → Prop := fun _ _ => False
abbrev TS := Ends → St → Hp → Prop
def EP (X : Cx) (pins : List (Addr × Obj)) (σ : St) (Q : VK) (u : Value) (s' : Shared) : Prop := ∃ v H', Inv X pins σ H' s' ∧ RelV v u ∧ Q v H'
def TP (X : Cx) (pins : List (Addr × Obj)) (σ : St) (Q : Bool → Hp → Prop) (b : Bool) (s' : Shared) : Prop := ∃ H', Inv X pins σ H' s' ∧ Q b H'
def AP (X : Cx) (pins : List (Addr × Obj)) (σ : St) (Q : List V → Hp → Prop) (us : List Value) (s' : Shared) : Prop := ∃ vs H', Inv X pins σ H' s' ∧ Vals vs us ∧ Q vs H'
def SP (X : Cx) (pins : List (Addr × Obj)) (D : Ends) (f : Flow) (s' : Shared) : Prop :=
  match f with
  | .next => ∃ σ' H', Inv X pins σ' H' s' ∧ D.nx σ' H'
  | .brk => ∃ σ' H', Inv X pins σ' H' s' ∧ D.bk σ' H'
  | .cont => ∃ σ' H', Inv X pins σ' H' s' ∧ D.ct σ' H'
  | .ret u => ∃ v σ' H', Inv X pins σ' H' s' ∧ RelV v u ∧ D.rt v H'
def PE (X : Cx) (e : Expr) (t : TE) : Prop :=
  ∀ (pins : List (Addr × Obj)) (s : Shared) (σ : St) (H : Hp) (Q : VK), Inv X pins σ H s → t σ H Q → wpAny (model X.prog X.w) X.A (eval e X.env) (EP X pins σ Q) X.xe s
def PT (X : Cx) (e : Expr) (t : TT) : Prop :=
  ∀ (pins : List (Addr × Obj)) (s : Shared) (σ : St) (H : Hp) (Q : Bool → Hp → Prop), Inv X pins σ H s → t σ H Q → wpAny (model X.prog X.w) X.A (isTrue e X.env (eval e X.env)) (TP X pins σ Q) X.xe s
def PW (X : Cx) (e : Expr) (t : TT) : Prop :=
  ∀ (whole : Sem Value) (pins : List (Addr × Obj)) (s : Shared) (σ : St) (H : Hp) (Q : Bool → Hp → Prop), Inv X pins σ H s → t σ H Q → wpAny (model X.prog X.w) X.A (isTrue e X.env whole) (TP X pins σ Q) X.xe s
theorem PW.pt {X : Cx} {e : Expr} {t : TT} (h : PW X e t) : PT X e t := h _
def PA (X : Cx) (es : List Expr) (t : TA) : Prop :=
  ∀ (pos : Pos) (pins : List (Addr × Obj)) (s : Shared) (σ : St) (H : Hp) (Q : List V → Hp → Prop), Inv X pins σ H s → t σ H Q → wpAny (model X.prog X.w) X.A (spliced (backTo pos (starEach es X.env))) (AP X pins σ Q) X.xe s
def PS (X : Cx) (st : Stmt) (t : TS) : Prop :=
  ∀ (pins : List (Addr × Obj)) (s : Shared) (σ : St) (H : Hp) (D : Ends), Inv X pins σ H s → t D σ H → wpAny (model X.prog X.w) X.A (exec st X.env) (SP X pins D) X.xe s
def PSs (X : Cx) (st : List Stmt) (t : TS) : Prop :=
  ∀ (pins : List (Addr × Obj)) (s : Shared) (σ : St) (H : Hp) (D : Ends), Inv X pins σ H s → t D σ H → wpAny (model X.prog X.w) X.A (execs st X.env) (SP X pins D) X.xe s
theorem thn {α : Type} {t : Sem α} {Q Q' : α → Shared → Prop} {M : Model} {A : Around} {E : Value → Shared → Prop} {s : Shared} (h : wpAny M A t Q E s) (hQ : ∀ a s, Q a s → Q' a s) : wpAny M A t Q' E s := wpAny_mono h hQ fun _ _ x => x
section
variable {X : Cx}
def tVar (i : Nat) : TE := fun σ H Q => ∃ v, σ[i]? = some (some v) ∧ Q v H
def tC (v : V) : TE := fun _ H Q => Q v H
theorem pe_var {i : Nat} {x : Str} {pos : Pos} (hN : X.N[i]? = some x) (hv : Vis X.env.scope x) (hd : (x == ("__debug__" : Str)) = false := by decide) (hcd : (x == ("__classdict__" : Str)) = false := by decide) : PE X (.Name x pos) (tVar i) := by
  intro pins s σ H Q I h
  obtain ⟨v, e, h⟩ := h
  obtain ⟨m, hn, hl⟩ := I.loc
  obtain ⟨u, r, l⟩ := hl i x v hN e hv
  have fin : EP X pins σ Q u s := ⟨v, H, I, r, h⟩
  rcases l with ⟨hk, hm⟩ | ⟨hk, c, hc, hcell⟩
  · exact wpAny_Name (wpAny_loadName_local I.ok.kind hk hn hm fin) hd
  · rcases hk with hk | hk
    · exact wpAny_Name (wpAny_loadName_cell I.ok.kind hk hc hcell fin) hd
    · exact wpAny_Name (wpAny_loadName_free I.ok.kind hk hc hcell fin hcd) hd
theorem pe_int {i j pos} : PE X (.Constant (.int i) j pos) (tC (.int i)) := fun _ _ _ H _ I h => wpAny_Constant_int ⟨.int i, H, I.tok _, ⟨_, rfl⟩, h⟩
theorem pe_bl {b j pos} : PE X (.Constant (.bool b) j pos) (tC (.bl b)) := fun _ _ _ H _ I h => Constant_bool ⟨.bl b, H, I, rfl, h⟩
theorem pe_str {x j pos} : PE X (.Constant (.str x) j pos) (tC (.str x)) := fun _ _ _ H _ I h => Calls.Constant_str ⟨.str x, H, I.tok _, ⟨_, rfl⟩, h⟩
def Gl (X : Cx) (x : Str) : Prop := X.env.kindOf x = some .globalImplicit
theorem ld_glob {E : Value → Shared → Prop} {pins : List (Addr × Obj)} {s : Shared} {σ : St} {H : Hp} {x : Str} {u : Value} {pos : Pos} {Q : Value → Shared → Prop} (I : Inv X pins σ H s) (hg : Gl X x) (hm : X.mg x = some u) (h : Q u s)
    (hd : (x == ("__debug__" : Str)) = false := by decide) : wpAny (model X.prog X.w) X.A (eval (.Name x pos) X.env) Q E s :=
  Calls.Name_function_global I.ok.kind hg (Calls.loadGlobal_global (by rw [I.ok.glob]; exact I.mod.glob.keeps I.bk) hm h) hd
theorem ld_blt {E : Value → Shared → Prop} {pins : List (Addr × Obj)} {s : Shared} {σ : St} {H : Hp} {x : Str} {u : Value} {pos : Pos} {Q : Value → Shared → Prop} (I : Inv X pins σ H s) (hg : Gl X x) (hm : X.mg x = none) (hv : bootBuiltins x = some u) (h : Q u s)
    (hn : x ≠ "__name__" := by decide) (hd : (x == ("__debug__" : Str)) = false := by decide) : wpAny (model X.prog X.w) X.A (eval (.Name x pos) X.env) Q E s := by
  obtain ⟨mb, h1, h2⟩ := I.mod.blt
  exact Calls.Name_function_global I.ok.kind hg (Calls.loadGlobal_builtin (by rw [I.ok.glob]; exact I.mod.glob.keeps I.bk) hm (by rw [I.ok.blt]; exact h1.keeps I.bk) ((h2 x hn).trans hv) h) hd
theorem pe_glob {x : Str} {v : V} {u : Value} {pos : Pos} (hg : Gl X x) (hm : X.mg x = some u) (r : RelV v u) (hd : (x == ("__debug__" : Str)) = false := by decide) : PE X (.Name x pos) (tC v) :=
  fun _ _ _ H _ I h => ld_glob I hg hm ⟨v, H, I, r, h⟩ hd
theorem pe_bltn {x : Str} {v : V} {u : Value} {pos : Pos} (hg : Gl X x) (hm : X.mg x = none) (hv : bootBuiltins x = some u) (r : RelV v u) (hn : x ≠ "__name__" := by decide) (hd : (x == ("__debug__" : Str)) = false := by decide) : PE X (.Name x pos) (tC v) :=
  fun _ _ _ H _ I h => ld_blt I hg hm hv ⟨v, H, I, r, h⟩ hn hd
variable {a b : Expr} {ta tb : TE} {pos : Pos}
def PC (X : Cx) (op : CmpOp) (a b : Expr) (t : TE) : Prop :=
  ∀ (pins : List (Addr × Obj)) (s : Shared) (σ : St) (H : Hp) (Q : VK), Inv X pins σ H s → t σ H Q →
    wpAny (model X.prog X.w) X.A (eval a X.env) (fun v s₁ => wpAny (model X.prog X.w) X.A (eval b X.env) (fun u s₂ => wpAny (model X.prog X.w) X.A (compareOp op v u) (EP X pins σ Q) X.xe s₂) X.xe s₁) X.xe s
def tB (t : TE) : TT := fun σ H Q => t σ H fun x H1 => ∃ c, x = .bl c ∧ Q c H1
theorem pt_val {e : Expr} {t : TE} (h : PE X e t) (he : ∀ whole, isTrue e X.env whole = (do let v ← whole; standAt e.pos; holding [v] (truthy v)) := by intro _; rfl) : PT X e (tB t) := by
  intro pins s σ H Q I hw
  refine isTrue_plain (thn (h pins s σ H _ I hw) fun v s1 ⟨x, H1, I1, r1, q1⟩ => ?_) (he _)
  obtain ⟨d, rfl, q⟩ := q1
  cases r1
  exact wpAny_truthy_bool ⟨H1, I1, q⟩
variable {tA tB' : TT} {rest : List Expr}
def tAnd (t u : TT) : TT := fun σ H Q => t σ H fun c H1 => if c = true then u σ H1 Q else Q false H1
def tOr (t u : TT) : TT := fun σ H Q => t σ H fun c H1 => if c = true then Q true H1 else u σ H1 Q
def tNot (t : TT) : TT := fun σ H Q => t σ H fun c H1 => Q (!c) H1
theorem pw_and1 (ha : PT X a tA) : PW X (.BoolOp .And [a] pos) tA := by
  intro wh pins s σ H Q I h
  refine isTrue_and (thn (ha pins s σ H Q I h) fun c s1 e => ?_)
  cases c with
  | true => exact isTrue_and_nil e
  | false => exact e
theorem pw_or1 (ha : PT X a tA) : PW X (.BoolOp .Or [a] pos) tA := by
  intro wh pins s σ H Q I h
  refine isTrue_or (thn (ha pins s σ H Q I h) fun c s1 e => ?_)
  cases c with
  | false => exact isTrue_or_nil e
  | true => exact e
theorem pw_and (ha : PT X a tA) (hb : PW X (.BoolOp .And (b :: rest) pos) tB') : PW X (.BoolOp .And (a :: b :: rest) pos) (tAnd tA tB') := by
  intro wh pins s σ H Q I h
  refine isTrue_and (thn (ha pins s σ H _ I h) fun c s1 ⟨H1, I1, q1⟩ => ?_)
  cases c with
  | true => exact hb wh pins s1 σ H1 Q I1 q1
  | false => exact ⟨H1, I1, q1⟩
theorem pw_or (ha : PT X a tA) (hb : PW X (.BoolOp .Or (b :: rest) pos) tB') : PW X (.BoolOp .Or (a :: b :: rest) pos) (tOr tA tB') := by
  intro wh pins s σ H Q I h
  refine isTrue_or (thn (ha pins s σ H _ I h) fun c s1 ⟨H1, I1, q1⟩ => ?_)
  cases c with
  | true => exact ⟨H1, I1, q1⟩
  | false => exact hb wh pins s1 σ H1 Q I1 q1
theorem pt_not (ha : PT X a tA) : PT X (.UnaryOp .Not a pos) (tNot tA) := by
  intro pins s σ H Q I h
  exact isTrue_not (ha pins s σ H (fun c H1 => Q (!c) H1) I h)
def tAndV (ta tb : TE) : TE := fun σ H Q => ta σ H fun x H1 => ∃ c, x = .bl c ∧ if c = true then tb σ H1 Q else Q (.bl false) H1
def tNotV (ta : TE) : TE := fun σ H Q => ta σ H fun x H1 => ∃ c, x = .bl c ∧ Q (.bl (!c)) H1
theorem pe_one {op} {t : TE} (h : PE X a t) : PE X (.BoolOp op [a] pos) t := fun pins s σ H Q I hw => BoolOp_one (h pins s σ H Q I hw)
theorem pe_and (ha : PE X a ta) (hb : PE X (.BoolOp .And (b :: rest) pos) tb) : PE X (.BoolOp .And (a :: b :: rest) pos) (tAndV ta tb) := by
  intro pins s σ H Q I h
  refine BoolOp_and (thn (ha pins s σ H _ I h) fun v s1 ⟨x, H1, I1, r1, q1⟩ => ?_)
  obtain ⟨c, rfl, q1⟩ := q1
  cases r1
  refine wpAny_truthy_bool ?_
  cases c with
  | true => exact hb pins s1 σ H1 Q I1 q1
  | false => exact ⟨.bl false, H1, I1, rfl, q1⟩
theorem pe_not (ha : PE X a ta) : PE X (.UnaryOp .Not a pos) (tNotV ta) := by
  intro pins s σ H Q I h
  refine UnaryOp_ (thn (ha pins s σ H _ I h) fun v s1 ⟨x, H1, I1, r1, q1⟩ => ?_)
  obtain ⟨c, rfl, q1⟩ := q1
  cases r1
  exact not_of (wpAny_truthy_bool ⟨.bl (!c), H1, I1, rfl, q1⟩)
def tIf (t : TT) (ta tb : TE) : TE := fun σ H Q => t σ H fun c H1 => if c = true then ta σ H1 Q else tb σ H1 Q
theorem pe_ifExp {c : Expr} (hc : PT X c tA) (ha : PE X a ta) (hb : PE X b tb) : PE X (.IfExp c a b pos) (tIf tA ta tb) := by
  intro pins s σ H Q I h
  refine wpAny_IfExp (thn (hc pins s σ H _ I h) fun d s1 ⟨H1, I1, q1⟩ => ?_)
  cases d with
  | true => exact ha pins s1 σ H1 Q I1 q1
  | false => exact hb pins s1 σ H1 Q I1 q1
end
def SqL (K : PySem.W.Frag) (H : Hp) (a : Addr) (xs : List V) : Prop :=
  Rd H a (.lst xs) ∨
    ∃ (o : Obj) (its : Array Value) (n : Nat), K.lookup a = some o ∧ o.cls = .type "list" ∧ o.dict = none ∧ o.data = .seq its n ∧ its.size ≤ sizeLine ∧ Vals xs its.toList
def SqT (K : PySem.W.Frag) (H : Hp) (a : Addr) (xs : List V) : Prop :=
  Rd H a (.tup xs) ∨
    ∃ (o : Obj) (its : Array Value) (n : Nat), K.lookup a = some o ∧ o.cls = .type "tuple" ∧ o.data = .seq its n ∧ its.size ≤ sizeLine ∧ Vals xs its.toList
def absV : Value → Option V
  | .none => some .non
  | .bool b => some (.bl b)
  | .int i _ => some (.int i)
  | .str x _ => some (.str x)
  | .bytes b _ => some (.byt b)
  | .float b _ => some (.flt b)
  | .ref a => some (.ref a)
  | .type n => some (.ty n)
  | _ => none
theorem RelV.abs {x : V} {u : Value} (r : RelV x u) : absV u = some x := by
  cases x with
  | non => cases r; rfl
  | bl _ => cases r; rfl
  | int _ => obtain ⟨t, rfl⟩ := r; rfl
  | str _ => obtain ⟨t, rfl⟩ := r; rfl
  | byt _ => obtain ⟨t, rfl⟩ := r; rfl
  | flt _ => obtain ⟨t, rfl⟩ := r; rfl
  | ref _ => cases r; rfl
  | ty _ => cases r; rfl
theorem RelV.inj {x y : V} {u : Value} (r : RelV x u) (q : RelV y u) : x = y := Option.some.inj (r.abs.symm.trans q.abs)
theorem Vals.inj : ∀ {xs ys : List V} {us : List Value}, Vals xs us → Vals ys us → xs = ys
  | _, _, _, .nil, .nil => rfl
  | _, _, _, .cons r t, .cons r' t' => by rw [r.inj r', Vals.inj t t']
section
variable {X : Cx} {pins : List (Addr × Obj)} {σ : St} {H : Hp} {s : Shared} {a : Addr} {xs ys : List V}
theorem SqL.of {K : PySem.W.Frag} (h : H a = some (.lst xs)) : SqL K H a xs := .inl (.inl h)
theorem SqT.of {K : PySem.W.Frag} (h : H a = some (.tup xs)) : SqT K H a xs := .inl (.inl h)
theorem Inv.list (I : Inv X pins σ H s) (h : SqL X.K H a xs) : ∃ its : List Value, Vals xs its ∧ PlainL s.heap a its.toArray ∧ xs.length ≤ sizeLine := by
  rcases h with h | ⟨o, its, n, hk, hc, hd, hs, hz, r⟩
  · obtain ⟨z, its, n, r, e⟩ := h.ok I.hok
    exact ⟨its, r, ⟨_, n, e, rfl, rfl, rfl⟩, z⟩
  · refine ⟨its.toList, r, ⟨o, n, I.kIn a o hk, hc, hd, by simpa using hs⟩, ?_⟩
    have e := r.length
    simp only [Array.length_toList] at e
    omega
theorem Inv.tuple (I : Inv X pins σ H s) (h : SqT X.K H a xs) : ∃ its : List Value, Vals xs its ∧ IsTup s.heap a its.toArray ∧ xs.length ≤ sizeLine := by
  rcases h with h | ⟨o, its, n, hk, hc, hs, hz, r⟩
  · obtain ⟨z, its, r, p⟩ := h.ok I.hok
    exact ⟨its, r, p, z⟩
  · refine ⟨its.toList, r, ⟨o, I.kIn a o hk, hc, n, by simpa using hs⟩, ?_⟩
    have e := r.length
    simp only [Array.length_toList] at e
    omega
theorem Inv.list_inj (I : Inv X pins σ H s) (h : SqL X.K H a xs) (h' : SqL X.K H a ys) : xs = ys := by
  obtain ⟨its, r, ⟨o, n, e, _, _, d⟩, _⟩ := I.list h
  obtain ⟨its', r', ⟨o', n', e', _, _, d'⟩, _⟩ := I.list h'
  rw [e] at e'; cases e'
  rw [d] at d'
  injection d' with d1 _
  have : its = its' := by simpa using congrArg Array.toList d1
  subst this
  exact r.inj r'
theorem Inv.tuple_inj (I : Inv X pins σ H s) (h : SqT X.K H a xs) (h' : SqT X.K H a ys) : xs = ys := by
  obtain ⟨its, r, ⟨o, e, _, n, d⟩, _⟩ := I.tuple h
  obtain ⟨its', r', ⟨o', e', _, n', d'⟩, _⟩ := I.tuple h'
  rw [e] at e'; cases e'
  rw [d] at d'
  injection d' with d1 _
  have : its = its' := by simpa using congrArg Array.toList d1
  subst this
  exact r.inj r'
end
abbrev Cx.wish (X : Cx) (E : Value → Shared → Prop) : Cx := { X with xe := E }
abbrev Cx.nox (X : Cx) : Cx := X.wish fun _ _ => False
theorem Cx.Ok.wish {X : Cx} (ok : X.Ok) (E : Value → Shared → Prop) : (X.wish E).Ok :=
  ⟨ok.mod, ok.kind, ok.glob, ok.blt, ok.above, ok.inj, ok.has, ok.cab, ok.hd, ok.frames, ok.stk, ok.exf, ok.bs, ok.bsz, ok.noex, ok.exfs, ok.funs, ok.frf⟩
theorem Cx.Ok.unwish {X : Cx} {E : Value → Shared → Prop} (ok : (X.wish E).Ok) : X.Ok :=
  ⟨ok.mod, ok.kind, ok.glob, ok.blt, ok.above, ok.inj, ok.has, ok.cab, ok.hd, ok.frames, ok.stk, ok.exf, ok.bs, ok.bsz, ok.noex, ok.exfs, ok.funs, ok.frf⟩
section
variable {X : Cx} {pins : List (Addr × Obj)} {σ : St} {H : Hp} {s : Shared} {E : Value → Shared → Prop}
theorem Inv.wish (I : Inv X pins σ H s) (E : Value → Shared → Prop) : Inv (X.wish E) pins σ H s := ⟨I.ok.wish E, I.os, I.bare, I.base, I.loc, I.cell, I.free, I.freeC, I.pin, I.hok, I.len⟩
theorem Inv.unwish (I : Inv (X.wish E) pins σ H s) : Inv X pins σ H s := ⟨I.ok.unwish, I.os, I.bare, I.base, I.loc, I.cell, I.free, I.freeC, I.pin, I.hok, I.len⟩
theorem SP.unwish {D : Ends} {f : Flow} {s' : Shared} (h : SP (X.wish E) pins D f s') : SP X pins D f s' := by
  cases f with
  | next => obtain ⟨σ', H', I, q⟩ := h; exact ⟨σ', H', I.unwish, q⟩
  | brk => obtain ⟨σ', H', I, q⟩ := h; exact ⟨σ', H', I.unwish, q⟩
  | cont => obtain ⟨σ', H', I, q⟩ := h; exact ⟨σ', H', I.unwish, q⟩
  | ret u => obtain ⟨v, σ', H', I, r, q⟩ := h; exact ⟨v, σ', H', I.unwish, r, q⟩
theorem PSs.nox {st : List Stmt} {t : TS} (h : PSs X.nox st t) : PSs X st t := fun pins s σ H D I hw =>
  wpAny_mono (h pins s σ H D (I.wish _) hw) (fun _ _ q => q.unwish) fun _ _ z => False.elim z
end
section
variable {X : Cx} {st : Stmt} {rest : List Stmt} {t u : TS} {e : Expr} {te : TE} {pos : Pos}
def tNext : TS := fun D σ H => D.nx σ H
def tSeq (t u : TS) : TS := fun D σ H => t { D with nx := u D } σ H
theorem pss_nil : PSs X [] tNext := fun _ _ σ H _ I h => wpAny_execs_nil ⟨σ, H, I, h⟩
theorem pss_cons (h1 : PS X st t) (h2 : PSs X rest u) : PSs X (st :: rest) (tSeq t u) := by
  intro pins s σ H D I h
  refine wpAny_execs_cons (thn (h1 pins s σ H { D with nx := u D } I h) fun f s1 q => ?_)
  cases f with
  | next =>
    obtain ⟨σ', H', I', q⟩ := q
    exact h2 pins s1 σ' H' D I' q
  | ret v => exact q
  | brk => exact q
  | cont => exact q
theorem pss_one (h1 : PS X st t) : PSs X [st] t := by
  intro pins s σ H D I h
  refine wpAny_execs_cons (thn (h1 pins s σ H D I h) fun f s1 q => ?_)
  cases f with
  | next => exact wpAny_execs_nil q
  | ret v => exact q
  | brk => exact q
  | cont => exact q
theorem Inv.quiet {pins : List (Addr × Obj)} {σ : St} {H : Hp} {s : Shared} (I : Inv X pins σ H s) : interactive X.env = false := by simp [interactive, I.ok.kind]
def tDrop (te : TE) : TS := fun D σ H => te σ H fun _ H1 => D.nx σ H1
theorem ps_expr (he : PE X e te) (hs : swapsWith e none pos.line X.env = pure false := by rfl) : PS X (.Expr e pos) (tDrop te) := by
  intro pins s σ H D I h
  exact wpAny_Expr_any (thn (he pins s σ H _ I h) fun v s1 ⟨x, H1, I1, r1, q1⟩ => ⟨σ, H1, I1, q1⟩) I.quiet hs
def tRet (te : TE) : TS := fun D σ H => te σ H D.rt
theorem ps_ret (he : PE X e te) : PS X (.Return (some e) pos) (tRet te) := by
  intro pins s σ H D I h
  exact wpAny_Return_some (thn (he pins s σ H _ I h) fun v s1 ⟨x, H1, I1, r1, q1⟩ => ⟨x, σ, H1, I1, r1, q1⟩)
def tIfS (c : TT) (t u : TS) : TS := fun D σ H => c σ H fun b H1 => if b = true then t D σ H1 else u D σ H1
theorem ps_if {c : Expr} {a b : List Stmt} {tc : TT} (hc : PT X c tc) (ha : PSs X a t) (hb : PSs X b u) : PS X (.If c a b pos) (tIfS tc t u) := by
  intro pins s σ H D I h
  refine wpAny_If (thn (hc pins s σ H _ I h) fun d s1 ⟨H1, I1, q1⟩ => ?_)
  cases d with
  | true => exact ha pins s1 σ H1 D I1 q1
  | false => exact hb pins s1 σ H1 D I1 q1
def tNever : TS := fun _ _ _ => False
theorem ps_never : PS X st tNever := fun _ _ _ _ _ _ h => h.elim
end
abbrev TG := V → St → Hp → (St → Hp → Prop) → Prop
abbrev TGs := List V → St → Hp → (St → Hp → Prop) → Prop
def PG (X : Cx) (target : Expr) (t : TG) : Prop :=
  ∀ (pins : List (Addr × Obj)) (s : Shared) (σ : St) (H : Hp) (v : V) (u : Value) (Q : St → Hp → Prop), Inv X pins σ H s → RelV v u → t v σ H Q →
    wpAny (model X.prog X.w) X.A (assign target X.env u) (fun _ s' => ∃ σ' H', Inv X pins σ' H' s' ∧ Q σ' H') X.xe s
def PGs (X : Cx) (ts : List Expr) (t : TGs) : Prop :=
  ∀ (pins : List (Addr × Obj)) (s : Shared) (σ : St) (H : Hp) (vs : List V) (us : List Value) (Q : St → Hp → Prop), Inv X pins σ H s → Vals vs us → t vs σ H Q →
    wpAny (model X.prog X.w) X.A (assignInOrder ((assignEach ts X.env).map (·.2)) us) (fun _ s' => ∃ σ' H', Inv X pins σ' H' s' ∧ Q σ' H') X.xe s
abbrev TSet := V → V → V → Hp → (Hp → Prop) → Prop
def PSet (X : Cx) (t : TSet) : Prop :=
  ∀ (pins : List (Addr × Obj)) (s : Shared) (σ : St) (H : Hp) (o i v : V) (ov iv u : Value) (Q : Hp → Prop), Inv X pins σ H s → RelV o ov → RelV i iv → RelV v u → t o i v H Q →
    wpAny (model X.prog X.w) X.A (setItem ov iv u) (fun _ s' => ∃ H', Inv X pins σ H' s' ∧ Q H') X.xe s
abbrev TIp := V → V → Hp → VK → Prop
def PIp (X : Cx) (op : Operator) (t : TIp) : Prop :=
  ∀ (pins : List (Addr × Obj)) (s : Shared) (σ : St) (H : Hp) (x y : V) (v u : Value) (Q : VK), Inv X pins σ H s → RelV x v → RelV y u → t x y H Q →
    wpAny (model X.prog X.w) X.A (inplaceOp op v u) (EP X pins σ Q) X.xe s
section
variable {X : Cx} {pos : Pos}
def gName (i : Nat) : TG := fun v σ H Q => Q (σ.set i (some v)) H
theorem pg_name {i : Nat} {x : Str} (hN : X.N.Nodup) (hi : X.N[i]? = some x) (hx : Loc X.env.scope x) (hf : X.fn x = true ∨ X.env.scope.names.lookup x = some .local := by first | exact .inl rfl | exact .inr rfl | assumption) : PG X (.Name x pos) (gName i) := by
  intro pins s σ H v u Q I r h
  exact wpAny_assign_Name (store_ok I hN hi hx r (fun s' I' => ⟨_, H, I', h⟩) hf)
def gNil : TGs := fun vs σ H Q => vs = [] ∧ Q σ H
def gCons (t : TG) (u : TGs) : TGs := fun vs σ H Q => ∃ v r, vs = v :: r ∧ t v σ H fun σ' H' => u r σ' H' Q
theorem pgs_nil : PGs X [] gNil := by
  intro pins s σ H vs us Q I r h
  obtain ⟨e, h⟩ := h
  subst e
  cases r
  exact assignInOrder_nil ⟨σ, H, I, h⟩
theorem pgs_cons {e : Expr} {es : List Expr} {t : TG} {u : TGs} (h1 : PG X e t) (h2 : PGs X es u)
    (hs : (assignEach (e :: es) X.env).map (·.2) = assign e X.env :: (assignEach es X.env).map (·.2) := by rfl) : PGs X (e :: es) (gCons t u) := by
  intro pins s σ H vs us Q I r h
  obtain ⟨v, vr, e1, h⟩ := h
  subst e1
  cases r with
  | cons r rr =>
    rw [hs]
    refine assignInOrder_cons (thn (h1 pins s σ H _ _ _ I r h) fun _ s1 ⟨σ1, H1, I1, q1⟩ => ?_)
    exact h2 pins s1 σ1 H1 _ _ Q I1 rr q1
def gTup (K : PySem.W.Frag) (n : Nat) (t : TGs) : TG := fun v σ H Q => ∃ a xs, v = .ref a ∧ SqT K H a xs ∧ xs.length = n ∧ t xs σ H Q
theorem pg_tup {es : List Expr} {k : Nat} {t : TGs} {n : Nat} (hc : X.calm = true) (h : PGs X es t)
    (hn : (assignEach es X.env).length = n := by rfl) (hst : (assignEach es X.env).findIdx? (·.1) = none := by rfl) : PG X (.Tuple es k pos) (gTup X.K n t) := by
  intro pins s σ H v u Q I r hw
  obtain ⟨a, xs, e1, hq, hl, hw⟩ := hw
  subst e1
  cases r
  obtain ⟨its, rv, ht, hz⟩ := I.tuple hq
  refine assign_Tuple_tuple (I.ok.hd hc) ht (by simp [hn, ← hl, rv.length]) hst fun h' hx => ?_
  have I1 : Inv X pins σ H { s with heap := h' } := I.kept (t' := s.toks) fun b o e => hx b o (Nat.ne_of_lt (Heap.lt_size e)) e
  exact h pins _ σ H xs _ Q I1 (by simpa using rv) hw
def gSub (to ti : TE) (t : TSet) : TG := fun v σ H Q => to σ H fun o H1 => ti σ H1 fun i H2 => t o i v H2 fun H3 => Q σ H3
theorem pg_sub {o i : Expr} {to ti : TE} {t : TSet} (ho : PE X o to) (hi : PE X i ti) (hs : PSet X t)
    (ha : ∀ v, assign (.Subscript o i pos) X.env v = (do
      let ov ← holding [v] (eval o X.env)
      let iv ← holding [v, ov] (eval i X.env)
      standAt pos
      holding [v, ov, iv] (setItem ov iv v)
      release [v, ov, iv] []) := by intro _; rfl) : PG X (.Subscript o i pos) (gSub to ti t) := by
  intro pins s σ H v u Q I r h
  rw [ha]
  refine wpAny_bind (wpAny_holding (thn (ho pins s σ H _ I h) fun ov s1 ⟨x, H1, I1, r1, q1⟩ => ?_))
  refine wpAny_bind (wpAny_holding (thn (hi pins s1 σ H1 _ I1 q1) fun iv s2 ⟨y, H2, I2, r2, q2⟩ => ?_))
  refine wpAny_bind (wpAny_standAt (wpAny_bind (wpAny_holding (thn (hs pins s2 σ H2 x y v ov iv u _ I2 r1 r2 r q2) fun _ s3 ⟨H3, I3, q3⟩ => ?_))))
  exact wpAny_release ⟨σ, H3, I3, q3⟩
def tAsg (te : TE) (g : TG) : TS := fun D σ H => te σ H fun x H1 => g x σ H1 D.nx
theorem ps_asg {tg e : Expr} {te : TE} {g : TG} (he : PE X e te) (hg : PG X tg g) (hs : swapsWithSole [tg] e pos.line X.env = pure false := by rfl) (hw : swappedStores [tg] e X.env = pure none := by rfl)
    (h1 : (assignEach [tg] X.env).map (·.2) = [assign tg X.env] := by rfl) : PS X (.Assign [tg] e pos) (tAsg te g) := by
  intro pins s σ H D I h
  refine wpAny_Assign_stores (thn (he pins s σ H _ I h) fun v s1 ⟨x, H1, I1, r1, q1⟩ => ?_) hs hw
  rw [h1]
  exact thn (hg pins s1 σ H1 x v _ I1 r1 q1) fun _ s2 q => q
theorem ps_set {i : Nat} {x : Str} {e : Expr} {te : TE} {pos' : Pos} (hN : X.N.Nodup) (hi : X.N[i]? = some x) (hx : Loc X.env.scope x) (he : PE X e te) (hs : swapsWith e (some (.Name x pos')) pos.line X.env = pure false := by rfl) (hf : X.fn x = true ∨ X.env.scope.names.lookup x = some .local := by first | exact .inl rfl | exact .inr rfl | assumption) :
    PS X (.Assign [.Name x pos'] e pos) (tAsg te (gName i)) := by
  intro pins s σ H D I h
  refine wpAny_Assign_Name (thn (he pins s σ H _ I h) fun v s1 ⟨y, H1, I1, r1, q1⟩ => ?_) hs
  exact store_ok I1 hN hi hx r1 (fun s2 I2 => ⟨_, H1, I2, q1⟩) hf
def tPar (i j : Nat) (ta : TA) : TS := fun D σ H => ta σ H fun vs H1 => ∃ v w, vs = [v, w] ∧ D.nx ((σ.set i (some v)).set j (some w)) H1
theorem ps_par {i j : Nat} {x y : Str} {a b : Expr} {ta : TA} {px py pt : Pos} {kt k2 pt2} (hc : X.calm = true) (hN : X.N.Nodup) (hi : X.N[i]? = some x) (hj : X.N[j]? = some y) (hij : i ≠ j)
    (hx : X.env.scope.names.lookup x = some .local) (hy : X.env.scope.names.lookup y = some .local) (ha : PA X [a, b] ta)
    (hw : swappedStores [.Tuple [.Name x px, .Name y py] kt pt] (.Tuple [a, b] k2 pt2) X.env = pure (some [x, y]))
    (hs : swapsWithSole [.Tuple [.Name x px, .Name y py] kt pt] (.Tuple [a, b] k2 pt2) pos.line X.env = pure false := by rfl) :
    PS X (.Assign [.Tuple [.Name x px, .Name y py] kt pt] (.Tuple [a, b] k2 pt2) pos) (tPar i j ta) := by
  intro pins s σ H D I h
  rw [exec_Assign_arm]
  refine wpAny_bind (wpAny_standAt ?_)
  rw [hs]
  refine wpAny_bind (wpAny_pure ?_)
  rw [if_neg (by decide)]
  refine wpAny_bind (Tuple_ (thn (ha _ pins s σ H _ I h) fun us s1 ⟨vs, H1, I1, r1, q1⟩ => ?_))
  obtain ⟨v, w, e1, q1⟩ := q1
  subst e1
  obtain ⟨u1, u2, rfl, rv, rw'⟩ : ∃ u1 u2, us = [u1, u2] ∧ RelV v u1 ∧ RelV w u2 := by
    cases r1 with
    | cons p q =>
      cases q with
      | cons p' q' =>
        cases q'
        exact ⟨_, _, rfl, p, p'⟩
  refine wpAny_newObj_type ?_ (by show 2 ≤ sizeLine; decide)
  have I2 : Inv X pins σ H1 { s1 with heap := s1.heap.push { cls := .type "tuple", data := .seq [u1, u2].toArray } } := I1.kept (t' := s1.toks) fun b o e => Heap.get?_push_of_some _ e
  rw [hw]
  refine wpAny_bind (wpAny_pure ?_)
  show wpAny (model X.prog X.w) X.A (do rule "assign.swapped-stores"; let items ← unpackItems (.ref s1.heap.objs.size) 2 none; assignInOrder [fun v => bindName X.env y v, fun v => bindName X.env x v] items.reverse; pure Flow.next) _ _ _
  refine wpAny_bind (wpAny_rule (wpAny_bind (unpackItems_tuple (items := #[u1, u2]) (I.ok.hd hc) (IsTup.new s1.heap _) fun h' hx' => ?_)))
  have I3 := I2.kept (h' := h') (t' := s1.toks) fun b o e => hx' b o (Nat.ne_of_lt (Heap.lt_size e)) e
  show wpAny _ _ (assignInOrder [fun v => bindName X.env y v, fun v => bindName X.env x v] [u2, u1] >>= fun _ => pure Flow.next) _ _ _
  refine wpAny_bind (assignInOrder_cons (wpAny_bindName (store_ok I3 hN hj (.inl hy) rw' (fun s2 I4 => ?_) (.inr hy))))
  refine assignInOrder_cons (wpAny_bindName (store_ok I4 hN hi (.inl hx) rv (fun s3 I5 => assignInOrder_nil (wpAny_pure ?_)) (.inr hx)))
  rw [List.set_comm _ _ (Ne.symm hij)] at I5
  exact ⟨_, H1, I5, q1⟩
def tAug (i : Nat) (te : TE) (ti : TIp) : TS := fun D σ H => ∃ x, σ[i]? = some (some x) ∧ te σ H fun y H1 => ti x y H1 fun z H2 => D.nx (σ.set i (some z)) H2
theorem ps_aug {i : Nat} {x : Str} {e : Expr} {te : TE} {op : Operator} {ti : TIp} {pos' : Pos} (hN : X.N.Nodup) (hi : X.N[i]? = some x) (hx : Loc X.env.scope x) (he : PE X e te) (ho : PIp X op ti) (hf : X.fn x = true ∨ X.env.scope.names.lookup x = some .local := by first | exact .inl rfl | exact .inr rfl | assumption) :
    PS X (.AugAssign (.Name x pos') op e pos) (tAug i te ti) := by
  intro pins s σ H D I h
  obtain ⟨v, e1, h⟩ := h
  obtain ⟨m, hn, hl⟩ := I.loc
  have vis : Vis X.env.scope x := by rcases hx with k | k; exact .inl k; exact .inr (.inl k)
  obtain ⟨u, r, l⟩ := hl i x v hi e1 vis
  refine wpAny_AugAssign_Name ?_
  have go : wpAny (model X.prog X.w) X.A (eval e X.env) (fun w s₂ => wpAny (model X.prog X.w) X.A (inplaceOp op u w) (fun r s₃ => wpAny (model X.prog X.w) X.A (storeName X.env x r) (fun _ => SP X pins D .next) X.xe s₃) X.xe s₂) X.xe s := by
    refine thn (he pins s σ H _ I h) fun w s1 ⟨y, H1, I1, r1, q1⟩ => ?_
    refine thn (ho pins s1 σ H1 v y u w _ I1 r r1 q1) fun z s2 ⟨zv, H2, I2, r2, q2⟩ => ?_
    exact store_ok I2 hN hi hx r2 (fun s3 I3 => ⟨_, H2, I3, q2⟩) hf
  rcases l with ⟨hk, hm⟩ | ⟨hk, c, hc, hcell⟩
  · exact wpAny_loadName_local I.ok.kind hk hn hm go
  · rcases hk with hk | hk
    · exact wpAny_loadName_cell I.ok.kind hk hc hcell go
    · rcases hx with k | k
      · have : X.env.scope.names.lookup x = some .free := hk
        rw [k] at this; cases this
      · have : X.env.scope.names.lookup x = some .free := hk
        rw [k] at this; cases this
def tAugS (to ti te : TE) (tget : V → V → Hp → VK → Prop) (tip : TIp) (tset : TSet) : TS := fun D σ H => to σ H fun o H1 => ti σ H1 fun i H2 => tget o i H2 fun x H3 => te σ H3 fun y H4 => tip x y H4 fun z H5 => tset o i z H5 fun H6 => D.nx σ H6
def PGet (X : Cx) (t : V → V → Hp → VK → Prop) : Prop :=
  ∀ (pins : List (Addr × Obj)) (s : Shared) (σ : St) (H : Hp) (o i : V) (ov iv : Value) (Q : VK), Inv X pins σ H s → RelV o ov → RelV i iv → t o i H Q →
    wpAny (model X.prog X.w) X.A (getItem ov iv) (EP X pins σ Q) X.xe s
theorem ps_augS {o i e : Expr} {to ti te : TE} {tget : V → V → Hp → VK → Prop} {tip : TIp} {tset : TSet} {op : Operator} {tpos : Pos} (ho : PE X o to) (hi : PE X i ti) (hg : PGet X tget) (he : PE X e te) (hp : PIp X op tip) (hs : PSet X tset)
    (ha : ∀ ov iv new, augStore i ov iv new = (do holding [new, ov, iv] (setItem ov iv new); release [new, ov, iv] []; pure .next) := by intros; rfl) : PS X (.AugAssign (.Subscript o i tpos) op e pos) (tAugS to ti te tget tip tset) := by
  intro pins s σ H D I h
  refine wpAny_AugAssign_SubscriptAny (thn (ho pins s σ H _ I h) fun ov s1 ⟨x1, H1, I1, r1, q1⟩ => ?_) ha
  refine thn (hi pins s1 σ H1 _ I1 q1) fun iv s2 ⟨x2, H2, I2, r2, q2⟩ => ?_
  refine thn (hg pins s2 σ H2 x1 x2 ov iv _ I2 r1 r2 q2) fun old s3 ⟨x3, H3, I3, r3, q3⟩ => ?_
  refine thn (he pins s3 σ H3 _ I3 q3) fun v s4 ⟨x4, H4, I4, r4, q4⟩ => ?_
  refine thn (hp pins s4 σ H4 x3 x4 old v _ I4 r3 r4 q4) fun new s5 ⟨x5, H5, I5, r5, q5⟩ => ?_
  exact thn (hs pins s5 σ H5 x1 x2 x5 ov iv new _ I5 r1 r2 r5 q5) fun _ s6 ⟨H6, I6, q6⟩ => ⟨σ, H6, I6, q6⟩
def ipI (f : Int → Int → Int) : TIp := fun x y H Q => ∃ i j, x = .int i ∧ y = .int j ∧ Q (.int (f i j)) H
theorem ip_add : PIp X .Add (ipI fun i j => i + j) := by
  intro pins s σ H x y v u Q I r1 r2 h
  obtain ⟨i, j, e1, e2, q⟩ := h
  subst e1; subst e2
  obtain ⟨t, rfl⟩ := r1
  obtain ⟨t', rfl⟩ := r2
  exact iadd_int ⟨.int _, H, I.tok _, ⟨_, rfl⟩, q⟩
theorem ip_sub : PIp X .Sub (ipI fun i j => i - j) := by
  intro pins s σ H x y v u Q I r1 r2 h
  obtain ⟨i, j, e1, e2, q⟩ := h
  subst e1; subst e2
  obtain ⟨t, rfl⟩ := r1
  obtain ⟨t', rfl⟩ := r2
  exact isub_int ⟨.int _, H, I.tok _, ⟨_, rfl⟩, q⟩
end
section
variable {X : Cx} {pos : Pos}
def tWhile (c : TT) (tb : TS) : TS := fun D σ H => ∃ W : Nat → St → Hp → Prop, (∃ m, W m σ H) ∧ ∀ m σ H, W m σ H →
  c σ H fun b H1 => if b = true then ∃ N : St → Hp → Prop, (∀ σ' H', N σ' H' → ∃ m', m' < m ∧ W m' σ' H') ∧ tb { D with nx := N, ct := N, bk := D.nx } σ H1 else D.nx σ H1
theorem ps_while {c : Expr} {body : List Stmt} {tc : TT} {tb : TS} (hp : PassesOwn (model X.prog X.w) X.A X.env X.xe) (hc : PT X c tc) (hb : PSs X body tb) : PS X (.While c body [] pos) (tWhile tc tb) := by
  intro pins s σ H D I h
  obtain ⟨W, ⟨m0, w0⟩, turn⟩ := h
  refine wpAny_While (codeAny_whileLoop (fun n s' => ∃ σ' H', Inv X pins σ' H' s' ∧ W n σ' H') ?_ m0 ⟨σ, H, I, w0⟩)
  rintro n s1 ⟨σ1, H1, I1, w1⟩
  refine wpAny_passesOwn hp (thn (hc pins s1 σ1 H1 _ I1 (turn n σ1 H1 w1)) fun b s2 ⟨H2, I2, q2⟩ => ?_)
  cases b with
  | true =>
    obtain ⟨N, hN, q2⟩ := q2
    rw [if_pos rfl]
    refine wpAny_passesOwn hp (thn (hb pins s2 σ1 H2 _ I2 q2) fun f s3 q3 => ?_)
    cases f with
    | next =>
      obtain ⟨σ3, H3, I3, n3⟩ := q3
      obtain ⟨m', hm, w3⟩ := hN σ3 H3 n3
      exact ⟨m', hm, σ3, H3, I3, w3⟩
    | cont =>
      obtain ⟨σ3, H3, I3, n3⟩ := q3
      obtain ⟨m', hm, w3⟩ := hN σ3 H3 n3
      exact ⟨m', hm, σ3, H3, I3, w3⟩
    | brk => exact q3
    | ret v => exact q3
  | false =>
    rw [if_neg Bool.false_ne_true]
    exact wpAny_execs_nil ⟨σ1, H2, I2, q2⟩
end
structure It where
  go : Nat → Hp → Prop
  yld : Nat → Hp → V → Hp → Prop
  stop : Nat → Hp → Prop
def FpOk (X : Cx) (pins : List (Addr × Obj)) (H : Hp) (b : Addr) : Prop :=
  H b = none ∧ b ≠ X.env.locals ∧ b ∉ X.fs ∧ (b ∈ X.ex ∨ X.s₀.heap.objs.size ≤ b) ∧ (∀ x c, X.env.cells.lookup x = some c → c ≠ b) ∧ ∀ p ∈ X.pn ++ pins, p.1 ≠ b
theorem Inv.fpOk {X : Cx} {pins : List (Addr × Obj)} {σ : St} {H H' : Hp} {s : Shared} {b : Addr} (I : Inv X pins σ H s) (hb : s.heap.objs.size ≤ b) (hn : H' b = none) : FpOk X pins H' b := by
  refine ⟨hn, Nat.ne_of_gt (Nat.lt_of_lt_of_le I.lt hb), I.nofs hb, .inr (Nat.le_trans I.sz hb), fun x c e z => ?_, fun p hp z => ?_⟩
  · obtain ⟨v, q⟩ := I.cell x c e
    exact absurd (Nat.lt_of_lt_of_le q.lt (by rw [z]; exact hb)) (Nat.lt_irrefl _)
  · exact absurd (Nat.lt_of_lt_of_le (Heap.lt_size (I.pin p hp).1) (by rw [z]; exact hb)) (Nat.lt_irrefl _)
structure Turn (P : Program) (w : World) (K : PySem.W.Frag) (tg : Expr) (J : It) (fp : List Addr) (it : Addr) (tn : Nat → Heap → Prop) : Prop where
  mem : it ∈ fp
  obj : ∀ i h, tn i h → ∀ b ∈ fp, ∃ o, h.get? b = some o ∧ ∀ v, o.data ≠ .cell v
  keep : ∀ i h h', tn i h → (∀ b ∈ fp, ∀ o, h.get? b = some o → h'.get? b = some o) → tn i h'
  item : ∀ (X : Cx), X.prog = P → X.w = w → X.K = K → X.calm = true → ∀ (i : Nat) (pins : List (Addr × Obj)) (s : Shared) (σ : St) (H : Hp) (E : Value → Shared → Prop), Inv X pins σ H s → (∀ b ∈ fp, FpOk X pins H b) → tn i s.heap → J.go i H →
    wpAny (model P w) X.A (pyNext (.ref it)) (fun r s1 => ∃ u, r = some u ∧
      wpAny (model P w) X.A (letOwnedTupleGo tg (.ref it) u) (fun _ s2 => ∃ x H', Inv X pins σ H' s2 ∧ RelV x u ∧ J.yld i H x H' ∧ tn (i + 1) s2.heap ∧ ∀ b ∈ fp, H' b = none) E s1) E s
  done : ∀ (X : Cx), X.prog = P → X.w = w → X.K = K → X.calm = true → ∀ (i : Nat) (pins : List (Addr × Obj)) (s : Shared) (σ : St) (H : Hp) (E : Value → Shared → Prop), Inv X pins σ H s → (∀ b ∈ fp, FpOk X pins H b) → tn i s.heap → J.stop i H →
    wpAny (model P w) X.A (pyNext (.ref it)) (fun r s1 => r = none ∧ Inv X pins σ H s1) E s
  self : ∀ (A : Around) (i : Nat) (s : Shared) (Q : Value → Shared → Prop) (E : Value → Shared → Prop), tn i s.heap → Q (.ref it) s → wpAny (model P w) A (pyIter (.ref it)) Q E s
abbrev TI := St → Hp → (It → Hp → Prop) → Prop
def PIE (X : Cx) (pins : List (Addr × Obj)) (σ : St) (tg : Expr) (R : It → Hp → Prop) (itv : Value) (s2 : Shared) : Prop :=
  ∃ (it : Addr) (fp : List Addr) (tn : Nat → Heap → Prop) (J : It) (H' : Hp), itv = .ref it ∧ Inv X pins σ H' s2 ∧ Turn X.prog X.w X.K tg J fp it tn ∧ tn 0 s2.heap ∧ (∀ b ∈ fp, FpOk X pins H' b) ∧ R J H'
def PI (X : Cx) (tg iter : Expr) (wi : TI) : Prop :=
  ∀ (pins : List (Addr × Obj)) (s : Shared) (σ : St) (H : Hp) (R : It → Hp → Prop), Inv X pins σ H s → wi σ H R →
    wpAny (model X.prog X.w) X.A (eval iter X.env) (fun v s1 => wpAny (model X.prog X.w) X.A (pyIter v) (PIE X pins σ tg R) X.xe s1) X.xe s
theorem go_of {M : Model} {A : Around} {E : Value → Shared → Prop} {s : Shared} {tg : Expr} {it : Addr} {u : Value} {o : Obj} {n : String} {vs : Array Value} {Q : Unit → Shared → Prop} (ho : s.heap.get? it = some o) (hc : o.cls = .type n) (hd : o.data = .fields vs)
    (hn : ["enumerate", "zip", "dict_itemiterator", "dict_reverseitemiterator", "odict_iterator", "itertools.zip_longest", "itertools.pairwise"].contains n = false) (hQ : Q () s) : wpAny M A (letOwnedTupleGo tg (.ref it) u) Q E s := by
  unfold letOwnedTupleGo
  cases tg <;> first
    | exact wpAny_pure hQ
    | (cases u <;> first
        | exact wpAny_pure hQ
        | (refine wpAny_bind (wpAny_load ho ?_)
           rw [hc, hd]
           show wpAny M A (if (["enumerate", "zip", "dict_itemiterator", "dict_reverseitemiterator", "odict_iterator", "itertools.zip_longest", "itertools.pairwise"].contains n && vs[0]? == some (rawInt _)) = true then _ else _) Q E s
           rw [if_neg (by intro h; rw [hn, Bool.false_and] at h; cases h)]
           exact wpAny_pure hQ))
def Itl (K : PySem.W.Frag) (a : Addr) : It :=
  ⟨fun i H => ∃ xs x, SqL K H a xs ∧ xs[i]? = some x, fun i H x H' => H' = H ∧ ∀ xs, SqL K H a xs → xs[i]? = some x, fun i H => ∃ xs, SqL K H a xs ∧ xs.length ≤ i⟩
def Itr (lo : Int) (n : Nat) : It := ⟨fun i _ => i < n, fun i H x H' => H' = H ∧ x = .int (lo + i), fun i _ => n ≤ i⟩
theorem turn_list {P : Program} {w : World} {K : PySem.W.Frag} {tg : Expr} (a it : Addr) : Turn P w K tg (Itl K a) [it] it (fun i h => h.IsListIter it a i) where
  mem := by simp
  obj := fun i h st b hb => by
    have e : b = it := by simpa using hb
    subst e
    obtain ⟨o, e, c, d⟩ := st
    exact ⟨o, e, fun v z => by rw [d] at z; cases z⟩
  keep := fun i h h' st k => st.at fun o e => k it (by simp) o e
  item := by
    intro X hP hw hK hc i pins s σ H E I hf st hg
    subst hP hw hK
    obtain ⟨xs, x, hq, hx⟩ := hg
    obtain ⟨its, rv, p, hz⟩ := I.list hq
    obtain ⟨u, hu, ru⟩ := rv.get hx
    obtain ⟨f0, f1, f2, f3, f4, f5⟩ := hf it (by simp)
    refine wpAny_pyNext_list_item st p.isList (x := u) (by simpa using hu) fun h' st' sb => ?_
    have I1 : Inv X pins σ H { s with heap := h' } := I.turned (t' := s.toks) (fun b o hb e => (sb.2 b hb).trans e) f0 f1 f3 f4 f5
    obtain ⟨o, e, c, d⟩ := id st'
    exact ⟨u, rfl, go_of (s := { s with heap := h' }) e c d (by decide) ⟨x, H, I1, ru, ⟨rfl, fun ys hy => by rw [I.list_inj hy hq]; exact hx⟩, st', fun b hb => (hf b hb).1⟩⟩
  done := by
    intro X hP hw hK hc i pins s σ H E I hf st hg
    subst hP hw hK
    obtain ⟨xs, hq, hx⟩ := hg
    obtain ⟨its, rv, p, hz⟩ := I.list hq
    obtain ⟨f0, f1, f2, f3, f4, f5⟩ := hf it (by simp)
    have hl := rv.length
    exact wpAny_pyNext_list_end (I.ok.hd hc) st p.isList (by simp; omega) fun h' eb => ⟨rfl, I.turned (t' := s.toks) (fun b o hb e => eb b o hb e) f0 f1 f3 f4 f5⟩
  self := fun _ _ _ _ _ st h => wpAny_pyIter_listiter st h
theorem turn_range {P : Program} {w : World} {K : PySem.W.Frag} {tg : Expr} (it : Addr) (lo : Int) (n : Nat) : Turn P w K tg (Itr lo n) [it] it (fun i h => IsRangeIter h it (lo + (i : Nat) * 1) ((n : Int) - (i : Nat)) 1) where
  mem := by simp
  obj := fun i h st b hb => by
    have e : b = it := by simpa using hb
    subst e
    exact ⟨_, st, fun v z => by
      have z' : Data.fields _ = Data.cell v := z
      cases z'⟩
  keep := fun i h h' st k => k it (by simp) _ st
  item := by
    intro X hP hw hK hc i pins s σ H E I hf st hg
    subst hP hw hK
    obtain ⟨f0, f1, f2, f3, f4, f5⟩ := hf it (by simp)
    have W := Walks.range (prog := X.prog) (w := X.w) (I.ok.hd hc) it lo 1 n
    refine W.item i s _ _ hg st fun v h' tk hv st' kk => ?_
    obtain ⟨t, rfl⟩ := hv
    have I1 : Inv X pins σ H { s with heap := h', toks := tk } := I.turned (fun b o hb e => kk b o (by simpa using hb) e) f0 f1 f3 f4 f5
    refine ⟨_, rfl, go_of (s := { s with heap := h', toks := tk }) (n := "range_iterator") st' rfl rfl (by decide) ⟨.int (lo + i), H, I1, ⟨t, ?_⟩, ⟨rfl, rfl⟩, st', fun b hb => (hf b hb).1⟩⟩
    rw [Int.mul_one]
  done := by
    intro X hP hw hK hc i pins s σ H E I hf st hg
    subst hP hw hK
    obtain ⟨f0, f1, f2, f3, f4, f5⟩ := hf it (by simp)
    exact wpAny_pyNext_range_end (I.ok.hd hc) st (by have : n ≤ i := hg; omega) fun h' eb => ⟨rfl, I.turned (t' := s.toks) (fun b o hb e => eb b o hb e) f0 f1 f3 f4 f5⟩
  self := fun _ _ _ _ _ st h => wpAny_pyIter_rangeiter st h
section
variable {X : Cx} {tg : Expr}
def iList (K : PySem.W.Frag) (tl : TE) : TI := fun σ H R => tl σ H fun x H1 => ∃ a, x = .ref a ∧ (∃ xs, SqL K H1 a xs) ∧ R (Itl K a) H1
theorem pi_list {l : Expr} {tl : TE} (hl : PE X l tl) : PI X tg l (iList X.K tl) := by
  intro pins s σ H R I h
  refine thn (hl pins s σ H _ I h) fun v s1 ⟨x, H1, I1, r1, q1⟩ => ?_
  obtain ⟨a, e, ⟨xs, hq⟩, q⟩ := q1
  subst e
  cases r1
  obtain ⟨its, rv, p, hz⟩ := I1.list hq
  refine wpAny_pyIter_list p.isList ?_
  refine ⟨s1.heap.objs.size, [s1.heap.objs.size], _, _, H1, rfl, I1.kept (t' := s1.toks) fun b o e => Heap.get?_push_of_some _ e, turn_list a _, ⟨_, Heap.get?_push_size _ rfl, rfl, rfl⟩, fun b hb => ?_, q⟩
  have e : b = s1.heap.objs.size := by simpa using hb
  subst e
  exact I1.fpOk (Nat.le_refl _) (I1.hok.fresh (Nat.le_refl _))
theorem range_it {pins : List (Addr × Obj)} {σ : St} {H : Hp} {s : Shared} {R : It → Hp → Prop} {E : Value → Shared → Prop} {lo hi : Int} {t u v : Tok} {tk : Nat} (I : Inv X pins σ H s) (h1 : -(2 ^ 62) ≤ lo) (h2 : lo < 2 ^ 62) (h3 : -(2 ^ 62) ≤ hi) (h4 : hi < 2 ^ 62)
    (q : R (Itr lo (hi - lo).toNat) H) : wpAny (model X.prog X.w) X.A (pyIter (.ref s.heap.objs.size)) (PIE X pins σ tg R) E { s with heap := s.heap.push { cls := .type "range", data := .fields #[.int lo t, .int hi u, .int 1 v] }, toks := tk } := by
  refine wpAny_pyIter_range (IsRange.new ..) (small_one h1 h2 h3 h4) ?_
  have I1 : Inv X pins σ H { s with heap := s.heap.push { cls := .type "range", data := .fields #[.int lo t, .int hi u, .int 1 v] }, toks := tk } := I.kept fun b o e => Heap.get?_push_of_some _ e
  refine ⟨(s.heap.push { cls := .type "range", data := .fields #[.int lo t, .int hi u, .int 1 v] }).objs.size, [(s.heap.push { cls := .type "range", data := .fields #[.int lo t, .int hi u, .int 1 v] }).objs.size], _, _, H, rfl,
    I1.kept (t' := tk) fun b o e => Heap.get?_push_of_some _ e, turn_range _ lo (hi - lo).toNat, ?_, fun b hb => ?_, q⟩
  · have e1 : lo + ((0 : Nat) : Int) * 1 = lo := by simp
    have e2 : (((hi - lo).toNat : Nat) : Int) - ((0 : Nat) : Int) = Builtin.Range.rangeSize lo hi 1 := by rw [rangeSize_one]; split <;> omega
    show IsRangeIter _ _ (lo + ((0 : Nat) : Int) * 1) ((((hi - lo).toNat : Nat) : Int) - ((0 : Nat) : Int)) 1
    rw [e1, e2]
    exact Heap.get?_push_size _ rfl
  · have e : b = (s.heap.push { cls := .type "range", data := .fields #[.int lo t, .int hi u, .int 1 v] }).objs.size := by simpa using hb
    subst e
    exact I1.fpOk (Nat.le_refl _) (I1.hok.fresh (Nat.le_refl _))
def iRng1 (ta : TA) : TI := fun σ H R => ta σ H fun vs H1 => ∃ j : Int, vs = [.int j] ∧ -(2 ^ 62) ≤ j ∧ j < 2 ^ 62 ∧ R (Itr 0 j.toNat) H1
def iRng2 (ta : TA) : TI := fun σ H R => ta σ H fun vs H1 => ∃ i j : Int, vs = [.int i, .int j] ∧ (-(2 ^ 62) ≤ i ∧ i < 2 ^ 62 ∧ -(2 ^ 62) ≤ j ∧ j < 2 ^ 62) ∧ R (Itr i (j - i).toNat) H1
theorem pi_range1 {a : Expr} {ta : TA} {p pos : Pos} (hg : Gl X "range") (hm : X.mg "range" = none) (ha : PA X [a] ta) (hs : starEach [a] X.env = [(false, eval a X.env)] := by rfl) : PI X tg (.Call (.Name "range" p) [a] [] pos) (iRng1 ta) := by
  intro pins s σ H R I h
  refine Call_ (ld_blt I hg hm boot_range (PyProof.Rows.callWith_type1 (thn (ha pos pins s σ H _ I h) fun us s1 ⟨vs, H1, I1, r1, q1⟩ => ?_) hs rfl))
  obtain ⟨j, e, q1, q2, q⟩ := q1
  subst e
  cases r1 with
  | cons r rr =>
    cases rr
    obtain ⟨t, rfl⟩ := r
    exact call_range_1 (range_it I1 (by omega) (by omega) q1 q2 (by simpa using q))
theorem pi_range2 {a b : Expr} {ta : TA} {p pos : Pos} (hg : Gl X "range") (hm : X.mg "range" = none) (ha : PA X [a, b] ta) (hs : starEach [a, b] X.env = [(false, eval a X.env), (false, eval b X.env)] := by rfl) (hs2 : starEach [b] X.env = [(false, eval b X.env)] := by rfl) :
    PI X tg (.Call (.Name "range" p) [a, b] [] pos) (iRng2 ta) := by
  intro pins s σ H R I h
  refine Call_ (ld_blt I hg hm boot_range (PyProof.Rows.callWith_type1 (thn (ha pos pins s σ H _ I h) fun us s1 ⟨vs, H1, I1, r1, q1⟩ => ?_) (by rw [hs, hs2]) (by rw [hs2]; rfl)))
  obtain ⟨i, j, e, ⟨q1, q2, q3, q4⟩, q⟩ := q1
  subst e
  cases r1 with
  | cons r rr =>
    cases rr with
    | cons r' rr =>
      cases rr
      obtain ⟨t, rfl⟩ := r
      obtain ⟨t', rfl⟩ := r'
      exact call_range_2 (range_it I1 q1 q2 q3 q4 q)
def tFor (wi : TI) (g : TG) (tb : TS) : TS := fun D σ H => wi σ H fun J H1 => ∃ W : Nat → Nat → St → Hp → Prop, (∃ m, W 0 m σ H1) ∧ ∀ i m σ H, W i m σ H →
  (J.stop i H ∧ D.nx σ H) ∨ (J.go i H ∧ ∃ N : St → Hp → Prop, (∀ σ' H', N σ' H' → ∃ m', m' < m ∧ W (i + 1) m' σ' H') ∧ ∀ x H', J.yld i H x H' → g x σ H' fun σ2 H2 => tb { D with nx := N, ct := N, bk := D.nx } σ2 H2)
def pinsAt (fp : List Addr) (h : Heap) : List (Addr × Obj) := fp.filterMap fun b => (h.get? b).map fun o => (b, o)
theorem mem_pinsAt {fp : List Addr} {h : Heap} {b : Addr} {o : Obj} (hb : b ∈ fp) (e : h.get? b = some o) : (b, o) ∈ pinsAt fp h := List.mem_filterMap.mpr ⟨b, hb, by rw [e]; rfl⟩
theorem of_pinsAt {fp : List Addr} {h : Heap} {p : Addr × Obj} (hp : p ∈ pinsAt fp h) : p.1 ∈ fp ∧ h.get? p.1 = some p.2 := by
  obtain ⟨b, hb, e⟩ := List.mem_filterMap.mp hp
  cases q : h.get? b with
  | none => rw [q] at e; cases e
  | some o =>
    rw [q] at e
    have e' : (b, o) = p := Option.some.inj e
    subst e'
    exact ⟨hb, q⟩
theorem Inv.pinned {pins : List (Addr × Obj)} {σ : St} {H : Hp} {s : Shared} {fp : List Addr} (I : Inv X pins σ H s) (hf : ∀ b ∈ fp, FpOk X pins H b) (ho : ∀ b ∈ fp, ∃ o, s.heap.get? b = some o ∧ ∀ v, o.data ≠ .cell v) : Inv X (pins ++ pinsAt fp s.heap) σ H s :=
  I.pins_of fun p hp => (List.mem_append.mp hp).elim (fun z => I.pin p (List.mem_append_right _ z)) fun z => by
    obtain ⟨hb, e⟩ := of_pinsAt z
    obtain ⟨f0, f1, f2, _⟩ := hf p.1 hb
    obtain ⟨o, e', d⟩ := ho p.1 hb
    rw [e] at e'; cases e'
    exact ⟨e, f0, f1, f2, d⟩
theorem Inv.unpinned {pins pl : List (Addr × Obj)} {σ : St} {H : Hp} {s : Shared} (I : Inv X (pins ++ pl) σ H s) : Inv X pins σ H s := I.pins_of fun p hp => I.pin p (List.mem_append_right _ (List.mem_append_left _ hp))
theorem ps_for {iter : Expr} {body : List Stmt} {wi : TI} {g : TG} {tb : TS} {pos : Pos} (hp : PassesOwn (model X.prog X.w) X.A X.env X.xe) (hc : X.calm = true) (hi : PI X tg iter wi) (hg : PG X tg g) (hb : PSs X body tb)
    (hs : ∀ x, foldedSetIterable iter X.env x = pure x := by intro _; rfl) : PS X (.For tg iter body [] pos) (tFor wi g tb) := by
  intro pins s σ H D I h
  refine wpAny_For (thn (hi pins s σ H _ I h) fun v s1 h1 => thn h1 fun itv s2 h2 => ?_) hs
  obtain ⟨it, fp, tn, J, H2, e, I2, T, st2, f2, W, ⟨m0, w0⟩, turn⟩ := h2
  subst e
  -- what stays true of the iterator's objects through the loop
  have stat : ∀ {H' : Hp}, (∀ b ∈ fp, H' b = none) → ∀ b ∈ fp, FpOk X pins H' b := fun hn b hb => ⟨hn b hb, (f2 b hb).2⟩
  refine codeAny_forLoop_any (fun n s' => ∃ i σ' H', Inv X pins σ' H' s' ∧ tn i s'.heap ∧ (∀ b ∈ fp, H' b = none) ∧ W i n σ' H') ?_ m0 ⟨0, σ, H2, I2, st2, fun b hb => (f2 b hb).1, w0⟩
  rintro n s3 ⟨i, σ3, H3, I3, st3, fr3, w3⟩
  rcases turn i n σ3 H3 w3 with ⟨stop, qn⟩ | ⟨go, N, hN, step⟩
  · refine wpAny_passesOwn hp (thn (T.done X rfl rfl rfl hc i pins s3 σ3 H3 X.xe I3 (stat fr3) st3 stop) fun r s4 ⟨hr, I4⟩ => ?_)
    subst hr
    exact wpAny_execs_nil ⟨σ3, H3, I4, qn⟩
  · refine wpAny_passesOwn hp (thn (T.item X rfl rfl rfl hc i pins s3 σ3 H3 X.xe I3 (stat fr3) st3 go) fun r s4 ⟨u, hr, h4⟩ => ?_)
    subst hr
    refine wpAny_passesOwn hp (thn h4 fun _ s5 ⟨x, H5, I5, r5, y5, st5, fr5⟩ => ?_)
    have I5' := I5.pinned (stat fr5) (T.obj _ _ st5)
    refine wpAny_passesOwn hp (thn (hg _ s5 σ3 H5 x u _ I5' r5 (step x H5 y5)) fun _ s6 ⟨σ6, H6, I6, q6⟩ => ?_)
    refine wpAny_passesOwn hp (thn (hb _ s6 σ6 H6 _ I6 q6) fun f s7 q7 => ?_)
    have again : ∀ {σ7 : St} {H7 : Hp}, Inv X (pins ++ pinsAt fp s5.heap) σ7 H7 s7 → N σ7 H7 → ∃ m, m < n ∧ ∃ i σ' H', Inv X pins σ' H' s7 ∧ tn i s7.heap ∧ (∀ b ∈ fp, H' b = none) ∧ W i m σ' H' := fun {σ7 H7} I7 n7 => by
      obtain ⟨m', hm, w7⟩ := hN σ7 H7 n7
      refine ⟨m', hm, i + 1, σ7, H7, I7.unpinned, T.keep _ _ _ st5 fun b hb o e => (I7.pin (b, o) (List.mem_append_right _ (List.mem_append_right _ (mem_pinsAt hb e)))).1, fun b hb => ?_, w7⟩
      obtain ⟨o, e, d⟩ := T.obj _ _ st5 b hb
      exact (I7.pin (b, o) (List.mem_append_right _ (List.mem_append_right _ (mem_pinsAt hb e)))).2.1
    cases f with
    | next => obtain ⟨σ7, H7, I7, n7⟩ := q7; exact again I7 n7
    | cont => obtain ⟨σ7, H7, I7, n7⟩ := q7; exact again I7 n7
    | brk => obtain ⟨σ7, H7, I7, q7⟩ := q7; exact ⟨σ7, H7, I7.unpinned, q7⟩
    | ret v => obtain ⟨x7, σ7, H7, I7, r7, q7⟩ := q7; exact ⟨x7, σ7, H7, I7.unpinned, r7, q7⟩
end
theorem for_list {K : PySem.W.Frag} {a : Addr} {xs : List V} {g : TG} {tb : TS} {D : Ends} {σ : St} {H : Hp} (Pv : Nat → St → Hp → Prop) (h0 : Pv 0 σ H) (hl : ∀ i σ H, i ≤ xs.length → Pv i σ H → SqL K H a xs)
    (hs : ∀ i x σ H, xs[i]? = some x → Pv i σ H → g x σ H fun σ2 H2 => tb { D with nx := Pv (i + 1), ct := Pv (i + 1), bk := D.nx } σ2 H2) (hd : ∀ σ H, Pv xs.length σ H → D.nx σ H) :
    ∃ W : Nat → Nat → St → Hp → Prop, (∃ m, W 0 m σ H) ∧ ∀ i m σ H, W i m σ H →
      ((Itl K a).stop i H ∧ D.nx σ H) ∨ ((Itl K a).go i H ∧ ∃ N : St → Hp → Prop, (∀ σ' H', N σ' H' → ∃ m', m' < m ∧ W (i + 1) m' σ' H') ∧ ∀ x H', (Itl K a).yld i H x H' → g x σ H' fun σ2 H2 => tb { D with nx := N, ct := N, bk := D.nx } σ2 H2) := by
  refine ⟨fun i m σ H => m = xs.length - i ∧ i ≤ xs.length ∧ Pv i σ H, ⟨xs.length, by simp, Nat.zero_le _, h0⟩, ?_⟩
  rintro i m σ H ⟨rfl, hi, p⟩
  have q := hl i σ H hi p
  by_cases hlt : i < xs.length
  · refine .inr ⟨⟨xs, xs[i], q, by simp [hlt]⟩, Pv (i + 1), fun σ' H' p' => ⟨xs.length - (i + 1), by omega, rfl, hlt, p'⟩, fun x H' y => ?_⟩
    obtain ⟨e, y⟩ := y
    subst e
    exact hs i x σ _ (y xs q) p
  · have e : i = xs.length := by omega
    subst e
    exact .inl ⟨⟨xs, q, Nat.le_refl _⟩, hd σ H p⟩
theorem for_range {lo : Int} {n : Nat} {g : TG} {tb : TS} {D : Ends} {σ : St} {H : Hp} (Pv : Nat → St → Hp → Prop) (h0 : Pv 0 σ H)
    (hs : ∀ i σ H, i < n → Pv i σ H → g (.int (lo + i)) σ H fun σ2 H2 => tb { D with nx := Pv (i + 1), ct := Pv (i + 1), bk := D.nx } σ2 H2) (hd : ∀ σ H, Pv n σ H → D.nx σ H) :
    ∃ W : Nat → Nat → St → Hp → Prop, (∃ m, W 0 m σ H) ∧ ∀ i m σ H, W i m σ H →
      ((Itr lo n).stop i H ∧ D.nx σ H) ∨ ((Itr lo n).go i H ∧ ∃ N : St → Hp → Prop, (∀ σ' H', N σ' H' → ∃ m', m' < m ∧ W (i + 1) m' σ' H') ∧ ∀ x H', (Itr lo n).yld i H x H' → g x σ H' fun σ2 H2 => tb { D with nx := N, ct := N, bk := D.nx } σ2 H2) := by
  refine ⟨fun i m σ H => m = n - i ∧ i ≤ n ∧ Pv i σ H, ⟨n, by simp, Nat.zero_le _, h0⟩, ?_⟩
  rintro i m σ H ⟨rfl, hi, p⟩
  by_cases hlt : i < n
  · refine .inr ⟨hlt, Pv (i + 1), fun σ' H' p' => ⟨n - (i + 1), by omega, rfl, hlt, p'⟩, fun x H' y => ?_⟩
    obtain ⟨e, y⟩ := y
    subst e y
    exact hs i σ _ hlt p
  · have e : i = n := by omega
    subst e
    exact .inl ⟨Nat.le_refl _, hd σ H p⟩
theorem while_by {c : TT} {tb : TS} {D : Ends} {σ : St} {H : Hp} (Pv : St → Hp → Prop) (μ : St → Hp → Nat) (h0 : Pv σ H)
    (hs : ∀ σ H, Pv σ H → c σ H fun b H1 => if b = true then tb { D with nx := fun σ' H' => Pv σ' H' ∧ μ σ' H' < μ σ H, ct := fun σ' H' => Pv σ' H' ∧ μ σ' H' < μ σ H, bk := D.nx } σ H1 else D.nx σ H1)
    (mono : ∀ σ H Q Q', (∀ b H1, Q b H1 → Q' b H1) → c σ H Q → c σ H Q') : tWhile c tb D σ H := by
  refine ⟨fun m σ H => m = μ σ H ∧ Pv σ H, ⟨_, rfl, h0⟩, ?_⟩
  rintro m σ H ⟨rfl, p⟩
  refine mono σ H _ _ (fun b H1 q => ?_) (hs σ H p)
  cases b with
  | true => exact ⟨_, fun σ' H' ⟨p', l⟩ => ⟨_, l, rfl, p'⟩, q⟩
  | false => exact q
abbrev R2 := V → V → Hp → VK → Prop
def OpR (X : Cx) (f : Value → Value → Sem Value) (r : R2) : Prop :=
  ∀ (pins : List (Addr × Obj)) (s : Shared) (σ : St) (H : Hp) (x y : V) (v u : Value) (Q : VK), Inv X pins σ H s → RelV x v → RelV y u → r x y H Q →
    wpAny (model X.prog X.w) X.A (f v u) (EP X pins σ Q) X.xe s
def UnR (X : Cx) (f : Value → Sem Value) (r : V → Hp → VK → Prop) : Prop :=
  ∀ (pins : List (Addr × Obj)) (s : Shared) (σ : St) (H : Hp) (x : V) (v : Value) (Q : VK), Inv X pins σ H s → RelV x v → r x H Q →
    wpAny (model X.prog X.w) X.A (f v) (EP X pins σ Q) X.xe s
def CallR (X : Cx) (f : Value) (r : List V → Hp → VK → Prop) : Prop :=
  ∀ (pins : List (Addr × Obj)) (s : Shared) (σ : St) (H : Hp) (xs : List V) (us : List Value) (Q : VK), Inv X pins σ H s → Vals xs us → r xs H Q →
    wpAny (model X.prog X.w) X.A (call f us) (EP X pins σ Q) X.xe s
def TruR (X : Cx) (r : V → Hp → (Bool → Hp → Prop) → Prop) : Prop :=
  ∀ (pins : List (Addr × Obj)) (s : Shared) (σ : St) (H : Hp) (x : V) (v : Value) (Q : Bool → Hp → Prop), Inv X pins σ H s → RelV x v → r x H Q →
    wpAny (model X.prog X.w) X.A (truthy v) (TP X pins σ Q) X.xe s
def tOp (r : R2) (ta tb : TE) : TE := fun σ H Q => ta σ H fun x H1 => tb σ H1 fun y H2 => r x y H2 Q
def tUn (r : V → Hp → VK → Prop) (ta : TE) : TE := fun σ H Q => ta σ H fun x H1 => r x H1 Q
def rI (C : Int → Int → Prop) (g : Int → Int → V) : R2 := fun x y H Q => ∃ i j, x = .int i ∧ y = .int j ∧ C i j ∧ Q (g i j) H
def rI0 (g : Int → Int → V) : R2 := fun x y H Q => ∃ i j, x = .int i ∧ y = .int j ∧ Q (g i j) H
def rU (g : Int → V) : V → Hp → VK → Prop := fun x H Q => ∃ i, x = .int i ∧ Q (g i) H
section
variable {X : Cx} {a b c : Expr} {ta tb tc : TE} {pos : Pos}
theorem binT (ha : PE X a ta) (hb : PE X b tb) {pins : List (Addr × Obj)} {s : Shared} {σ : St} {H : Hp} {R : V → V → Hp → Prop} (I : Inv X pins σ H s)
    (h : ta σ H fun x H1 => tb σ H1 fun y H2 => R x y H2) {Q : Value → Shared → Prop} {f : Value → Value → Sem Value}
    (hf : ∀ v u s2 x y H2, Inv X pins σ H2 s2 → RelV x v → RelV y u → R x y H2 → wpAny (model X.prog X.w) X.A (f v u) Q X.xe s2) :
    wpAny (model X.prog X.w) X.A (eval a X.env) (fun v s₁ => wpAny (model X.prog X.w) X.A (eval b X.env) (fun u s₂ => wpAny (model X.prog X.w) X.A (f v u) Q X.xe s₂) X.xe s₁) X.xe s := by
  refine thn (ha pins s σ H _ I h) fun v s1 ⟨x, H1, I1, r1, q1⟩ => ?_
  refine thn (hb pins s1 σ H1 _ I1 q1) fun u s2 ⟨y, H2, I2, r2, q2⟩ => ?_
  exact hf v u s2 x y H2 I2 r1 r2 q2
theorem pe_op {op : Operator} {r : R2} (ho : OpR X (binaryOp op) r) (ha : PE X a ta) (hb : PE X b tb) : PE X (.BinOp a op b pos) (tOp r ta tb) := by
  intro pins s σ H Q I h
  exact wpAny_BinOp (binT ha hb I h fun v u s2 x y H2 I2 rx ry q => ho pins s2 σ H2 x y v u Q I2 rx ry q)
theorem pe_un {op : UnaryOp} {r : V → Hp → VK → Prop} (ho : UnR X (unaryOp op) r) (ha : PE X a ta) : PE X (.UnaryOp op a pos) (tUn r ta) := by
  intro pins s σ H Q I h
  exact UnaryOp_ (thn (ha pins s σ H _ I h) fun v s1 ⟨x, H1, I1, r1, q1⟩ => ho pins s1 σ H1 x v Q I1 r1 q1)
theorem opI {f : Value → Value → Sem Value} {C : Int → Int → Prop} {g : Int → Int → Int}
    (rule : ∀ (i j : Int) (t u : Tok) (s : Shared) (Q : Value → Shared → Prop) (E : Value → Shared → Prop), C i j → Q (.int (g i j) s.toks) { s with toks := s.toks + 1 } → wpAny (model X.prog X.w) X.A (f (.int i t) (.int j u)) Q E s) :
    OpR X f (rI C fun i j => .int (g i j)) := by
  intro pins s σ H x y v u Q I rx ry h
  obtain ⟨i, j, rfl, rfl, hc, q⟩ := h
  obtain ⟨t, rfl⟩ := rx
  obtain ⟨t', rfl⟩ := ry
  exact rule i j t t' s _ _ hc ⟨.int (g i j), H, I.tok _, ⟨_, rfl⟩, q⟩
theorem opI0 {f : Value → Value → Sem Value} {g : Int → Int → Int}
    (rule : ∀ (i j : Int) (t u : Tok) (s : Shared) (Q : Value → Shared → Prop) (E : Value → Shared → Prop), Q (.int (g i j) s.toks) { s with toks := s.toks + 1 } → wpAny (model X.prog X.w) X.A (f (.int i t) (.int j u)) Q E s) :
    OpR X f (rI0 fun i j => .int (g i j)) := by
  intro pins s σ H x y v u Q I rx ry h
  obtain ⟨i, j, rfl, rfl, q⟩ := h
  obtain ⟨t, rfl⟩ := rx
  obtain ⟨t', rfl⟩ := ry
  exact rule i j t t' s _ _ ⟨.int (g i j), H, I.tok _, ⟨_, rfl⟩, q⟩
theorem opB0 {f : Value → Value → Sem Value} {g : Int → Int → Bool}
    (rule : ∀ (i j : Int) (t u : Tok) (s : Shared) (Q : Value → Shared → Prop) (E : Value → Shared → Prop), Q (.bool (g i j)) s → wpAny (model X.prog X.w) X.A (f (.int i t) (.int j u)) Q E s) :
    OpR X f (rI0 fun i j => .bl (g i j)) := by
  intro pins s σ H x y v u Q I rx ry h
  obtain ⟨i, j, rfl, rfl, q⟩ := h
  obtain ⟨t, rfl⟩ := rx
  obtain ⟨t', rfl⟩ := ry
  exact rule i j t t' s _ _ ⟨.bl (g i j), H, I, rfl, q⟩
def CPow (i j : Int) : Prop := 0 ≤ j ∧ j ≤ 1000000 ∧ i.natAbs < 2 ^ 64
theorem op_add : OpR X (binaryOp .Add) (rI0 fun i j => .int (i + j)) := opI0 fun _ _ _ _ _ _ _ q => add_int q
theorem op_sub : OpR X (binaryOp .Sub) (rI0 fun i j => .int (i - j)) := opI0 fun _ _ _ _ _ _ _ q => sub_int q
theorem op_modN : OpR X (binaryOp .Mod) (rI (fun _ j => j ≠ 0) fun i j => .int (i.fmod j)) := opI fun _ _ _ _ _ _ _ hc q => mod_int' hc q
theorem op_pow : OpR X (binaryOp .Pow) (rI CPow fun i j => .int (i ^ j.toNat)) := opI fun _ _ _ _ _ _ _ hc q => pow_int_small hc.1 hc.2.1 hc.2.2 q
theorem unI {f : Value → Sem Value} {g : Int → Int}
    (rule : ∀ (i : Int) (t : Tok) (s : Shared) (Q : Value → Shared → Prop) (E : Value → Shared → Prop), Q (.int (g i) s.toks) { s with toks := s.toks + 1 } → wpAny (model X.prog X.w) X.A (f (.int i t)) Q E s) :
    UnR X f (rU fun i => .int (g i)) := by
  intro pins s σ H x v Q I rx h
  obtain ⟨i, rfl, q⟩ := h
  obtain ⟨t, rfl⟩ := rx
  exact rule i t s _ _ ⟨.int (g i), H, I.tok _, ⟨_, rfl⟩, q⟩
theorem un_neg : UnR X (unaryOp .USub) (rU fun i => .int (-i)) := unI fun _ _ _ _ _ q => neg_int q
end
def scal : V → V → Bool
  | .non, .non => true | .non, .int _ => true | .int _, .non => true | .non, .bl _ => true | .bl _, .non => true | .non, .str _ => true | .str _, .non => true
  | .int _, .int _ => true | .bl _, .bl _ => true | .str _, .str _ => true | .byt _, .byt _ => true
  | .int _, .str _ => true | .str _, .int _ => true | .bl _, .str _ => true | .str _, .bl _ => true
  | _, _ => false
def rEq : R2 := fun x y H Q => scal x y = true ∧ Q (.bl (decide (x = y))) H
def rNe : R2 := fun x y H Q => scal x y = true ∧ Q (.bl (!decide (x = y))) H
theorem dec_int {i j : Int} : decide (V.int i = V.int j) = (i == j) := by
  rw [Bool.eq_iff_iff]
  simp
theorem dec_bl {i j : Bool} : decide (V.bl i = V.bl j) = (i == j) := by
  rw [Bool.eq_iff_iff]
  simp
theorem dec_str {i j : Str} : decide (V.str i = V.str j) = (i == j) := by
  rw [Bool.eq_iff_iff]
  simp
theorem dec_byt {i j : Array UInt8} : decide (V.byt i = V.byt j) = (i.toList == j.toList) := by
  rw [Bool.eq_iff_iff]
  cases i
  cases j
  simp
section
variable {X : Cx} {a b c : Expr} {ta tb tc : TE} {pos : Pos}
theorem fin_bl {pins : List (Addr × Obj)} {σ : St} {H : Hp} {s : Shared} {Q : VK} {k k' : Bool} (I : Inv X pins σ H s) (q : Q (.bl k) H) (e : k = k') : EP X pins σ Q (.bool k') s := by
  subst e
  exact ⟨.bl k, H, I, rfl, q⟩
theorem op_eq : OpR X (compareOp .Eq) rEq := by
  intro pins s σ H x y v u Q I rx ry h
  obtain ⟨hs, q⟩ := h
  cases x with
  | non =>
    cases rx
    cases y with
    | non => cases ry; exact PySem.EqNone.eq_none_none (fin_bl I q (by simp))
    | bl j => cases ry; exact PySem.EqNone.eq_none_bool (fin_bl I q (by simp))
    | int j => obtain ⟨t', rfl⟩ := ry; exact PySem.EqNone.eq_none_int (fin_bl I q (by simp))
    | str j => obtain ⟨t', rfl⟩ := ry; exact PySem.EqNone.eq_none_str (fin_bl I q (by simp))
    | _ => exact absurd (show false = true from hs) Bool.false_ne_true
  | bl i =>
    cases rx
    cases y with
    | non => cases ry; exact PySem.EqNone.eq_bool_none (fin_bl I q (by simp))
    | bl j => cases ry; exact eq_bool (fin_bl I q dec_bl)
    | str j => obtain ⟨t', rfl⟩ := ry; exact PySem.EqMixed.eq_bool_str (fin_bl I q (by simp))
    | _ => exact absurd (show false = true from hs) Bool.false_ne_true
  | int i =>
    obtain ⟨t, rfl⟩ := rx
    cases y with
    | non => cases ry; exact PySem.EqNone.eq_int_none (fin_bl I q (by simp))
    | int j => obtain ⟨t', rfl⟩ := ry; exact eq_int (fin_bl I q dec_int)
    | str j => obtain ⟨t', rfl⟩ := ry; exact PySem.EqMixed.eq_int_str (fin_bl I q (by simp))
    | _ => exact absurd (show false = true from hs) Bool.false_ne_true
  | str i =>
    obtain ⟨t, rfl⟩ := rx
    cases y with
    | non => cases ry; exact PySem.EqNone.eq_str_none (fin_bl I q (by simp))
    | bl j => cases ry; exact PySem.EqMixed.eq_str_bool (fin_bl I q (by simp))
    | int j => obtain ⟨t', rfl⟩ := ry; exact PySem.EqMixed.eq_str_int (fin_bl I q (by simp))
    | str j => obtain ⟨t', rfl⟩ := ry; exact eq_str (fin_bl I q dec_str)
    | _ => exact absurd (show false = true from hs) Bool.false_ne_true
  | byt i =>
    obtain ⟨t, rfl⟩ := rx
    cases y with
    | byt j => obtain ⟨t', rfl⟩ := ry; exact PySem.W.eq_bytes (fin_bl I q dec_byt)
    | _ => exact absurd (show false = true from hs) Bool.false_ne_true
  | _ => cases y <;> exact absurd (show false = true from hs) Bool.false_ne_true
theorem op_ne : OpR X (compareOp .NotEq) rNe := by
  intro pins s σ H x y v u Q I rx ry h
  obtain ⟨hs, q⟩ := h
  cases x with
  | non =>
    cases rx
    cases y with
    | non => cases ry; exact PySem.EqNone.ne_none_none (fin_bl I q (by simp))
    | bl j => cases ry; exact PySem.EqNone.ne_none_bool (fin_bl I q (by simp))
    | int j => obtain ⟨t', rfl⟩ := ry; exact PySem.EqNone.ne_none_int (fin_bl I q (by simp))
    | str j => obtain ⟨t', rfl⟩ := ry; exact PySem.EqNone.ne_none_str (fin_bl I q (by simp))
    | _ => exact absurd (show false = true from hs) Bool.false_ne_true
  | bl i =>
    cases rx
    cases y with
    | non => cases ry; exact PySem.EqNone.ne_bool_none (fin_bl I q (by simp))
    | bl j => cases ry; exact ne_bool (fin_bl I q (congrArg not dec_bl))
    | str j => obtain ⟨t', rfl⟩ := ry; exact PySem.EqMixed.ne_bool_str (fin_bl I q (by simp))
    | _ => exact absurd (show false = true from hs) Bool.false_ne_true
  | int i =>
    obtain ⟨t, rfl⟩ := rx
    cases y with
    | non => cases ry; exact PySem.EqNone.ne_int_none (fin_bl I q (by simp))
    | int j => obtain ⟨t', rfl⟩ := ry; exact ne_int (fin_bl I q (congrArg not dec_int))
    | str j => obtain ⟨t', rfl⟩ := ry; exact PySem.EqMixed.ne_int_str (fin_bl I q (by simp))
    | _ => exact absurd (show false = true from hs) Bool.false_ne_true
  | str i =>
    obtain ⟨t, rfl⟩ := rx
    cases y with
    | non => cases ry; exact PySem.EqNone.ne_str_none (fin_bl I q (by simp))
    | bl j => cases ry; exact PySem.EqMixed.ne_str_bool (fin_bl I q (by simp))
    | int j => obtain ⟨t', rfl⟩ := ry; exact PySem.EqMixed.ne_str_int (fin_bl I q (by simp))
    | str j => obtain ⟨t', rfl⟩ := ry; exact ne_str (fin_bl I q (congrArg not dec_str))
    | _ => exact absurd (show false = true from hs) Bool.false_ne_true
  | byt i =>
    obtain ⟨t, rfl⟩ := rx
    cases y with
    | byt j => obtain ⟨t', rfl⟩ := ry; exact PySem.W.ne_bytes (fin_bl I q (congrArg not dec_byt))
    | _ => exact absurd (show false = true from hs) Bool.false_ne_true
  | _ => cases y <;> exact absurd (show false = true from hs) Bool.false_ne_true
theorem op_lt : OpR X (compareOp .Lt) (rI0 fun i j => .bl (decide (i < j))) := opB0 fun _ _ _ _ _ _ _ q => lt_int q
theorem op_le : OpR X (compareOp .LtE) (rI0 fun i j => .bl (decide (i ≤ j))) := opB0 fun _ _ _ _ _ _ _ q => le_int q
theorem op_gt : OpR X (compareOp .Gt) (rI0 fun i j => .bl (decide (j < i))) := opB0 fun _ _ _ _ _ _ _ q => gt_int q
theorem op_ge : OpR X (compareOp .GtE) (rI0 fun i j => .bl (decide (j ≤ i))) := opB0 fun _ _ _ _ _ _ _ q => ge_int q
theorem nomark (b : Expr) {op : CmpOp} (h : op ≠ .In := by decide) (h2 : op ≠ .NotIn := by decide) : behindInMarks op b = false := by
  have e1 : (op == CmpOp.In) = false := by cases op <;> first | rfl | exact absurd rfl h
  have e2 : (op == CmpOp.NotIn) = false := by cases op <;> first | rfl | exact absurd rfl h2
  cases b <;> simp [behindInMarks, e1, e2]
theorem pe_cmpR {op : CmpOp} {r : R2} (ho : OpR X (compareOp op) r) (ha : PE X a ta) (hb : PE X b tb) (hm : behindInMarks op b = false) : PE X (.Compare a [op] [b] pos) (tOp r ta tb) := by
  intro pins s σ H Q I h
  exact wpAny_Compare1 (binT ha hb I h fun v u s2 x y H2 I2 rx ry q => ho pins s2 σ H2 x y v u Q I2 rx ry q) hm
def tTest (t : TE) : TT := fun σ H Q => t σ H fun x H' => ∃ k, x = .bl k ∧ Q k H'
theorem pt_cmpR {op : CmpOp} {r : R2} (ho : OpR X (compareOp op) r) (ha : PE X a ta) (hb : PE X b tb) (hm : behindInMarks op b = false) : PT X (.Compare a [op] [b] pos) (tTest (tOp r ta tb)) := by
  intro pins s σ H Q I h
  refine wpAny_isTrue_Compare1 (thn (ha pins s σ H _ I h) fun v s1 ⟨x, H1, I1, r1, q1⟩ => thn (hb pins s1 σ H1 _ I1 q1) fun u s2 ⟨y, H2, I2, r2, q2⟩ =>
    thn (ho pins s2 σ H2 x y v u _ I2 r1 r2 q2) fun c s3 ⟨z, H3, I3, r3, k, e, q3⟩ => ?_) hm
  subst e
  cases r3
  exact wpAny_truthy_bool ⟨H3, I3, q3⟩
def TruV (K : PySem.W.Frag) (x : V) (H : Hp) (k : Bool) : Prop :=
  match x with
  | .non => k = false
  | .bl b => k = b
  | .int i => k = (i != 0)
  | .str y => y.length ≤ sizeLine ∧ k = ((y.length : Int) != 0)
  | .byt y => y.size ≤ sizeLine ∧ k = ((y.size : Int) != 0)
  | .ref p => (∃ xs, SqL K H p xs ∧ k = !xs.isEmpty) ∨ (∃ xs, SqT K H p xs ∧ k = !xs.isEmpty) ∨ ∃ kvs, H p = some (.dK kvs) ∧ k = !kvs.isEmpty
  | _ => False
theorem isEmpty_kv {κ : Type} {kvs : List (κ × V)} {vs : List (κ × Value)} (r : KV kvs vs) : (!vs.isEmpty) = !kvs.isEmpty := by
  cases r <;> rfl
theorem isEmpty_of {xs : List V} {its : List Value} (r : Vals xs its) : (!its.toArray.isEmpty) = !xs.isEmpty := by
  cases r <;> simp
theorem line63 : (sizeLine : Nat) < 2 ^ 63 := by rw [sizeLine_eq]; decide
theorem tru_ok : TruR X (fun x H Q => ∃ k, TruV X.K x H k ∧ Q k H) := by
  intro pins s σ H x v Q I rx h
  obtain ⟨k, e, q⟩ := h
  have hl := line63
  have hs : sizeLine = 16777216 := sizeLine_eq
  cases x with
  | non =>
    cases rx
    have e' : k = false := e
    subst e'
    exact truthy_none ⟨H, I, q⟩
  | bl b =>
    cases rx
    have e' : k = b := e
    subst e'
    exact wpAny_truthy_bool ⟨H, I, q⟩
  | int i =>
    obtain ⟨t, rfl⟩ := rx
    have e' : k = (i != 0) := e
    subst e'
    exact PySem.P.truthy_int ⟨H, I, q⟩
  | str y =>
    obtain ⟨t, rfl⟩ := rx
    obtain ⟨hy, e'⟩ : y.length ≤ sizeLine ∧ k = ((y.length : Int) != 0) := e
    subst e'
    exact PySem.P.truthy_str (by omega) ⟨H, I.tok _, q⟩
  | byt y =>
    obtain ⟨t, rfl⟩ := rx
    obtain ⟨hy, e'⟩ : y.size ≤ sizeLine ∧ k = ((y.size : Int) != 0) := e
    subst e'
    exact PySem.W.truthy_bytes (by omega) ⟨H, I.tok _, q⟩
  | ref p =>
    cases rx
    have e' : (∃ xs, SqL X.K H p xs ∧ k = !xs.isEmpty) ∨ (∃ xs, SqT X.K H p xs ∧ k = !xs.isEmpty) ∨ ∃ kvs, H p = some (.dK kvs) ∧ k = !kvs.isEmpty := e
    rcases e' with ⟨xs, hx, e'⟩ | ⟨xs, hx, e'⟩ | ⟨kvs, hx, e'⟩
    · subst e'
      obtain ⟨its, r, pl, hz⟩ := I.list hx
      have hlen := r.length
      exact wpAny_truthy_list pl.isList (by simp only [List.size_toArray]; omega) ⟨H, I.tok _, by rw [isEmpty_of r]; exact q⟩
    · subst e'
      obtain ⟨its, r, pl, hz⟩ := I.tuple hx
      have hlen := r.length
      exact truthy_tuple pl (by simp only [List.size_toArray]; omega) ⟨H, I.tok _, by rw [isEmpty_of r]; exact q⟩
    · subst e'
      obtain ⟨hz, hS, vs, r, m⟩ : kvs.length ≤ sizeLine ∧ (p == sysModules) = false ∧ ∃ vs, KV kvs vs ∧ s.heap.DictOf (mixKind X.prog X.w) p vs := I.hok p _ hx
      have hlen : kvs.length = vs.length := Paired.length r
      exact wpAny_truthy_dict hS m (by omega) ⟨H, I.tok _, by rw [isEmpty_kv r]; exact q⟩
  | _ => exact (show False from e).elim
theorem pt_truth (ha : PE X a ta) (he : ∀ whole, isTrue a X.env whole = (do let v ← whole; standAt a.pos; holding [v] (truthy v))) :
    PT X a (fun σ H Q => ta σ H fun x H' => ∃ k, TruV X.K x H' k ∧ Q k H') := by
  intro pins s σ H Q I h
  exact isTrue_plain (thn (ha pins s σ H _ I h) fun v s1 ⟨x, H1, I1, r1, q1⟩ => tru_ok pins s1 σ H1 x v Q I1 r1 q1) (he _)
theorem vals1 {x : V} {us : List Value} (r : Vals [x] us) : ∃ u, us = [u] ∧ RelV x u := by
  cases r with
  | cons r1 r2 => cases r2; exact ⟨_, rfl, r1⟩
theorem vals2 {x y : V} {us : List Value} (r : Vals [x, y] us) : ∃ u w', us = [u, w'] ∧ RelV x u ∧ RelV y w' := by
  cases r with
  | cons r1 r2 =>
    cases r2 with
    | cons r3 r4 => cases r4; exact ⟨_, _, rfl, r1, r3⟩
theorem call_abs : CallR X (.builtin "abs") (fun xs H Q => ∃ i, xs = [.int i] ∧ Q (.int (if i < 0 then -i else i)) H) := by
  intro pins s σ H xs us Q I r h
  obtain ⟨i, rfl, q⟩ := h
  obtain ⟨u, rfl, t, rfl⟩ := vals1 r
  exact call_abs_int fun u tk => ⟨.int (if i < 0 then -i else i), H, I.tok _, ⟨_, rfl⟩, q⟩
theorem call_max2 (hc : X.calm = true) : CallR X (.builtin "max") (fun xs H Q => ∃ i j, xs = [.int i, .int j] ∧ Q (.int (if j > i then j else i)) H) := by
  intro pins s σ H xs us Q I r h
  obtain ⟨i, j, rfl, q⟩ := h
  obtain ⟨u, w', rfl, ⟨t, rfl⟩, ⟨t', rfl⟩⟩ := vals2 r
  refine max_two_ints (I.ok.hd hc) fun h' tk k => ⟨_, H, I.kept k, ?_, q⟩
  by_cases hj : j > i
  · rw [if_pos hj, if_pos hj]; exact ⟨_, rfl⟩
  · rw [if_neg hj, if_neg hj]; exact ⟨_, rfl⟩
theorem call_min2 (hc : X.calm = true) : CallR X (.builtin "min") (fun xs H Q => ∃ i j, xs = [.int i, .int j] ∧ Q (.int (if j < i then j else i)) H) := by
  intro pins s σ H xs us Q I r h
  obtain ⟨i, j, rfl, q⟩ := h
  obtain ⟨u, w', rfl, ⟨t, rfl⟩, ⟨t', rfl⟩⟩ := vals2 r
  refine min_two_ints (I.ok.hd hc) fun h' tk k => ⟨_, H, I.kept k, ?_, q⟩
  by_cases hj : j < i
  · rw [if_pos hj, if_pos hj]; exact ⟨_, rfl⟩
  · rw [if_neg hj, if_neg hj]; exact ⟨_, rfl⟩
theorem call_int1 : CallR X (.type "int") (fun xs H Q => (∃ i, xs = [.int i] ∧ Q (.int i) H) ∨ ∃ k, xs = [.bl k] ∧ Q (.int (if k then 1 else 0)) H) := by
  intro pins s σ H xs us Q I r h
  rcases h with ⟨i, rfl, q⟩ | ⟨k, rfl, q⟩
  · obtain ⟨u, rfl, t, rfl⟩ := vals1 r
    exact call_int_int ⟨.int i, H, I, ⟨_, rfl⟩, q⟩
  · obtain ⟨u, rfl, r1⟩ := vals1 r
    cases r1
    exact call_int_bool ⟨.int (if k then 1 else 0), H, I.tok _, ⟨_, rfl⟩, q⟩
end
structure ObjM (h : Heap) (x dx C : Addr) (mA : Str → Option Value) : Prop where
  obj : h.get? x = some (PySem.W.instObj C dx)
  ns : h.Ns1 dx mA
  ne : dx ≠ x
theorem lookIn_ns {h : Heap} {dx : Addr} {mA : Str → Option Value} (n : h.Ns1 dx mA) : ∃ od, h.get? dx = some od ∧ ∀ name, PySem.W.lookIn name od = some (mA name) := by
  obtain ⟨o, es, ep, ho, hd, hk, _, hm⟩ := n
  refine ⟨o, ho, fun name => ?_⟩
  have e := hm name
  unfold nsFind findBy at e
  rw [← Array.find?_toList] at e
  unfold PySem.W.lookIn
  rw [hd]
  dsimp only
  split
  · rename_i y q
    rw [q] at e
    exact congrArg some e
  · rename_i q
    rw [q] at e
    have a : es.toList.any (·.refKey) = false := by
      rw [List.any_eq_false]
      intro y hy
      obtain ⟨z, t, hkey⟩ := hk y (Array.mem_toList_iff.mp hy)
      simp [DictEntry.refKey, hkey]
    have a' : ¬ es.toList.any (·.refKey) = true := by rw [a]; exact Bool.false_ne_true
    rw [if_neg a']
    exact congrArg some e
theorem ObjM.look {h : Heap} {x dx C : Addr} {mA : Str → Option Value} (I : ObjM h x dx C mA) : ∃ od, PySem.W.InstAt h x (PySem.W.instObj C dx) C (some od) ∧ ∀ name, PySem.W.lookIn name od = some (mA name) :=
  let ⟨od, ho, hl⟩ := lookIn_ns I.ns
  ⟨od, ⟨I.obj, rfl, rfl, ho⟩, hl⟩
section
variable {P : Program} {w : World} {H H' : Hp} {h h' : Heap} {a C dx : Addr} {fs fs' : List (Str × V)}
theorem ins_get (hok : HOk P w H h) (e : H a = some (.ins C dx fs)) : ∃ mA, ObjM h a dx C mA ∧ (∀ f, RelO (fs.lookup f) (mA f)) ∧ PySem.Within mA (fs.map (·.1)) ∧ fs.length ≤ 1000 ∧ H dx = some (.own a) := by
  obtain ⟨d, z, ne, ob, mA, n, r, q⟩ := (show ObjOk P w H h a (.ins C dx fs) from hok a _ e)
  exact ⟨mA, ⟨ob, n, ne⟩, r, q, z, d⟩
end
structure Cls (K : PySem.W.Frag) (C : Addr) : Prop where
  pg : PySem.W.plainGet K C Str.empty = true
  hd : PySem.W.hasDictIn K C = true
  po : PySem.W.plainOver K C = true
  sa : PySem.W.findIn K (.ref C) "__setattr__" = some (some (.builtin "object.__setattr__"))
theorem Cls.get {K : PySem.W.Frag} {C : Addr} (c : Cls K C) (f : Str) : PySem.W.plainGet K C f = true := c.pg
structure Con (K : PySem.W.Frag) (C : Addr) (f : Str) (v : V) (u : Value) : Prop where
  at_ : PySem.W.findIn K (.ref C) f = some (some u)
  rel : RelV v u
  get : PySem.W.specialIn K u "__get__" = some none
  cp : PySem.W.copiedNames.contains f = false
structure Meth (K : PySem.W.Frag) (C : Addr) (m : Str) (f : Addr) : Prop where
  at_ : PySem.W.findIn K (.ref C) m = some (some (.ref f))
  fn : PySem.W.isFn K (.ref f) = true
  kp : PySem.W.keepIn K (.ref f) = true
section
variable {X : Cx} {pins : List (Addr × Obj)} {σ : St} {H : Hp} {s : Shared} {A : Around} {E : Value → Shared → Prop} {Q : Value → Shared → Prop} {c : Value} {b : Bool}
inductive TyOf (K : PySem.W.Frag) (H : Hp) : V → Value → Prop where
  | non : TyOf K H .non (.type "NoneType")
  | bl (x : Bool) : TyOf K H (.bl x) (.type "bool")
  | int (i : Int) : TyOf K H (.int i) (.type "int")
  | str (x : Str) : TyOf K H (.str x) (.type "str")
  | flt (x : UInt64) : TyOf K H (.flt x) (.type "float")
  | lst {a : Addr} {xs : List V} (e : H a = some (.lst xs)) : TyOf K H (.ref a) (.type "list")
  | frz {a : Addr} {o : Obj} {xs : List V} (e : H a = some (.frz o (.lst xs))) : TyOf K H (.ref a) (.type "list")
  | tup {a : Addr} {xs : List V} (e : H a = some (.tup xs)) : TyOf K H (.ref a) (.type "tuple")
  | dK {a : Addr} {kvs : List (Key × V)} (e : H a = some (.dK kvs)) : TyOf K H (.ref a) (.type "dict")
  | dT {a : Addr} {kvs : List (List Key × V)} (e : H a = some (.dT kvs)) : TyOf K H (.ref a) (.type "dict")
  | ins {a C dx : Addr} {fs : List (Str × V)} (e : H a = some (.ins C dx fs)) (cl : Cls K C) (ha : PySem.W.findIn K (.ref C) "__class__" = some (some (.builtin "object.__class__")))
      (hn : PySem.W.specialIn K (.builtin "object.__class__") "__get__" = some (some (.builtin "getset_descriptor.__get__"))) (htk : PySem.W.takesIn K (.builtin "object.__class__") = some true)
      (hm : PySem.W.mroIn K C (.type "object") = some true) : TyOf K H (.ref a) (.ref C)
theorem isinst_ok {x : V} {u t : Value} (I : Inv X pins σ H s) (rx : RelV x u) (ty : TyOf X.K H x t) (e : PySem.W.kitOne X.K t c = some b) (h : ∀ tk, Q (.bool b) { s with toks := tk }) :
    wpAny (model X.prog X.w) A (call (.builtin "isinstance") [u, c]) Q E s := by
  cases ty with
  | non => cases (show u = Value.none from rx); exact PySem.W.kia_one PySem.W.kitx_none I.kIn True.intro e (fun z => nomatch z) h
  | bl y => cases (show u = Value.bool y from rx); exact PySem.W.kia_one PySem.W.kitx_bool I.kIn True.intro e (fun z => nomatch z) h
  | int i => obtain ⟨t, q⟩ := (show ∃ t, u = Value.int i t from rx); cases q; exact PySem.W.kia_one PySem.W.kitx_int I.kIn True.intro e (fun z => nomatch z) h
  | str y => obtain ⟨t, q⟩ := (show ∃ t, u = Value.str y t from rx); cases q; exact PySem.W.kia_one PySem.W.kitx_str I.kIn True.intro e (fun z => nomatch z) h
  | flt y => obtain ⟨t, q⟩ := (show ∃ t, u = Value.float y t from rx); cases q; exact PySem.W.kia_one PySem.W.kitx_float I.kIn True.intro e (fun z => nomatch z) h
  | @lst a xs ea =>
    cases (show u = Value.ref a from rx)
    obtain ⟨_, _, n, _, h1⟩ := (show ObjOk X.prog X.w H s.heap a (.lst xs) from I.hok a _ ea)
    exact PySem.W.kia_one PySem.W.kitx_list I.kIn ⟨_, h1, rfl⟩ e (fun z => nomatch z) h
  | @frz a ob xs ea =>
    cases (show u = Value.ref a from rx)
    obtain ⟨_, _, _, n, _, h1⟩ := (show ObjOk X.prog X.w H s.heap a (.frz ob (.lst xs)) from I.hok a _ ea)
    exact PySem.W.kia_one PySem.W.kitx_list I.kIn ⟨_, h1, rfl⟩ e (fun z => nomatch z) h
  | @tup a xs ea =>
    cases (show u = Value.ref a from rx)
    obtain ⟨_, _, _, p⟩ := (show ObjOk X.prog X.w H s.heap a (.tup xs) from I.hok a _ ea)
    obtain ⟨o, h1, h2, _⟩ := p
    exact PySem.W.kia_one PySem.W.kitx_tuple I.kIn ⟨o, h1, h2⟩ e (fun z => nomatch z) h
  | @dK a kvs ea =>
    cases (show u = Value.ref a from rx)
    obtain ⟨_, _, vs, _, p⟩ := (show ObjOk X.prog X.w H s.heap a (.dK kvs) from I.hok a _ ea)
    obtain ⟨o, es, ep, h1, h2, _⟩ := p
    exact PySem.W.kia_one PySem.W.kitx_dict I.kIn ⟨o, h1, h2.1⟩ e (fun z => nomatch z) h
  | @dT a kvs ea =>
    cases (show u = Value.ref a from rx)
    obtain ⟨_, _, xs, _, o, es, ep, h1, h2, _⟩ := (show ObjOk X.prog X.w H s.heap a (.dT kvs) from I.hok a _ ea)
    exact PySem.W.kia_one PySem.W.kitx_dict I.kIn ⟨o, h1, h2.1⟩ e (fun z => nomatch z) h
  | @ins a C dx fs ea cl ha hn htk hm =>
    cases (show u = Value.ref a from rx)
    obtain ⟨mA, O, _⟩ := ins_get I.hok ea
    obtain ⟨od, J, _⟩ := O.look
    exact PySem.W.kia_one (PySem.W.kitx_own (cl.get _) cl.hd ha hn htk hm) I.kIn J e (fun z => nomatch z) h
end
structure Room (k : Nat) (A : Around) : Prop where
  hd : A.handled = none
  dp : A.depth + 3 * k + 5 < recursionLimit
  un : A.units + 16 * k + 200 < cLine
theorem Room.mono {j k : Nat} {A : Around} (r : Room k A) (h : j ≤ k) : Room j A := ⟨r.hd, by have := r.dp; omega, by have := r.un; omega⟩
theorem Room.deeper {k : Nat} {A : Around} (r : Room (k + 1) A) (env : Env) : Room k (A.deeper env) :=
  ⟨r.hd, by have := r.dp; show A.depth + 1 + 3 * k + 5 < _; omega, by have := r.un; show A.units + 3 + 16 * k + 200 < _; omega⟩
theorem Room.depth {k : Nat} {A : Around} (r : Room k A) : A.depth < recursionLimit := by have := r.dp; omega
theorem Room.units {k : Nat} {A : Around} (r : Room k A) : A.units + 64 < cLine := by have := r.un; omega
def tNil : TA := fun _ H Q => Q [] H
def tCons (ta : TE) (tr : TA) : TA := fun σ H Q => ta σ H fun x H1 => tr σ H1 fun xs H2 => Q (x :: xs) H2
section
variable {X : Cx} {e : Expr} {es : List Expr} {te : TE} {t : TA} {pos : Pos}
theorem pa_nil : PA X [] tNil := fun _ _ _ _ H Q I h => Calls.spliced_nil ⟨[], H, I, .nil, h⟩
theorem pa_cons (ha : PE X e te) (hr : PA X es t) (hs : starEach (e :: es) X.env = (false, eval e X.env) :: starEach es X.env := by rfl) : PA X (e :: es) (tCons te t) := by
  intro pos pins s σ H Q I h
  rw [hs]
  show wpAny _ _ (spliced ((false, eval e X.env) :: backTo pos (starEach es X.env))) _ _ s
  refine Calls.spliced_cons (thn (ha pins s σ H _ I h) fun u s1 ⟨x, H1, I1, r1, q1⟩ => ?_)
  exact thn (hr pos pins s1 σ H1 _ I1 q1) fun us s2 ⟨xs, H2, I2, r2, q2⟩ => ⟨x :: xs, H2, I2, .cons r1 r2, q2⟩
def tTup (t : TA) : TE := fun σ H Q => t σ H fun xs H1 => xs.length ≤ sizeLine ∧ ∀ p, H1 p = none → Q (.ref p) (upd H1 p (.tup xs))
def tLst (t : TA) : TE := fun σ H Q => t σ H fun xs H1 => xs.length ≤ sizeLine ∧ ∀ p, H1 p = none → Q (.ref p) (upd H1 p (.lst xs))
theorem pe_tup {x1} (h : PA X es t) : PE X (.Tuple es x1 pos) (tTup t) := by
  intro pins s σ H Q I hq
  refine wpAny_Tuple_spliced (thn (h pos pins s σ H _ I hq) fun us s1 ⟨xs, H1, I1, r, z, q⟩ => ⟨by rw [← r.length]; exact z, ?_⟩)
  have hf : H1 s1.heap.objs.size = none := I1.hok.fresh (Nat.le_refl _)
  refine ⟨.ref s1.heap.objs.size, upd H1 s1.heap.objs.size (.tup xs), I1.laid (t' := s1.toks) (fun b u e => Heap.get?_push_of_some _ e) (Nat.le_refl _) ?_, rfl, q _ hf⟩
  exact ⟨z, us, r, ⟨_, Heap.get?_push_size _ rfl, rfl, _, rfl⟩⟩
theorem pe_lst (h : PA X es t) : PE X (.List es pos) (tLst t) := by
  intro pins s σ H Q I hq
  refine wpAny_List_spliced (thn (h pos pins s σ H _ I hq) fun us s1 ⟨xs, H1, I1, r, z, q⟩ => ⟨by rw [← r.length]; exact z, ?_⟩)
  have hf : H1 s1.heap.objs.size = none := I1.hok.fresh (Nat.le_refl _)
  refine ⟨.ref s1.heap.objs.size, upd H1 s1.heap.objs.size (.lst xs), I1.laid (t' := s1.toks) (fun b u e => Heap.get?_push_of_some _ e) (Nat.le_refl _) ?_, rfl, q _ hf⟩
  exact ⟨z, us, 0, r, Heap.get?_push_size _ rfl⟩
end
abbrev Sp := List V → Hp → VK → XK → Prop
abbrev CXT := List Env → Hp → Shared → XK → Value → Shared → Prop
structure Env0 (P : Program) (w : World) (K : PySem.W.Frag) (mg : Str → Option Value) (base : Heap) (A : Around) (outer : List Env) (s : Shared) (H : Hp) : Prop where
  frames : A.frames = some outer
  mod : Mod K mg base
  bs : ∀ b o, base.get? b = some o → s.heap.get? b = some o ∧ H b = none
  bsz : base.objs.size ≤ s.heap.objs.size
  funs : s.heap.FunFrames base outer
  frf : ∀ b ∈ frs outer, H b = none
  hok : HOk P w H s.heap
  bare : AllBare s.gens
def CE (outer : List Env) (P : Program) (w : World) (H : Hp) (s : Shared) (Q : VK) (u : Value) (s' : Shared) : Prop :=
  ∃ v H', s'.os = s.os ∧ AllBare s'.gens ∧ Un (frs outer) [] H H' s.heap s'.heap ∧ HOk P w H' s'.heap ∧ RelV v u ∧ Q v H'
def CR (CX : CXT) (outer : List Env) (P : Program) (w : World) (H : Hp) (s : Shared) (Q : VK) (E : XK) (r : Result) (s' : Shared) : Prop :=
  match r with
  | .ok (.ret u) => CE outer P w H s Q u s'
  | .ok _ => False
  | .error e => CX outer H s E e s'
structure FnOk (P : Program) (w : World) (K : PySem.W.Frag) (mg : Str → Option Value) (base : Heap) (CX : CXT) (k : Nat) (f : Addr) (fd : FuncData) (ps : List Str) (sp : Sp) : Prop where
  len : ∀ vs H Q E, sp vs H Q E → vs.length = ps.length
  run : ∀ (A : Around) (outer : List Env) (s : Shared) (H : Hp) (args : Args) (us : List Value) (vs : List V) (Q : VK) (E : XK), Room k A → Env0 P w K mg base A outer s H → BindsTo s fd args (ps.zip us) → Vals vs us → sp vs H Q E →
    codeAny (model P w) A (.call (.ref f) args) (CR CX outer P w H s Q E) s
theorem FnOk.mono {P : Program} {w : World} {K : PySem.W.Frag} {mg : Str → Option Value} {base : Heap} {CX : CXT} {j k : Nat} {f : Addr} {fd : FuncData} {ps : List Str} {sp : Sp} (F : FnOk P w K mg base CX j f fd ps sp) (h : j ≤ k) :
    FnOk P w K mg base CX k f fd ps sp := ⟨F.len, fun A outer s H args us vs Q E hr => F.run A outer s H args us vs Q E (hr.mono h)⟩
theorem FnOk.imp {P : Program} {w : World} {K : PySem.W.Frag} {mg : Str → Option Value} {base : Heap} {CX : CXT} {k : Nat} {f : Addr} {fd : FuncData} {ps : List Str} {sp sp' : Sp} (F : FnOk P w K mg base CX k f fd ps sp)
    (h : ∀ vs H Q E, sp' vs H Q E → sp vs H Q E) : FnOk P w K mg base CX k f fd ps sp' :=
  ⟨fun vs H Q E q => F.len vs H Q E (h _ _ _ _ q), fun A outer s H args us vs Q E hr he hb hv hs => F.run A outer s H args us vs Q E hr he hb hv (h _ _ _ _ hs)⟩
section
variable {X : Cx} {pins : List (Addr × Obj)} {σ : St} {H : Hp} {s s' : Shared}
theorem Inv.env0 (I : Inv X pins σ H s) : Env0 X.prog X.w X.K X.mg X.base X.A X.stack s H :=
  ⟨I.ok.frames, I.ok.mod, I.bs, Nat.le_trans I.ok.bsz I.sz, I.stack, I.stkFree, I.hok, I.bare⟩
theorem Inv.after {Q : VK} {u : Value} (I : Inv X pins σ H s) (h : CE X.stack X.prog X.w H s Q u s') : EP X pins σ Q u s' := by
  obtain ⟨v, H', os, bare, un, hok, r, q⟩ := h
  obtain ⟨hh, g, d, t, os'⟩ := s'
  obtain rfl : os' = s.os := os
  exact ⟨v, H', I.call (h' := hh) (g' := g) (d' := d) (t' := t) (ch := []) un hok bare (fun b z => absurd z (by simp)), r, q⟩
end
def tCall (sp : Sp) (dvs : List V) (E : XK) (t : TA) : TE := fun σ H Q => t σ H fun vs H1 => sp (vs ++ dvs) H1 Q E
def Binds (K : PySem.W.Frag) (fd : FuncData) (ps : List Str) (ds : List Value) : Prop :=
  ∀ (s : Shared) (us : List Value), K.In s.heap → (us ++ ds).length = ps.length → BindsTo s fd ⟨us, []⟩ (ps.zip (us ++ ds))
theorem Binds.all {K : PySem.W.Frag} {fd : FuncData} {ps : List Str} (h : ∀ us : List Value, us.length = ps.length → bindArgs fd ⟨us, []⟩ = pure (ps.zip us)) : Binds K fd ps [] := fun s us _ hl => by
  rw [List.append_nil] at hl ⊢
  exact .of_eq (h us hl)
def Passes (CX : CXT) (X : Cx) (E : XK) : Prop := ∀ (pins : List (Addr × Obj)) (σ : St) (H : Hp) (s : Shared) (e : Value) (s' : Shared), Inv X pins σ H s → CX X.stack H s E e s' → X.xe e s'
section
variable {X : Cx} {CX : CXT} {k : Nat} {f C : Addr} {fd : FuncData} {ps : List Str} {sp : Sp} {dvs : List V} {ds : List Value} {E : XK} {x m : Str} {p pos apos : Pos} {e o : Expr} {es : List Expr} {ta : TE} {t : TA}
theorem run_fn {pins : List (Addr × Obj)} {σ : St} {H : Hp} {s : Shared} {Q : VK} {us : List Value} {vs : List V} (F : FnOk X.prog X.w X.K X.mg X.base CX k f fd ps sp) (hr : Room k X.A) (hb : Binds X.K fd ps ds) (hd : Vals dvs ds) (hx : Passes CX X E)
    (I : Inv X pins σ H s) (r : Vals vs us) (h : sp (vs ++ dvs) H Q E) : wpAny (model X.prog X.w) X.A (call (.ref f) us) (EP X pins σ Q) X.xe s := by
  have r2 : Vals (vs ++ dvs) (us ++ ds) := r.append hd
  have hl : (us ++ ds).length = ps.length := by rw [← r2.length]; exact F.len _ _ _ _ h
  refine wpAny_call (codeAny_mono (F.run X.A X.stack s H ⟨us, []⟩ (us ++ ds) (vs ++ dvs) Q E hr I.env0 (hb s us I.kIn hl) r2 h) fun r s' hq => ?_)
  cases r with
  | error e => exact hx pins σ H s e s' I hq
  | ok fl =>
    cases fl with
    | ret u => exact I.after hq
    | next => exact False.elim hq
    | brk => exact False.elim hq
    | cont => exact False.elim hq
theorem pe_call (F : FnOk X.prog X.w X.K X.mg X.base CX k f fd ps sp) (hr : Room k X.A) (hg : Gl X x) (hm : X.mg x = some (.ref f)) (hk : PySem.W.keepIn X.K (.ref f) = true) (hb : Binds X.K fd ps ds) (hd : Vals dvs ds) (hx : Passes CX X E)
    (ha : PA X (e :: es) t) (hdb : (x == ("__debug__" : Str)) = false := by decide) (he : starEach (e :: es) X.env = (false, eval e X.env) :: starEach es X.env := by rfl) (hpl : (backTo pos (starEach es X.env)).any (·.1) = false := by rfl) :
    PE X (.Call (.Name x p) (e :: es) [] pos) (tCall sp dvs E t) := by
  intro pins s σ H Q I h
  refine wpAny_Call_Name_kw (ld_glob I hg hm ?_ hdb)
  refine PySem.W.callWith_K (h₀ := X.base) I.ok.mod.kin hk (thn (ha pos pins s σ H _ I h) fun us s1 ⟨vs, H1, I1, r, q⟩ => ⟨I1.kIn, ?_⟩) he hpl
  exact run_fn F hr hb hd hx I1 r q
structure Mk (K : PySem.W.Frag) (C f : Addr) : Prop where
  makes : PySem.W.makesIn K C = true
  init : PySem.W.findIn K (.ref C) "__init__" = some (some (.ref f))
  fn : PySem.W.isFn K (.ref f) = true
  kp : PySem.W.keepIn K (.ref C) = true
end
section
variable {X : Cx} {CX : CXT} {k : Nat} {f C : Addr} {fd : FuncData} {ps ks : List Str} {sp : Sp} {E : XK} {x m : Str} {p pos apos kpos : Pos} {e o : Expr} {es : List Expr} {kws : List Keyword} {te ta : TE} {t tk : TA} {nm : Option Str}
structure KBinds (K : PySem.W.Frag) (fd : FuncData) (ps ks : List Str) (g : List Value → List Value → List Value) (gV : List V → List V → List V) : Prop where
  to : ∀ (s : Shared) (us ws : List Value), K.In s.heap → (g us ws).length = ps.length → BindsTo s fd ⟨us, ks.zip ws⟩ (ps.zip (g us ws))
  rel : ∀ {vs : List V} {us : List Value} {zs : List V} {ws : List Value}, Vals vs us → Vals zs ws → Vals (gV vs zs) (g us ws)
variable {g : List Value → List Value → List Value} {gV : List V → List V → List V}
end
structure FnScope (N P : List Str) (sc : Scope) : Prop where
  kind : sc.kind = .function
  co : sc.isCoroutine = false
  gen : sc.isGenerator = false
  nd : N.Nodup
  pre : N.take P.length = P
  par : ∀ x ∈ P, sc.names.lookup x = some .local ∨ sc.names.lookup x = some .cell
  nofree : ∀ y ∈ sc.names, y.2 ≠ .free
theorem bindL_out {kindOf : Str → Option NameKind} {x : Str} : ∀ {binds : List (Str × Value)} {m : Str → Option Value}, (∀ v, (x, v) ∉ binds) → bindL kindOf binds m x = m x
  | [], _, _ => rfl
  | (n, v) :: r, m, h => by
    unfold bindL
    rw [bindL_out fun w hw => h w (List.mem_cons_of_mem _ hw)]
    split
    · have : x ≠ n := by rintro rfl; exact h v List.mem_cons_self
      simp [this]
    · rfl
theorem bindC_out {kindOf : Str → Option NameKind} {x : Str} : ∀ {binds : List (Str × Value)} {m : Str → Option Value}, (∀ v, (x, v) ∉ binds) → bindC kindOf binds m x = m x
  | [], _, _ => rfl
  | (n, v) :: r, m, h => by
    unfold bindC
    rw [bindC_out fun w hw => h w (List.mem_cons_of_mem _ hw)]
    split
    · rfl
    · have : x ≠ n := by rintro rfl; exact h v List.mem_cons_self
      simp [this]
theorem bindL_get {kindOf : Str → Option NameKind} {x : Str} {v : Value} : ∀ {P : List Str} {vs : List Value} {i : Nat} {m : Str → Option Value}, P.Nodup → P[i]? = some x → vs[i]? = some v → kindOf x = some .local →
    bindL kindOf (P.zip vs) m x = some v
  | [], _, _, _, _, h, _, _ => by simp at h
  | _ :: _, [], _, _, _, _, h, _ => by simp at h
  | p :: P, w :: vs, 0, m, nd, h1, h2, hk => by
    simp at h1 h2; subst h1; subst h2
    show bindL kindOf ((p, w) :: P.zip vs) m p = _
    unfold bindL
    rw [bindL_out fun v hv => (List.nodup_cons.mp nd).1 (List.of_mem_zip hv).1, if_pos hk]
    simp
  | p :: P, w :: vs, i + 1, m, nd, h1, h2, hk => by
    show bindL kindOf ((p, w) :: P.zip vs) m x = _
    unfold bindL
    exact bindL_get (i := i) (List.nodup_cons.mp nd).2 (by simpa using h1) (by simpa using h2) hk
theorem bindC_get {kindOf : Str → Option NameKind} {x : Str} {v : Value} : ∀ {P : List Str} {vs : List Value} {i : Nat} {m : Str → Option Value}, P.Nodup → P[i]? = some x → vs[i]? = some v → kindOf x ≠ some .local →
    bindC kindOf (P.zip vs) m x = some v
  | [], _, _, _, _, h, _, _ => by simp at h
  | _ :: _, [], _, _, _, _, h, _ => by simp at h
  | p :: P, w :: vs, 0, m, nd, h1, h2, hk => by
    simp at h1 h2; subst h1; subst h2
    show bindC kindOf ((p, w) :: P.zip vs) m p = _
    unfold bindC
    rw [bindC_out fun v hv => (List.nodup_cons.mp nd).1 (List.of_mem_zip hv).1, if_neg hk]
    simp
  | p :: P, w :: vs, i + 1, m, nd, h1, h2, hk => by
    show bindC kindOf ((p, w) :: P.zip vs) m x = _
    unfold bindC
    exact bindC_get (i := i) (List.nodup_cons.mp nd).2 (by simpa using h1) (by simpa using h2) hk
def start (N : List Str) (vs : List V) : St := vs.map some ++ List.replicate (N.length - vs.length) none
def cxOf (CX : CXT) (P : Program) (w : World) (K : PySem.W.Frag) (mg : Str → Option Value) (base : Heap) (N : List Str) (qual : Str) (scope : Scope) (f : Addr) (cd : Value) (A : Around) (outer : List Env) (s : Shared) (H : Hp) (E : XK) : Cx where
  prog := P
  w := w
  K := K
  mg := mg
  base := base
  A := A.deeper (envOfC qual scope s.heap.objs.size f cd)
  N := N
  s₀ := s
  H₀ := H
  env := envOfC qual scope s.heap.objs.size f cd
  outer := outer
  stack := envOfC qual scope s.heap.objs.size f cd :: outer
  ex := []
  calm := true
  fn := fun _ => true
  pn := []
  xe := fun e s' => wpAny (model P w) (A.deeper (envOfC qual scope s.heap.objs.size f cd)) (leaving (envOfC qual scope s.heap.objs.size f cd) e) (fun _ s'' => CX outer H s E e s'') (fun e' s'' => CX outer H s E e' s'') s'
theorem cell_has {sc : Scope} {n : Nat} {x : Str} (h : sc.names.lookup x = some .cell) : ∃ c, (cellsFrom n sc.names []).lookup x = some c := by
  have q := PySem.W.cellsFrom_some sc.names n [] (.inl h)
  exact Option.isSome_iff_exists.mp q
theorem inv_start {CX : CXT} {P : Program} {w : World} {K : PySem.W.Frag} {mg : Str → Option Value} {base : Heap} {N ps : List Str} {qual : Str} {scope : Scope} {f : Addr} {cd : Value} {A : Around} {outer : List Env} {s s1 : Shared} {H : Hp} {E : XK} {us : List Value} {vs : List V}
    (S : FnScope N ps scope) (hd : A.handled = none) (e0 : Env0 P w K mg base A outer s H) (hl : vs.length = ps.length) (r : Vals vs us)
    (x : InCallC s s.heap.objs.size (bindL (envOfC qual scope s.heap.objs.size f cd).kindOf (ps.zip us) fun _ => none) (cellsFrom (s.heap.objs.size + 1) scope.names []) (bindC (envOfC qual scope s.heap.objs.size f cd).kindOf (ps.zip us) fun _ => none) s1) :
    Inv (cxOf CX P w K mg base N qual scope f cd A outer s H E) [] (start N vs) H s1 := by
  have hpl : ps.length ≤ N.length := by have := congrArg List.length S.pre; rw [List.length_take] at this; omega
  obtain ⟨h1, tk, rfl, hk⟩ := x.done
  have noA : ∀ b : Addr, b ∉ (cxOf CX P w K mg base N qual scope f cd A outer s H E).ex := fun b z => absurd (show b ∈ ([] : List Addr) from z) (by simp)
  refine ⟨⟨e0.mod, S.kind, rfl, rfl, Nat.le_refl _, fun y z c h1 h2 => ?_, fun y hy => ?_, fun y c _ h => ?_, fun _ => hd, Around.frames_deeper e0.frames, .inr ⟨rfl, rfl⟩, fun b z => absurd z (noA b), e0.bs, e0.bsz, fun b _ _ => noA b, fun b z => absurd z (noA b), e0.funs, e0.frf⟩,
    rfl, e0.bare, Un.kept hk, ⟨_, x.toInCall.ns, fun i y v h1 h2 h3 => ?_⟩, fun y c h => ⟨_, x.cell y c h⟩, e0.hok.fresh (Nat.le_refl _), fun y c h => ?_, fun p hp => absurd (show p ∈ ([] : List (Addr × Obj)) from hp) (by simp), e0.hok.kept hk, ?_⟩
  · exact name_of_addr x.apart (PySem.mem_of_lookup h1) (PySem.mem_of_lookup h2)
  · have hy : scope.names.lookup y = some .cell ∨ scope.names.lookup y = some .free := hy
    rcases hy with hy | hy
    · exact cell_has hy
    · exact absurd rfl (S.nofree _ (PySem.mem_of_lookup hy))
  · exact Nat.le_of_lt (x.above y c (PySem.mem_of_lookup h))
  · have hi : i < vs.length := by
      unfold start at h2
      by_cases hi : i < vs.length
      · exact hi
      · rw [List.getElem?_append_right (by simpa using hi)] at h2
        rw [List.getElem?_replicate] at h2
        split at h2 <;> cases h2
    have ha : vs[i]? = some v := by
      unfold start at h2
      rw [List.getElem?_append_left (by simpa using hi), List.getElem?_map] at h2
      cases e : vs[i]? with
      | none => rw [e] at h2; cases h2
      | some a => rw [e] at h2; cases h2; rfl
    obtain ⟨u, hu, rv⟩ := r.get ha
    have hp : ps[i]? = some y := by
      rw [← S.pre, List.getElem?_take_of_lt (by omega)]; exact h1
    have ndP : ps.Nodup := by rw [← S.pre]; exact S.nd.sublist (List.take_sublist _ _)
    refine ⟨u, rv, ?_⟩
    rcases S.par y (List.mem_of_getElem? hp) with k | k
    · exact .inl ⟨k, bindL_get ndP hp hu k⟩
    · obtain ⟨c, e⟩ := cell_has (n := s.heap.objs.size + 1) k
      refine .inr ⟨.inl k, c, e, ?_⟩
      have q := x.cell y c e
      rw [bindC_get ndP hp hu (by show scope.names.lookup y ≠ _; rw [k]; decide)] at q
      exact q
  · exact e0.hok.fresh (Nat.le_of_lt (x.above y c (PySem.mem_of_lookup h)))
  · unfold start
    show _ = N.length
    rw [List.length_append, List.length_map, List.length_replicate]
    omega
theorem fn_of {CX : CXT} {P : Program} {w : World} {K : PySem.W.Frag} {mg : Str → Option Value} {base : Heap} {k : Nat} {f : Addr} {name qual : Str} {params : Arguments} {body : List Stmt} {scope : Scope} {dV kV doc pm cdv ct oc : Value} {an od : Option Addr}
    {osl : Array (Option Value)} {N ps : List Str} {sp : Sp} (lk : K.lookup f = some ⟨oc, od, .func (PySem.W.fnOf name qual params body scope dV kV doc pm an cdv ct), osl⟩) (hcd : PySem.W.codeIn K cdv qual = true) (S : FnScope N ps scope)
    (len : ∀ vs H Q E, sp vs H Q E → vs.length = ps.length)
    (hbody : ∀ (A : Around) (outer : List Env) (s : Shared) (H : Hp) (vs : List V) (Q : VK) (E : XK), Room k (A.deeper (envOfC qual scope s.heap.objs.size f cdv)) → sp vs H Q E →
      ∃ t, PSs (cxOf CX P w K mg base N qual scope f cdv A outer s H E) body t ∧ t { nx := fun _ H' => Q .non H', rt := Q } (start N vs) H) :
    FnOk P w K mg base CX (k + 1) f (PySem.W.fnOf name qual params body scope dV kV doc pm an cdv ct) ps sp := by
  refine ⟨len, fun A outer s H args us vs Q E hr e0 hb r hsp => ?_⟩
  have hl := len _ _ _ _ hsp
  have KX : K.In s.heap := e0.mod.kin.keeps fun b o e => (e0.bs b o e).1
  have lim : s.heap.NoLimit := e0.mod.nolimit.keeps fun b o e => (e0.bs b o e).1
  have hkind : ∀ y ∈ ps.zip us, scope.names.lookup y.1 = some .local ∨ (scope.names.lookup y.1 = some .cell ∧ ((cellsFrom (s.heap.objs.size + 1) scope.names []).lookup y.1).isSome = true) := fun ⟨n, v⟩ hy => by
    rcases S.par n (List.of_mem_zip hy).1 with q | q
    · exact .inl q
    · exact .inr ⟨q, PySem.W.cellsFrom_some _ _ _ (.inl q)⟩
  refine codeAny_call_function hr.depth (KX _ _ lk) rfl S.co S.gen rfl (PySem.W.codeRec_of KX hcd) (hb _ _ _ _ ?_)
  refine wpAny_newFunctionEnv_cells S.kind hkind fun env he s1 x => ?_
  subst he
  refine ⟨lim.keeps x.toInCall.keep, codeAny_func ?_⟩
  obtain ⟨t, ht, hq⟩ := hbody A outer s H vs Q E (hr.deeper _) hsp
  have I : Inv (cxOf CX P w K mg base N qual scope f cdv A outer s H E) [] (start N vs) H s1 := inv_start S hr.hd e0 hl r x
  refine wpAny_mono (ht [] s1 (start N vs) H _ I hq) (fun fl s' hs => ?_) fun e s' hs => hs
  have fin : ∀ {σ' : St} {H' : Hp} {v : V} {u : Value}, Inv (cxOf CX P w K mg base N qual scope f cdv A outer s H E) [] σ' H' s' → RelV v u → Q v H' → CE outer P w H s Q u s' :=
    fun {σ' H' v u} J rv q => ⟨v, H', J.os, J.bare, J.base, J.hok, rv, q⟩
  cases fl with
  | ret u =>
    obtain ⟨v, σ', H', J, rv, q⟩ := hs
    exact fin J rv q
  | next =>
    obtain ⟨σ', H', J, q⟩ := hs
    exact fin (v := V.non) (u := Value.none) J rfl q
  | brk =>
    obtain ⟨_, _, _, q⟩ := hs
    exact False.elim q
  | cont =>
    obtain ⟨_, _, _, q⟩ := hs
    exact False.elim q
section
variable {X : Cx} {x : Str} {p pos : Pos} {e : Expr} {es : List Expr} {t : TA} {id T : String} {r : List V → Hp → VK → Prop}
def tCB (r : List V → Hp → VK → Prop) (t : TA) : TE := fun σ H Q => t σ H fun vs H1 => r vs H1 Q
theorem pe_callB (hc : CallR X (.builtin id) r) (hg : Gl X x) (hm : X.mg x = none) (hv : bootBuiltins x = some (.builtin id)) (ha : PA X (e :: es) t) (hn : x ≠ "__name__" := by decide) (hdb : (x == ("__debug__" : Str)) = false := by decide)
    (he : starEach (e :: es) X.env = (false, eval e X.env) :: starEach es X.env := by rfl) (hpl : (backTo pos (starEach es X.env)).any (·.1) = false := by rfl) : PE X (.Call (.Name x p) (e :: es) [] pos) (tCB r t) := by
  intro pins s σ H Q I h
  refine wpAny_Call_Name_kw (ld_blt I hg hm hv ?_ hn hdb)
  exact PyProof.Rows.callWith_builtin1 (thn (ha pos pins s σ H _ I h) fun us s1 ⟨vs, H1, I1, r1, q1⟩ => hc pins s1 σ H1 vs us Q I1 r1 q1) he hpl
theorem pe_callTy (hc : CallR X (.type T) r) (hg : Gl X x) (hm : X.mg x = none) (hv : bootBuiltins x = some (.type T)) (ha : PA X (e :: es) t) (hn : x ≠ "__name__" := by decide) (hdb : (x == ("__debug__" : Str)) = false := by decide)
    (he : starEach (e :: es) X.env = (false, eval e X.env) :: starEach es X.env := by rfl) (hpl : (backTo pos (starEach es X.env)).any (·.1) = false := by rfl) : PE X (.Call (.Name x p) (e :: es) [] pos) (tCB r t) := by
  intro pins s σ H Q I h
  refine wpAny_Call_Name_kw (ld_blt I hg hm hv ?_ hn hdb)
  exact PyProof.Rows.callWith_type1 (thn (ha pos pins s σ H _ I h) fun us s1 ⟨vs, H1, I1, r1, q1⟩ => hc pins s1 σ H1 vs us Q I1 r1 q1) he hpl
end
end L2
namespace HT
open PySem PyProof.Rows
section
open PySem.SeqAt
open PySem.AutoSeq1 (wpAny_loadPart')
open PySem.MeetsSeq PySem.MeetsSeq2 PySem.MeetsSeq3
end
section
variable {prog : Program} {w : World} {A : Around} {E : Value → Shared → Prop} {s : Shared}
def sIx (n d : Nat) : Option Int → Nat
  | none => d
  | some v => if v < 0 then (v + (n : Int)).toNat else min v.toNat n
end
end HT
namespace L2
open PySem PySem.Spec PyProof.Rows
abbrev TO := St → Hp → (Option Int → Hp → Prop) → Prop
def PO (X : Cx) (e : Option Expr) (t : TO) : Prop :=
  ∀ (pins : List (Addr × Obj)) (s : Shared) (σ : St) (H : Hp) (Q : Option Int → Hp → Prop), Inv X pins σ H s → t σ H Q →
    wpAny (model X.prog X.w) X.A (evalPart e X.env) (fun u s' => ∃ o H', Inv X pins σ H' s' ∧ IsPart u o ∧ Q o H') X.xe s
def tNoPart : TO := fun _ H Q => Q none H
def tPart (t : TE) : TO := fun σ H Q => t σ H fun x H1 => ∃ i, x = .int i ∧ Q (some i) H1
section
variable {X : Cx} {e : Expr} {te : TE} {lo hi : Option Expr} {tl th : TO} {pos p2 : Pos}
theorem po_none : PO X none tNoPart := by
  intro pins s σ H Q I h
  rw [evalPart_none]
  exact wpAny_pure ⟨none, H, I, .none, h⟩
theorem po_some (h : PE X e te) : PO X (some e) (tPart te) := by
  intro pins s σ H Q I hw
  rw [evalPart_some]
  refine thn (h pins s σ H _ I hw) fun u s1 ⟨x, H1, I1, r1, q1⟩ => ?_
  obtain ⟨i, rfl, q⟩ := q1
  obtain ⟨t, rfl⟩ := r1
  exact ⟨some i, H1, I1, .int i t, q⟩
def SlR (X : Cx) (r : V → Option Int → Option Int → Hp → VK → Prop) : Prop :=
  ∀ (pins : List (Addr × Obj)) (s : Shared) (σ : St) (H : Hp) (x : V) (v vl vu : Value) (lo hi : Option Int) (sl : Addr) (Q : VK), Inv X pins σ H s → RelV x v → s.heap.IsSliceOf sl vl vu .none → IsPart vl lo → IsPart vu hi → r x lo hi H Q →
    ∃ T id, typeLookup (.type T) "__getitem__" = pure (some (.builtin id)) ∧ s.TypeIs v T ∧ wpAny (model X.prog X.w) X.A (getItem v (.ref sl)) (EP X pins σ Q) X.xe s
def tSl (r : V → Option Int → Option Int → Hp → VK → Prop) (te : TE) (tl th : TO) : TE := fun σ H Q => te σ H fun x H1 => tl σ H1 fun l H2 => th σ H2 fun u H3 => r x l u H3 Q
theorem pe_slice {r : V → Option Int → Option Int → Hp → VK → Prop} (hr : SlR X r) (he : PE X e te) (hl : PO X lo tl) (hu : PO X hi th) : PE X (.Subscript e (.Slice lo hi none p2) pos) (tSl r te tl th) := by
  intro pins s σ H Q I h
  refine Subscript_ (thn (he pins s σ H _ I h) fun v s1 ⟨x, H1, I1, r1, q1⟩ => ?_)
  refine wpAny_Slice (thn (hl pins s1 σ H1 _ I1 q1) fun vl s2 ⟨l, H2, I2, pl, q2⟩ => thn (hu pins s2 σ H2 _ I2 q2) fun vu s3 ⟨u, H3, I3, pu, q3⟩ => ?_)
  rw [evalPart_none]
  refine wpAny_pure ?_
  have I4 : Inv X pins σ H3 { s3 with heap := s3.heap.push { cls := .type "slice", data := .fields #[vl, vu, .none] } } := I3.kept (t' := s3.toks) fun b ob q => Heap.get?_push_of_some _ q
  obtain ⟨T, id, hT, ht, hg⟩ := hr pins { s3 with heap := s3.heap.push { cls := .type "slice", data := .fields #[vl, vu, .none] } } σ H3 x v vl vu l u s3.heap.objs.size Q I4 r1 (Heap.IsSliceOf.new ..) pl pu q3
  show wpAny (model X.prog X.w) X.A (subscriptTail e (.Slice lo hi none p2) v (.ref s3.heap.objs.size)) (EP X pins σ Q) X.xe { s3 with heap := s3.heap.push { cls := .type "slice", data := .fields #[vl, vu, .none] } }
  exact tail_any (ops := [.ref s3.heap.objs.size, v]) ht hT hg (by with_unfolding_all rfl)
def cutV (xs : List V) (lo hi : Option Int) : List V := (xs.drop (HT.sIx xs.length 0 lo)).take (HT.sIx xs.length xs.length hi - HT.sIx xs.length 0 lo)
theorem cutV_length (xs : List V) (lo hi : Option Int) : (cutV xs lo hi).length ≤ xs.length := by
  unfold cutV
  rw [List.length_take, List.length_drop]
  omega
end
def ixN (n : Nat) (i : Int) : Option Nat := if 0 ≤ i then (if i < n then some i.toNat else none) else if -(n : Int) ≤ i then some (i + n).toNat else none
def atI {α : Type} (xs : List α) (i : Int) : Option α := (ixN xs.length i).bind fun j => xs[j]?
theorem ixN_seq {n : Nat} {i : Int} {j : Nat} (h : ixN n i = some j) : seqIndex? i n = some j ∧ j < n ∧ -(n : Int) ≤ i ∧ i < n := by
  unfold ixN at h
  by_cases h0 : 0 ≤ i
  · rw [if_pos h0] at h
    by_cases h1 : i < n
    · rw [if_pos h1] at h
      have e : i.toNat = j := Option.some.inj h
      exact ⟨by rw [seqIndex_of h0 h1, e], by omega, by omega, h1⟩
    · rw [if_neg h1] at h; cases h
  · rw [if_neg h0] at h
    by_cases h1 : -(n : Int) ≤ i
    · rw [if_pos h1] at h
      have e : (i + n).toNat = j := Option.some.inj h
      exact ⟨by rw [seqIndex_neg (by omega) h1, e], by omega, h1, by omega⟩
    · rw [if_neg h1] at h; cases h
theorem atI_get {α : Type} {xs : List α} {i : Int} {v : α} (h : atI xs i = some v) : ∃ j, seqIndex? i xs.length = some j ∧ xs[j]? = some v ∧ j < xs.length ∧ -(xs.length : Int) ≤ i ∧ i < xs.length := by
  unfold atI at h
  cases e : ixN xs.length i with
  | none => rw [e] at h; cases h
  | some j =>
    rw [e] at h
    obtain ⟨h1, h2, h3, h4⟩ := ixN_seq e
    exact ⟨j, h1, h, h2, h3, h4⟩
theorem atI_nat {α : Type} {xs : List α} {j : Nat} {v : α} (h : xs[j]? = some v) : atI xs (j : Int) = some v := by
  have hj : j < xs.length := (List.getElem?_eq_some_iff.mp h).1
  have e : ixN xs.length (j : Int) = some j := by
    unfold ixN
    rw [if_pos (by omega), if_pos (by omega)]; simp
  unfold atI; rw [e]; exact h
def PlainIx (b : Expr) : Prop := ∀ o i, subscripted b false o i = operate [o, i] (getItem o i)
def IxR (X : Cx) (r : R2) : Prop :=
  ∀ (value slice : Expr) (pins : List (Addr × Obj)) (s : Shared) (σ : St) (H : Hp) (x y : V) (v u : Value) (Q : VK), Inv X pins σ H s → RelV x v → RelV y u → r x y H Q →
    subscripted slice false v u = operate [v, u] (getItem v u) → wpAny (model X.prog X.w) X.A (subscriptTail value slice v u) (EP X pins σ Q) X.xe s
def MtR (X : Cx) (id : String) (r : V → List V → Hp → VK → Prop) : Prop :=
  ∀ (pins : List (Addr × Obj)) (s : Shared) (σ : St) (H : Hp) (x : V) (xs : List V) (v : Value) (us : List Value) (Q : VK), Inv X pins σ H s → RelV x v → Vals xs us → r x xs H Q →
    wpAny (model X.prog X.w) X.A (call (.builtin id) (v :: us)) (EP X pins σ Q) X.xe s
section
variable {X : Cx} {a b : Expr} {ta tb : TE} {pos : Pos}
theorem pe_ix {r : R2} (hr : IxR X r) (ha : PE X a ta) (hb : PE X b tb) (hs : PlainIx b) : PE X (.Subscript a b pos) (tOp r ta tb) := by
  intro pins s σ H Q I h
  exact Subscript_ (binT ha hb I h fun v u s2 x y H2 I2 rx ry q => hr a b pins s2 σ H2 x y v u Q I2 rx ry q (hs _ _))
def rIxL (K : PySem.W.Frag) : R2 := fun x y H Q => ∃ p xs i v, x = .ref p ∧ y = .int i ∧ SqL K H p xs ∧ atI xs i = some v ∧ Q v H
def rIxT (K : PySem.W.Frag) : R2 := fun x y H Q => ∃ p xs i v, x = .ref p ∧ y = .int i ∧ SqT K H p xs ∧ atI xs i = some v ∧ Q v H
theorem ix_list : IxR X (rIxL X.K) := by
  intro value slice pins s σ H x y v u Q I rx ry h hs
  obtain ⟨p, xs, i, z, rfl, rfl, hq, he, q⟩ := h
  cases rx
  obtain ⟨t, rfl⟩ := ry
  obtain ⟨its, r, pl, hz⟩ := I.list hq
  obtain ⟨j, h1, h2, h3, h4, h5⟩ := atI_get he
  obtain ⟨w, ew, rw'⟩ := r.get h2
  have hl := r.length
  have hn := line63
  have fin : EP X pins σ Q w s := ⟨z, H, I, rw', q⟩
  by_cases h0 : 0 ≤ i
  · have hj : i.toNat = j := by
      rw [seqIndex_of h0 h5] at h1
      exact Option.some.inj h1
    exact item_listR pl.isList h0 (by omega) (by rw [hj]; simpa using ew) fin hs
  · have hj : (i + (its.toArray.size : Int)).toNat = j := by
      rw [seqIndex_neg (by omega) h4] at h1
      rw [List.size_toArray, ← hl]
      exact Option.some.inj h1
    exact subscriptTail_builtinR (x := w) pl.isList.typeIs slot_list_getitem.lookup
      (wpAny_getItem_list_neg (Q := fun r s' => r = w ∧ EP X pins σ Q r s') pl.isList (by omega) (by rw [List.size_toArray] <;> omega) (by omega) (by rw [hj]; simpa using ew) ⟨rfl, fin⟩) hs
theorem ix_tup : IxR X (rIxT X.K) := by
  intro value slice pins s σ H x y v u Q I rx ry h hs
  obtain ⟨p, xs, i, z, rfl, rfl, hq, he, q⟩ := h
  cases rx
  obtain ⟨t, rfl⟩ := ry
  obtain ⟨its, r, pl, hz⟩ := I.tuple hq
  obtain ⟨j, h1, h2, h3, h4, h5⟩ := atI_get he
  obtain ⟨w, ew, rw'⟩ := r.get h2
  have hl := r.length
  have hn := line63
  have fin : EP X pins σ Q w s := ⟨z, H, I, rw', q⟩
  exact subscriptTail_builtinR (x := w) pl.typeIs slot_tuple_getitem.lookup
    (getItem_tuple (j := j) (Q := fun r s' => r = w ∧ EP X pins σ Q r s') pl (by omega) (by omega) (by rw [List.size_toArray, ← hl]; exact h1) (by simpa using ew) ⟨rfl, fin⟩) hs
theorem mapSeq_set (its : List Value) (n j : Nat) (u : Value) : Obj.mapSeq (·.setIfInBounds j u) { cls := .type "list", data := .seq its.toArray n } = { cls := .type "list", data := .seq (its.set j u).toArray n } := by
  simp [Obj.mapSeq]
theorem Inv.lst {pins : List (Addr × Obj)} {σ : St} {H : Hp} {s : Shared} {p : Addr} {xs : List V} (I : Inv X pins σ H s) (h : H p = some (.lst xs)) :
    ∃ (its : List Value) (n : Nat), Vals xs its ∧ s.heap.get? p = some { cls := .type "list", data := .seq its.toArray n } ∧ xs.length ≤ sizeLine := by
  obtain ⟨z, its, n, r, e⟩ := I.hok p _ h
  exact ⟨its, n, r, e, z⟩
theorem Inv.lstUpd {pins : List (Addr × Obj)} {σ : St} {H : Hp} {s : Shared} {p : Addr} {xs ys : List V} {its its' : List Value} {n n' : Nat} {f : Obj → Obj} (I : Inv X pins σ H s) (h : H p = some (.lst xs))
    (ho : s.heap.get? p = some { cls := .type "list", data := .seq its.toArray n }) (hf : f { cls := .type "list", data := .seq its.toArray n } = { cls := .type "list", data := .seq its'.toArray n' }) (r : Vals ys its') (hz : ys.length ≤ sizeLine) (t : Nat) :
    Inv X pins σ (upd H p (.lst ys)) { s with heap := s.heap.update p f, toks := t } := by
  have e : (s.heap.update p f).get? p = some { cls := .type "list", data := .seq its'.toArray n' } := by
    rw [Heap.get?_update_self f ho (by rw [hf] <;> rfl), hf]
  refine I.write (x := p) (e := p) (by rw [h]; trivial) (.inl rfl) (fun b u hb q => (Heap.get?_update_other _ _ (Ne.symm hb)).trans q) ⟨_, e⟩ ?_
  exact ⟨hz, its', n', r, e⟩
def rSetL : V → V → V → Hp → (Hp → Prop) → Prop := fun o i v H Q => ∃ p xs k j, o = .ref p ∧ i = .int k ∧ H p = some (.lst xs) ∧ ixN xs.length k = some j ∧ Q (upd H p (.lst (xs.set j v)))
theorem set_list : PSet X rSetL := by
  intro pins s σ H o i v ov iv u Q I ro ri rv h
  obtain ⟨p, xs, k, j, rfl, rfl, hp, hj, q⟩ := h
  cases ro
  obtain ⟨t, rfl⟩ := ri
  obtain ⟨its, n, r, ho, hz⟩ := I.lst hp
  obtain ⟨h1, h2, h3, h4⟩ := ixN_seq hj
  have hl := r.length
  have hn := line63
  have I' : Inv X pins σ (upd H p (.lst (xs.set j v))) { s with heap := s.heap.update p (Obj.mapSeq (·.setIfInBounds j u)) } :=
    I.lstUpd hp ho (mapSeq_set its n j u) (r.set rv j) (by rw [List.length_set]; exact hz) s.toks
  by_cases h0 : 0 ≤ k
  · have hk : k.toNat = j := by
      rw [seqIndex_of h0 h4] at h1
      exact Option.some.inj h1
    exact PySem.W.ki_setAt ho h0 (by omega) (by rw [List.size_toArray, ← hl]; exact h4) (by rw [hk]; exact ⟨_, I', q⟩)
  · have hk : (k + (its.toArray.size : Int)).toNat = j := by
      rw [seqIndex_neg (by omega) h3] at h1
      rw [List.size_toArray, ← hl]
      exact Option.some.inj h1
    exact PySem.W.ki_setBack ho (by omega) (by rw [List.size_toArray, ← hl]; exact h3) (by omega) (by rw [hk]; exact ⟨_, I', q⟩)
theorem slice_bounds (lo hi : Option Int) (n : Nat) : (sliceBounds lo hi none n).1 = ((HT.sIx n 0 lo : Nat) : Int) ∧ (sliceBounds lo hi none n).2.1 = ((HT.sIx n n hi : Nat) : Int) ∧ (sliceBounds lo hi none n).2.2 = 1 := by
  refine ⟨?_, ?_, rfl⟩
  · cases lo with
    | none => simp [sliceBounds, HT.sIx]
    | some i =>
      simp only [sliceBounds, HT.sIx, Option.getD_none, show (1 : Int) > 0 by decide, if_true]
      by_cases h : i < 0
      · simp only [h, if_true] <;> omega
      · simp only [h, if_false] <;> omega
  · cases hi with
    | none => simp [sliceBounds, HT.sIx]
    | some i =>
      simp only [sliceBounds, HT.sIx, Option.getD_none, show (1 : Int) > 0 by decide, if_true]
      by_cases h : i < 0
      · simp only [h, if_true] <;> omega
      · simp only [h, if_false] <;> omega
theorem slicePick_cut (its : List Value) (lo hi : Option Int) : slicePick its.toArray lo hi none = ((its.drop (HT.sIx its.length 0 lo)).take (HT.sIx its.length its.length hi - HT.sIx its.length 0 lo)).toArray := by
  obtain ⟨h1, h2, h3⟩ := slice_bounds lo hi its.toArray.size
  unfold slicePick
  rw [h1, h2, h3]
  simp only [sliceRange_one, pick_run, List.size_toArray] <;> rfl
def rSlL (K : PySem.W.Frag) : V → Option Int → Option Int → Hp → VK → Prop := fun x lo hi H Q => ∃ a xs, x = .ref a ∧ SqL K H a xs ∧ ∀ p, H p = none → Q (.ref p) (upd H p (.lst (cutV xs lo hi)))
theorem sl_list : SlR X (rSlL X.K) := by
  intro pins s σ H x v vl vu lo hi sl Q I rx hs pl pu h
  obtain ⟨a, xs, rfl, hx, q⟩ := h
  cases rx
  obtain ⟨its, r, ht, hz⟩ := I.list hx
  have hlen := r.length
  refine ⟨"list", _, slot_list_getitem.lookup, ht.isList.typeIs, ?_⟩
  refine wpAny_getItem_list_slice ht.isList hs pl pu .none (by simp) ?_ (by rw [List.size_toArray] <;> omega)
  rw [slicePick_cut, ← hlen]
  refine ⟨.ref s.heap.objs.size, _, I.laid (t' := s.toks) (o := .lst (cutV xs lo hi)) (fun b ob q => Heap.get?_push_of_some _ q) (Nat.le_refl _) ?_, rfl, q _ (I.hok.fresh (Nat.le_refl _))⟩
  exact ⟨Nat.le_trans (cutV_length xs lo hi) hz, _, 0, (r.drop (HT.sIx xs.length 0 lo)).take (HT.sIx xs.length xs.length hi - HT.sIx xs.length 0 lo), Heap.get?_push_size _ rfl⟩
def flatV : V → Bool
  | .non => true
  | .bl _ => true
  | .int _ => true
  | .str _ => true
  | _ => false
def eqV : V → V → Bool
  | .non, .non => true
  | .bl a, .bl b => a == b
  | .bl a, .int b => (if a then 1 else 0) == b
  | .int a, .bl b => a == (if b then 1 else 0)
  | .int a, .int b => a == b
  | .str a, .str b => a == b
  | _, _ => false
theorem eqAt_V {A : Around} {s : Shared} {y x : V} {u v : Value} (ry : RelV y u) (rx : RelV x v) (fy : flatV y = true) (fx : flatV x = true) : SeqAt.EqAt A s u v (eqV y x) := by
  cases y with
  | non =>
    cases ry
    cases x with
    | non => cases rx; exact SeqAt.EqAt.same _
    | bl b => cases rx; exact SeqAt.EqAt.none_bool b
    | int b => obtain ⟨t, rfl⟩ := rx; exact SeqAt.EqAt.none_int b t
    | str b => obtain ⟨t, rfl⟩ := rx; exact SeqAt.EqAt.none_str b t
    | _ => exact absurd (show false = true from fx) Bool.false_ne_true
  | bl a =>
    cases ry
    cases x with
    | non => cases rx; exact SeqAt.EqAt.bool_none a
    | bl b => cases rx; exact SeqAt.EqAt.bool_bool a b
    | int b => obtain ⟨t, rfl⟩ := rx; exact SeqAt.EqAt.bool_int a b t
    | str b => obtain ⟨t, rfl⟩ := rx; exact SeqAt.EqAt.bool_str a b t
    | _ => exact absurd (show false = true from fx) Bool.false_ne_true
  | int a =>
    obtain ⟨t', rfl⟩ := ry
    cases x with
    | non => cases rx; exact SeqAt.EqAt.int_none a t'
    | bl b => cases rx; exact SeqAt.EqAt.int_bool a t' b
    | int b => obtain ⟨t, rfl⟩ := rx; exact SeqAt.EqAt.int_int a t' b t
    | str b => obtain ⟨t, rfl⟩ := rx; exact SeqAt.EqAt.int_str a t' b t
    | _ => exact absurd (show false = true from fx) Bool.false_ne_true
  | str a =>
    obtain ⟨t', rfl⟩ := ry
    cases x with
    | non => cases rx; exact SeqAt.EqAt.str_none a t'
    | bl b => cases rx; exact SeqAt.EqAt.str_bool a t' b
    | int b => obtain ⟨t, rfl⟩ := rx; exact SeqAt.EqAt.str_int a t' b t
    | str b => obtain ⟨t, rfl⟩ := rx; exact SeqAt.EqAt.str_str a t' b t
    | _ => exact absurd (show false = true from fx) Bool.false_ne_true
  | _ => exact absurd (show false = true from fy) Bool.false_ne_true
def eqU (x : V) (u : Value) : Bool := match u with
  | .none => eqV .non x
  | .bool b => eqV (.bl b) x
  | .int i _ => eqV (.int i) x
  | .str z _ => eqV (.str z) x
  | _ => false
theorem eqU_of {x y : V} {u : Value} (r : RelV y u) (f : flatV y = true) : eqU x u = eqV y x := by
  cases y with
  | non => cases r; rfl
  | bl b => cases r; rfl
  | int i => obtain ⟨t, rfl⟩ := r; rfl
  | str z => obtain ⟨t, rfl⟩ := r; rfl
  | _ => exact absurd (show false = true from f) Bool.false_ne_true
theorem mem_eqAt {A : Around} {s : Shared} {x : V} {v : Value} (rx : RelV x v) (fx : flatV x = true) : ∀ {xs : List V} {us : List Value}, Vals xs us → xs.all flatV = true → ∀ u ∈ us, SeqAt.EqAt A s u v (eqU x u)
  | _, _, .nil, _ => fun u hu => by cases hu
  | y :: xs, u :: us, .cons r t, f => fun u' hu => by
    rw [List.all_cons, Bool.and_eq_true] at f
    rcases List.mem_cons.mp hu with rfl | hu
    · rw [eqU_of r f.1]; exact eqAt_V r rx f.1 fx
    · exact mem_eqAt rx fx t f.2 u' hu
theorem call_len_seq : CallR X (.builtin "len") (fun xs H Q => ∃ p ys, xs = [.ref p] ∧ (SqL X.K H p ys ∨ SqT X.K H p ys) ∧ Q (.int ys.length) H) := by
  intro pins s σ H xs us Q I r h
  obtain ⟨p, ys, rfl, hq, q⟩ := h
  obtain ⟨u, rfl, rx⟩ := vals1 r
  cases rx
  have hn := line63
  rcases hq with hq | hq
  · obtain ⟨its, r', pl, hz⟩ := I.list hq
    have hlen := r'.length
    exact Calls.call_len_list pl.isList (by simp only [List.size_toArray] <;> omega) ⟨.int ys.length, H, I.tok _, ⟨s.toks + 1, by rw [List.size_toArray, hlen]⟩, q⟩
  · obtain ⟨its, r', pl, hz⟩ := I.tuple hq
    have hlen := r'.length
    exact len_tuple pl (by simp only [List.size_toArray] <;> omega) ⟨.int ys.length, H, I.tok _, ⟨s.toks + 1, by rw [List.size_toArray, hlen]⟩, q⟩
theorem call_list_of : CallR X (.type "list") (fun xs H Q => ∃ p ys, xs = [.ref p] ∧ (SqL X.K H p ys ∨ SqT X.K H p ys) ∧ ∀ l, H l = none → Q (.ref l) (upd H l (.lst ys))) := by
  intro pins s σ H xs us Q I r h
  obtain ⟨p, ys, rfl, hq, q⟩ := h
  obtain ⟨u, rfl, rx⟩ := vals1 r
  cases rx
  have fin : ∀ (its : List Value), Vals ys its → ys.length ≤ sizeLine → ∀ (h' : Heap) (c' : Nat), (∀ b o', s.heap.get? b = some o' → h'.get? b = some o') →
      h'.get? s.heap.objs.size = some { cls := .type "list", dict := none, data := .seq its.toArray c', slots := #[] } → EP X pins σ Q (.ref s.heap.objs.size) { s with heap := h' } := fun its r' hz h' c' kp e =>
    ⟨.ref s.heap.objs.size, _, I.laid (t' := s.toks) kp (Nat.le_refl _) (show ObjOk X.prog X.w _ h' _ (.lst ys) from ⟨hz, its, c', r', e⟩), rfl, q _ (I.hok.fresh (Nat.le_refl _))⟩
  rcases hq with hq | hq
  · obtain ⟨its, r', pl, hz⟩ := I.list hq
    have hlen := r'.length
    obtain ⟨o, ho, hc, n, hd⟩ := pl.isList
    exact call_list_seq p (.inl rfl) ho hc hd (fun h' c' kp e => fin its r' hz h' c' kp e) (by simp only [List.size_toArray] <;> omega)
  · obtain ⟨its, r', pl, hz⟩ := I.tuple hq
    have hlen := r'.length
    obtain ⟨o, ho, hc, n, hd⟩ := pl
    exact call_list_seq p (.inr rfl) ho hc hd (fun h' c' kp e => fin its r' hz h' c' kp e) (by simp only [List.size_toArray] <;> omega)
def tyV (K : PySem.W.Frag) (T : String) (x : V) (H : Hp) : Prop := match x with
  | .str _ => T = "str"
  | .int _ => T = "int"
  | .ref p => (T = "list" ∧ ∃ xs, SqL K H p xs) ∨ (T = "tuple" ∧ ∃ o, K.lookup p = some o ∧ o.cls = .type "tuple" ∧ o.dict = none) ∨
      (T = "dict" ∧ ((∃ kvs, H p = some (.dK kvs)) ∨ ∃ kvs, H p = some (.dT kvs))) ∨ (T = "set" ∧ ∃ S n, H p = some (.set S n))
  | _ => False
theorem tyV_is {pins : List (Addr × Obj)} {σ : St} {H : Hp} {s : Shared} {T : String} {x : V} {v : Value} (I : Inv X pins σ H s) (r : RelV x v) (ty : tyV X.K T x H) :
    s.TypeIs v T ∧ ∀ a, v = .ref a → ∃ ob, s.heap.get? a = some ob ∧ ob.dict = none := by
  cases x with
  | str z =>
    obtain ⟨t, rfl⟩ := r
    cases (show T = "str" from ty)
    exact ⟨typeIs_str s z t, fun _ e => nomatch e⟩
  | int i =>
    obtain ⟨t, rfl⟩ := r
    cases (show T = "int" from ty)
    exact ⟨typeIs_int s i t, fun _ e => nomatch e⟩
  | ref p =>
    cases r
    rcases ty with ⟨rfl, xs, hq⟩ | ⟨rfl, o, hk, hc, hd⟩ | ⟨rfl, hk⟩ | ⟨rfl, S, n, hk⟩
    · obtain ⟨its, _, pl, _⟩ := I.list hq
      refine ⟨pl.isList.typeIs, fun a e => ?_⟩
      cases e
      obtain ⟨o, n, e, c, hd, _⟩ := pl
      exact ⟨o, e, hd⟩
    · refine ⟨⟨o, I.kIn p o hk, hc⟩, fun a e => ?_⟩
      cases e
      exact ⟨o, I.kIn _ o hk, hd⟩
    · have z : ∃ o, s.heap.get? p = some o ∧ o.ExactDict := by
        rcases hk with ⟨kvs, hk⟩ | ⟨kvs, hk⟩
        · obtain ⟨_, _, _, _, o, _, _, e, ex, _⟩ := I.hok p _ hk
          exact ⟨o, e, ex⟩
        · obtain ⟨_, _, _, _, o, _, _, e, ex, _⟩ := I.hok p _ hk
          exact ⟨o, e, ex⟩
      obtain ⟨o, e, ex⟩ := z
      refine ⟨⟨o, e, ex.1⟩, fun a e2 => ?_⟩
      cases e2
      exact ⟨o, e, ex.2.1⟩
    · obtain ⟨o, _, _, _, e, ex, _⟩ := I.hok p _ hk
      refine ⟨⟨o, e, ex.1⟩, fun a e2 => ?_⟩
      cases e2
      exact ⟨o, e, ex.2.1⟩
  | _ => exact False.elim ty
def tBM0 (K : PySem.W.Frag) (T : String) (r : V → List V → Hp → VK → Prop) (to : TE) : TE := fun σ H Q => to σ H fun x H1 => tyV K T x H1 ∧ r x [] H1 Q
def tBM (K : PySem.W.Frag) (T : String) (r : V → List V → Hp → VK → Prop) (to : TE) (t : TA) : TE := fun σ H Q => to σ H fun x H1 => tyV K T x H1 ∧ t σ H1 fun xs H2 => r x xs H2 Q
variable {o e : Expr} {es : List Expr} {to : TE} {t : TA} {name : Str} {apos cpos : Pos} {T id : String} {r : V → List V → Hp → VK → Prop}
theorem pe_bm0 (pa : PlainAttrs T) (slot : Slot T name id) (hty : typeOf (.builtin id) = pure (.type "method_descriptor")) (hm : MtR X id r) (ho : PE X o to)
    (hbase : attributeBase o name X.env (eval o X.env) = eval o X.env := by rfl) (hline : (apos.endLine == cpos.line) = true := by rfl) : PE X (.Call (.Attribute o name apos) [] [] cpos) (tBM0 X.K T r to) := by
  intro pins s σ H Q I h
  refine wpAny_Call_method0_late hbase hline (thn (ho pins s σ H _ I h) fun v s1 ⟨x, H1, I1, r1, ty, q1⟩ => ?_)
  obtain ⟨h1, h2⟩ := tyV_is I1 r1 ty
  exact ⟨T, id, pa, slot, hty, h1, h2, Calls.callWith_builtin rfl (PySem.evalArgs_none (hm pins s1 σ H1 x [] v [] Q I1 r1 .nil q1))⟩
theorem pe_bm (pa : PlainAttrs T) (slot : Slot T name id) (hty : typeOf (.builtin id) = pure (.type "method_descriptor")) (hm : MtR X id r) (ho : PE X o to) (ha : PA X (e :: es) t)
    (hbase : attributeBase o name X.env (eval o X.env) = eval o X.env := by rfl)
    (hfew : ((backTo cpos (starEach (e :: es) X.env)).all (fun x => !x.1) && (backToKw cpos (keywordEach [] X.env)).all (fun x => x.1.isSome)
      && decide ((e :: es).length + ([] : List Keyword).length + (if ([] : List Keyword).isEmpty then 0 else 1) < 30)) = true := by rfl)
    (hline : (apos.endLine == cpos.line) = true := by rfl) (hs : starEach (e :: es) X.env = (false, eval e X.env) :: starEach es X.env := by rfl) (hplain : (backTo cpos (starEach es X.env)).any (·.1) = false := by rfl) :
    PE X (.Call (.Attribute o name apos) (e :: es) [] cpos) (tBM X.K T r to t) := by
  intro pins s σ H Q I h
  refine wpAny_Call_method_late hbase hfew hline rfl (thn (ho pins s σ H _ I h) fun v s1 ⟨x, H1, I1, r1, ty, q1⟩ => ?_)
  obtain ⟨h1, h2⟩ := tyV_is I1 r1 ty
  refine ⟨T, id, pa, slot, hty, h1, h2, ?_⟩
  have hA := ha cpos pins s1 σ H1 _ I1 q1
  rw [hs] at hA ⊢
  refine Calls.callWith_builtin (by show (false || (backTo cpos (starEach es X.env)).any (·.1)) = false; rw [hplain] <;> rfl) (Calls.evalArgs_plain ?_)
  exact thn hA fun us s2 ⟨vs, H2, I2, r2, q2⟩ => hm pins s2 σ H2 x vs v us Q I2 r1 r2 q2
/- xs.append(e), list.index on a module's tuple .. are MtR facts of 06m -/
end
def MtM (X : Cx) (id : String) (r : V → List V → Hp → VK → Prop) : Prop :=
  ∀ (pins : List (Addr × Obj)) (s : Shared) (σ : St) (H : Hp) (x : V) (xs : List V) (v : Value) (us : List Value) (Q : VK), Inv X pins σ H s → RelV x v → Vals xs us → r x xs H Q →
    wpAny (model X.prog X.w) X.A (call (.builtin id) (v :: us)) (EP X pins σ Q) X.xe s
theorem Vals.one : ∀ {x : V} {us : List Value}, Vals [x] us → ∃ u, us = [u] ∧ RelV x u
  | _, _, .cons r .nil => ⟨_, rfl, r⟩
theorem Vals.two : ∀ {x y : V} {us : List Value}, Vals [x, y] us → ∃ u v, us = [u, v] ∧ RelV x u ∧ RelV y v
  | _, _, _, .cons r (.cons q .nil) => ⟨_, _, rfl, r, q⟩
theorem Vals.zero : ∀ {us : List Value}, Vals [] us → us = []
  | _, .nil => rfl
theorem Vals.dropLast {xs : List V} {us : List Value} (h : Vals xs us) : Vals xs.dropLast us.dropLast := by
  induction h with
  | nil => exact .nil
  | cons r t ih =>
    cases t with
    | nil => exact .nil
    | cons q t' => exact .cons r ih
theorem Vals.rep {xs : List V} {us : List Value} (h : Vals xs us) : ∀ k : Nat, Vals (List.replicate k xs).flatten (List.replicate k us).flatten
  | 0 => .nil
  | k + 1 => by
    rw [List.replicate_succ, List.replicate_succ, List.flatten_cons, List.flatten_cons]
    exact Vals.append h (Vals.rep h k)
theorem erase_last {α : Type} (l : List α) : l.eraseIdx (l.length - 1) = l.dropLast := by
  induction l with
  | nil => rfl
  | cons a r ih =>
    cases r with
    | nil => rfl
    | cons b r =>
      have e : (a :: b :: r).length - 1 = ((b :: r).length - 1) + 1 := by
        have h1 : (a :: b :: r).length = r.length + 2 := rfl
        have h2 : (b :: r).length = r.length + 1 := rfl
        omega
      rw [e, List.eraseIdx_cons_succ, ih]
      all_goals rfl
theorem foldl_rep (its : List Value) : ∀ (k : Nat) (acc : List Value),
    List.foldl (fun x1 x2 => x1 ++ x2) acc.toArray (List.replicate k its.toArray) = (acc ++ (List.replicate k its).flatten).toArray
  | 0, acc => by simp
  | k + 1, acc => by
    have e : acc.toArray ++ its.toArray = (acc ++ its).toArray := by simp
    have e2 : (acc ++ its) ++ (List.replicate k its).flatten = acc ++ (List.replicate (k + 1) its).flatten := by
      rw [List.replicate_succ, List.flatten_cons, List.append_assoc]
    rw [← e2, ← foldl_rep its k (acc ++ its), ← e, List.replicate_succ, List.foldl_cons]
section
variable {X : Cx} {pins : List (Addr × Obj)} {σ : St} {H : Hp} {s : Shared} {l b : Addr} {xs ys zs : List V}
theorem Inv.lset {its its' : List Value} {n : Nat} {f : Array Value → Array Value} {t' : Nat} (I : Inv X pins σ H s) (hH : H l = some (.lst xs))
    (e : s.heap.get? l = some { cls := .type "list", data := .seq its.toArray n }) (hf : f its.toArray = its'.toArray) (hv : Vals ys its') (hz : ys.length ≤ sizeLine) :
    Inv X pins σ (upd H l (.lst ys)) { s with heap := s.heap.update l (Obj.mapSeq f), toks := t' } := by
  have q := PySem.IsL.update e f
  rw [hf] at q
  refine I.write (x := l) (e := l) (by rw [hH]; exact trivial) (.inl rfl) (fun b' u hb hu => (Heap.get?_update_other s.heap (Obj.mapSeq f) (Ne.symm hb)).trans hu) ⟨_, q⟩ ?_
  exact ⟨hz, its', _, hv, q⟩
theorem Inv.lnew {its : List Value} {t' : Nat} (I : Inv X pins σ H s) (hv : Vals ys its) (hz : ys.length ≤ sizeLine) :
    Inv X pins σ (upd H s.heap.objs.size (.lst ys)) { s with heap := s.heap.push { cls := .type "list", data := .seq its.toArray }, toks := t' } :=
  I.laid (fun _ _ q => Heap.get?_push_of_some _ q) (Nat.le_refl _) ⟨hz, its, 0, hv, Heap.get?_push_size _ rfl⟩
theorem Inv.fresh (I : Inv X pins σ H s) : H s.heap.objs.size = none := I.hok.fresh (Nat.le_refl _)
theorem Inv.lstM (I : Inv X pins σ H s) (hH : H l = some (.lst xs)) : xs.length ≤ sizeLine ∧ ∃ (its : List Value) (n : Nat), Vals xs its ∧ xs.length = its.length ∧ s.heap.get? l = some { cls := .type "list", data := .seq its.toArray n } := by
  obtain ⟨z, its, n, r, e⟩ := I.hok l _ hH
  exact ⟨z, its, n, r, r.length, e⟩
theorem notLongL {n : Nat} (h : n ≤ sizeLine) : Builtin.List.listTooLong n = false := by
  unfold Builtin.List.listTooLong
  exact decide_eq_false (by omega)
end
section
variable {X : Cx}
def rAppend : V → List V → Hp → VK → Prop := fun x vs H Q => ∃ l xs y, x = .ref l ∧ vs = [y] ∧ H l = some (.lst xs) ∧ xs.length < sizeLine ∧ Q .non (upd H l (.lst (xs ++ [y])))
theorem mt_append : MtM X "list.append" rAppend := by
  intro pins s σ H x vs v us Q I rx rv h
  obtain ⟨l, xs, y, rfl, rfl, hH, hz, q⟩ := h
  cases rx
  obtain ⟨u, rfl, ru⟩ := rv.one
  obtain ⟨z, its, n, r, hl, e⟩ := I.lstM hH
  refine call_meets F.slot_list_append ⟨_, e, rfl⟩ F.entry_list_append (F.args_list_append_2 _ _) (PySem.list_append l its.toArray n u (by rw [List.size_toArray]; omega)) ⟨e, ?_⟩
  refine ⟨.non, _, I.lset (its' := its ++ [u]) hH e (by simp) (r.append (.cons ru .nil)) ?_, rfl, q⟩
  rw [List.length_append, List.length_singleton]
  omega
def rExtend : V → List V → Hp → VK → Prop := fun x vs H Q => ∃ l b xs zs, x = .ref l ∧ vs = [.ref b] ∧ H l = some (.lst xs) ∧ H b = some (.lst zs) ∧ xs.length + zs.length ≤ sizeLine ∧ Q .non (upd H l (.lst (xs ++ zs)))
def rPop : V → List V → Hp → VK → Prop := fun x vs H Q => ∃ l xs y, x = .ref l ∧ vs = [] ∧ H l = some (.lst xs) ∧ xs[xs.length - 1]? = some y ∧ Q y (upd H l (.lst xs.dropLast))
theorem mt_pop : MtM X "list.pop" rPop := by
  intro pins s σ H x vs v us Q I rx rv h
  obtain ⟨l, xs, y, rfl, rfl, hH, hy, q⟩ := h
  cases rx
  have hus := rv.zero
  subst hus
  obtain ⟨z, its, n, r, hl, e⟩ := I.lstM hH
  obtain ⟨u, hu, ru⟩ := r.get hy
  have hy' : its.toArray[its.toArray.size - 1]? = some u := by
    show its.toArray[its.length - 1]? = some u
    rw [← Array.getElem?_toList, ← hl]
    exact hu
  refine call_meets F.slot_list_pop ⟨_, e, rfl⟩ F.entry_list_pop (F.args_list_pop_1 _) (MeetsSeq.list_pop_last l its.toArray n u hy' (by rw [List.size_toArray]; omega)) ⟨e, ?_⟩
  refine ⟨y, _, I.lset (its' := its.dropLast) hH e ?_ r.dropLast ?_, ru, q⟩
  · show its.toArray.eraseIdxIfInBounds (its.toArray.size - 1) = its.dropLast.toArray
    rw [List.size_toArray, List.eraseIdxIfInBounds_toArray, erase_last]
  · rw [List.length_dropLast]
    omega
def rCat : R2 := fun x y H Q => ∃ l b xs zs, x = .ref l ∧ y = .ref b ∧ H l = some (.lst xs) ∧ H b = some (.lst zs) ∧ xs.length + zs.length ≤ sizeLine ∧ ∀ p, H p = none → Q (.ref p) (upd H p (.lst (xs ++ zs)))
theorem op_cat : OpR X (binaryOp .Add) rCat := by
  intro pins s σ H x y v u Q I rx ry h
  obtain ⟨l, b, xs, zs, rfl, rfl, hH, hB, hz, q⟩ := h
  cases rx
  cases ry
  obtain ⟨z, its, n, r, hl, e⟩ := I.lstM hH
  obtain ⟨z2, its2, n2, r2, hl2, e2⟩ := I.lstM hB
  refine PySem.P.add_list e e2 ?_ (by rw [List.size_toArray, List.size_toArray]; omega)
  have ea : its.toArray ++ its2.toArray = (its ++ its2).toArray := by simp
  rw [ea]
  exact ⟨.ref _, _, I.lnew (t' := s.toks) (r.append r2) (by rw [List.length_append]; omega), rfl, q _ I.fresh⟩
def rRep : R2 := fun x y H Q => ∃ l k xs, x = .ref l ∧ y = .int k ∧ H l = some (.lst xs) ∧ -(2 ^ 63) ≤ k ∧ k < 2 ^ 63 ∧ xs.length * k.toNat ≤ sizeLine ∧
  ∀ p, H p = none → Q (.ref p) (upd H p (.lst (List.replicate k.toNat xs).flatten))
theorem len_rep {α : Type} (xs : List α) (k : Nat) : (List.replicate k xs).flatten.length = k * xs.length := by
  induction k with
  | zero => simp
  | succ k ih => rw [List.replicate_succ, List.flatten_cons, List.length_append, ih, Nat.succ_mul, Nat.add_comm]
theorem op_rep : OpR X (binaryOp .Mult) rRep := by
  intro pins s σ H x y v u Q I rx ry h
  obtain ⟨l, k, xs, rfl, rfl, hH, h1, h2, hz, q⟩ := h
  cases rx
  obtain ⟨t, rfl⟩ := ry
  obtain ⟨z, its, n, r, hl, e⟩ := I.lstM hH
  have hlen : its.toArray.size * k.toNat ≤ sizeLine := by rw [List.size_toArray, ← hl]; exact hz
  have hcap : ¬ its.toArray.size * k.toNat > (2 ^ 63 - 1) / 8 := by
    have : (sizeLine : Nat) ≤ (2 ^ 63 - 1) / 8 := by decide
    omega
  have hfit : ¬ (!Builtin.List.listFitsIndex k) = true := by
    rw [fitsIndex_both h1 h2]
    exact Bool.false_ne_true
  have hlong : ¬ Builtin.List.listTooLong (its.toArray.size * k.toNat) = true := by
    rw [notLongL hlen]
    exact Bool.false_ne_true
  have hnew : List.foldl (fun x1 x2 => x1 ++ x2) #[] (List.replicate (if its.toArray.isEmpty = true then 0 else k.toNat) its.toArray) = (List.replicate k.toNat its).flatten.toArray := by
    have f0 : ∀ m : Nat, List.foldl (fun x1 x2 => x1 ++ x2) #[] (List.replicate m its.toArray) = (List.replicate m its).flatten.toArray := fun m => by
      have := foldl_rep its m []
      rw [List.nil_append] at this
      exact this
    rw [f0]
    cases its with
    | nil => simp
    | cons a r' => rw [if_neg (by simp)]
  refine wpAny_binaryOp_repeat_ref (T := "list") (U := "int") (by decide) ⟨_, e, rfl⟩ (fun s' => typeIs_int s' k t) noFill_list_mul F.fills_int_mul F.slot_int_rmul repeat_list F.slot_int_index.lookup
    (call_meets F.slot_int_rmul (typeIs_int s k t) F.entry_int_rmul (F.args_int_rmul_2 _ _) (int___rmul___int_list k t l its.toArray n)
      ⟨e, rfl, ⟨_, e, rfl⟩, call_meets F.slot_list_mul ⟨_, e, rfl⟩ F.entry_list_mul (F.args_list_mul_2 _ _) (AutoListH.list___mul___list_int_3 l its.toArray n k t hfit hcap hlong) ⟨e, ?_⟩⟩)
  rw [hnew]
  exact ⟨.ref _, _, I.lnew (t' := s.toks) (r.rep k.toNat) (by rw [len_rep, Nat.mul_comm]; exact hz), rfl, q _ I.fresh⟩
end
end L2
namespace Att
open PySem PySem.W PySem.Calls PyProof.Rows
theorem ints_of_wellAll {P : Params} {h : Heap} : ∀ (ns : List Int) (vs : List Value), WellAll P h vs (ns.map WData.int) → IntsAre vs ns := by
  intro ns
  induction ns with
  | nil =>
    intro vs w
    rw [List.map_nil] at w
    cases w
    exact .nil
  | cons n ns ih =>
    intro vs w
    rw [List.map_cons] at w
    cases w with
    | cons a b =>
      cases a
      exact .cons _ _ (ih _ b)
theorem script_of {l : OpenLaw} {n : Nat} (hn : l.most = some n) {P : Params} {h : Heap} {args : List WData} {vals : List Value}
    (hpre : l.row.toRowW.claim.pre args = true) (hwl : WellAll P h vals args) :
    ∃ a vs ns, vals = [Value.ref a] ∧ args = [WData.list (ns.map WData.int)] ∧ h.get? a = some { cls := .type "list", data := .seq vs.toArray } ∧ IntsAre vs ns ∧ ns.length ≤ n := by
  have hsh : WShape.hasAll [] args [.list .int] = true := (pre_splitW hpre).1
  have hc : l.pre.holds [] { args := args } = true := (pre_splitW hpre).2
  obtain ⟨d, r, rfl, h1, h2⟩ := hasAllW_cons hsh
  obtain rfl := hasAllW_nil h2
  obtain ⟨xs, rfl, h3⟩ := hasW_list h1
  obtain ⟨ns, rfl⟩ := items_int h3
  have hlen : ns.length ≤ n := by
    unfold OpenLaw.pre at hc
    have h4 : (WTm.not (.lt (.lit (.int (n : Int))) (.len (.arg 0)))).holds [] { args := [.list (ns.map .int)] } = true := by
      have h4 := (holds_andW hc).1
      rw [hn] at h4
      exact h4
    have h5 := condW_of h4 (w_not (w_lt w_lit (w_len_list (w_arg rfl))))
    rw [List.length_map] at h5
    refine Nat.le_of_not_lt fun q => ?_
    have q' : (n : Int) < ((ns.length : Nat) : Int) := by omega
    first
      | (rw [decide_eq_true q'] at h5; exact absurd h5 (by decide))
      | (simp at h5; omega)
  cases hwl with
  | cons w1 w2 =>
    cases w2
    cases w1 with
    | list ho hall => exact ⟨_, _, ns, rfl, rfl, ho, ints_of_wellAll ns _ hall, hlen⟩
theorem post_true (l : OpenLaw) (args : List WData) : l.row.toRowW.claim.post args (.bool true) args = true :=
  postW_of (r := l.row.toRowW) (X := (true == true))
    (show WShape.has [] (.bool true) .bool = true by first | rfl | decide | simp [WShape.has, WShape.arms, WShape.armsAll])
    (show (WTm.eq .res (.lit (.bool true))).value [] { args := args, res := some (.bool true), after := args } = some (.bool (true == true)) from w_eq_bool (w_res rfl) w_lit) rfl
theorem attach_call {l : OpenLaw} {n : Nat} {q : Program} {loose : List Str} {XP : (Str → Option Value) → Heap → Prop} {YP : World → Heap → Prop} {d : DefRec}
    (hn : l.most = some n) (hdf : d.params.defaults = [])
    (call : ∀ (w : World) (s₀ s₁ : Shared) (mg mb : Str → Option Value) (fa : Addr) (o : Obj) (pm cd doc : Value) (a : Addr) (vs : List Value) (ns : List Int),
      Ground q loose [] XP w s₀ mg mb s₁.heap → YP w s₁.heap →
      s₁.heap.get? fa = some o → o.data = .func (docDef d.name d.params d.body d.scope pm cd doc) → s₁.heap.CodeRec cd d.name → mg d.name = some (.ref fa) →
      s₁.heap.get? a = some { cls := .type "list", data := .seq vs.toArray } → IntsAre vs ns → ns.length ≤ n → s₁.gens = #[] →
      codeAny (model l.prog w) callerA (.call (.ref fa) ⟨[.ref a], []⟩) (fun r s' => r = .ok (.ret (.bool true)) ∧ OldK s₁.heap s'.heap ∧ s'.os = s₁.os ∧ AllBare s'.gens) s₁) :
    WalkO q loose XP YP l.row.toRowW d [] (fun f vs => PySem.call f vs) := by
  intro w s₀ s₁ mg mb G Y fa o pm cd doc dV kV ho hd hcd hD hmg hg args vals as hpre hlay hrd hwl hlo
  obtain rfl : dV = .none := Dflts.none hD hdf
  obtain rfl : kV = .none := Dflts.noKw hD
  obtain ⟨a, vs, ns, rfl, rfl, hobj, hints, hlen⟩ := script_of hn hpre hwl
  refine enter_call (codeAny_mono (call w s₀ s₁ mg mb fa o pm cd doc a vs ns G Y ho (fd_plain hd) hcd hmg hobj hints hlen hg) fun r s' hq => ?_)
  obtain ⟨rfl, h2, h3, h4⟩ := hq
  exact ⟨.inl ⟨.bool true, .bool true, [], rfl, fun _ => rfl, .bool true, post_true l _, fun _ => ⟨List.Pairwise.nil, fun _ hm => (nomatch hm)⟩⟩, h2, h3, h4⟩
end Att
namespace L2
open PySem PySem.Spec PyProof.Rows
theorem vals_ints : ∀ {vs : List Value} {ns : List Int}, IntsAre vs ns → Vals (ns.map V.int) vs
  | _, _, .nil => .nil
  | _, _, .cons n t h => .cons ⟨t, rfl⟩ (vals_ints h)
def Only (H : Hp) : Prop := ∀ b, H b = none ∨ ∃ o xs, H b = some (.frz o (.lst xs))
theorem law_call {P : Program} {w : World} {K : PySem.W.Frag} {mg mb : Str → Option Value} {CX : CXT} {k : Nat} {fa a : Addr} {fd : FuncData} {x : Str} {sp : Sp} {s₁ : Shared} {vs : List Value} {ns : List Int}
    (KX : K.In s₁.heap) (hns : s₁.heap.Ns mainGlobals mg) (hb : s₁.heap.Ns builtinsNs mb) (hbb : ∀ x : Str, x ≠ "__name__" → mb x = bootBuiltins x) (hlim : s₁.heap.NoLimit) (hg : s₁.gens = #[])
    (ha : s₁.heap.get? a = some { cls := .type "list", data := .seq vs.toArray }) (hi : IntsAre vs ns) (hl : ns.length ≤ sizeLine) (hr : Room k callerA)
    (F : ∀ base : Heap, K.In base → base.Ns mainGlobals mg → FnOk P w K mg base CX k fa fd [x] sp) (hbind : ∀ (s : Shared) (u : Value), BindsTo s fd ⟨[u], []⟩ [(x, u)])
    (hsp : ∀ H : Hp, Only H → SqL K H a (ns.map V.int) → sp [.ref a] H (fun v _ => v = .bl true) fun _ _ _ => False)
    (hCX : ∀ H e s', CX [] H s₁ (fun _ _ _ => False) e s' → False) :
    codeAny (model P w) callerA (.call (.ref fa) ⟨[.ref a], []⟩) (fun r s' => r = .ok (.ret (.bool true)) ∧ OldK s₁.heap s'.heap ∧ s'.os = s₁.os ∧ AllBare s'.gens) s₁ := by
  have rv := vals_ints hi
  have lenV := hi.length
  -- from an abstract heap in which nothing but the script may be tracked
  have core : ∀ H : Hp, Only H → SqL K H a (ns.map V.int) → HOk P w H s₁.heap → (∀ b, H b ≠ none → b = a) → (H a ≠ none → K.lookup a = none) →
      codeAny (model P w) callerA (.call (.ref fa) ⟨[.ref a], []⟩) (fun r s' => r = .ok (.ret (.bool true)) ∧ OldK s₁.heap s'.heap ∧ s'.os = s₁.os ∧ AllBare s'.gens) s₁ := by
    intro H hO hS hok hA hK
    have base_of : ∀ {b : Addr} {o : Obj}, s₁.heap.get? b = some o → H b = none → (hidT s₁.heap H).get? b = some o := fun e n => hidT_get e n
    have noA : ∀ {b : Addr} {o : Obj} {es : Array DictEntry} {ep : Nat}, s₁.heap.get? b = some o → o.data = .dict es ep → H b = none := fun {b o es ep} e d => by
      cases q : H b with
      | none => rfl
      | some u =>
        have e' : b = a := hA b (by rw [q]; simp)
        subst e'
        rw [ha] at e; cases e
        have d' : Data.seq vs.toArray _ = Data.dict es ep := d
        cases d'
    have nsK : ∀ {b : Addr} {m : Str → Option Value}, s₁.heap.Ns b m → (hidT s₁.heap H).Ns b m := fun {b m} ⟨o, es, ep, e, d, r⟩ => ⟨o, es, ep, base_of e (noA e d), d, r⟩
    have hKb : K.In (hidT s₁.heap H) := fun b o e => base_of (KX b o e) (by
      cases q : H b with
      | none => rfl
      | some u =>
        have e' : b = a := hA b (by rw [q]; simp)
        subst e'
        rw [hK (by rw [q]; simp)] at e; cases e)
    have hM : Mod K mg (hidT s₁.heap H) := ⟨hKb, nsK hns, ⟨mb, nsK hb, hbb⟩, let ⟨mc, h1, h2⟩ := hlim; ⟨mc, nsK h1, h2⟩⟩
    have e0 : Env0 P w K mg (hidT s₁.heap H) callerA [] s₁ H := ⟨rfl, hM, fun b o e => of_hidT e, Nat.le_of_eq (hidT_size _ _), trivial, fun b hb => absurd (show b ∈ ([] : List Addr) from hb) (by simp), hok, .of_eq hg⟩
    refine codeAny_mono ((F _ hKb (nsK hns)).run callerA [] s₁ H ⟨[.ref a], []⟩ [.ref a] [.ref a] _ _ hr e0 (hbind s₁ (.ref a)) (.cons rfl .nil) (hsp H hO hS)) fun r s' h => ?_
    cases r with
    | error e => exact (hCX H e s' h).elim
    | ok fl =>
      cases fl with
      | next => exact False.elim h
      | brk => exact False.elim h
      | cont => exact False.elim h
      | ret u =>
        obtain ⟨v, H', os, bare, un, hok', r', q⟩ := h
        have q' : v = .bl true := q
        subst q'
        obtain rfl : u = Value.bool true := r'
        refine ⟨rfl, OldK.of_keep fun b o e => ?_, os, bare⟩
        cases q : H b with
        | none => exact un.keep b o e q (by intro z; exact absurd (show b ∈ ([] : List Addr) from z) (by simp)) (by simp)
        | some u =>
          rcases hO b with z | ⟨ob, xs, z⟩
          · rw [q] at z; cases z
          · have z2 := un.frzs b ob _ z
            obtain ⟨e1, _⟩ := hok b _ z
            obtain ⟨e2, _⟩ := hok' b _ z2
            rw [e] at e1; cases e1
            exact e2
  cases hk : K.lookup a with
  | some o =>
    -- the script is one of the module's own objects
    have e := KX a o hk
    rw [ha] at e
    cases e
    refine core (fun _ => none) (fun _ => .inl rfl) (.inr ⟨_, vs.toArray, _, hk, rfl, rfl, rfl, by rw [List.size_toArray, lenV]; exact hl, by simpa using rv⟩) (fun b u z => by have z' : (none : Option HO) = some u := z; cases z') (fun b z => absurd rfl z) fun z => absurd rfl z
  | none =>
    refine core (fun b => if b = a then some (.frz { cls := .type "list", data := .seq vs.toArray } (.lst (ns.map V.int))) else none) (fun b => ?_) (.inl (.inr ⟨{ cls := .type "list", data := .seq vs.toArray }, if_pos rfl⟩)) (fun b u z => ?_) (fun b z => ?_) fun _ => hk
    · by_cases hb : b = a
      · exact .inr ⟨_, _, if_pos hb⟩
      · exact .inl (if_neg hb)
    · by_cases hb : b = a
      · have z' := (if_pos hb).symm.trans z
        cases z'
        subst hb
        exact ⟨ha, by rw [List.length_map]; exact hl, vs, _, rv, ha⟩
      · have z' := (if_neg hb).symm.trans z
        cases z'
    · by_cases hb : b = a
      · exact hb
      · exact absurd (if_neg hb) z
abbrev KOf {K : PySem.W.Frag} {h : Heap} (_ : K.In h) : PySem.W.Frag := K
theorem walk_of {l : PySem.W.OpenLaw} {n k : Nat} {q : Program} {loose : List Str} {XP : (Str → Option Value) → Heap → Prop} {YP : World → Heap → Prop} {d : DefRec} {K : Params → PySem.W.Frag} {CX : World → CXT} {sp : World → Sp} {x : Str}
    (hn : l.most = some n) (hn2 : n ≤ sizeLine) (hdf : d.params.defaults = []) (hr : Room k callerA)
    (hY : ∀ (w : World) (h : Heap), YP w h → (K w.params).In h)
    (F : ∀ (w : World) (mg : Str → Option Value) (fa : Addr) (h : Heap), (K w.params).In h → h.Ns mainGlobals mg → mg d.name = some (.ref fa) →
      ∃ fd : FuncData, (∀ (s : Shared) (u : Value), BindsTo s fd ⟨[u], []⟩ [(x, u)]) ∧
        ∀ base : Heap, (K w.params).In base → base.Ns mainGlobals mg → FnOk l.prog w (K w.params) mg base (CX w) k fa fd [x] (sp w))
    (hsp : ∀ (w : World) (H : Hp) (a : Addr) (ns : List Int), ns.length ≤ n → Only H → SqL (K w.params) H a (ns.map V.int) → sp w [.ref a] H (fun v _ => v = .bl true) fun _ _ _ => False)
    (hCX : ∀ (w : World) (H : Hp) (s : Shared) (e : Value) (s' : Shared), CX w [] H s (fun _ _ _ => False) e s' → False) :
    PySem.W.WalkO q loose XP YP l.row.toRowW d [] (fun f vs => PySem.call f vs) := by
  refine Att.attach_call hn hdf fun w s₀ s₁ mg mb fa o pm cd doc a vs ns G Y ho hd hcd hmg hobj hints hlen hg => ?_
  have KX := hY w _ Y
  obtain ⟨fd, hb, hF⟩ := F w mg fa _ KX G.T.g hmg
  exact law_call KX G.T.g G.T.b G.T.builtins G.T.nolimit hg hobj hints (Nat.le_trans hlen hn2) hr hF hb (fun H hO hS => hsp w H a ns hlen hO hS) fun H e s' => hCX w H s₁ e s'
end L2
/- THE LAST THEOREM (shape; LID, My.* are yours):
   My.Adr: a structure of the addresses that your layer names (classes, functions); My.Txt K t: a structure (Prop) of the equations over K;
   My.txt_mk : {K} {implicit addresses ..} (e1 : nsIn K mainGlobals "law" = some (some (.ref f))) (e2 : K.lookup f = some ⟨oc, od, .func (fnOf "law" "law" params body scope dV kV doc pm an cdv ct), sl⟩) (e3 : codeIn K cdv "law" = true) .. : ∃ t, My.Txt K t
set_option maxRecDepth 100000 in
set_option maxHeartbeats 0 in
theorem PySem.Challenge.cw_LID_holds : PySem.Challenge.rw_LID.Holds := by
  w_on; o_law; k_head; (case hw => w_witness2)
  k_fill
  refine L2.walk_of (l := PySem.Challenge.rw_LID) (n := 63) (k := 40) (x := "script") (CX := fun w => ..) (sp := fun _ => My.sp_law) rfl (by decide) rfl ⟨rfl, by decide, by decide⟩ (fun w h Y => PySem.W.kIn_of Y) ?F ?S ?C
  case F =>
    intro w mg fa h KX G hmg
    have T : ∃ t, My.Txt (L2.KOf KX) t := by
      dsimp only [L2.KOf]                          -- K must stand as «<heap const> w.params» for k_is
      refine' My.txt_mk ?e1 ?e2 ?e3 ..
      (case e1 => PySem.W.k_is)                    -- in the order: a name -> its address -> its object -> its parts
      (case e2 => PySem.W.k_is)
      ..
    obtain ⟨t, T⟩ := T
    have e0 := hmg.symm.trans (PySem.W.mg_of KX G T.law)
    cases e0                                       -- fa is the law's own address
    exact ⟨_, fun s u => .of_eq rfl, fun base kb nb => My.law_fn T kb nb⟩     -- if «.of_eq rfl» comes too early: refine' ⟨_, ?b, fun base kb nb => My.law_fn T kb nb⟩; exact fun s u => .of_eq rfl
  case S => exact fun w H a ns hl hO hS => ..
  case C => exact ..
(the tactic k_is has no namespace: write k_is) -/
namespace L2
open PySem PySem.Spec PyProof.Rows
def defArgs (s : Stmt) : Arguments := match s with
  | .FunctionDef _ a _ _ _ _ _ _ _ _ => a
  | _ => { posonlyargs := [], args := [], vararg := none, kwonlyargs := [], kw_defaults := [], kwarg := none, defaults := [] }
def defBody (s : Stmt) : List Stmt := match s with
  | .FunctionDef _ _ b _ _ _ _ _ _ _ => b
  | _ => []
def defScope (s : Stmt) : Scope := match s with
  | .FunctionDef _ _ _ _ _ _ sc _ _ _ => sc
  | _ => { kind := .function, names := [], isGenerator := false, isCoroutine := false }
abbrev CX0 : CXT := fun _ _ _ _ _ _ => False
abbrev E0 : XK := fun _ _ _ => False
theorem pass0 {X : Cx} : Passes CX0 X E0 := fun _ _ _ _ _ _ _ h => h.elim
structure Fun (K : PySem.W.Frag) (x qual : Str) (st : Stmt) (f : Addr) (fd : FuncData) : Prop where
  ex : ∃ (oc : Value) (od : Option Addr) (kV doc pm : Value) (an : Option Addr) (cdv ct : Value) (osl : Array (Option Value)),
    fd = PySem.W.fnOf x qual (defArgs st) (defBody st) (defScope st) .none kV doc pm an cdv ct ∧ K.lookup f = some ⟨oc, od, .func fd, osl⟩ ∧ PySem.W.codeIn K cdv qual = true
  kp : PySem.W.keepIn K (.ref f) = true
section
variable {P : Program} {w : World} {K : PySem.W.Frag} {mg : Str → Option Value} {base : Heap}
theorem Fun.ok {x qual : Str} {st : Stmt} {f : Addr} {fd : FuncData} {N ps : List Str} {k : Nat} {sp : Sp} (F : Fun K x qual st f fd) (S : FnScope N ps (defScope st)) (len : ∀ vs H Q E, sp vs H Q E → vs.length = ps.length)
    (hbody : ∀ (cdv : Value) (A : Around) (outer : List Env) (s : Shared) (H : Hp) (vs : List V) (Q : VK) (E : XK), Room k (A.deeper (envOfC qual (defScope st) s.heap.objs.size f cdv)) → sp vs H Q E →
      ∃ t, PSs (cxOf CX0 P w K mg base N qual (defScope st) f cdv A outer s H E).nox (defBody st) t ∧ t { nx := fun _ H' => Q .non H', rt := Q } (start N vs) H) : FnOk P w K mg base CX0 (k + 1) f fd ps sp := by
  obtain ⟨oc, od, kV, doc, pm, an, cdv, ct, osl, rfl, lk, hcd⟩ := F.ex
  refine fn_of lk hcd S len fun A outer s H vs Q E hr hsp => ?_
  obtain ⟨t, h, q⟩ := hbody cdv A outer s H vs Q E hr hsp
  exact ⟨t, h.nox, q⟩
theorem Fun.binds {x qual : Str} {st : Stmt} {f : Addr} {fd : FuncData} {ps : List Str} (F : Fun K x qual st f fd)
    (h : ∀ (kV doc pm : Value) (an : Option Addr) (cdv ct : Value) (us : List Value), us.length = ps.length → bindArgs (PySem.W.fnOf x qual (defArgs st) (defBody st) (defScope st) .none kV doc pm an cdv ct) ⟨us, []⟩ = pure (ps.zip us)) : Binds K fd ps [] := by
  obtain ⟨oc, od, kV, doc, pm, an, cdv, ct, osl, rfl, lk, hcd⟩ := F.ex
  exact .all (h kV doc pm an cdv ct)
theorem fun_mk {x qual : Str} {st : Stmt} {f : Addr} {oc : Value} {od an : Option Addr} {osl : Array (Option Value)} {kV doc pm cdv ct : Value} (l : K.lookup f = some ⟨oc, od, .func (PySem.W.fnOf x qual (defArgs st) (defBody st) (defScope st) .none kV doc pm an cdv ct), osl⟩)
    (c : PySem.W.codeIn K cdv qual = true) (k : PySem.W.keepIn K (.ref f) = true) : Fun K x qual st f (PySem.W.fnOf x qual (defArgs st) (defBody st) (defScope st) .none kV doc pm an cdv ct) := ⟨⟨oc, od, kV, doc, pm, an, cdv, ct, osl, rfl, l, c⟩, k⟩
end
section
variable {X : Cx}
theorem pv (i : Nat) {x : Str} {pos : Pos} (hN : X.N[i]? = some x := by rfl) (hv : Vis X.env.scope x := by first | exact Or.inl rfl | exact Or.inr (Or.inl rfl) | exact Or.inr (Or.inr rfl)) (hd : (x == ("__debug__" : Str)) = false := by decide)
    (hcd : (x == ("__classdict__" : Str)) = false := by decide) : PE X (.Name x pos) (tVar i) := pe_var hN hv hd hcd
end
theorem iteT {A B : Prop} (h : A) : if true = true then A else B := by
  rw [if_pos rfl]
  exact h
theorem ite2 {c A B : Prop} [Decidable c] (h1 : c → A) (h2 : ¬ c → B) : if c then A else B := by
  by_cases h : c
  · rw [if_pos h]
    exact h1 h
  · rw [if_neg h]
    exact h2 h
def Same (H H' : Hp) : Prop := ∀ b o, H b = some o → H' b = some o
theorem Same.refl (H : Hp) : Same H H := fun _ _ h => h
theorem Same.trans {H H1 H2 : Hp} (a : Same H H1) (b : Same H1 H2) : Same H H2 := fun c o h => b c o (a c o h)
theorem Same.free {H H' : Hp} (e : Same H H') {l : Addr} (h : H' l = Option.none) : H l = Option.none := by
  cases q : H l with
  | none => rfl
  | some o =>
    rw [e l o q] at h
    cases h
theorem Same.seq {K : PySem.W.Frag} {H H' : Hp} {a : Addr} {xs : List V} (e : Same H H') (h : SqL K H a xs) : SqL K H' a xs := by
  rcases h with (h | ⟨o, h⟩) | h
  · exact .inl (.inl (e _ _ h))
  · exact .inl (.inr ⟨o, e _ _ h⟩)
  · exact .inr h
section
variable {P : Program} {w : World} {H : Hp} {h : Heap} {a : Addr} {o : HO}
theorem ObjOk.there (x : ObjOk P w H h a o) : ∃ ob, h.get? a = some ob := by
  cases o with
  | lst xs => obtain ⟨_, _, _, _, e⟩ := x; exact ⟨_, e⟩
  | tup xs => obtain ⟨_, _, _, ob, e, _⟩ := x; exact ⟨_, e⟩
  | dK kvs => obtain ⟨_, _, _, _, o, _, _, e, _⟩ := x; exact ⟨_, e⟩
  | dT kvs => obtain ⟨_, _, _, _, o, _, _, e, _⟩ := x; exact ⟨_, e⟩
  | set S n => obtain ⟨o, _, _, _, e, _⟩ := x; exact ⟨_, e⟩
  | ins C dx fs => obtain ⟨_, _, _, e, _⟩ := x; exact ⟨_, e⟩
  | own y => obtain ⟨_, e⟩ := x; exact ⟨_, e⟩
  | xd fs => obtain ⟨_, ⟨_, _, _, e, _⟩, _⟩ := x; exact ⟨_, e⟩
  | rng lo hi => obtain ⟨_, _, _, e⟩ := x; exact ⟨_, e⟩
  | frz ob u => obtain ⟨e, _⟩ := x; exact ⟨_, e⟩
  | tbl ps => exact ⟨_, (show h.get? a = some _ from x)⟩
  | met f y => exact ⟨_, (show h.get? a = some _ from x)⟩
  | ext φ => obtain ⟨_, e, _⟩ := x; exact e
end
def CXR (P : Program) (w : World) : CXT := fun outer H s E e s' => ∃ (a : Addr) (cls a0 : Value) (H' : Hp) (B : Heap), e = .ref a ∧ s'.os = s.os ∧ AllBare s'.gens ∧
  Heap.FlyingW B outer a cls a0 s'.heap ∧ (∀ b o, s.heap.get? b = some o → H b = none → b ∉ frs outer → B.get? b = some o) ∧ (∀ b o, s.heap.get? b = some o → b ∉ frs outer → ∃ o', B.get? b = some o') ∧
  HOk P w H' B ∧ Un (frs outer) [] H H' s.heap s'.heap ∧ H' a = none ∧ E cls none H'
def Raises (X : Cx) (R : Value → Hp → Prop) : Prop := ∀ (pins : List (Addr × Obj)) (σ : St) (H : Hp) (s : Shared) (h' : Heap) (e : Addr) (cls : Value) (vs : List Value), Inv X pins σ H s → Heap.MadeExcOf s.heap h' e cls vs → R cls H →
  X.xe (.ref e) { s with heap := h' }
section
variable {CX : CXT} {P : Program} {w : World} {K : PySem.W.Frag} {mg : Str → Option Value} {base : Heap} {N : List Str} {qual : Str} {scope : Scope} {f : Addr} {cd : Value} {A : Around} {outer : List Env} {s₀ : Shared} {H₀ : Hp} {E : XK}
abbrev cxR (P : Program) (w : World) (K : PySem.W.Frag) (mg : Str → Option Value) (base : Heap) (N : List Str) (qual : Str) (scope : Scope) (f : Addr) (cd : Value) (A : Around) (outer : List Env) (s₀ : Shared) (H₀ : Hp) (E : XK) : Cx := cxOf (CXR P w) P w K mg base N qual scope f cd A outer s₀ H₀ E
theorem hid_ok {X : Cx} {pins : List (Addr × Obj)} {σ : St} {H : Hp} {s : Shared} (I : Inv X pins σ H s) : HOk X.prog X.w H (PySem.W.hideAll s.heap (frs X.stack)) := fun b u e => by
  refine (I.hok b u e).stay (fun c v hc q => PySem.W.hideAll_get _ q fun hm => ?_) (fun _ q => q) fun _ _ q => q
  have z := I.stkFree c hm
  rcases hc with rfl | hc
  · rw [z] at e; cases e
  · rw [z] at hc; cases hc
theorem raises_cx : Raises (cxR P w K mg base N qual scope f cd A outer s₀ H₀ E) (fun cls H' => E cls none H') := by
  intro pins σ H s h' e cls vs I hx hE
  have frS := I.stack
  have hin : ∀ env ∈ (cxR P w K mg base N qual scope f cd A outer s₀ H₀ E).stack, ∀ b, env.frame = some b → b ∈ frs (cxR P w K mg base N qual scope f cd A outer s₀ H₀ E).stack := fun env he b hb => List.mem_filterMap.mpr ⟨env, he, hb⟩
  have lo : ∀ b o, s₀.heap.get? b = some o → b ∉ frs outer → b ∉ frs (cxR P w K mg base N qual scope f cd A outer s₀ H₀ E).stack := fun b o q hb hm => by
    rcases List.mem_cons.mp (I.stkSub b hm) with z | z
    · exact absurd z (Nat.ne_of_lt (Nat.lt_of_lt_of_le (Heap.lt_size q) I.ok.above))
    · exact hb z
  refine wpAny_leaves_madeW (base := PySem.W.hideAll s.heap (frs (cxR P w K mg base N qual scope f cd A outer s₀ H₀ E).stack)) I.ok.frames rfl (fun b o q => PySem.W.of_hideAll _ q) (PySem.W.funFrames_hide frS hin) hx fun h2 t x1 x2 x3 x4 => ?_
  have hk : ∀ b o, s.heap.get? b = some o → b ∉ frs (cxR P w K mg base N qual scope f cd A outer s₀ H₀ E).stack → h2.get? b = some o := fun b o q hb => x1.1 b o (PySem.W.hideAll_get _ q hb)
  have hfr : ∀ b o, s.heap.get? b = some o → b ∈ frs (cxR P w K mg base N qual scope f cd A outer s₀ H₀ E).stack → ∃ sl, h2.get? b = some { o with slots := sl } := fun b o q hb => by
    obtain ⟨_, ob, hob, hnf⟩ := frS.mem hb
    rw [q] at hob; cases hob
    exact x4 b o (hx.keeps b o q) hnf
  have hany : ∀ b o, s.heap.get? b = some o → ∃ o', h2.get? b = some o' := fun b o q => by
    by_cases hb : b ∈ frs (cxR P w K mg base N qual scope f cd A outer s₀ H₀ E).stack
    · obtain ⟨sl, z⟩ := hfr b o q hb; exact ⟨_, z⟩
    · exact ⟨_, hk b o q hb⟩
  have nx : ∀ b : Addr, b ∉ (cxR P w K mg base N qual scope f cd A outer s₀ H₀ E).ex := fun b z => absurd (show b ∈ ([] : List Addr) from z) (by simp)
  refine ⟨e, cls, .ref t, H, _, rfl, I.os, I.bare, x1, fun b o q n hb => PySem.W.hideAll_get _ (I.base.keep b o q n hb (nx b)) (lo b o q hb), fun b o q hb => ?_, hid_ok I, ⟨fun b o q n hb _ => ?_, fun b o q n hb _ => ?_, fun b o q n _ => I.base.free b o q n (nx b), fun b o q _ => ?_, I.base.tups, I.base.frzs, I.base.tbls⟩, ?_, hE⟩
  · obtain ⟨o', z⟩ := I.base.there b o q (nx b)
    exact ⟨o', PySem.W.hideAll_get _ z (lo b o q hb)⟩
  · exact hk b o (I.base.keep b o q n hb (nx b)) (lo b o q hb)
  · obtain ⟨sl, z⟩ := I.base.slot b o q n hb (nx b)
    have hm : b ∈ frs (cxR P w K mg base N qual scope f cd A outer s₀ H₀ E).stack := by
      show b ∈ frs (_ :: outer)
      unfold frs at hb ⊢
      rw [List.filterMap_cons]
      exact List.mem_cons_of_mem _ hb
    obtain ⟨sl', z'⟩ := hfr b _ z hm
    exact ⟨sl', z'⟩
  · obtain ⟨o', z⟩ := I.base.there b o q (nx b)
    exact hany b o' z
  · cases q : H e with
    | none => rfl
    | some u =>
      obtain ⟨ob, z⟩ := (I.hok e u q).there
      rw [hx.new] at z; cases z
end
structure OwnX (K : PySem.W.Frag) (C : Addr) (bm : List Value) (newId : String) : Prop where
  ok : PySem.W.excIn K C bm newId = true
theorem OwnX.obj {K : PySem.W.Frag} {C : Addr} {bm : List Value} {newId : String} (O : OwnX K C bm newId) {h : Heap} (X : K.In h) :
    ∃ tl N nm q bs hdct sn sub ab col dd k0 k1 k2 k3 k5 mN, h.get? C = some (excClassObj nm q C N bs tl hdct sn sub ab col dd k0 k1 k2 k3 k5 newId) ∧ h.Ns N mN ∧ mN "__init__" = none ∧ OwnTail h bm tl := by
  have q := O.ok
  unfold PySem.W.excIn at q
  split at q
  · rename_i dd cd sl ho
    split at q
    · rename_i C' bm' k0 k1 k2 k3 n k5 hm hs
      simp only [Bool.and_eq_true, beq_iff_eq, Bool.not_eq_true'] at q
      obtain ⟨⟨⟨⟨⟨rfl, rfl⟩, hdel⟩, ht⟩, hok⟩, hni⟩ := q
      obtain ⟨nm, bs, mro, ns, qn, hd, sn, sub, ab, col, del⟩ := cd
      dsimp only at hm hdel hok hni
      subst hm hdel
      have hsl : sl = #[k0, k1, k2, k3, some (.builtin n), k5] := by
        obtain ⟨l⟩ := sl
        simp only at hs
        rw [hs]
      subst hsl
      exact ⟨bm', ns, nm, qn, bs, hd, sn, sub, ab, col, dd, k0, k1, k2, k3, k5, _, X _ _ ho, .of_isNs (PySem.W.isNs_of_in X hok), PySem.W.nsMap_none_of_in X hok hni, PySem.W.tail_of_in X ht⟩
    · cases q
  · cases q
section
variable {X : Cx} {x : Str} {C : Addr} {bm : List Value} {newId B initId : String} {e : Expr} {es : List Expr} {te : TA} {np cpos pos : Pos} {R : Value → Hp → Prop}
def tRaise (C : Addr) (te : TA) (R : Value → Hp → Prop) : TS := fun _ σ H => te σ H fun vs H1 => vs.length ≤ sizeLine ∧ R (.ref C) H1
theorem ps_raise (O : OwnX X.K C bm newId) (FB : ExcBaseFacts B newId initId bm) (hc : X.calm = true) (hg : Gl X x) (hm : X.mg x = some (.ref C)) (hr : Raises X R) (he : PA X (e :: es) te)
    (hst : starEach (e :: es) X.env = (false, eval e X.env) :: starEach es X.env := by rfl) (hplain : (backTo cpos (starEach es X.env)).any (·.1) = false := by rfl) (hd : (x == ("__debug__" : Str)) = false := by decide) :
    PS X (.Raise (some (.Call (.Name x np) (e :: es) [] cpos)) none pos) (tRaise C te R) := by
  intro pins s σ H D I h
  obtain ⟨tl, N, nm, q, bs, hdct, sn, sub, ab, col, dd, k0, k1, k2, k3, k5, mN, hC, hN, hni, T⟩ := O.obj I.ok.mod.kin
  refine wpAny_Raise_call_subT (C := C) (nm := nm) (q := q) (N := N) (bs := bs) (bm := tl) (hdct := hdct) (sn := sn) (sub := sub) (ab := ab) (col := col) (dd := dd) (k0 := k0) (k1 := k1) (k2 := k2) (k3 := k3) (k5 := k5)
    FB (mN := mN) (T.hasType FB.hasBase) (I.ok.hd hc) (by rw [hst]; show (false || (backTo cpos (starEach es X.env)).any (·.1)) = false; rw [hplain]; rfl) hni (ld_glob I hg hm ⟨rfl, ?_⟩ hd)
  have hA := he cpos pins s σ H _ I h
  rw [hst] at hA ⊢
  refine Calls.evalArgs_plain (thn hA fun us s2 ⟨vs, H1, I1, r1, hl, q1⟩ => ⟨rfl, ?_, I1.bk _ _ hC, hN.keeps I1.bk, T.keeps I1.bk, fun h' a hx => hr pins σ H1 s2 h' a _ us I1 hx q1⟩)
  show us.length ≤ sizeLine
  rw [← r1.length]; exact hl
end
section
variable {X : Cx} {pins : List (Addr × Obj)} {σ : St} {H H' : Hp} {s s' : Shared}
theorem Inv.reA {A2 : Around} {c2 : Bool} {E2 : Value → Shared → Prop} (I : Inv X pins σ H s) (hf : A2.frames = X.A.frames) (hc : c2 = true → A2.handled = none) : Inv { X with A := A2, calm := c2, xe := E2 } pins σ H s :=
  ⟨⟨I.ok.mod, I.ok.kind, I.ok.glob, I.ok.blt, I.ok.above, I.ok.inj, I.ok.has, I.ok.cab, hc, hf.trans I.ok.frames, I.ok.stk, I.ok.exf, I.ok.bs, I.ok.bsz, I.ok.noex, I.ok.exfs, I.ok.funs, I.ok.frf⟩,
    I.os, I.bare, I.base, I.loc, I.cell, I.free, I.freeC, I.pin, I.hok, I.len⟩
theorem Inv.unA {A2 : Around} {c2 : Bool} {E2 : Value → Shared → Prop} (I : Inv { X with A := A2, calm := c2, xe := E2 } pins σ H s) (ok : X.Ok) : Inv X pins σ H s :=
  ⟨ok, I.os, I.bare, I.base, I.loc, I.cell, I.free, I.freeC, I.pin, I.hok, I.len⟩
theorem Inv.bear {E2 : Value → Shared → Prop} (I : Inv X pins σ H s) : Inv { X with xe := E2, pn := X.pn ++ pins } [] σ H s :=
  ⟨⟨I.ok.mod, I.ok.kind, I.ok.glob, I.ok.blt, I.ok.above, I.ok.inj, I.ok.has, I.ok.cab, I.ok.hd, I.ok.frames, I.ok.stk, I.ok.exf, I.ok.bs, I.ok.bsz, I.ok.noex, I.ok.exfs, I.ok.funs, I.ok.frf⟩,
    I.os, I.bare, I.base, I.loc, I.cell, I.free, I.freeC, fun p hp => I.pin p (by simpa using hp), I.hok, I.len⟩
theorem Inv.unbear {E2 : Value → Shared → Prop} {pins' : List (Addr × Obj)} (I : Inv { X with xe := E2, pn := X.pn ++ pins } pins' σ H s) : Inv X pins σ H s :=
  ⟨⟨I.ok.mod, I.ok.kind, I.ok.glob, I.ok.blt, I.ok.above, I.ok.inj, I.ok.has, I.ok.cab, I.ok.hd, I.ok.frames, I.ok.stk, I.ok.exf, I.ok.bs, I.ok.bsz, I.ok.noex, I.ok.exfs, I.ok.funs, I.ok.frf⟩,
    I.os, I.bare, I.base, I.loc, I.cell, I.free, I.freeC, fun p hp => I.pin p (List.mem_append_left _ hp), I.hok, I.len⟩
def nones (X : Cx) : St := List.replicate X.N.length none
theorem Inv.forget (I : Inv X pins σ H s) : Inv X pins (nones X) H s :=
  I.weak (by unfold nones; rw [List.length_replicate]; exact I.len.symm) fun i v e => by
    unfold nones at e
    rw [List.getElem?_replicate] at e
    split at e <;> cases e
theorem Inv.relocal {h' : Heap} {m' : Str → Option Value} {t' : Nat} (I : Inv X pins σ H s) (hn' : h'.Ns X.env.locals m') (hs : Heap.SameBut X.env.locals s.heap h') : Inv X pins (nones X) H { s with heap := h', toks := t' } := by
  have cne := I.cne
  refine ⟨I.ok, I.os, I.bare, ⟨fun b o e n hb hx => ?_, fun b o e n hb hx => ?_, I.base.free, fun b o e hx => ?_, I.base.tups, I.base.frzs, I.base.tbls⟩, ⟨_, hn', fun j y v' e1 e2 e3 => ?_⟩, fun y c e => ?_, I.free, I.freeC, fun p hp => ?_, fun b ob e => ?_, ?_⟩
  · exact (hs.2 b (Nat.ne_of_lt (Nat.lt_of_lt_of_le (Heap.lt_size e) I.ok.above))).trans (I.base.keep b o e n hb hx)
  · obtain ⟨sl, e1⟩ := I.base.slot b o e n hb hx
    exact ⟨sl, (hs.2 b (Nat.ne_of_lt (Nat.lt_of_lt_of_le (Heap.lt_size e) I.ok.above))).trans e1⟩
  · obtain ⟨o', e1⟩ := I.base.there b o e hx
    exact ⟨o', (hs.2 b (Nat.ne_of_lt (Nat.lt_of_lt_of_le (Heap.lt_size e) I.ok.above))).trans e1⟩
  · unfold nones at e2
    rw [List.getElem?_replicate] at e2
    split at e2 <;> cases e2
  · obtain ⟨w', z⟩ := I.cell y c e
    exact ⟨w', z.sameBut hs (cne y c e)⟩
  · obtain ⟨e, n, ne, nf, d⟩ := I.pin p hp
    exact ⟨(hs.2 p.1 ne).trans e, n, ne, nf, d⟩
  · refine (I.hok b ob e).stay (fun c w' hc q => (hs.2 c ?_).trans q) (fun _ q => q) fun _ _ q => q
    rintro rfl
    rcases hc with rfl | hc
    · rw [I.free] at e; cases e
    · rw [I.free] at hc; cases hc
  · show (List.replicate X.N.length none).length = _
    exact List.length_replicate
def Exc (cls : Value) (a : Addr) : HO := .ext fun h => ∃ o vs, h.get? a = some o ∧ o.cls = cls ∧ o.data = .fields vs
end
theorem Exc.ok {P : Program} {w : World} {H : Hp} {h : Heap} {cls : Value} {a : Addr} {o : Obj} {vs : Array Value} (h1 : h.get? a = some o) (h2 : o.cls = cls) (h3 : o.data = .fields vs) : ObjOk P w H h a (Exc cls a) :=
  ⟨⟨o, vs, h1, h2, h3⟩, ⟨o, h1⟩, fun _ _ ⟨o, vs, q1, q2, q3⟩ k => ⟨o, vs, k o q1, q2, q3⟩⟩
theorem Inv.track {X : Cx} {pins : List (Addr × Obj)} {σ : St} {H : Hp} {s : Shared} {o : HO} {a : Addr} (I : Inv X pins σ H s) (hn : H a = none) (new : ObjOk X.prog X.w (upd H a o) s.heap a o)
    (h1 : ∀ b ob, X.s₀.heap.get? b = some ob → X.H₀ b = none → b ∉ X.ex → b ≠ a) (h2 : X.env.locals ≠ a) (h3 : ∀ x c, X.env.cells.lookup x = some c → c ≠ a) (h4 : ∀ p ∈ X.pn ++ pins, p.1 ≠ a) : Inv X pins σ (upd H a o) s :=
  ⟨I.ok, I.os, I.bare, ⟨I.base.keep, I.base.slot, fun b ob q n hx => by rw [upd_ne (h1 b ob q n hx)]; exact I.base.free b ob q n hx, I.base.there, fun b xs q => by rw [upd_ne (ne_of_none (I.base.tups b xs q) hn)]; exact I.base.tups b xs q,
      fun b ob u q => by rw [upd_ne (ne_of_none (I.base.frzs b ob u q) hn)]; exact I.base.frzs b ob u q, fun b ps q => by obtain ⟨m, z⟩ := I.base.tbls b ps q; exact ⟨m, by rw [upd_ne (ne_of_none z hn)]; exact z⟩⟩,
    I.loc, I.cell, by rw [upd_ne h2]; exact I.free, fun x c q => by rw [upd_ne (h3 x c q)]; exact I.freeC x c q, fun p hp => let ⟨e1, e2, e3⟩ := I.pin p hp; ⟨e1, by rw [upd_ne (h4 p hp)]; exact e2, e3⟩,
    fun b u e => by
      by_cases hb : b = a
      · subst hb; rw [upd_same] at e; cases e; exact new
      · rw [upd_ne hb] at e
        exact (I.hok b u e).stay (fun _ _ _ q => q) (fun c q => by rw [upd_ne (ne_of_none q hn)]; exact q) fun c xs q => by rw [upd_ne (ne_of_none q hn)]; exact q,
    I.len⟩
theorem Inv.caught {X : Cx} {pins : List (Addr × Obj)} {σ : St} {H : Hp} {s s' : Shared} {a : Addr} {cls a0 : Value} {H' : Hp} {B h6 : Heap} (I : Inv X pins σ H s) (os : s'.os = s.os) (bare : AllBare s'.gens) (fl : Heap.FlyingW B X.stack a cls a0 s'.heap)
    (hB : ∀ b o, s.heap.get? b = some o → H b = none → b ∉ frs X.stack → B.get? b = some o) (hth : ∀ b o, s.heap.get? b = some o → b ∉ frs X.stack → ∃ o', B.get? b = some o') (hok : HOk X.prog X.w H' B)
    (un : Un (frs X.stack) [] H H' s.heap s'.heap) (st : B.StaysIn h6) (up : s'.heap.UpToSlots h6) : Inv X pins σ H' { s' with heap := h6 } := by
  have hfr : ∀ b o, s'.heap.get? b = some o → b ∈ frs X.stack → ∃ sl, h6.get? b = some { o with slots := sl } := fun b o q hb => by
    obtain ⟨_, ob, hob, hnf⟩ := fl.2.2.1.mem hb
    rw [q] at hob; cases hob
    exact up b o q hnf
  refine I.call' (s' := { s' with heap := h6 }) (ch := []) os ⟨fun b o q n hb _ => st b o (hB b o q n hb), fun b o q n hb _ => ?_, un.free, fun b o q _ => ?_, un.tups, un.frzs, un.tbls⟩ (hok.kept fun b u q => st b u q) bare (fun b z => absurd z (by simp))
  · obtain ⟨sl, z⟩ := un.slot b o q n hb (by simp)
    obtain ⟨sl2, z2⟩ := hfr b _ z hb
    exact ⟨sl2, z2⟩
  · by_cases hb : b ∈ frs X.stack
    · obtain ⟨o2, z2⟩ := un.there b o q (by simp)
      obtain ⟨sl, z3⟩ := hfr b o2 z2 hb
      exact ⟨_, z3⟩
    · obtain ⟨o2, z2⟩ := hth b o q hb
      exact ⟨o2, st b o2 z2⟩
abbrev Cx.body (X : Cx) (xe : Value → Shared → Prop) (pn : List (Addr × Obj)) : Cx := { X with xe := xe, pn := pn }
abbrev Cx.suite (X : Cx) (a : Addr) : Cx := { X with A := X.A.mark (some (.ref a)), calm := false, xe := fun _ _ => False }
def tTry (K : PySem.W.Frag) (n C i : Nat) (tb : XK → TS) (th : Addr → TS) : TS := fun D σ H =>
  tb (fun cls _ H' => PySem.W.exmOne K cls (.ref C) = some true ∧ ∀ a, H' a = none → th a { nx := fun _ _ => False, rt := D.rt } ((List.replicate n none).set i (some (.ref a))) (upd H' a (Exc cls a))) D σ H
section
variable {X : Cx}
theorem ps_try {body : List Stmt} {x n : Str} {C : Addr} {i : Nat} {b₀ : Stmt} {suite : List Stmt} {tb : XK → TS} {th : Addr → TS} {np hpos pos : Pos} {l : List Env} (hst : X.stack = X.env :: l) (hfr : X.env.frame = some X.env.locals)
    (hex0 : X.ex = []) (hN : X.N.Nodup) (hi : X.N[i]? = some n) (hl : X.env.kindOf n = some .local) (hg : Gl X x) (hm : X.mg x = some (.ref C)) 
    (hb : ∀ (E : XK) (xe : Value → Shared → Prop) (pn : List (Addr × Obj)), Passes (CXR X.prog X.w) (X.body xe pn) E → PSs (X.body xe pn) body (tb E))
    (hs : ∀ a, PSs (X.suite a) (b₀ :: suite) (th a)) (hd : (x == ("__debug__" : Str)) = false := by decide) :
    PS X (.Try body [.ExceptHandler (some (.Name x np)) (some n) (b₀ :: suite) hpos] [] [] pos) (tTry X.K X.N.length C i tb th) := by
  intro pins s σ H D I h
  refine wpAny_Try_except ?_
  refine wpAny_mono (hb _ (fun e s₁ => wpAny (model X.prog X.w) X.A (noteFrame e X.env) (fun _ s₂ => wpAny (model X.prog X.w) X.A (setFlight e none) (fun _ s₃ => wpAny (model X.prog X.w) X.A (handleBy e X.env [.ExceptHandler (some (.Name x np)) (some n) (b₀ :: suite) hpos]) (SP X pins D) X.xe s₃) X.xe s₂) X.xe s₁) (X.pn ++ pins) ?_ [] s σ H D I.bear h) ?_ fun _ _ z => z
  case refine_2 =>
    intro f s1 hf
    cases f with
    | next =>
      obtain ⟨σ', H', J, q⟩ := hf
      exact wpAny_execs_nil ⟨σ', H', J.unbear, q⟩
    | brk =>
      obtain ⟨σ', H', J, q⟩ := hf
      exact ⟨σ', H', J.unbear, q⟩
    | cont =>
      obtain ⟨σ', H', J, q⟩ := hf
      exact ⟨σ', H', J.unbear, q⟩
    | ret u =>
      obtain ⟨v, σ', H', J, r, q⟩ := hf
      exact ⟨v, σ', H', J.unbear, r, q⟩
  case refine_1 =>
    intro pins' σ' H1 s1 e s2 J0 hcx
    have J : Inv X pins σ' H1 s1 := J0.unbear
    obtain ⟨a, cls, a0, H2, B, rfl, os, bare, fl, hB, hth, hok, un, hn, hE⟩ := hcx
    obtain ⟨hex, hsu⟩ := hE
    have fl' : Heap.FlyingW B (X.env :: l) a cls a0 s2.heap := by rw [← hst]; exact fl
    refine wpAny_looks_onW (by rw [J.ok.frames, hst]) hfr fl' fun h4 held4 up4 => ?_
    refine wpAny_landsW held4 fun h5 fl5 up5 => ?_
    have J5 : Inv X pins σ' H2 { s2 with heap := h5 } := J.caught os bare fl hB hth hok un fl5.1 (up4.trans up5)
    obtain ⟨ob, hob, hobc⟩ := fl5.there
    have LT : PySem.W.Looks (model X.prog X.w) h5 (typeOf (.ref a)) cls := hobc ▸ (PySem.W.Looks.ld hob).andThen .now
    have J5h : Inv (X.suite a) pins σ' H2 { s2 with heap := h5 } := J5.reA rfl (fun z => nomatch z)
    refine wpAny_handleBy_cons (codeAny_handlers_test (ld_glob (X := X.suite a) J5h hg hm ?_ hd)) (by intro q; cases q)
    refine (PySem.W.exm_one (M := model X.prog X.w) J5.kIn LT hex).at ?_
    refine codeAny_handlers_suite_as ?_
    refine lands_againW fl5 fun h6 fl6 up6 => ?_
    have J6 : Inv X pins σ' H2 { s2 with heap := h6 } := J.caught os bare fl hB hth hok un fl6.1 ((up4.trans up5).trans up6)
    have J6h : Inv (X.suite a) pins (nones X) H2 { s2 with heap := h6 } := (show Inv (X.suite a) pins σ' H2 { s2 with heap := h6 } from J6.reA rfl (fun z => nomatch z)).forget
    -- the exception is tracked
    obtain ⟨oe, ws, hoe, hoec, hoed, _⟩ := fl6.first
    have nfr : ∀ b ∈ frs X.stack, b ≠ a := fun b hb z => by
      obtain ⟨_, o', ho', hnf⟩ := fl6.2.2.1.mem (show b ∈ frs (X.env :: l) from hst ▸ hb)
      subst z
      have ho6 : h6.get? b = some o' := ho'
      rw [hoe] at ho6; cases ho6
      exact hnf ws hoed
    have nB : ∀ b o, B.get? b = some o → b ≠ a := fun b o q z => by rw [z, fl.2.1] at q; cases q
    have nL : X.env.locals ≠ a := nfr _ (by rw [hst]; unfold frs; rw [List.filterMap_cons, hfr]; exact List.mem_cons_self)
    have J7 : Inv (X.suite a) pins (nones X) (upd H2 a (Exc cls a)) { s2 with heap := h6 } := by
      refine J6h.track hn (Exc.ok hoe hoec hoed) (fun b ob q n hx => ?_) nL (fun y c q => ?_) (fun p hp => ?_)
      · have hx' : b ∉ X.ex := hx
        by_cases hbf : b ∈ frs X.stack
        · exact nfr b hbf
        · have z1 : b ∉ X.fs := fun z => hbf (by
            rcases J.ok.stk with e | ⟨e, _⟩
            · rw [e]; exact z
            · rw [e]; unfold frs; rw [List.filterMap_cons, hfr]; exact List.mem_cons_of_mem _ z)
          exact nB b ob (hB b ob (J.base.keep b ob q n z1 hx') (J.base.free b ob q n hx') hbf)
      · obtain ⟨v, o', ho', hd'⟩ := J6h.cell y c q
        intro z
        subst z
        have z1 : h6.get? c = some o' := ho'
        rw [hoe] at z1; cases z1
        rw [hoed] at hd'; cases hd'
      · have hp' : p ∈ X.pn ++ pins := hp
        obtain ⟨e1, e2, e3, e4, _⟩ := J.pin p hp'
        refine nB p.1 p.2 (hB p.1 p.2 e1 e2 fun z => ?_)
        rcases List.mem_cons.mp (J.stkSub p.1 z) with y | y
        · exact e3 y
        · exact e4 y
    refine store_ok (X := X.suite a) J7 hN hi (.inl hl) (v := .ref a) (u := .ref a) rfl (fun s8 J8 => ?_) (.inr hl)
    refine wpAny_mono (hs a pins s8 _ _ { nx := fun _ _ => False, rt := D.rt } J8 (hsu a hn)) (fun f s9 hf => ?_) fun _ _ z => False.elim z
    cases f with
    | next => obtain ⟨_, _, _, q⟩ := hf; exact False.elim q
    | brk => obtain ⟨_, _, _, q⟩ := hf; exact False.elim q
    | cont => obtain ⟨_, _, _, q⟩ := hf; exact False.elim q
    | ret u =>
      obtain ⟨v, σ9, H9, J9, r9, q9⟩ := hf
      obtain ⟨m9, hn9, _⟩ := id J9.loc
      have J9' : Inv X pins σ9 H9 s9 := J9.unA J.ok
      refine wpAny_nameGoes hl hn9 (by rw [J.ok.kind]; rfl) fun h' m' hn' hs' => ?_
      exact ⟨v, nones X, H9, J9'.relocal hn' hs', r9, q9⟩
end
structure RoomX (k : Nat) (A : Around) : Prop where
  dp : A.depth + 3 * k + 5 < recursionLimit
  un : A.units + 16 * k + 200 < cLine
theorem Room.toX {k : Nat} {A : Around} (r : Room k A) : RoomX k A := ⟨r.dp, r.un⟩
theorem RoomX.mono {j k : Nat} {A : Around} (r : RoomX k A) (h : j ≤ k) : RoomX j A := ⟨by have := r.dp; omega, by have := r.un; omega⟩
theorem RoomX.deeper {k : Nat} {A : Around} (r : RoomX (k + 1) A) (env : Env) : RoomX k (A.deeper env) :=
  ⟨by have := r.dp; show A.depth + 1 + 3 * k + 5 < _; omega, by have := r.un; show A.units + 3 + 16 * k + 200 < _; omega⟩
theorem RoomX.mark {k : Nat} {A : Around} (r : RoomX k A) (v : Option Value) : RoomX k (A.mark v) := ⟨r.dp, r.un⟩
theorem RoomX.depth {k : Nat} {A : Around} (r : RoomX k A) : A.depth < recursionLimit := by have := r.dp; omega
structure FnOkX (P : Program) (w : World) (K : PySem.W.Frag) (mg : Str → Option Value) (base : Heap) (k : Nat) (f : Addr) (fd : FuncData) (ps : List Str) (sp : Sp) : Prop where
  len : ∀ vs H Q E, sp vs H Q E → vs.length = ps.length
  run : ∀ (A : Around) (outer : List Env) (s : Shared) (H : Hp) (args : Args) (us : List Value) (vs : List V) (Q : VK) (E : XK), RoomX k A → Env0 P w K mg base A outer s H → BindsTo s fd args (ps.zip us) → Vals vs us → sp vs H Q E →
    codeAny (model P w) A (.call (.ref f) args) (CR CX0 outer P w H s Q E) s
abbrev cxX (P : Program) (w : World) (K : PySem.W.Frag) (mg : Str → Option Value) (base : Heap) (N : List Str) (qual : Str) (scope : Scope) (f : Addr) (cd : Value) (A : Around) (outer : List Env) (s₀ : Shared) (H₀ : Hp) (E : XK) : Cx :=
  { cxOf CX0 P w K mg base N qual scope f cd A outer s₀ H₀ E with calm := false, xe := fun _ _ => False }
theorem Fun.okX {P : Program} {w : World} {K : PySem.W.Frag} {mg : Str → Option Value} {base : Heap} {x qual : Str} {st : Stmt} {f : Addr} {fd : FuncData} {N ps : List Str} {k : Nat} {sp : Sp} (F : Fun K x qual st f fd) (S : FnScope N ps (defScope st)) (len : ∀ vs H Q E, sp vs H Q E → vs.length = ps.length)
    (hbody : ∀ (cdv : Value) (A : Around) (outer : List Env) (s : Shared) (H : Hp) (vs : List V) (Q : VK) (E : XK), RoomX k (A.deeper (envOfC qual (defScope st) s.heap.objs.size f cdv)) → sp vs H Q E →
      ∃ t, PSs (cxX P w K mg base N qual (defScope st) f cdv A outer s H E) (defBody st) t ∧ t { nx := fun _ H' => Q .non H', rt := Q } (start N vs) H) : FnOkX P w K mg base (k + 1) f fd ps sp := by
  obtain ⟨oc, od, kV, doc, pm, an, cdv, ct, osl, rfl, lk, hcd⟩ := F.ex
  refine ⟨len, fun A outer s H args us vs Q E hr e0 hb r hsp => ?_⟩
  have hl := len _ _ _ _ hsp
  have KX : K.In s.heap := e0.mod.kin.keeps fun b o e => (e0.bs b o e).1
  have lim : s.heap.NoLimit := e0.mod.nolimit.keeps fun b o e => (e0.bs b o e).1
  have hkind : ∀ y ∈ ps.zip us, (defScope st).names.lookup y.1 = some .local ∨ ((defScope st).names.lookup y.1 = some .cell ∧ ((cellsFrom (s.heap.objs.size + 1) (defScope st).names []).lookup y.1).isSome = true) := fun ⟨n, v⟩ hy => by
    rcases S.par n (List.of_mem_zip hy).1 with q | q
    · exact .inl q
    · exact .inr ⟨q, PySem.W.cellsFrom_some _ _ _ (.inl q)⟩
  refine codeAny_call_function hr.depth (KX _ _ lk) rfl S.co S.gen rfl (PySem.W.codeRec_of KX hcd) (hb _ _ _ _ ?_)
  refine wpAny_newFunctionEnv_cells S.kind hkind fun env he s1 x => ?_
  subst he
  refine ⟨lim.keeps x.toInCall.keep, codeAny_func ?_⟩
  obtain ⟨t, ht, hq⟩ := hbody cdv A outer s H vs Q E (hr.deeper _) hsp
  have e0' : Env0 P w K mg base { A with handled := none } outer s H := ⟨e0.frames, e0.mod, e0.bs, e0.bsz, e0.funs, e0.frf, e0.hok, e0.bare⟩
  have I0 : Inv (cxOf CX0 P w K mg base N qual (defScope st) f cdv { A with handled := none } outer s H E) [] (start N vs) H s1 := inv_start S rfl e0' hl r x
  have I : Inv (cxX P w K mg base N qual (defScope st) f cdv A outer s H E) [] (start N vs) H s1 := I0.reA (A2 := A.deeper (envOfC qual (defScope st) s.heap.objs.size f cdv)) (by rfl) (fun z => nomatch z)
  refine wpAny_mono (ht [] s1 (start N vs) H _ I hq) (fun fl s' hs => ?_) fun e s' hs => False.elim hs
  have fin : ∀ {σ' : St} {H' : Hp} {v : V} {u : Value}, Inv (cxX P w K mg base N qual (defScope st) f cdv A outer s H E) [] σ' H' s' → RelV v u → Q v H' → CE outer P w H s Q u s' :=
    fun {σ' H' v u} J rv q => ⟨v, H', J.os, J.bare, J.base, J.hok, rv, q⟩
  cases fl with
  | ret u =>
    obtain ⟨v, σ', H', J, rv, q⟩ := hs
    exact fin J rv q
  | next =>
    obtain ⟨σ', H', J, q⟩ := hs
    exact fin (v := V.non) (u := Value.none) J rfl q
  | brk =>
    obtain ⟨_, _, _, q⟩ := hs
    exact False.elim q
  | cont =>
    obtain ⟨_, _, _, q⟩ := hs
    exact False.elim q
section
variable {X : Cx} {CX : CXT} {k : Nat} {f : Addr} {fd : FuncData} {ps : List Str} {sp : Sp} {E : XK} {x : Str} {p pos : Pos} {e : Expr} {es : List Expr} {t : TA}
theorem run_fnX {pins : List (Addr × Obj)} {σ : St} {H : Hp} {s : Shared} {Q : VK} {us : List Value} {vs : List V} (F : FnOkX X.prog X.w X.K X.mg X.base k f fd ps sp) (hr : RoomX k X.A) (hb : Binds X.K fd ps [])
    (I : Inv X pins σ H s) (r : Vals vs us) (h : sp vs H Q E) : wpAny (model X.prog X.w) X.A (call (.ref f) us) (EP X pins σ Q) X.xe s := by
  have hl : (us ++ []).length = ps.length := by rw [List.append_nil, ← r.length]; exact F.len _ _ _ _ h
  have hb' := hb s us I.kIn hl
  rw [List.append_nil] at hb'
  refine wpAny_call (codeAny_mono (F.run X.A X.stack s H ⟨us, []⟩ us vs Q E hr I.env0 hb' r h) fun r s' hq => ?_)
  cases r with
  | error e => exact False.elim hq
  | ok fl =>
    cases fl with
    | ret u => exact I.after hq
    | next => exact False.elim hq
    | brk => exact False.elim hq
    | cont => exact False.elim hq
def tCallX (sp : Sp) (t : TA) : TE := fun σ H Q => t σ H fun vs H1 => sp vs H1 Q E0
theorem pe_callX (F : FnOkX X.prog X.w X.K X.mg X.base k f fd ps sp) (hr : RoomX k X.A) (hg : Gl X x) (hm : X.mg x = some (.ref f)) (hk : PySem.W.keepIn X.K (.ref f) = true) (hb : Binds X.K fd ps [])
    (ha : PA X (e :: es) t) (hdb : (x == ("__debug__" : Str)) = false := by decide) (he : starEach (e :: es) X.env = (false, eval e X.env) :: starEach es X.env := by rfl) (hpl : (backTo pos (starEach es X.env)).any (·.1) = false := by rfl) :
    PE X (.Call (.Name x p) (e :: es) [] pos) (tCallX sp t) := by
  intro pins s σ H Q I h
  refine wpAny_Call_Name_kw (ld_glob I hg hm ?_ hdb)
  refine PySem.W.callWith_K (h₀ := X.base) I.ok.mod.kin hk (thn (ha pos pins s σ H _ I h) fun us s1 ⟨vs, H1, I1, r, q⟩ => ⟨I1.kIn, ?_⟩) he hpl
  exact run_fnX F hr hb I1 r q
structure FnV (P : Program) (w : World) (K : PySem.W.Frag) (mg : Str → Option Value) (base : Heap) (k : Nat) (f : Addr) (sp : Sp) : Prop where
  ex : ∃ fd ps, FnOk P w K mg base (CXR P w) k f fd ps sp ∧ Binds K fd ps []
  kp : PySem.W.keepIn K (.ref f) = true
end
end L2
-- the class of an exception, isinstance, great numbers
set_option maxRecDepth 100000
namespace L2
open PySem PySem.W PySem.Spec PyProof.Rows Builtin Builtin.ObjectAttr Builtin.Getset_descriptor
section
variable {prog : Program} {w : World} {A : Around} {E : Value → Shared → Prop} {s : Shared} {K : Frag} {a C : Addr} {o : Obj}
theorem exc_class_get {R : Result → Shared → Prop} {tp : Value} (X : K.In s.heap) (hx : s.heap.get? a = some o) (hc : o.cls = .ref C) (hm : mroIn K C (.type "object") = some true)
    (h : R (.ok (.ret (.ref C))) s) : codeAny (model prog w) A (.call (.builtin "getset_descriptor.__get__") ⟨[.builtin "object.__class__", .ref a, tp], []⟩) R s := by
  obtain ⟨hh, g, dr, t, os⟩ := s
  have L0 : Looks (model prog w) hh (typeOf (.ref a)) (.ref C) := hc ▸ (Looks.ld hx).andThen .now
  have L1 := looks_mroIn (M := model prog w) X hm
  refine codeAny_call_builtin KF.slot_gs.plain KF.entry_gs (KF.slot_gs.check _ _ _ _ _ _ _ _ KF.type_class (KF.args_gs _ _ _) ?_)
  unfold Builtin.«getset_descriptor.__get__» descrGet
  rw [dga_obj]
  refine wpAny_bind (wpAny_pure ?_)
  unfold descrGetter descrCheckInstance descrNameAndClass isInstance
  simp only [KF.owner_class]
  repeat lk
  refine ⟨Code.quiet_builtin _ (by decide +kernel), codeAny_builtin KF.entry_class ?_⟩
  unfold Builtin.«object.__class__» shownTypeOf
  repeat lk
  exact h
theorem exc_entry {tk : Tok} {Q : Fin → Shared → Prop} (X : K.In s.heap) (hx : s.heap.get? a = some o) (hc : o.cls = .ref C) (g3 : findIn K (.ref C) "__class__" = some (some (.builtin "object.__class__"))) (hm : mroIn K C (.type "object") = some true)
    (hq : Q (.done (.ret (.ref C))) s) : wpAny (model prog w) A (Builtin.«object.__getattribute__» ⟨[.ref a, .str "__class__" tk], []⟩) Q E s := by
  obtain ⟨hh, g, dr, t, os⟩ := s
  have L0 : Looks (model prog w) hh (typeOf (.ref a)) (.ref C) := hc ▸ (Looks.ld hx).andThen .now
  have L1 := looks_findIn (M := model prog w) X g3
  have f5 : typeOf (.builtin "object.__class__") = pure (.type "getset_descriptor") := KF.type_class
  have f6 := F.slot_gs_get.lookup
  have f7 := F.slot_gs_set.lookup
  repeat (any_goals (first | assumption | (with_reducible refine wpAny_loadPart_at hx ?_; rw [hc]) | with_reducible refine L1.at ?_ | wp_step))
  refine exc_class_get X hx hc hm ?_
  repeat (any_goals (first | assumption | wp_step))
theorem exc_check {M : Model} {nameV : Value} {Q : Unit → Shared → Prop} (X : K.In s.heap) (hx : s.heap.get? a = some o) (hc : o.cls = .ref C) (hmB : mroIn K C (.type "BaseException") = some true) (hq : Q () s) :
    wpAny M A (checkBuiltinCall "BaseException.__getattribute__" ⟨[.ref a, nameV], []⟩) Q E s := by
  obtain ⟨hh, g, d, t, os⟩ := s
  have L3 := looks_mroIn (M := M) X hmB
  have hk : builtinKind "BaseException.__getattribute__" = some .slot := by decide +kernel
  have hsplit : splitId "BaseException.__getattribute__" = some ("BaseException", "__getattribute__") := by decide +kernel
  have ha := F.args_bexc_ga (.ref a) nameV
  simp only [checkBuiltinCall, hk, hsplit]
  refine wpAny_bind ?_
  · unfold isInstance
    repeat (first | (with_reducible refine wpAny_loadPart_at hx ?_; rw [hc]) | with_reducible refine L3.at ?_ | wp_step)
    exact hq
theorem exc_class {Q : Option Value → Shared → Prop} (X : K.In s.heap) (hx : s.heap.get? a = some o) (hc : o.cls = .ref C) (g1 : findIn K (.ref C) "__getattribute__" = some (some (.builtin "BaseException.__getattribute__"))) (g2 : findIn K (.ref C) "__getattr__" = some none)
    (g3 : findIn K (.ref C) "__class__" = some (some (.builtin "object.__class__"))) (hm : mroIn K C (.type "object") = some true) (hmB : mroIn K C (.type "BaseException") = some true) 
    (h : Q (some (.ref C)) { s with toks := s.toks + 1 }) : wpAny (model prog w) A (getAttr? (.ref a) "__class__") Q E s := by
  obtain ⟨hh, g, d, t, os⟩ := s
  have L0 : Looks (model prog w) hh (typeOf (.ref a)) (.ref C) := hc ▸ (Looks.ld hx).andThen .now
  have L1 := looks_findIn (M := model prog w) X g1
  have L2 := looks_findIn (M := model prog w) X g2
  have L3 := looks_mroIn (M := model prog w) X hmB
  unfold getAttr? getAttrBy? getAttrBy
  refine wpAny_bind (wpAny_mkText (wpAny_bind (wpAny_attempt (wpAny_holding (wpAny_bind (L0.at (wpAny_bind (L1.at ?_))))))))
  have hx2 : (Value.builtin "BaseException.__getattribute__" == Value.builtin "object.__getattribute__") = false := by decide +kernel
  have hx1 : (onTheHeap (Value.ref C) && Value.builtin "BaseException.__getattribute__" == Value.builtin "object.__getattribute__") = false := by rw [hx2]; rfl
  show wpAny _ _ (if (onTheHeap (Value.ref C) && Value.builtin "BaseException.__getattribute__" == Value.builtin "object.__getattribute__") = true then _ else _) _ _ _
  rw [if_neg (by rw [hx1]; decide)]
  have f3 := PySem.F.attr_ValueError.ga.bind (.ref a)
  have hx0 : (false && onTheHeap (Value.builtin "BaseException.__getattribute__")) = false := rfl
  unfold getAttrByItsOwn hookBefore
  repeat (any_goals (first | assumption | (with_reducible refine wpAny_loadPart_at hx ?_; rw [hc]) | with_reducible refine L1.at ?_ | with_reducible refine L2.at ?_ | wp_step))
  refine codeAny_call_builtin PySem.F.attr_ValueError.ga.plain F.entry_bexc_ga (exc_check X hx hc hmB (exc_entry X hx hc g3 hm ?_))
  dsimp only
  unfold handedOut
  exact wpAny_pure (wpAny_pure h)
structure ExcCls (K : Frag) (C : Addr) : Prop where
  cl : (clsIn K C).isSome = true
  g1 : findIn K (.ref C) "__getattribute__" = some (some (.builtin "BaseException.__getattribute__"))
  g2 : findIn K (.ref C) "__getattr__" = some none
  g3 : findIn K (.ref C) "__class__" = some (some (.builtin "object.__class__"))
  hm : mroIn K C (.type "object") = some true
  hB : mroIn K C (.type "BaseException") = some true
theorem kitx_exc (c : ExcCls K C) : KitX K (.ref a) (.ref C) (fun h => ∃ o, h.get? a = some o ∧ o.cls = .ref C) where
  ty := fun _ _ _ ⟨o, hx, hc⟩ => hc ▸ (Looks.ld hx).andThen .now
  it := fun _ _ X _ => by
    obtain ⟨cdD, hcD⟩ := Option.isSome_iff_exists.mp c.cl
    unfold clsIn at hcD
    split at hcD
    · rename_i c' d' cd' sl' ho
      intro A' Q' E' s' k q
      unfold isType loadHead
      exact wpAny_bind (wpAny_loadPart (k _ _ (X _ _ ho)) (wpAny_pure q))
    · cases hcD
  ne := fun h tp dd its n sl X htp => by
    obtain ⟨cdD, hcD⟩ := Option.isSome_iff_exists.mp c.cl
    refine Bool.eq_false_iff.mpr fun q => ?_
    have e : C = tp := Value.ref.inj (beq_iff_eq.mp q)
    subst e
    unfold clsIn at hcD
    split at hcD
    · rename_i c' d' cd' sl' ho
      have z := (X _ _ ho).symm.trans htp
      cases z
    · cases hcD
  ca := fun X ⟨o, hx, hc⟩ k => exc_class X hx hc c.g1 c.g2 c.g3 c.hm c.hB k
end
section
variable {X : Cx}
def clsV : V → Value
  | .ty n => .type n
  | .ref a => .ref a
  | _ => .none
def isC : V → Prop
  | .ty _ => True
  | .ref _ => True
  | _ => False
inductive TyX (K : Frag) (H : Hp) : V → Value → Prop where
  | of {x : V} {t : Value} (h : TyOf K H x t) : TyX K H x t
  | exc {a C : Addr} (e : H a = some (Exc (.ref C) a)) (c : ExcCls K C) : TyX K H (.ref a) (.ref C)
  | sqt {a : Addr} {xs : List V} (h : SqT K H a xs) : TyX K H (.ref a) (.type "tuple")
  | sql {a : Addr} {xs : List V} (h : SqL K H a xs) : TyX K H (.ref a) (.type "list")
def rIsI (K : Frag) : List V → Hp → VK → Prop := fun xs H Q => ∃ x c t b, xs = [x, c] ∧ isC c ∧ TyX K H x t ∧ kitOne K t (clsV c) = some b ∧ Q (.bl b) H
theorem call_isinst : CallR X (.builtin "isinstance") (rIsI X.K) := by
  intro pins s σ H us vs Q I r h
  obtain ⟨x, c, t, b, rfl, ic, ty, e, q⟩ := h
  obtain ⟨u, cu, rfl, rx, rc⟩ := Vals.two r
  have ec : cu = clsV c := by
    cases c with
    | ty n => exact rc
    | ref a => exact rc
    | _ => exact False.elim ic
  subst ec
  have fin : ∀ tk, EP X pins σ Q (.bool b) { s with toks := tk } := fun tk => ⟨.bl b, H, I.tok tk, rfl, q⟩
  cases ty with
  | of ty => exact isinst_ok I rx ty e fin
  | @exc a C ea cl =>
    cases (show u = Value.ref a from rx)
    obtain ⟨⟨o, _, h1, h2, _⟩, _⟩ := (show ObjOk X.prog X.w H s.heap a (Exc (.ref C) a) from I.hok a _ ea)
    exact kia_one (kitx_exc cl) I.kIn ⟨o, h1, h2⟩ e (fun z => nomatch z) fin
  | @sqt a xs h =>
    cases (show u = Value.ref a from rx)
    obtain ⟨_, _, ⟨o, h1, h2, _⟩, _⟩ := I.tuple h
    exact kia_one kitx_tuple I.kIn ⟨o, h1, h2⟩ e (fun z => nomatch z) fin
  | @sql a xs h =>
    cases (show u = Value.ref a from rx)
    obtain ⟨_, _, ⟨o, n, h1, h2, _⟩, _⟩ := I.list h
    exact kia_one kitx_list I.kIn ⟨o, h1, h2⟩ e (fun z => nomatch z) fin
theorem op_mulB : OpR X (binaryOp .Mult) (rI IntMulOk fun i j => .int (i * j)) := opI fun _ _ _ _ _ _ _ hc q => mul_int q hc
def CDivB (_ j : Int) : Prop := j ≠ 0 ∧ j.natAbs.log2 < 9000
theorem op_fdivB : OpR X (binaryOp .FloorDiv) (rI CDivB fun i j => .int (i.fdiv j)) := opI fun _ _ _ _ _ _ _ hc q => floordiv_int hc.1 q (.inl (PyProof.noPylong_of_log2 hc.2))
end
open PySem PySem.Spec PyProof.Rows
inductive D where
  | v (x : V)
  | tup (ds : List D)
  | lst (ds : List D)
mutual
def eqD : D → D → Bool
  | .v x, .v y => eqV x y
  | .tup a, .tup b => eqDs a b
  | .lst a, .lst b => eqDs a b
  | _, _ => false
def eqDs : List D → List D → Bool
  | [], [] => true
  | x :: xs, y :: ys => eqD x y && eqDs xs ys
  | _, _ => false
end
mutual
def okD : D → D → Bool
  | .v _, .v _ => true
  | .tup a, .tup b => okDs a b
  | .lst a, .lst b => okDs a b
  | _, _ => false
def okDs : List D → List D → Bool
  | x :: xs, y :: ys => okD x y && okDs xs ys
  | _, _ => true
end
mutual
def dpD : D → Nat
  | .v _ => 0
  | .tup a => dpDs a + 1
  | .lst a => dpDs a + 1
def dpDs : List D → Nat
  | [] => 0
  | x :: xs => max (dpD x) (dpDs xs)
end
mutual
inductive IsD (K : PySem.W.Frag) (H : Hp) : V → D → Prop where
  | v {x : V} (f : flatV x = true) : IsD K H x (.v x)
  | tup {p : Addr} {xs : List V} {ds : List D} (h : SqT K H p xs) (t : IsDs K H xs ds) : IsD K H (.ref p) (.tup ds)
  | lst {p : Addr} {xs : List V} {ds : List D} (h : SqL K H p xs) (t : IsDs K H xs ds) : IsD K H (.ref p) (.lst ds)
inductive IsDs (K : PySem.W.Frag) (H : Hp) : List V → List D → Prop where
  | nil : IsDs K H [] []
  | cons {x : V} {xs : List V} {d : D} {ds : List D} (h : IsD K H x d) (t : IsDs K H xs ds) : IsDs K H (x :: xs) (d :: ds)
end
theorem IsDs.length {K : PySem.W.Frag} {H : Hp} : ∀ {xs : List V} {ds : List D}, IsDs K H xs ds → xs.length = ds.length
  | _, _, .nil => rfl
  | _, _, .cons _ t => congrArg (· + 1) t.length
theorem eqV_refl : ∀ {x : V}, flatV x = true → eqV x x = true
  | .non, _ => rfl
  | .bl a, _ => by simp [eqV]
  | .int a, _ => by simp [eqV]
  | .str a, _ => by simp [eqV]
  | .byt _, h => absurd (show false = true from h) Bool.false_ne_true
  | .flt _, h => absurd (show false = true from h) Bool.false_ne_true
  | .ref _, h => absurd (show false = true from h) Bool.false_ne_true
  | .ty _, h => absurd (show false = true from h) Bool.false_ne_true
section
variable {X : Cx} {pins : List (Addr × Obj)} {σ : St} {H : Hp} {s : Shared}
mutual
theorem eqD_same (I : Inv X pins σ H s) : ∀ {x : V} {d d' : D}, IsD X.K H x d → IsD X.K H x d' → okD d d' = true → eqD d d' = true
  | _, _, _, .v f, .v _, _ => by rw [eqD]; exact eqV_refl f
  | _, _, _, .tup h t, .tup h' t', ok => by
    have e := I.tuple_inj h h'
    subst e
    rw [eqD]
    rw [okD] at ok
    exact eqDs_same I t t' ok
  | _, _, _, .lst h t, .lst h' t', ok => by
    have e := I.list_inj h h'
    subst e
    rw [eqD]
    rw [okD] at ok
    exact eqDs_same I t t' ok
  | _, _, _, .v f, .tup _ _, _ => absurd (show false = true from f) Bool.false_ne_true
  | _, _, _, .v f, .lst _ _, _ => absurd (show false = true from f) Bool.false_ne_true
  | _, _, _, .tup _ _, .v f, _ => absurd (show false = true from f) Bool.false_ne_true
  | _, _, _, .lst _ _, .v f, _ => absurd (show false = true from f) Bool.false_ne_true
  | _, _, _, .tup _ _, .lst _ _, ok => by simp [okD] at ok
  | _, _, _, .lst _ _, .tup _ _, ok => by simp [okD] at ok
theorem eqDs_same (I : Inv X pins σ H s) : ∀ {xs : List V} {ds ds' : List D}, IsDs X.K H xs ds → IsDs X.K H xs ds' → okDs ds ds' = true → eqDs ds ds' = true
  | _, _, _, .nil, .nil, _ => by rw [eqDs]
  | _, _, _, .cons h t, .cons h' t', ok => by
    rw [okDs, Bool.and_eq_true] at ok
    rw [eqDs, eqD_same I h h' ok.1, eqDs_same I t t' ok.2]
    rfl
end
def eqAtI (ds ds' : List D) (j : Nat) : Bool := match ds[j]?, ds'[j]? with
  | some d, some d' => eqD d d'
  | _, _ => true
theorem all_range_succ (n : Nat) (e : Nat → Bool) : (List.range (n + 1)).all e = (e 0 && (List.range n).all fun j => e (j + 1)) := by
  rw [List.range_succ_eq_map, List.all_cons, List.all_map]; rfl
theorem all_eqAtI : ∀ (ds ds' : List D), ((List.range (min ds.length ds'.length)).all (eqAtI ds ds') && ds.length == ds'.length) = eqDs ds ds'
  | [], [] => by rw [eqDs]; rfl
  | [], _ :: _ => by simp [eqDs]
  | _ :: _, [] => by simp [eqDs]
  | x :: xs, y :: ys => by
    have ih := all_eqAtI xs ys
    rw [eqDs, ← ih]
    have e1 : min (x :: xs).length (y :: ys).length = min xs.length ys.length + 1 := by simp only [List.length_cons]; omega
    rw [e1, all_range_succ]
    have e2 : ((x :: xs).length == (y :: ys).length) = (xs.length == ys.length) := by
      by_cases h : xs.length = ys.length <;> simp [h]
    rw [e2, Bool.and_assoc]
    rfl
theorem all_eqAtI_len (ds ds' : List D) (h : ds.length = ds'.length) : (List.range ds.length).all (eqAtI ds ds') = eqDs ds ds' := by
  rw [← all_eqAtI, ← h, Nat.min_self]; simp
theorem eqDs_len : ∀ (ds ds' : List D), ds.length ≠ ds'.length → eqDs ds ds' = false
  | [], [], h => absurd rfl h
  | [], _ :: _, _ => by simp [eqDs]
  | _ :: _, [], _ => by simp [eqDs]
  | x :: xs, y :: ys, h => by
    rw [eqDs, eqDs_len xs ys (fun e => h (by simp [e]))]; simp
theorem rcAt_tup0 (I : Inv X pins σ H s) {p p' : Addr} {xs ys : List V} {ds ds' : List D} {A : Around} (h : SqT X.K H p xs) (t : IsDs X.K H xs ds) (h' : SqT X.K H p' ys) (t' : IsDs X.K H ys ds') (hu : A.units < cLine)
    (q : ∀ {us vs : List Value}, Vals xs us → Vals ys vs → ∀ (j : Nat) (h1 : j < us.length) (h2 : j < vs.length), SeqAt.EqAt A.in1 s us[j] vs[j] (eqAtI ds ds' j)) : SeqAt.RcAt A s (.ref p) (.ref p') (eqDs ds ds') := by
    obtain ⟨its, r1, i1, _⟩ := I.tuple h
    obtain ⟨its', r2, i2, _⟩ := I.tuple h'
    have z := SeqAt.RcAt.tuples (A := A) (items := its.toArray) (items2 := its'.toArray) (e := eqAtI ds ds') i1 i2 hu (fun j h1 h2 => q r1 r2 j (by simpa using h1) (by simpa using h2))
    have e1 : its.toArray.size = ds.length := by rw [List.size_toArray, ← r1.length, t.length]
    have e2 : its'.toArray.size = ds'.length := by rw [List.size_toArray, ← r2.length, t'.length]
    rw [e1, e2, all_eqAtI] at z
    exact z
theorem rcAt_lst0 (I : Inv X pins σ H s) {p p' : Addr} {xs ys : List V} {ds ds' : List D} {A : Around} (h : SqL X.K H p xs) (t : IsDs X.K H xs ds) (h' : SqL X.K H p' ys) (t' : IsDs X.K H ys ds') (hu : A.units < cLine)
    (q : ∀ {us vs : List Value}, Vals xs us → Vals ys vs → ∀ (j : Nat) (h1 : j < us.length) (h2 : j < vs.length), SeqAt.EqAt A.in1 s us[j] vs[j] (eqAtI ds ds' j)) : SeqAt.RcAt A s (.ref p) (.ref p') (eqDs ds ds') := by
    obtain ⟨its, r1, i1, _⟩ := I.list h
    obtain ⟨its', r2, i2, _⟩ := I.list h'
    have e1 : its.toArray.size = ds.length := by rw [List.size_toArray, ← r1.length, t.length]
    have e2 : its'.toArray.size = ds'.length := by rw [List.size_toArray, ← r2.length, t'.length]
    by_cases hl : ds.length = ds'.length
    · have z := SeqAt.RcAt.lists (A := A) (items := its.toArray) (items2 := its'.toArray) (e := eqAtI ds ds') i1.isList i2.isList (by rw [e1, e2, hl]) hu (fun j h1 h2 => q r1 r2 j (by simpa using h1) (by simpa using h2))
      rw [e1, all_eqAtI_len ds ds' hl] at z
      exact z
    · rw [eqDs_len ds ds' hl]
      exact SeqAt.RcAt.lists_lengths i1.isList i2.isList (by rw [e1, e2]; simpa using hl) hu
mutual
theorem eqAt_D (I : Inv X pins σ H s) : ∀ {x y : V} {d d' : D} {u v : Value} {A : Around}, IsD X.K H x d → IsD X.K H y d' → okD d d' = true → RelV x u → RelV y v → A.units + dpD d < cLine → SeqAt.EqAt A s u v (eqD d d')
  | _, _, _, _, _, _, _, .v f, .v f', _, r, r', _ => by rw [eqD]; exact eqAt_V r r' f f'
  | _, _, _, _, u, v, A, .tup (p := p) h t, .tup (p := p') h' t', ok, r, r', hu => by
    cases (show u = Value.ref p from r)
    cases (show v = Value.ref p' from r')
    by_cases hp : p = p'
    · subst hp
      rw [eqD_same I (.tup h t) (.tup h' t') ok]
      exact SeqAt.EqAt.same _
    · rw [okD] at ok
      rw [dpD] at hu
      rw [eqD]
      exact SeqAt.EqAt.of_refs hp (rcAt_tup0 I h t h' t' (by omega) fun r1 r2 j h1 h2 => eqAts_D (A := A.in1) I t t' ok r1 r2 (by show A.units + 1 + _ < _; omega) j h1 h2)
  | _, _, _, _, u, v, A, .lst (p := p) h t, .lst (p := p') h' t', ok, r, r', hu => by
    cases (show u = Value.ref p from r)
    cases (show v = Value.ref p' from r')
    by_cases hp : p = p'
    · subst hp
      rw [eqD_same I (.lst h t) (.lst h' t') ok]
      exact SeqAt.EqAt.same _
    · rw [okD] at ok
      rw [dpD] at hu
      rw [eqD]
      exact SeqAt.EqAt.of_refs hp (rcAt_lst0 I h t h' t' (by omega) fun r1 r2 j h1 h2 => eqAts_D (A := A.in1) I t t' ok r1 r2 (by show A.units + 1 + _ < _; omega) j h1 h2)
  | _, _, _, _, _, _, _, .v _, .tup _ _, ok, _, _, _ => by simp [okD] at ok
  | _, _, _, _, _, _, _, .v _, .lst _ _, ok, _, _, _ => by simp [okD] at ok
  | _, _, _, _, _, _, _, .tup _ _, .v _, ok, _, _, _ => by simp [okD] at ok
  | _, _, _, _, _, _, _, .lst _ _, .v _, ok, _, _, _ => by simp [okD] at ok
  | _, _, _, _, _, _, _, .tup _ _, .lst _ _, ok, _, _, _ => by simp [okD] at ok
  | _, _, _, _, _, _, _, .lst _ _, .tup _ _, ok, _, _, _ => by simp [okD] at ok
theorem eqAts_D (I : Inv X pins σ H s) : ∀ {xs ys : List V} {ds ds' : List D} {us vs : List Value} {A : Around}, IsDs X.K H xs ds → IsDs X.K H ys ds' → okDs ds ds' = true → Vals xs us → Vals ys vs → A.units + dpDs ds < cLine →
    ∀ (j : Nat) (h1 : j < us.length) (h2 : j < vs.length), SeqAt.EqAt A s us[j] vs[j] (eqAtI ds ds' j)
  | _, _, _, _, _, _, _, .nil, _, _, .nil, _, _ => fun j h1 _ => absurd h1 (Nat.not_lt_zero _)
  | _, _, _, _, _, _, _, .cons _ _, .nil, _, _, .nil, _ => fun j _ h2 => absurd h2 (Nat.not_lt_zero _)
  | _, _, _, _, _, _, A, .cons h t, .cons h' t', ok, .cons r rs, .cons r' rs', hu => fun j h1 h2 => by
    rw [okDs, Bool.and_eq_true] at ok
    rw [dpDs] at hu
    cases j with
    | zero => exact eqAt_D I h h' ok.1 r r' (by omega)
    | succ j => exact eqAts_D I t t' ok.2 rs rs' (by omega) j (by simpa using h1) (by simpa using h2)
end
def D.isV : D → Bool
  | .v _ => true
  | _ => false
def rEqD (K : PySem.W.Frag) : R2 := fun x y H Q => ∃ d d', d.isV = false ∧ IsD K H x d ∧ IsD K H y d' ∧ okD d d' = true ∧ dpD d ≤ 60 ∧ Q (.bl (eqD d d')) H
theorem op_eqD (hu : X.A.units + 64 < cLine) : OpR X (compareOp .Eq) (rEqD X.K) := by
  intro pins s σ H x y v u Q I rx ry h
  obtain ⟨d, d', nf, h1, h2, ok, dp, q⟩ := h
  have fin : EP X pins σ Q (.bool (eqD d d')) s := ⟨.bl _, H, I, rfl, q⟩
  cases h1 with
  | v f =>
    cases h2 with
    | v f' => exact absurd (show true = false from nf) (by decide)
    | tup _ _ => simp [okD] at ok
    | lst _ _ => simp [okD] at ok
  | @tup p xs ds h t =>
    cases h2 with
    | v f' => simp [okD] at ok
    | @tup p' ys ds' h' t' =>
      cases (show v = Value.ref p from rx)
      cases (show u = Value.ref p' from ry)
      rw [okD] at ok
      rw [dpD] at dp
      rw [eqD] at fin
      exact rcAt_tup0 I h t h' t' (by omega) (fun r1 r2 j h1 h2 => eqAts_D (A := X.A.in1) I t t' ok r1 r2 (by show X.A.units + 1 + _ < _; omega) j h1 h2) X.prog X.w X.xe _ fin
    | lst _ _ => simp [okD] at ok
  | @lst p xs ds h t =>
    cases h2 with
    | v f' => simp [okD] at ok
    | tup _ _ => simp [okD] at ok
    | @lst p' ys ds' h' t' =>
      cases (show v = Value.ref p from rx)
      cases (show u = Value.ref p' from ry)
      rw [okD] at ok
      rw [dpD] at dp
      rw [eqD] at fin
      exact rcAt_lst0 I h t h' t' (by omega) (fun r1 r2 j h1 h2 => eqAts_D (A := X.A.in1) I t t' ok r1 r2 (by show X.A.units + 1 + _ < _; omega) j h1 h2) X.prog X.w X.xe _ fin
end
open PySem PySem.Spec PyProof.Rows
section
variable {X : Cx}
def rBitLen : V → List V → Hp → VK → Prop := fun x vs H Q => ∃ i, x = .int i ∧ vs = [] ∧ Q (.int (Builtin.Int.intBits i)) H
theorem mt_bitlen : MtM X "int.bit_length" rBitLen := by
  intro pins s σ H x vs v us Q I rx rv h
  obtain ⟨i, rfl, rfl, q⟩ := h
  obtain ⟨t, rfl⟩ := rx
  cases Vals.zero rv
  exact call_int_bit_length ⟨.int _, H, I.tok _, ⟨_, rfl⟩, q⟩
theorem count_eqU {x : V} : ∀ {xs : List V} {us : List Value}, Vals xs us → xs.all flatV = true → us.countP (eqU x) = xs.countP fun y => eqV y x
  | _, _, .nil, _ => rfl
  | y :: xs, u :: us, .cons r t, f => by
    rw [List.all_cons, Bool.and_eq_true] at f
    rw [List.countP_cons, List.countP_cons, eqU_of r f.1, count_eqU t f.2]
def rCount : V → List V → Hp → VK → Prop := fun x vs H Q => ∃ l xs y, x = .ref l ∧ vs = [y] ∧ H l = some (.lst xs) ∧ flatV y = true ∧ xs.all flatV = true ∧ Q (.int (xs.countP fun z => eqV z y)) H
theorem mt_count : MtM X "list.count" rCount := by
  intro pins s σ H x vs v us Q I rx rv h
  obtain ⟨l, xs, y, rfl, rfl, hH, fy, fx, q⟩ := h
  cases rx
  obtain ⟨u, rfl, ru⟩ := rv.one
  obtain ⟨z, its, n, r, hl, e⟩ := I.lstM hH
  refine call_meets F.slot_list_count ⟨_, e, rfl⟩ F.entry_list_count (F.args_list_count_2 _ _) (SeqAt.list_countAt l its.toArray n none #[] u (eqU y)) ⟨e, fun w hw => mem_eqAt ru fy r fx w (by simpa using hw), ?_⟩
  refine ⟨.int _, H, I.tok _, ⟨_, rfl⟩, ?_⟩
  rw [show its.toArray.toList = its from rfl, count_eqU r fx]
  exact q
theorem eqU_get {y : V} {xs : List V} {us : List Value} (r : Vals xs us) (f : xs.all flatV = true) (j : Nat) (hj : j < us.length) (hx : j < xs.length) : eqU y us[j] = eqV xs[j] y := by
  obtain ⟨u, e1, e2⟩ := r.get (List.getElem?_eq_getElem hx)
  have e3 : us[j] = u := by rw [List.getElem?_eq_getElem hj] at e1; exact Option.some.inj e1
  rw [e3]
  exact eqU_of e2 (List.all_eq_true.mp f _ (List.getElem_mem hx))
def rIndex : V → List V → Hp → VK → Prop := fun x vs H Q => ∃ l xs y j, x = .ref l ∧ vs = [y] ∧ H l = some (.lst xs) ∧ flatV y = true ∧ xs.all flatV = true ∧ (xs.findIdx? fun z => eqV z y) = some j ∧ Q (.int (j : Nat)) H
theorem mt_index : MtM X "list.index" rIndex := by
  intro pins s σ H x vs v us Q I rx rv h
  obtain ⟨l, xs, y, j, rfl, rfl, hH, fy, fx, hi, q⟩ := h
  cases rx
  obtain ⟨u, rfl, ru⟩ := rv.one
  obtain ⟨z, its, n, r, hl, e⟩ := I.lstM hH
  obtain ⟨hj, h1, h2⟩ := List.findIdx?_eq_some_iff_getElem.mp hi
  have hz : xs.length < 2 ^ 63 := Nat.lt_of_le_of_lt z line63
  refine call_meets F.slot_list_index ⟨_, e, rfl⟩ F.entry_list_index (F.args_list_index_2 _ _) (SeqAt.list_indexAt l its.toArray n none #[] u (eqU y) j (by simpa [← hl] using hj) (by have : (xs.length : Int) < 2 ^ 63 := by exact_mod_cast hz
                                                                                                                                                                                       omega) ?_ ?_) ⟨e, fun w hw => mem_eqAt ru fy r fx w (by simpa using hw), ?_⟩
  · rw [show its.toArray[j]'(by simpa [← hl] using hj) = its[j]'(by rw [← hl]; exact hj) from rfl, eqU_get r fx j _ hj]; exact h1
  · intro m hm hlt
    have hm' : m < its.length := by simpa using hm
    rw [show its.toArray[m]'hm = its[m]'hm' from rfl, eqU_get r fx m _ (by rw [hl]; exact hm')]
    have := h2 m hlt
    simpa using this
  · exact ⟨.int _, H, I.tok _, ⟨_, rfl⟩, q⟩
theorem vals_strs : ∀ (t : Nat) (ps : List Str), Vals (ps.map V.str) (strsFrom t ps)
  | _, [] => .nil
  | t, p :: ps => .cons ⟨_, rfl⟩ (vals_strs (t + 1) ps)
def partsOf (x y : Str) : List Str := Builtin.Str.partsBetween x (Builtin.Str.occurrences x y 0 x.length (x.length + 1)) y.length
def rSplit : V → List V → Hp → VK → Prop := fun v vs H Q => ∃ x y, v = .str x ∧ vs = [.str y] ∧ (decide (x.length < y.length) || decide (Builtin.Str.strKind x < Builtin.Str.strKind y)) = false ∧ (y.length == 0) = false ∧
  (Builtin.Str.occurrences x y 0 x.length (x.length + 1)).isEmpty = false ∧ x.length ≤ sizeLine ∧ (partsOf x y).length ≤ sizeLine ∧ ∀ l, H l = none → Q (.ref l) (upd H l (.lst ((partsOf x y).map V.str)))
theorem mt_split : MtM X "str.split" rSplit := by
  intro pins s σ H x vs v us Q I rx rv h
  obtain ⟨x', y, rfl, rfl, h1, h2, h3, h4, h5, q⟩ := h
  obtain ⟨t, rfl⟩ := rx
  obtain ⟨u, rfl, t', rfl⟩ := rv.one
  refine call_meets F.slot_str_split rfl F.entry_str_split (F.args_str_split_2 _ _) (meets_str_split_sep x' y t t' h1 h2 h3 h4 h5) ?_
  exact ⟨.ref _, _, I.lnew (ys := (partsOf x' y).map V.str) (vals_strs _ _) (by rw [List.length_map]; exact h5), rfl, q _ I.fresh⟩
end
open PySem PySem.Spec PyProof.Rows
structure Df (K : PySem.W.Frag) (mg : Str → Option Value) (x : Str) (st : Stmt) (ps : List Str) (f : Addr) : Prop where
  ex : ∃ fd, Fun K x x st f fd ∧ Binds K fd ps []
  m : mg x = some (.ref f)
structure Def (P : Program) (w : World) (K : PySem.W.Frag) (mg : Str → Option Value) (base : Heap) (CX : CXT) (k : Nat) (x : Str) (f : Addr) (ps : List Str) (sp : Sp) : Prop where
  ex : ∃ fd, FnOk P w K mg base CX k f fd ps sp ∧ Binds K fd ps []
  m : mg x = some (.ref f)
  kp : PySem.W.keepIn K (.ref f) = true
structure DefX (P : Program) (w : World) (K : PySem.W.Frag) (mg : Str → Option Value) (base : Heap) (k : Nat) (x : Str) (f : Addr) (ps : List Str) (sp : Sp) : Prop where
  ex : ∃ fd, FnOkX P w K mg base k f fd ps sp ∧ Binds K fd ps []
  m : mg x = some (.ref f)
  kp : PySem.W.keepIn K (.ref f) = true
section
variable {P : Program} {w : World} {K : PySem.W.Frag} {mg : Str → Option Value} {base : Heap} {k : Nat} {x : Str} {f : Addr} {ps N : List Str} {sp : Sp} {st : Stmt} {CX : CXT}
theorem Df.ok (d : Df K mg x st ps f) (S : FnScope N ps (defScope st)) (len : ∀ vs H Q E, sp vs H Q E → vs.length = ps.length)
    (hbody : ∀ (cdv : Value) (A : Around) (outer : List Env) (s : Shared) (H : Hp) (vs : List V) (Q : VK) (E : XK), Room k (A.deeper (envOfC x (defScope st) s.heap.objs.size f cdv)) → sp vs H Q E →
      ∃ t, PSs (cxOf CX0 P w K mg base N x (defScope st) f cdv A outer s H E).nox (defBody st) t ∧ t { nx := fun _ H' => Q .non H', rt := Q } (start N vs) H) : Def P w K mg base CX0 (k + 1) x f ps sp := by
  obtain ⟨fd, F, b⟩ := d.ex
  exact ⟨⟨fd, F.ok S len hbody, b⟩, d.m, F.kp⟩
theorem Df.okR (d : Df K mg x st ps f) (S : FnScope N ps (defScope st)) (len : ∀ vs H Q E, sp vs H Q E → vs.length = ps.length)
    (hbody : ∀ (cdv : Value) (A : Around) (outer : List Env) (s : Shared) (H : Hp) (vs : List V) (Q : VK) (E : XK), Room k (A.deeper (envOfC x (defScope st) s.heap.objs.size f cdv)) → sp vs H Q E →
      ∃ t, PSs (cxR P w K mg base N x (defScope st) f cdv A outer s H E) (defBody st) t ∧ t { nx := fun _ H' => Q .non H', rt := Q } (start N vs) H) : Def P w K mg base (CXR P w) (k + 1) x f ps sp := by
  obtain ⟨fd, F, b⟩ := d.ex
  have kp := F.kp
  obtain ⟨oc, od, kV, doc, pm, an, cdv, ct, osl, rfl, lk, hcd⟩ := F.ex
  exact ⟨⟨_, fn_of lk hcd S len fun A outer s H vs Q E hr hsp => hbody cdv A outer s H vs Q E hr hsp, b⟩, d.m, kp⟩
theorem Df.okX (d : Df K mg x st ps f) (S : FnScope N ps (defScope st)) (len : ∀ vs H Q E, sp vs H Q E → vs.length = ps.length)
    (hbody : ∀ (cdv : Value) (A : Around) (outer : List Env) (s : Shared) (H : Hp) (vs : List V) (Q : VK) (E : XK), RoomX k (A.deeper (envOfC x (defScope st) s.heap.objs.size f cdv)) → sp vs H Q E →
      ∃ t, PSs (cxX P w K mg base N x (defScope st) f cdv A outer s H E) (defBody st) t ∧ t { nx := fun _ H' => Q .non H', rt := Q } (start N vs) H) : DefX P w K mg base (k + 1) x f ps sp := by
  obtain ⟨fd, F, b⟩ := d.ex
  exact ⟨⟨fd, F.okX S len hbody, b⟩, d.m, F.kp⟩
theorem Def.imp {sp' : Sp} (d : Def P w K mg base CX k x f ps sp) (h : ∀ vs H Q E, sp' vs H Q E → sp vs H Q E) : Def P w K mg base CX k x f ps sp' :=
  let ⟨fd, F, b⟩ := d.ex
  ⟨⟨fd, F.imp h, b⟩, d.m, d.kp⟩
end
section
variable {X : Cx} {CX : CXT} {k j : Nat} {f : Addr} {ps : List Str} {sp : Sp} {E : XK} {x : Str} {p pos : Pos} {e : Expr} {es : List Expr} {t : TA}
def tDef (sp : Sp) (E : XK) (t : TA) : TE := fun σ H Q => t σ H fun vs H1 => sp vs H1 Q E
theorem pe_def (d : Def X.prog X.w X.K X.mg X.base CX j x f ps sp) (hr : Room k X.A) (ha : PA X (e :: es) t) (hx : Passes CX X E) (hj : j ≤ k := by decide) (hg : Gl X x := by rfl)
    (hdb : (x == ("__debug__" : Str)) = false := by decide) (he : starEach (e :: es) X.env = (false, eval e X.env) :: starEach es X.env := by rfl) (hpl : (backTo pos (starEach es X.env)).any (·.1) = false := by rfl) :
    PE X (.Call (.Name x p) (e :: es) [] pos) (tDef sp E t) := by
  obtain ⟨fd, F, b⟩ := d.ex
  have z := pe_call (E := E) (es := es) (e := e) (p := p) (pos := pos) (F.mono hj) hr hg d.m d.kp b .nil hx ha hdb he hpl
  intro pins s σ H Q I h
  refine z pins s σ H Q I ?_
  unfold tCall
  simpa only [List.append_nil, tDef] using h
theorem pe_defX (d : DefX X.prog X.w X.K X.mg X.base j x f ps sp) (hr : RoomX k X.A) (ha : PA X (e :: es) t) (hj : j ≤ k := by decide) (hg : Gl X x := by rfl)
    (hdb : (x == ("__debug__" : Str)) = false := by decide) (he : starEach (e :: es) X.env = (false, eval e X.env) :: starEach es X.env := by rfl) (hpl : (backTo pos (starEach es X.env)).any (·.1) = false := by rfl) :
    PE X (.Call (.Name x p) (e :: es) [] pos) (tCallX sp t) := by
  obtain ⟨fd, F, b⟩ := d.ex
  exact pe_callX F (hr.mono hj) hg d.m d.kp b ha hdb he hpl
end
theorem Same.new {H : Hp} {p : Addr} (h : H p = none) (o : HO) : Same H (upd H p o) := fun b u q => by rw [upd_ne (ne_of_none q h)]; exact q
theorem Same.tup {K : PySem.W.Frag} {H H' : Hp} {a : Addr} {xs : List V} (e : Same H H') (h : SqT K H a xs) : SqT K H' a xs := by
  rcases h with h | h
  · rcases h with h | ⟨o, h⟩
    · exact .inl (.inl (e _ _ h))
    · exact .inl (.inr ⟨o, e _ _ h⟩)
  · exact .inr h
open PySem PySem.Spec PyProof.Rows
section
variable {prog : Program} {w : World} {A : Around} {R : Result → Shared → Prop} {s : Shared}
theorem comp_loop {elt target iter : Expr} {scope : Scope} {pos : Pos} {it acc : Value} {env : Env} (I : Nat → Shared → Prop)
    (turn : ∀ n s, I n s → wpAny (model prog w) A (pyNext it) (fun r s₁ => match r with
      | none => R (.ok .next) s₁
      | some v => wpAny (model prog w) A (letOwnedTupleGo target it v) (fun _ s₁' => wpAny (model prog w) A (assign target env v) (fun _ s₂ => wpAny (model prog w) A (eval elt env) (fun x s₃ =>
          wpAny (model prog w) A (call (.builtin "list.append") [acc, x]) (fun _ s₄ => ∃ m, m < n ∧ I m s₄) (fun _ _ => False) s₃)
          (fun _ _ => False) s₂) (fun _ _ => False) s₁') (fun _ _ => False) s₁) (fun _ _ => False) s)
    (n : Nat) (h : I n s) :
    codeAny (model prog w) A (.compLoop (.ListComp elt [⟨target, iter, [], 0⟩] scope pos) 0 it acc env) R s := by
  refine codeAny_loop rfl I (fun n s hI => ?_) n h
  show wpAny _ _ ((compTurn (.ListComp elt [⟨target, iter, [], 0⟩] scope pos) 0 it acc env).onRaise (fun x => do noteFrame x env; theTreesLotGoes x)) _ _ s
  refine wpAny_noted ?_
  rw [compTurn_list1]
  have no : ∀ {P : Value → Shared → Prop} (e : Value) (s : Shared), False → P e s := fun _ _ h => h.elim
  refine wpAny_bind (wpAny_standAt (wpAny_bind (wpAny_mono (turn n s hI) (fun r s₁ h₁ => ?_) no)))
  cases r with
  | none => exact wpAny_pure h₁
  | some v =>
    refine wpAny_bind (wpAny_mono h₁ (fun _ s₁' h₁' => ?_) no)
    exact wpAny_bind (wpAny_mono h₁' (fun _ s₂ h₂ => wpAny_bind (wpAny_bind (wpAny_mono h₂ (fun x s₃ h₃ => wpAny_bind (wpAny_mono h₃
      (fun _ s₄ h₄ => wpAny_pure (wpAny_pure ⟨rfl, h₄⟩)) no)) no))) no)
end
abbrev Cx.block (X : Cx) (scope : Scope) (cl : List (Str × Addr)) (C : Addr) (Nc : List Str) (s₂ : Shared) (H₂ : Hp) (fp : List Addr) (pins : List (Addr × Obj)) : Cx :=
  { X with N := Nc, s₀ := s₂, H₀ := H₂, env := compEnvC scope cl C X.env, outer := X.stack, ex := fp, fn := fun _ => false, pn := X.pn ++ pins, xe := fun _ _ => False }
def capSt (caps : List (Option Nat)) (σ : St) : St := caps.map fun o => o.bind fun j => (σ[j]?).join
def tComp (wi : TI) (caps : List (Option Nat)) (g : TG) (te : TE) : TE := fun σ H Q => wi σ H fun J H1 => ∀ D, H1 D = none → ∃ W : Nat → Nat → St → Hp → Prop, (∃ m, W 0 m (capSt caps σ) (upd H1 D (.lst []))) ∧
  ∀ i m σc H2, W i m σc H2 → (J.stop i H2 ∧ Q (.ref D) H2) ∨
    (J.go i H2 ∧ ∀ x H3, J.yld i H2 x H3 → g x σc H3 fun σ4 H4 => te σ4 H4 fun y H5 => ∃ ys, H5 D = some (.lst ys) ∧ ys.length < sizeLine ∧ ∃ m', m' < m ∧ W (i + 1) m' σ4 (upd H5 D (.lst (ys ++ [y]))))
section
variable {X : Cx}
structure Caps (X : Cx) (scope : Scope) (cl : List (Str × Addr)) (Nc : List Str) (caps : List (Option Nat)) : Prop where
  clos : closureFor scope X.env = pure cl
  sub : ∀ x c, cl.lookup x = some c → X.env.cells.lookup x = some c
  has : ∀ x, (relabel scope X.env).names.lookup x = some .cell ∨ (relabel scope X.env).names.lookup x = some .free → ∃ c, cl.lookup x = some c
  nocell : ∀ x ∈ scope.names, x.2 ≠ .cell
  kind : scope.kind = .function
  names : ∀ x ∈ scope.names, x.2 = .local → scope.names.lookup x.1 = some .local
  len : caps.length = Nc.length
  cap : ∀ (i j : Nat) (x : Str), caps[i]? = some (some j) → Nc[i]? = some x → X.N[j]? = some x ∧ Vis X.env.scope x ∧ X.env.kindOf x ≠ some .local ∧ ((relabel scope X.env).names.lookup x = some .cell ∨ (relabel scope X.env).names.lookup x = some .free)
theorem Inv.sameC {pins : List (Addr × Obj)} {σ : St} {H H' : Hp} {s s' : Shared} {h'' : Heap} {fp : List Addr} {C : Addr} (I : Inv X pins σ H s) (hf : ∀ b ∈ fp, FpOk X pins H b) (os : s'.os = s.os) (bare : AllBare s'.gens)
    (un : Un (frs X.stack) fp H H' s.heap s'.heap) (hok : HOk X.prog X.w H' s'.heap) (hC : s.heap.objs.size ≤ C) (hCn : H' C = none) (sb : Heap.SameBut C s'.heap h'') : Inv X pins σ H' { s' with heap := h'' } := by
  have ne : ∀ b o, s.heap.get? b = some o → b ≠ C := fun b o e => Nat.ne_of_lt (Nat.lt_of_lt_of_le (Heap.lt_size e) hC)
  refine I.call' (s' := { s' with heap := h'' }) (ch := fp) os ⟨fun b o e n h1 h2 => (sb.2 b (ne b o e)).trans (un.keep b o e n h1 h2), fun b o e n h1 h2 => ?_, un.free, fun b o e h2 => ?_, un.tups, un.frzs, un.tbls⟩ (fun b u e => ?_) bare (fun b hb => ?_)
  · obtain ⟨sl, z⟩ := un.slot b o e n h1 h2
    exact ⟨sl, (sb.2 b (ne b o e)).trans z⟩
  · obtain ⟨o', z⟩ := un.there b o e h2
    exact ⟨o', (sb.2 b (ne b o e)).trans z⟩
  · refine (hok b u e).stay (fun c v hc q => (sb.2 c ?_).trans q) (fun _ q => q) fun _ _ q => q
    rintro rfl
    rcases hc with rfl | hc
    · rw [hCn] at e; cases e
    · rw [hCn] at hc; cases hc
  · obtain ⟨_, f1, _, f3, f4, f5⟩ := hf b hb
    exact ⟨f3, f1, f4, f5⟩
theorem pe_comp {elt tg iter : Expr} {scope : Scope} {pos : Pos} {cl : List (Str × Addr)} {Nc : List Str} {caps : List (Option Nat)} {wi : TI} {g : TG} {te : TE} (hc : X.calm = true) (cp : Caps X scope cl Nc caps) (hi : PI X tg iter wi)
    (hg : ∀ C s₂ H₂ fp pins, PG (X.block scope cl C Nc s₂ H₂ fp pins) tg g) (he : ∀ C s₂ H₂ fp pins, PE (X.block scope cl C Nc s₂ H₂ fp pins) elt te) (hs : ∀ x, foldedSetIterable iter X.env x = pure x := by intro _; rfl) :
    PE X (.ListComp elt [⟨tg, iter, [], 0⟩] scope pos) (tComp wi caps g te) := by
  intro pins s σ H Q I h
  rw [eval_ListComp]
  refine wpAny_comprehension_free (use := none) rfl hs cp.clos cp.kind cp.names ?_
  refine thn (hi pins s σ H _ I h) fun v s1 h1 => thn h1 fun itv s2 h2 => ?_
  obtain ⟨it, fp, tn, J, H2, e, I2, T, st2, f2, hW⟩ := h2
  subst e
  refine wpAny_newObj_type ?_ (by show 0 ≤ sizeLine; exact Nat.zero_le _)
  refine wpAny_newFunctionEnv cp.nocell (by intro y hy; simp at hy) (fun h4 hns hsb => ?_) cp.kind
  dsimp only at hns hsb ⊢
  generalize hH3 : s2.heap.push { cls := .type "list", dict := none, data := .seq ([] : List Value).toArray } = H3 at hns hsb ⊢
  have hCe : H3.objs.size = s2.heap.objs.size + 1 := by rw [← hH3, Heap.size_push]
  have below : ∀ b o, s2.heap.get? b = some o → b ≠ H3.objs.size := fun b o e => by rw [hCe]; exact Nat.ne_of_lt (Nat.lt_succ_of_lt (Heap.lt_size e))
  have old : ∀ b o, s2.heap.get? b = some o → h4.get? b = some o := fun b o e => hsb.extBut b o (below b o e) (Heap.get?_push_of_some _ (hH3 ▸ Heap.get?_push_of_some _ e))
  have hD : h4.get? s2.heap.objs.size = some { cls := .type "list", dict := none, data := .seq ([] : List Value).toArray } :=
    hsb.extBut _ _ (by rw [hCe]; exact Nat.ne_of_lt (Nat.lt_succ_self _)) (Heap.get?_push_of_some _ (hH3 ▸ Heap.get?_push_size _ rfl))
  have hDn : H2 s2.heap.objs.size = none := I2.fresh
  have hCn : H2 H3.objs.size = none := I2.hok.fresh (by rw [hCe]; exact Nat.le_succ _)
  have hCs : s2.heap.objs.size ≤ H3.objs.size := by rw [hCe]; exact Nat.le_succ _
  have hDC : s2.heap.objs.size ≠ H3.objs.size := by rw [hCe]; exact Nat.ne_of_lt (Nat.lt_succ_self _)
  have fpl : ∀ b ∈ fp, ∃ o, s2.heap.get? b = some o := fun b hb => let ⟨o, e, _⟩ := T.obj _ _ st2 b hb; ⟨o, e⟩
  have fpC : ∀ b ∈ fp, b ≠ H3.objs.size := fun b hb => let ⟨o, e⟩ := fpl b hb; below b o e
  have fpD : ∀ b ∈ fp, b ≠ s2.heap.objs.size := fun b hb => let ⟨o, e⟩ := fpl b hb; Nat.ne_of_lt (Heap.lt_size e)
  have stkN : ∀ b, b ≠ X.env.locals → b ∉ X.fs → b ∉ frs X.stack := fun b h1 h2 z => (List.mem_cons.mp (I2.stkSub b z)).elim h1 h2
  obtain ⟨W, ⟨m0, w0⟩, turn⟩ := hW s2.heap.objs.size hDn
  have okB : (X.block scope cl H3.objs.size Nc s2 H2 fp pins).Ok := by
    refine ⟨I2.ok.mod, ?_, I2.ok.glob, I2.ok.blt, hCs, fun x y c h1 h2 => I2.ok.inj x y c (cp.sub x c h1) (cp.sub y c h2), fun x hx => cp.has x hx, fun x c h => (by cases h), I2.ok.hd, I2.ok.frames, .inl rfl, fun b hb => ⟨fpC b hb, fun x c h => (f2 b hb).2.2.2.2.1 x c (cp.sub x c h)⟩, I2.bs, Nat.le_trans I2.ok.bsz I2.sz, fun b o e hb => ?_, fun b hb => stkN b (f2 b hb).2.1 (f2 b hb).2.2.1, I2.stack, I2.stkFree⟩
    · exact cp.kind
    · rcases (f2 b hb).2.2.2.1 with z | z
      · exact I2.ok.noex b o e z
      · exact absurd (Nat.lt_of_lt_of_le (Heap.lt_size e) (Nat.le_trans I2.ok.bsz z)) (Nat.lt_irrefl _)
  have hokB : HOk X.prog X.w (upd H2 s2.heap.objs.size (.lst [])) h4 := I2.hok.laid old (Nat.le_refl _) ⟨Nat.zero_le _, [], _, .nil, hD⟩
  have IB : Inv (X.block scope cl H3.objs.size Nc s2 H2 fp pins) [] (capSt caps σ) (upd H2 s2.heap.objs.size (.lst [])) { s2 with heap := h4, toks := s2.toks + ([] : List (Str × Value)).length } := by
    refine ⟨okB, rfl, I2.bare, Un.laid old (Nat.le_refl _) hDn, ⟨_, hns, fun i x v e1 e2 e3 => ?_⟩, fun x c e => ?_, (show upd H2 s2.heap.objs.size (.lst []) H3.objs.size = none by rw [upd_ne (Ne.symm hDC)]; exact hCn), fun x c e => ?_, fun p hp => ?_, hokB, ?_⟩
    · unfold capSt at e2
      rw [List.getElem?_map] at e2
      cases hcap : caps[i]? with
      | none => rw [hcap] at e2; cases e2
      | some o =>
        rw [hcap] at e2
        cases o with
        | none => cases e2
        | some j =>
          have hj : σ[j]? = some (some v) := by
            have e2' : (σ[j]?).join = some v := Option.some.inj e2
            cases q : σ[j]? with
            | none => rw [q] at e2'; cases e2'
            | some z => rw [q] at e2'; exact congrArg some e2'
          obtain ⟨n1, n2, n3, n4⟩ := cp.cap i j x hcap e1
          obtain ⟨m, hm, hl⟩ := I2.loc
          obtain ⟨u, r, q⟩ := hl j x v n1 hj n2
          rcases q with ⟨k, _⟩ | ⟨k, c, ec, z⟩
          · exact absurd k n3
          · obtain ⟨c', ec'⟩ := cp.has x n4
            have := cp.sub x c' ec'
            rw [ec] at this; cases this
            obtain ⟨oc, ho, hd⟩ := z
            exact ⟨u, r, .inr ⟨n4, c, ec', oc, old _ _ ho, hd⟩⟩
    · obtain ⟨v, oc, ho, hd⟩ := I2.cell x c (cp.sub x c e)
      exact ⟨v, oc, old _ _ ho, hd⟩
    · obtain ⟨v, oc, ho, hd⟩ := I2.cell x c (cp.sub x c e)
      rw [upd_ne (Nat.ne_of_lt (Heap.lt_size ho))]
      exact I2.freeC x c (cp.sub x c e)
    · have hp' : p ∈ X.pn ++ pins := by simpa using hp
      obtain ⟨e1, e2, e3, e4, e5⟩ := I2.pin p hp'
      exact ⟨old _ _ e1, by rw [upd_ne (Nat.ne_of_lt (Heap.lt_size e1))]; exact e2, below _ _ e1, stkN _ e3 e4, e5⟩
    · show (capSt caps σ).length = Nc.length
      unfold capSt
      rw [List.length_map]; exact cp.len
  have stat : ∀ {H' : Hp}, (∀ b ∈ fp, H' b = none) → ∀ b ∈ fp, FpOk (X.block scope cl H3.objs.size Nc s2 H2 fp pins) [] H' b := fun hn b hb =>
    ⟨hn b hb, fpC b hb, stkN b (f2 b hb).2.1 (f2 b hb).2.2.1, .inl hb, fun x c h => (f2 b hb).2.2.2.2.1 x c (cp.sub x c h), fun p hp => (f2 b hb).2.2.2.2.2 p (by simpa using hp)⟩
  have loop : ∀ s5 : Shared, s5 = { s2 with heap := h4, toks := s2.toks + ([] : List (Str × Value)).length } →
      codeAny (model X.prog X.w) X.A (.compLoop (.ListComp elt [⟨tg, iter, [], 0⟩] scope pos) 0 (.ref it) (.ref s2.heap.objs.size) (compEnvC scope cl H3.objs.size X.env))
        (compPost (model X.prog X.w) X.A X.xe none (EP X pins σ Q) (.ref s2.heap.objs.size) H3.objs.size) s5 := by
    rintro s5 rfl
    refine comp_loop (fun n s' => ∃ i σ' H', Inv (X.block scope cl H3.objs.size Nc s2 H2 fp pins) [] σ' H' s' ∧ tn i s'.heap ∧ (∀ b ∈ fp, H' b = none) ∧ W i n σ' H') ?_ m0 ⟨0, _, _, IB, T.keep _ _ _ st2 fun b hb o e => old b o e, fun b hb => by rw [upd_ne (fpD b hb)]; exact (f2 b hb).1, w0⟩
    rintro n s6 ⟨i, σ6, H6, I6, st6, fr6, w6⟩
    rcases turn i n σ6 H6 w6 with ⟨stop, qn⟩ | ⟨go, step⟩
    · refine thn (T.done (X.block scope cl H3.objs.size Nc s2 H2 fp pins) rfl rfl rfl hc i [] s6 σ6 H6 _ I6 (stat fr6) st6 stop) fun r s7 ⟨hr, I7⟩ => ?_
      subst hr
      obtain ⟨m7, hn7, _⟩ := id I7.loc
      exact ⟨m7, hn7, fun h' sb => ⟨.ref s2.heap.objs.size, H6, I2.sameC f2 I7.os I7.bare I7.base I7.hok hCs I7.free sb, rfl, qn⟩⟩
    · refine thn (T.item (X.block scope cl H3.objs.size Nc s2 H2 fp pins) rfl rfl rfl hc i [] s6 σ6 H6 _ I6 (stat fr6) st6 go) fun r s7 ⟨u, hr, h7⟩ => ?_
      subst hr
      refine thn h7 fun _ s8 ⟨x, H8, I8, r8, y8, st8, fr8⟩ => ?_
      have I8' := I8.pinned (stat fr8) (T.obj _ _ st8)
      refine thn (hg _ _ _ _ _ _ s8 σ6 H8 x u _ I8' r8 (step x H8 y8)) fun _ s9 ⟨σ9, H9, I9, q9⟩ => ?_
      refine thn (he _ _ _ _ _ _ s9 σ9 H9 _ I9 q9) fun u10 s10 ⟨v10, H10, I10, r10, ys, hys, hlen, m', hm', w'⟩ => ?_
      refine thn (mt_append _ s10 σ9 H10 (.ref s2.heap.objs.size) [v10] (.ref s2.heap.objs.size) [u10] (fun _ H11 => H11 = upd H10 s2.heap.objs.size (.lst (ys ++ [v10]))) I10 rfl (.cons r10 .nil) ⟨_, ys, v10, rfl, rfl, hys, hlen, rfl⟩) fun _ s11 ⟨_, H11, I11, _, hH11⟩ => ?_
      subst hH11
      refine ⟨m', hm', i + 1, σ9, _, I11.unpinned, T.keep _ _ _ st8 fun b hb o e => (I11.pin (b, o) (List.mem_append_right _ (List.mem_append_right _ (mem_pinsAt hb e)))).1, fun b hb => ?_, w'⟩
      obtain ⟨o, e, d⟩ := T.obj _ _ st8 b hb
      exact (I11.pin (b, o) (List.mem_append_right _ (List.mem_append_right _ (mem_pinsAt hb e)))).2.1
  exact codeAny_compStart_list (loop _ rfl) (T.self _ 0 _ _ _ (T.keep _ _ _ st2 fun b hb o e => old b o e) (loop _ rfl))
end
open PySem PySem.Spec PyProof.Rows
def relabelS (scope osc : Scope) : List (Str × NameKind) := scope.names.map fun (n, k) => if (k == .free && osc.kind == .function && osc.names.lookup n == some .cell) then (n, .cell) else (n, k)
def isCF (o : Option NameKind) : Bool := o == some .cell || o == some .free
def capsOk (scope osc : Scope) (N ks Nc : List Str) (caps : List (Option Nat)) : Bool :=
  ((relabelS scope osc).all fun y => !(y.2 == .cell || y.2 == .free) || ks.contains y.1) && (scope.names.all fun y => y.2 != .cell) && scope.kind == .function &&
  (scope.names.all fun y => y.2 != .local || scope.names.lookup y.1 == some .local) && caps.length == Nc.length &&
  ((caps.zip Nc).all fun p => match p.1 with
    | none => true
    | some j => N[j]? == some p.2 && isCF (osc.names.lookup p.2) && isCF ((relabelS scope osc).lookup p.2))
theorem lookup_mem {α β : Type} [BEq α] [LawfulBEq α] : ∀ {l : List (α × β)} {x : α} {v : β}, l.lookup x = some v → (x, v) ∈ l
  | [], _, _, h => by simp at h
  | (a, b) :: r, x, v, h => by
    rw [List.lookup_cons] at h
    split at h
    · rename_i e
      have := eq_of_beq e
      subst this
      cases h
      exact List.mem_cons_self
    · exact List.mem_cons_of_mem _ (lookup_mem h)
theorem lookup_of_key {β : Type} : ∀ {l : List (Str × β)} {x : Str}, x ∈ l.map (·.1) → ∃ c, l.lookup x = some c
  | [], _, h => by simp at h
  | (a, b) :: r, x, h => by
    rw [List.lookup_cons]
    by_cases e : x = a
    · subst e; exact ⟨b, by simp⟩
    · have : (x == a) = false := by simpa using e
      rw [this]
      rcases List.mem_cons.mp h with z | z
      · exact absurd z e
      · exact lookup_of_key z
theorem isCF_or {o : Option NameKind} (h : isCF o = true) : o = some .cell ∨ o = some .free := by
  unfold isCF at h
  simp only [Bool.or_eq_true, beq_iff_eq] at h
  exact h
theorem Caps.of {X : Cx} {scope osc : Scope} {cl : List (Str × Addr)} {N ks Nc : List Str} {caps : List (Option Nat)} (clos : closureFor scope X.env = pure cl) (hN : X.N = N) (hosc : X.env.scope = osc) (hks : cl.map (·.1) = ks)
    (sub : ∀ x c, cl.lookup x = some c → X.env.cells.lookup x = some c) (ok : capsOk scope osc N ks Nc caps = true) : Caps X scope cl Nc caps := by
  unfold capsOk at ok
  simp only [Bool.and_eq_true, List.all_eq_true, beq_iff_eq, Bool.or_eq_true, Bool.not_eq_true', bne_iff_ne, ne_eq] at ok
  obtain ⟨⟨⟨⟨⟨o1, o2⟩, o3⟩, o4⟩, o5⟩, o6⟩ := ok
  have er : (relabel scope X.env).names = relabelS scope osc := by subst hosc; rfl
  have kof : ∀ x, X.env.kindOf x = osc.names.lookup x := fun x => by subst hosc; rfl
  refine ⟨clos, sub, fun x h => ?_, fun x hx => o2 x hx, o3, fun x hx hl => ?_, o5, fun i j x h1 h2 => ?_⟩
  · rw [er] at h
    refine lookup_of_key ?_
    rw [hks]
    have key : ∀ k, (relabelS scope osc).lookup x = some k → (k = .cell ∨ k = .free) → x ∈ ks := fun k hk hcf => by
      rcases o1 (x, k) (lookup_mem hk) with z | z
      · rcases hcf with rfl | rfl <;> simp at z
      · simpa using z
    rcases h with h | h
    · exact key _ h (.inl rfl)
    · exact key _ h (.inr rfl)
  · rcases o4 x hx with z | z
    · exact absurd hl z
    · exact z
  · have hm : (some j, x) ∈ caps.zip Nc := by
      have : (caps.zip Nc)[i]? = some (some j, x) := by
        rw [List.getElem?_zip_eq_some]; exact ⟨h1, h2⟩
      exact List.mem_of_getElem? this
    have z := o6 _ hm
    simp only [Bool.and_eq_true, beq_iff_eq] at z
    obtain ⟨⟨z1, z2⟩, z3⟩ := z
    have c2 := isCF_or z2
    have c3 := isCF_or z3
    refine ⟨by rw [hN]; exact z1, ?_, ?_, ?_⟩
    · rw [hosc]
      rcases c2 with c | c
      · exact .inr (.inl c)
      · exact .inr (.inr c)
    · rw [kof]
      rcases c2 with c | c <;> rw [c] <;> decide
    · rw [er]; exact c3
open PySem PySem.Spec PyProof.Rows
section
variable {X : Cx} {pins : List (Addr × Obj)} {σ : St} {H : Hp} {s : Shared}
theorem Inv.turnLaid {h' : Heap} {t' : Nat} {fp : List Addr} {a : Addr} {o : HO} (I : Inv X pins σ H s) (hf : ∀ b ∈ fp, FpOk X pins H b)
    (k : ∀ b u, b ∉ fp → s.heap.get? b = some u → h'.get? b = some u) (hp : s.heap.objs.size ≤ a) (new : ObjOk X.prog X.w (upd H a o) h' a o) : Inv X pins σ (upd H a o) { s with heap := h', toks := t' } := by
  have hn : H a = none := I.hok.fresh hp
  have nf : ∀ b u, H b = some u → b ∉ fp := fun b u e z => by rw [(hf b z).1] at e; cases e
  have ne : ∀ b u, s.heap.get? b = some u → b ≠ a := fun b u e => Nat.ne_of_lt (Nat.lt_of_lt_of_le (Heap.lt_size e) hp)
  refine I.step (g' := s.gens) (d' := s.drawn) (ch := fp) (fun b hb => ?_) (fun b o _ _ hc e _ => k b o hc e) (fun b o _ _ hc e _ => ⟨o.slots, k b o hc e⟩) (fun b o _ e n => by rw [upd_ne (ne b o e)]; exact n)
    (fun b o hc e => ⟨o, k b o hc e⟩) (fun b xs e => by rw [upd_ne (ne_of_none e hn)]; exact e) (fun b o u e => by rw [upd_ne (ne_of_none e hn)]; exact e) (fun b ps e => ⟨#[], by rw [upd_ne (ne_of_none e hn), e]; simp⟩) (fun m hm => ?_) (fun b u e => ?_) I.bare
  · obtain ⟨_, f1, _, f3, f4, f5⟩ := hf b hb
    exact ⟨f3, f1, f4, f5⟩
  · obtain ⟨o, es, ep, ho, r⟩ := hm
    exact ⟨o, es, ep, k _ o (fun z => (hf _ z).2.1 rfl) ho, r⟩
  · by_cases hb : b = a
    · subst hb; rw [upd_same] at e; cases e; exact new
    · rw [upd_ne hb] at e
      refine (I.hok b u e).stay (fun c v hc q => k c v ?_ q) (fun c q => by rw [upd_ne (ne_of_none q hn)]; exact q) fun c xs q => by rw [upd_ne (ne_of_none q hn)]; exact q
      rcases hc with z | z
      · rw [z]; exact nf b u e
      · exact nf c _ z
end
def Ite (K : PySem.W.Frag) (a : Addr) : It :=
  ⟨fun i H => ∃ xs x, SqL K H a xs ∧ xs[i]? = some x, fun i H y H' => ∀ xs, SqL K H a xs → ∃ x p, xs[i]? = some x ∧ H p = none ∧ y = .ref p ∧ H' = upd H p (.tup [.int i, x]), fun i H => ∃ xs, SqL K H a xs ∧ xs.length ≤ i⟩
theorem turn_enum {P : Program} {w : World} {K : PySem.W.Frag} {elts : List Expr} {k : Nat} {tpos : Pos} (a e it : Addr) (hei : e ≠ it) :
    Turn P w K (.Tuple elts k tpos) (Ite K a) [e, it] e (fun i h => (∃ old, IsEnum h e it ((i : Nat) : Int) old) ∧ h.IsListIter it a i) where
  mem := by simp
  obj := fun i h st b hb => by
    obtain ⟨⟨old, he⟩, hit⟩ := st
    rcases (by simpa using hb : b = e ∨ b = it) with z | z
    · subst z
      exact ⟨_, he, fun v z => by cases z⟩
    · subst z
      obtain ⟨o, e, c, d⟩ := hit
      exact ⟨o, e, fun v z => by rw [d] at z; cases z⟩
  keep := fun i h h' st k => ⟨let ⟨old, he⟩ := st.1; ⟨old, k e (by simp) _ he⟩, st.2.at fun o e => k it (by simp) o e⟩
  item := by
    intro X hP hw hK hc i pins s σ H E I hf st hg
    subst hP hw hK
    obtain ⟨xs, x, hq, hx⟩ := hg
    obtain ⟨its, rv, p, hz⟩ := I.list hq
    obtain ⟨u, hu, ru⟩ := rv.get hx
    obtain ⟨⟨old, he⟩, hit⟩ := st
    have helt : e < s.heap.objs.size := Heap.lt_size he
    have hilt : it < s.heap.objs.size := by obtain ⟨_, x, _⟩ := id hit; exact Heap.lt_size x
    refine wpAny_pyNext_enum_item he hit p.isList (x := u) (by simpa using hu) hei fun h' ho hit' hT hsz kk => ?_
    refine ⟨_, rfl, ?_⟩
    refine wpAny_letOwnedTupleGo_enum (s := { s with heap := h', toks := s.toks + 1 }) ho fun h'' he' sb => ?_
    have hT' : h''.get? s.heap.objs.size = some { cls := .type "tuple", data := .seq #[.int i s.toks, u] } := (sb.2 _ (Nat.ne_of_gt helt)).trans hT
    refine ⟨.ref s.heap.objs.size, upd H s.heap.objs.size (.tup [.int i, x]), I.turnLaid (fp := [e, it]) (t' := s.toks + 1) hf (fun b v hb q => ?_) (Nat.le_refl _) ?_, rfl, ?_, ?_, fun b hb => ?_⟩
    · have h1 : b ≠ e := fun z => hb (by simp [z])
      have h2 : b ≠ it := fun z => hb (by simp [z])
      exact (sb.2 b h1).trans (kk b v h1 h2 q)
    · exact ⟨(show 2 ≤ sizeLine by decide +kernel), [.int i s.toks, u], .cons ⟨_, rfl⟩ (.cons ru .nil), _, hT', rfl, _, rfl⟩
    · intro ys hy
      rw [I.list_inj hy hq]
      exact ⟨x, _, hx, I.fresh, rfl, rfl⟩
    · refine ⟨⟨u, by have := he'; simpa using this⟩, hit'.at fun o q => (sb.2 it hei.symm).trans q⟩
    · have hlt : b < s.heap.objs.size := by
        rcases (by simpa using hb : b = e ∨ b = it) with z | z
        · rw [z]; exact helt
        · rw [z]; exact hilt
      rw [upd_ne (Nat.ne_of_lt hlt)]
      exact (hf b hb).1
  done := by
    intro X hP hw hK hc i pins s σ H E I hf st hg
    subst hP hw hK
    obtain ⟨xs, hq, hx⟩ := hg
    obtain ⟨its, rv, p, hz⟩ := I.list hq
    obtain ⟨⟨old, he⟩, hit⟩ := st
    obtain ⟨f0, f1, f2, f3, f4, f5⟩ := hf it (by simp)
    have hl := rv.length
    exact wpAny_pyNext_enum_end (I.ok.hd hc) he hit p.isList (by simp; omega) fun h' eb => ⟨rfl, I.turned (t' := s.toks) (fun b o hb e => eb b o hb e) f0 f1 f3 f4 f5⟩
  self := fun _ _ _ _ _ st h => by
    obtain ⟨⟨old, he⟩, _⟩ := st
    exact wpAny_pyIter_enum he h
section
variable {X : Cx}
def iEnum (K : PySem.W.Frag) (ta : TA) : TI := fun σ H R => ta σ H fun vs H1 => ∃ a, vs = [.ref a] ∧ (∃ xs, SqL K H1 a xs) ∧ R (Ite K a) H1
theorem pi_enum {elts : List Expr} {k : Nat} {tpos : Pos} {l : Expr} {ta : TA} {p pos : Pos} (hg : Gl X "enumerate") (hm : X.mg "enumerate" = none) (ha : PA X [l] ta) (hs : starEach [l] X.env = [(false, eval l X.env)] := by rfl) :
    PI X (.Tuple elts k tpos) (.Call (.Name "enumerate" p) [l] [] pos) (iEnum X.K ta) := by
  intro pins s σ H R I h
  refine Call_ (ld_blt I hg hm (u := .type "enumerate") (by decide +kernel) (PyProof.Rows.callWith_type1 (thn (ha pos pins s σ H _ I h) fun us s1 ⟨vs, H1, I1, r1, q1⟩ => ?_) hs rfl))
  obtain ⟨a, e, ⟨xs, hq⟩, q⟩ := q1
  subst e
  obtain ⟨u, rfl, rx⟩ := vals1 r1
  cases rx
  obtain ⟨its, rv, p, hz⟩ := I1.list hq
  refine call_enumerate_list p.isList fun h' he hit hsz kk => ?_
  refine wpAny_pyIter_enum he ?_
  have I2 : Inv X pins σ H1 { s1 with heap := h' } := I1.kept (t' := s1.toks) kk
  refine ⟨s1.heap.objs.size + 1, [s1.heap.objs.size + 1, s1.heap.objs.size], _, _, H1, rfl, I2, turn_enum a _ _ (Nat.succ_ne_self _), ⟨⟨_, he⟩, hit⟩, fun b hb => ?_, q⟩
  have hb' : s1.heap.objs.size ≤ b := by
    rcases (by simpa using hb : b = s1.heap.objs.size + 1 ∨ b = s1.heap.objs.size) with z | z
    · rw [z]; exact Nat.le_succ _
    · rw [z]; exact Nat.le_refl _
  obtain ⟨f0, f1, f2, f3, f4, f5⟩ := I1.fpOk (H' := H1) hb' (I1.hok.fresh hb')
  exact ⟨f0, f1, f2, f3, f4, f5⟩
end
def tCompIf (wi : TI) (caps : List (Option Nat)) (g : TG) (tt : TT) (te : TE) : TE := fun σ H Q => wi σ H fun J H1 => ∀ D, H1 D = none → ∃ W : Nat → Nat → St → Hp → Prop, (∃ m, W 0 m (capSt caps σ) (upd H1 D (.lst []))) ∧
  ∀ i m σc H2, W i m σc H2 → (J.stop i H2 ∧ Q (.ref D) H2) ∨
    (J.go i H2 ∧ ∀ x H3, J.yld i H2 x H3 → g x σc H3 fun σ4 H4 => tt σ4 H4 fun b H4' => if b = true then te σ4 H4' fun y H5 => ∃ ys, H5 D = some (.lst ys) ∧ ys.length < sizeLine ∧ ∃ m', m' < m ∧ W (i + 1) m' σ4 (upd H5 D (.lst (ys ++ [y])))
      else ∃ m', m' < m ∧ W (i + 1) m' σ4 H4')
open PySem PySem.Spec PyProof.Rows
section
variable {X : Cx}
theorem all_range_get (bs : List Bool) : (List.range bs.length).all (fun i => (bs[i]?).getD true) = bs.all id := by
  induction bs with
  | nil => rfl
  | cons b bs ih =>
    rw [List.length_cons, all_range_succ, List.all_cons, ← ih]
    rfl
theorem call_all (hc : X.calm = true) : CallR X (.builtin "all") (fun xs H Q => ∃ (p : Addr) (bs : List Bool), xs = [.ref p] ∧ SqL X.K H p (bs.map V.bl) ∧ Q (.bl (bs.all id)) H) := by
  intro pins s σ H xs us Q I r h
  obtain ⟨p, bs, rfl, hq, q⟩ := h
  obtain ⟨u, rfl, rx⟩ := vals1 r
  cases rx
  obtain ⟨its, r', pl, hz⟩ := I.list hq
  have hlen : its.length = bs.length := by rw [← r'.length, List.length_map]
  have hp : p ≠ s.heap.objs.size := by
    obtain ⟨o, ho, _⟩ := pl.isList
    exact Nat.ne_of_lt (Heap.lt_size ho)
  refine call_all_walk (wpAny_pyIter_list pl.isList ?_)
  refine ⟨s.heap.objs.size, _, _, _, _, _, fun i => (bs[i]?).getD true, rfl, Walks.list (A := X.A.in1) (I.ok.hd hc) _ p hp its.toArray, ⟨⟨_, Heap.get?_push_size _ rfl, rfl, rfl⟩, pl.isList.at fun o e => Heap.get?_push_of_some _ e⟩, ?_, ?_⟩
  · intro i v s' Q' E' hv hQ
    have hv' : its[i]? = some v := by simpa using hv
    have hi : i < bs.length := by rw [← hlen]; exact (List.getElem?_eq_some_iff.mp hv').1
    obtain ⟨u, hu, ru⟩ := r'.get (i := i) (x := .bl bs[i]) (by rw [List.getElem?_map, List.getElem?_eq_getElem hi]; rfl)
    rw [hv'] at hu
    cases hu
    cases ru
    simp only [List.getElem?_eq_getElem hi] at hQ
    exact wpAny_truthy_bool hQ
  · intro h' tk kk
    have e : (List.range its.toArray.size).all (fun i => (bs[i]?).getD true) = bs.all id := by rw [List.size_toArray, hlen, all_range_get]
    rw [e]
    refine ⟨.bl _, H, I.kept (t' := tk) fun b o e => kk b o ?_ (Heap.get?_push_of_some _ e), rfl, q⟩
    intro z
    have : b = s.heap.objs.size := by simpa using z
    exact absurd (Heap.lt_size e) (by rw [this]; exact Nat.lt_irrefl _)
def rNeD (K : PySem.W.Frag) : R2 := fun x y H Q => ∃ d d', d.isV = false ∧ IsD K H x d ∧ IsD K H y d' ∧ okD d d' = true ∧ dpD d ≤ 60 ∧ Q (.bl (!eqD d d')) H
theorem op_neD (hu : X.A.units + 64 < cLine) : OpR X (compareOp .NotEq) (rNeD X.K) := by
  intro pins s σ H x y v u Q I rx ry h
  obtain ⟨d, d', nf, h1, h2, ok, dp, q⟩ := h
  have fin : EP X pins σ Q (.bool (!eqD d d')) s := ⟨.bl _, H, I, rfl, q⟩
  cases h1 with
  | v f =>
    cases h2 with
    | v f' => exact absurd (show true = false from nf) (by decide)
    | tup _ _ => simp [okD] at ok
    | lst _ _ => simp [okD] at ok
  | @tup p xs ds h t =>
    cases h2 with
    | v f' => simp [okD] at ok
    | @tup p' ys ds' h' t' =>
      cases (show v = Value.ref p from rx)
      cases (show u = Value.ref p' from ry)
      rw [okD] at ok
      rw [dpD] at dp
      rw [eqD] at fin
      obtain ⟨its, r1, i1, _⟩ := I.tuple h
      obtain ⟨its', r2, i2, _⟩ := I.tuple h'
      have q' : ∀ (j : Nat) (h1 : j < its.length) (h2 : j < its'.length), SeqAt.EqAt X.A.in1 s its[j] its'[j] (eqAtI ds ds' j) := fun j h1 h2 => eqAts_D (A := X.A.in1) I t t' ok r1 r2 (by show X.A.units + 1 + _ < _; omega) j h1 h2
      have z := SeqAt.RcNeAt.tuples (A := X.A) (items := its.toArray) (items2 := its'.toArray) (e := eqAtI ds ds') i1 i2 (by omega) (fun j h1 h2 => q' j (by simpa using h1) (by simpa using h2))
      have e1 : its.toArray.size = ds.length := by rw [List.size_toArray, ← r1.length, t.length]
      have e2 : its'.toArray.size = ds'.length := by rw [List.size_toArray, ← r2.length, t'.length]
      rw [e1, e2, all_eqAtI] at z
      exact PySem.EqBoolInt.of_rcne z fin
    | lst _ _ => simp [okD] at ok
  | @lst p xs ds h t =>
    cases h2 with
    | v f' => simp [okD] at ok
    | tup _ _ => simp [okD] at ok
    | @lst p' ys ds' h' t' =>
      cases (show v = Value.ref p from rx)
      cases (show u = Value.ref p' from ry)
      rw [okD] at ok
      rw [dpD] at dp
      rw [eqD] at fin
      obtain ⟨its, r1, i1, _⟩ := I.list h
      obtain ⟨its', r2, i2, _⟩ := I.list h'
      have q' : ∀ (j : Nat) (h1 : j < its.length) (h2 : j < its'.length), SeqAt.EqAt X.A.in1 s its[j] its'[j] (eqAtI ds ds' j) := fun j h1 h2 => eqAts_D (A := X.A.in1) I t t' ok r1 r2 (by show X.A.units + 1 + _ < _; omega) j h1 h2
      have e1 : its.toArray.size = ds.length := by rw [List.size_toArray, ← r1.length, t.length]
      have e2 : its'.toArray.size = ds'.length := by rw [List.size_toArray, ← r2.length, t'.length]
      by_cases hl : ds.length = ds'.length
      · have z := SeqAt.RcNeAt.lists (A := X.A) (items := its.toArray) (items2 := its'.toArray) (e := eqAtI ds ds') i1.isList i2.isList (by rw [e1, e2, hl]) (by omega) (fun j h1 h2 => q' j (by simpa using h1) (by simpa using h2))
        rw [e1, all_eqAtI_len ds ds' hl] at z
        exact PySem.EqBoolInt.of_rcne z fin
      · rw [eqDs_len ds ds' hl] at fin
        exact PySem.EqBoolInt.of_rcne (SeqAt.RcNeAt.lists_lengths (A := X.A) i1.isList i2.isList (by rw [e1, e2]; simpa using hl) (by omega)) fin
end
def CompN (D : Addr) (n : Nat) (Pv : Nat → St → Hp → Prop) (i : Nat) (σ4 : St) (y : V) (H5 : Hp) : Prop :=
  ∃ ys, H5 D = some (.lst ys) ∧ ys.length < sizeLine ∧ ∃ m', m' < n - i ∧ (m' = n - (i + 1) ∧ i + 1 ≤ n ∧ Pv (i + 1) σ4 (upd H5 D (.lst (ys ++ [y]))))
theorem CompN.mk {D : Addr} {n : Nat} {Pv : Nat → St → Hp → Prop} {i : Nat} {σ4 : St} {y : V} {H5 : Hp} {ys : List V} (hi : i < n) (h : H5 D = some (.lst ys)) (hl : ys.length < sizeLine) (p : Pv (i + 1) σ4 (upd H5 D (.lst (ys ++ [y])))) : CompN D n Pv i σ4 y H5 :=
  ⟨ys, h, hl, _, by omega, rfl, hi, p⟩
section
variable {K : PySem.W.Frag} {a D : Addr} {xs : List V} {g : TG} {te : TE} {σ0 : St} {H0 : Hp} {Q : VK}
theorem comp_list (Pv : Nat → St → Hp → Prop) (h0 : Pv 0 σ0 H0) (hl : ∀ i σ H, i ≤ xs.length → Pv i σ H → SqL K H a xs)
    (hs : ∀ i x σ H, xs[i]? = some x → Pv i σ H → g x σ H fun σ4 H4 => te σ4 H4 fun y H5 => CompN D xs.length Pv i σ4 y H5) (hd : ∀ σ H, Pv xs.length σ H → Q (.ref D) H) :
    ∃ W : Nat → Nat → St → Hp → Prop, (∃ m, W 0 m σ0 H0) ∧ ∀ i m σc H2, W i m σc H2 → ((Itl K a).stop i H2 ∧ Q (.ref D) H2) ∨
      ((Itl K a).go i H2 ∧ ∀ x H3, (Itl K a).yld i H2 x H3 → g x σc H3 fun σ4 H4 => te σ4 H4 fun y H5 => ∃ ys, H5 D = some (.lst ys) ∧ ys.length < sizeLine ∧ ∃ m', m' < m ∧ W (i + 1) m' σ4 (upd H5 D (.lst (ys ++ [y])))) := by
  refine ⟨fun i m σ H => m = xs.length - i ∧ i ≤ xs.length ∧ Pv i σ H, ⟨xs.length, by simp, Nat.zero_le _, h0⟩, ?_⟩
  rintro i m σ H ⟨rfl, hi, p⟩
  have q := hl i σ H hi p
  by_cases hlt : i < xs.length
  · refine .inr ⟨⟨xs, xs[i], q, List.getElem?_eq_getElem hlt⟩, ?_⟩
    rintro x H3 ⟨rfl, hx⟩
    exact hs i x σ _ (hx xs q) p
  · have e : i = xs.length := by omega
    subst e
    exact .inl ⟨⟨xs, q, Nat.le_refl _⟩, hd σ H p⟩
theorem comp_range {lo : Int} {n : Nat} (Pv : Nat → St → Hp → Prop) (h0 : Pv 0 σ0 H0)
    (hs : ∀ i σ H, i < n → Pv i σ H → g (.int (lo + i)) σ H fun σ4 H4 => te σ4 H4 fun y H5 => CompN D n Pv i σ4 y H5) (hd : ∀ σ H, Pv n σ H → Q (.ref D) H) :
    ∃ W : Nat → Nat → St → Hp → Prop, (∃ m, W 0 m σ0 H0) ∧ ∀ i m σc H2, W i m σc H2 → ((Itr lo n).stop i H2 ∧ Q (.ref D) H2) ∨
      ((Itr lo n).go i H2 ∧ ∀ x H3, (Itr lo n).yld i H2 x H3 → g x σc H3 fun σ4 H4 => te σ4 H4 fun y H5 => ∃ ys, H5 D = some (.lst ys) ∧ ys.length < sizeLine ∧ ∃ m', m' < m ∧ W (i + 1) m' σ4 (upd H5 D (.lst (ys ++ [y])))) := by
  refine ⟨fun i m σ H => m = n - i ∧ i ≤ n ∧ Pv i σ H, ⟨n, by simp, Nat.zero_le _, h0⟩, ?_⟩
  rintro i m σ H ⟨rfl, hi, p⟩
  by_cases hlt : i < n
  · refine .inr ⟨hlt, ?_⟩
    rintro x H3 ⟨rfl, rfl⟩
    exact hs i σ _ hlt p
  · have e : i = n := by omega
    subst e
    exact .inl ⟨Nat.le_refl _, hd σ H p⟩
end
end L2
namespace R
theorem num_den_of {n d : Int} (hd : 0 < d) (hc : Int.gcd n d = 1) : (Rat.divInt n d).num = n ∧ ((Rat.divInt n d).den : Int) = d := by
  obtain ⟨k, rfl⟩ : ∃ k : Nat, d = k := ⟨d.toNat, by omega⟩
  have hk : k ≠ 0 := by omega
  have hc' : n.natAbs.Coprime k := by
    rw [Int.gcd_eq_natAbs_gcd_natAbs] at hc
    simpa [Nat.Coprime] using hc
  have e : (⟨n, k, hk, hc'⟩ : Rat) = Rat.divInt n k := Rat.mk_eq_divInt
  rw [← e]
  exact ⟨rfl, rfl⟩
theorem eq_of_divInt {n d t b : Int} (hd : 0 < d) (hc : Int.gcd n d = 1) (hb : b ≠ 0) (h : n * b = t * d) : n = (Rat.divInt t b).num ∧ d = ((Rat.divInt t b).den : Int) := by
  have e : Rat.divInt n d = Rat.divInt t b := (Rat.divInt_eq_divInt_iff (by omega) hb).mpr h
  obtain ⟨h1, h2⟩ := num_den_of hd hc
  rw [e] at h1 h2
  exact ⟨h1.symm, h2.symm⟩
theorem fdiv_of_mul {g n : Int} (hg : g ≠ 0) : (g * n).fdiv g = n := by
  rw [Int.mul_comm]; exact Int.mul_fdiv_cancel n hg
theorem gcd_pos {t b : Int} (hb : b ≠ 0) : 0 < Int.gcd t b := Int.gcd_pos_of_ne_zero_right t hb
theorem coprime_parts {t b n d : Int} (hb : b ≠ 0) (h1 : t = (Int.gcd t b : Int) * n) (h2 : b = (Int.gcd t b : Int) * d) : Int.gcd n d = 1 := by
  have hg := gcd_pos (t := t) hb
  have e : Int.gcd ((Int.gcd t b : Int) * n) ((Int.gcd t b : Int) * d) = Int.gcd t b * Int.gcd n d := by
    rw [Int.gcd_mul_left]; simp
  rw [← h1, ← h2] at e
  exact Nat.eq_of_mul_eq_mul_left hg (by rw [← e, Nat.mul_one])
theorem low_eq {t b g : Int} (hb : b ≠ 0) (hg : g = if b < 0 then -(Int.gcd t b : Int) else (Int.gcd t b : Int)) : t.fdiv g = (Rat.divInt t b).num ∧ b.fdiv g = ((Rat.divInt t b).den : Int) := by
  have hp : (0 : Int) < Int.gcd t b := by have := gcd_pos (t := t) hb; omega
  obtain ⟨n, hn⟩ := Int.gcd_dvd_left t b
  obtain ⟨d, hd⟩ := Int.gcd_dvd_right t b
  have hc := coprime_parts hb hn hd
  by_cases hs : b < 0
  · rw [if_pos hs] at hg
    subst hg
    have hg0 : (-(Int.gcd t b : Int)) ≠ 0 := by omega
    have e1 : t = -(Int.gcd t b : Int) * (-n) := by rw [Int.neg_mul_neg]; exact hn
    have e2 : b = -(Int.gcd t b : Int) * (-d) := by rw [Int.neg_mul_neg]; exact hd
    have f1 : t.fdiv (-(Int.gcd t b : Int)) = -n := by conv => lhs; arg 1; rw [e1]
                                                       exact fdiv_of_mul hg0
    have f2 : b.fdiv (-(Int.gcd t b : Int)) = -d := by conv => lhs; arg 1; rw [e2]
                                                       exact fdiv_of_mul hg0
    rw [f1, f2]
    have hd0 : 0 < -d := by
      rcases Int.lt_or_le d 0 with z | z
      · omega
      · have := Int.mul_nonneg (Int.le_of_lt hp) z; omega
    refine eq_of_divInt hd0 (by rw [Int.gcd_neg, Int.neg_gcd]; exact hc) hb ?_
    conv => lhs; rw [hd]
    conv => rhs; rw [hn]
    generalize (Int.gcd t b : Int) = g
    grind
  · rw [if_neg hs] at hg
    subst hg
    have hg0 : ((Int.gcd t b : Int)) ≠ 0 := by omega
    have f1 : t.fdiv (Int.gcd t b : Int) = n := by conv => lhs; arg 1; rw [hn]
                                                   exact fdiv_of_mul hg0
    have f2 : b.fdiv (Int.gcd t b : Int) = d := by conv => lhs; arg 1; rw [hd]
                                                   exact fdiv_of_mul hg0
    rw [f1, f2]
    have hd0 : 0 < d := by
      rcases Int.lt_or_le 0 d with z | z
      · exact z
      · have := Int.mul_nonneg (Int.le_of_lt hp) (show 0 ≤ -d by omega); rw [Int.mul_neg] at this; omega
    refine eq_of_divInt hd0 hc hb ?_
    conv => lhs; rw [hd]
    conv => rhs; rw [hn]
    generalize (Int.gcd t b : Int) = g
    grind
theorem one_of_dvds {x y : Int} (h : ∀ k : Int, k ∣ x → k ∣ y → k ∣ 1) : Int.gcd x y = 1 := by
  have := h (Int.gcd x y : Int) (Int.gcd_dvd_left x y) (Int.gcd_dvd_right x y)
  have h2 := Int.natAbs_dvd_natAbs.mpr this
  simpa using h2
theorem dvd_one_of {x y k : Int} (h : Int.gcd x y = 1) (h1 : k ∣ x) (h2 : k ∣ y) : k ∣ 1 := by
  have := Int.dvd_coe_gcd h1 h2
  rw [h] at this
  simpa using this
theorem cop_mul_right {k m n : Int} (h1 : Int.gcd k m = 1) (h2 : Int.gcd k n = 1) : Int.gcd k (m * n) = 1 := by
  rw [Int.gcd_eq_natAbs_gcd_natAbs] at *
  rw [Int.natAbs_mul]
  exact Nat.Coprime.mul_right h1 h2
theorem cop_symm {k m : Int} (h1 : Int.gcd k m = 1) : Int.gcd m k = 1 := by rw [Int.gcd_comm]; exact h1
theorem cop_dvd {k m n : Int} (h1 : Int.gcd k m = 1) (h : n ∣ m) : Int.gcd k n = 1 := one_of_dvds fun j a b => dvd_one_of h1 a (Int.dvd_trans b h)
theorem rat_gcd (q : Rat) : Int.gcd q.num q.den = 1 := by
  rw [Int.gcd_eq_natAbs_gcd_natAbs]
  simpa using q.reduced
theorem rat_den_pos (q : Rat) : (0 : Int) < q.den := by have := q.den_nz; omega
theorem add_divInt (p q : Rat) : p + q = Rat.divInt (p.num * q.den + q.num * p.den) (p.den * q.den) := by
  have h1 := rat_den_pos p
  have h2 := rat_den_pos q
  conv => lhs; rw [← Rat.num_divInt_den p, ← Rat.num_divInt_den q]
  exact Rat.divInt_add_divInt _ _ (by omega) (by omega)
theorem mul_divInt (p q : Rat) : p * q = Rat.divInt (p.num * q.num) (p.den * q.den) := by
  conv => lhs; rw [← Rat.num_divInt_den p, ← Rat.num_divInt_den q]
  exact Rat.divInt_mul_divInt _ _
theorem gcd_fmod (a b : Int) : Int.gcd b (a.fmod b) = Int.gcd a b := by
  have e := Int.mul_fdiv_add_fmod a b
  rw [Int.gcd_comm a b]
  conv => rhs; rw [← e]
  rw [show b * a.fdiv b + a.fmod b = a.fmod b + a.fdiv b * b by rw [Int.mul_comm, Int.add_comm]]
  simp
theorem natAbs_fmod_lt (a : Int) {b : Int} (hb : b ≠ 0) : (a.fmod b).natAbs < b.natAbs := by
  rcases Int.lt_or_le b 0 with h | h
  · have e := Int.neg_fmod_neg a b
    have h1 := Int.fmod_nonneg_of_pos (-a) (show 0 < -b by omega)
    have h2 := Int.fmod_lt_of_pos (-a) (show 0 < -b by omega)
    omega
  · have h1 := Int.fmod_nonneg_of_pos a (show 0 < b by omega)
    have h2 := Int.fmod_lt_of_pos a (show 0 < b by omega)
    omega
open PySem L2 PyProof.Rows
section
variable {P : Program} {w : World} {K : PySem.W.Frag} {mg : Str → Option Value} {base : Heap}
theorem intBits_lt {a : Int} {m : Nat} (h : a.natAbs < 2 ^ m) : Builtin.Int.intBits a ≤ m := by
  unfold Builtin.Int.intBits
  split
  · exact Nat.zero_le _
  · rename_i hz
    have h0 : a.natAbs ≠ 0 := by
      intro z
      have : a = 0 := by omega
      simp [this] at hz
    have := (Nat.log2_lt h0).mpr h
    omega
theorem mulOk {a b : Int} {m n : Nat} (ha : a.natAbs < 2 ^ m) (hb : b.natAbs < 2 ^ n) (h : m + n ≤ 134217728 := by decide) : IntMulOk a b := IntMulOk.of_le (intBits_lt ha) (intBits_lt hb) h
theorem divOk {j : Int} (h0 : j ≠ 0) (h : j.natAbs < 2 ^ 9000) : CDivB i j := ⟨h0, (Nat.log2_lt (by omega)).mpr h⟩
theorem pow_le_pow2 {m n : Nat} (h : m ≤ n) : 2 ^ m ≤ 2 ^ n := Nat.pow_le_pow_right (by decide) h
theorem lt_up {a : Nat} {m n : Nat} (h : a < 2 ^ m) (hm : m ≤ n := by decide) : a < 2 ^ n := Nat.lt_of_lt_of_le h (pow_le_pow2 hm)
def numV (q : Rat) : List V := [.int q.num, .int (q.den : Int)]
structure Bd (q : Rat) : Prop where
  n : q.num.natAbs < 2 ^ 3000
  d : q.den < 2 ^ 3000
def Num (K : PySem.W.Frag) (H : Hp) (v : V) (q : Rat) : Prop := ∃ p, v = .ref p ∧ SqT K H p (numV q)
def NumRes (H : Hp) (Q : VK) (q : Rat) : Prop := ∀ r H', Same H H' → H' r = some (.tup (numV q)) → Q (.ref r) H'
theorem small2 : (2 : Nat) ≤ sizeLine := by decide
theorem small1 : (1 : Nat) ≤ sizeLine := by decide
theorem gcd_lt {a b : Int} {n : Nat} (hb : b ≠ 0) (h : b.natAbs < n) : ((Int.gcd a b : Nat) : Int).natAbs < n := by
  have h1 : Int.gcd a b ∣ b.natAbs := by
    have := Int.natAbs_dvd_natAbs.mpr (Int.gcd_dvd_right a b)
    simpa using this
  have h2 := Nat.le_of_dvd (by omega) h1
  simp only [Int.natAbs_natCast]
  omega
theorem gcd_lt_left {a b : Int} {n : Nat} (hb : a ≠ 0) (h : a.natAbs < n) : ((Int.gcd a b : Nat) : Int).natAbs < n := by
  rw [Int.gcd_comm]; exact gcd_lt hb h
theorem fdiv_le {a g : Int} (hg : 0 < g) (hd : g ∣ a) : (a.fdiv g).natAbs ≤ a.natAbs := by
  obtain ⟨n, rfl⟩ := hd
  rw [fdiv_of_mul (by omega), Int.natAbs_mul]
  exact Nat.le_mul_of_pos_left _ (by omega)
theorem num_zero {q : Rat} : q.num = 0 ↔ q = 0 := by
  constructor
  · intro h; exact Rat.num_eq_zero.mp h
  · intro h; rw [h]; rfl
theorem at0 (q : Rat) : atI (numV q) 0 = some (.int q.num) := rfl
theorem at1 (q : Rat) : atI (numV q) 1 = some (.int (q.den : Int)) := rfl
theorem mulS {a b : Int} (h : a.natAbs < 2 ^ 64) : IntMulOk a b := IntMulOk.of_left (intBits_lt h)
theorem mulS' {a b : Int} (h : b.natAbs < 2 ^ 64) : IntMulOk a b := IntMulOk.of_right (intBits_lt h)
def spLow : Sp := fun vs H Q _ => ∃ t b : Int, vs = [.int t, .int b] ∧ b ≠ 0 ∧ b.natAbs < 2 ^ 6000 ∧ NumRes H Q (Rat.divInt t b)
def UrnAt (H : Hp) (u : Addr) : Prop := ∃ g m p : Int, H u = some (.lst [.int g, .int m, .int p]) ∧ 0 ≤ g ∧ 0 ≤ m ∧ m < 2 ^ 40 ∧ 0 < p ∧ p < 2 ^ 40
def SameX (u : Addr) (H H' : Hp) : Prop := ∀ b o, H b = some o → b ≠ u → H' b = some o
theorem Same.x {H H' : Hp} (s : Same H H') (u : Addr) : SameX u H H' := fun b o h _ => s b o h
theorem SameX.trans {u : Addr} {H H1 H2 : Hp} (a : SameX u H H1) (b : SameX u H1 H2) : SameX u H H2 := fun c o h n => b c o (a c o h n) n
theorem SameX.upd (u : Addr) (H : Hp) (o : HO) : SameX u H (upd H u o) := fun b p h n => by rw [upd_ne n]; exact h
theorem Same.urn {H H' : Hp} {u : Addr} (s : Same H H') (h : UrnAt H u) : UrnAt H' u := let ⟨g, m, p, h1, r⟩ := h; ⟨g, m, p, s _ _ h1, r⟩
def spUrn (K : PySem.W.Frag) : Sp := fun vs H Q _ => ∃ (a : Addr) (ns : List Int) (k : Int), vs = [.ref a, .int k] ∧ SqL K H a (ns.map V.int) ∧ 0 ≤ k ∧ k < 64 ∧ ∀ r H', Same H H' → H r = none → UrnAt H' r → Q (.ref r) H'
def primes : List V := [.int 1899999979, .int 1899998977, .int 1899997949, .int 1899996929, .int 1899995927, .int 1899994903, .int 1899993877, .int 1899992839]
theorem prime_at {k : Int} (h0 : 0 ≤ k) : ∃ p : Int, atI primes (k.fmod 8) = some (.int p) ∧ 1899992839 ≤ p ∧ p ≤ 1899999979 := by
  have h1 := Int.fmod_nonneg_of_pos k (show (0 : Int) < 8 by decide)
  have h2 := Int.fmod_lt_of_pos k (show (0 : Int) < 8 by decide)
  have h3 : k.fmod 8 = 0 ∨ k.fmod 8 = 1 ∨ k.fmod 8 = 2 ∨ k.fmod 8 = 3 ∨ k.fmod 8 = 4 ∨ k.fmod 8 = 5 ∨ k.fmod 8 = 6 ∨ k.fmod 8 = 7 := by omega
  rcases h3 with h | h | h | h | h | h | h | h <;> rw [h] <;> exact ⟨_, rfl, by decide, by decide⟩
theorem at_script {ns : List Int} {k : Int} (h0 : 0 ≤ k) (h : k < (ns.length : Int)) : ∃ v : Int, atI (ns.map V.int) k = some (.int v) := by
  have hk : k.toNat < ns.length := by omega
  have ek : k = ((k.toNat : Nat) : Int) := by omega
  have q : atI (ns.map V.int) ((k.toNat : Nat) : Int) = some (.int ns[k.toNat]) := atI_nat (by rw [List.getElem?_map, List.getElem?_eq_getElem hk] <;> rfl)
  rw [← ek] at q
  exact ⟨_, q⟩
def spDraw : Sp := fun vs H Q _ => ∃ (u : Addr) (n : Int), vs = [.ref u, .int n] ∧ UrnAt H u ∧ 0 < n ∧ n < 2 ^ 40 ∧ ∀ r H', 0 ≤ r → r < n → SameX u H H' → UrnAt H' u → Q (.int r) H'
structure Sm (q : Rat) : Prop where
  n : q.num.natAbs ≤ 10 ^ 12
  d : q.den ≤ 10 ^ 12
theorem divInt_le {t b : Int} (hb : b ≠ 0) : (Rat.divInt t b).num.natAbs ≤ t.natAbs ∧ (Rat.divInt t b).den ≤ b.natAbs := by
  have hp := gcd_pos (t := t) hb
  obtain ⟨e1, e2⟩ := low_eq (t := t) (b := b) (g := if b < 0 then -(Int.gcd t b : Int) else (Int.gcd t b : Int)) hb rfl
  have key : ∀ x : Int, (Int.gcd t b : Int) ∣ x → (x.fdiv (if b < 0 then -(Int.gcd t b : Int) else (Int.gcd t b : Int))).natAbs ≤ x.natAbs := by
    rintro x ⟨n, hn⟩
    split
    · have : x = -(Int.gcd t b : Int) * (-n) := by rw [Int.neg_mul_neg]; exact hn
      rw [this, fdiv_of_mul (by omega), Int.natAbs_mul]
      exact Nat.le_mul_of_pos_left _ (by omega)
    · rw [hn, fdiv_of_mul (by omega), Int.natAbs_mul]
      exact Nat.le_mul_of_pos_left _ (by omega)
  have k1 := key t (Int.gcd_dvd_left t b)
  have k2 := key b (Int.gcd_dvd_right t b)
  rw [e1] at k1
  rw [e2] at k2
  exact ⟨k1, by omega⟩
theorem sm_of {t b : Int} (hb : b ≠ 0) (h1 : t.natAbs ≤ 10 ^ 12) (h2 : b.natAbs ≤ 10 ^ 12) : Sm (Rat.divInt t b) := by
  obtain ⟨e1, e2⟩ := divInt_le (t := t) hb
  exact ⟨by omega, by omega⟩
def spKind : Sp := fun vs H Q _ => ∃ u, vs = [.ref u] ∧ UrnAt H u ∧ ∀ r H', r = 0 ∨ r = 1 ∨ r = 2 → SameX u H H' → UrnAt H' u → Q (.int r) H'
theorem urn_ne {H : Hp} {u l : Addr} (hu : UrnAt H u) (hl : H l = none) : l ≠ u := by
  obtain ⟨g, m, p, h, r⟩ := hu
  exact (ne_of_none h hl).symm
theorem urn_new {H : Hp} {u l : Addr} {o : HO} (hu : UrnAt H u) (hl : H l = none) : UrnAt (upd H l o) u := by
  obtain ⟨g, m, p, h, r⟩ := hu
  exact ⟨g, m, p, by rw [upd_ne (ne_of_none h hl)]; exact h, r⟩
def spNumber : Sp := fun vs H Q _ => ∃ u kd, vs = [.ref u, .int kd] ∧ UrnAt H u ∧ ∀ r q H', Sm q → SameX u H H' → UrnAt H' u → H' r = some (.tup (numV q)) → Q (.ref r) H'
def spWhole : Sp := fun vs H Q _ => ∃ i : Int, vs = [.int i] ∧ Q (.bl true) H
theorem kit_int_int : PySem.W.kitOne K (.type "int") (.type "int") = some true := by unfold PySem.W.kitOne; rw [if_pos (by decide)]
theorem kit_int_bool : PySem.W.kitOne K (.type "int") (.type "bool") = some false := by kernel_rfl
theorem kit_tup_tup : PySem.W.kitOne K (.type "tuple") (.type "tuple") = some true := by unfold PySem.W.kitOne; rw [if_pos (by decide)]
def dNum (q : Rat) : D := .tup [.v (.int q.num), .v (.int (q.den : Int))]
theorem isD_num {H : Hp} {a : Addr} {q : Rat} (h : SqT K H a (numV q)) : IsD K H (.ref a) (dNum q) := .tup h (.cons (.v rfl) (.cons (.v rfl) .nil))
theorem eqD_num (q : Rat) : eqD (dNum q) (dNum q) = true := by simp [dNum, eqD, eqDs, eqV]
theorem okD_num (p q : Rat) : okD (dNum p) (dNum q) = true := by simp [dNum, okD, okDs]
theorem dp_num (q : Rat) : dpD (dNum q) ≤ 60 := by simp [dNum, dpD, dpDs]
def spIsNum (K : PySem.W.Frag) : Sp := fun vs H Q _ => ∃ x q, vs = [x] ∧ (∃ p, x = .ref p ∧ SqT K H p (numV q)) ∧ (q.den : Int).natAbs < 2 ^ 6000 ∧ ∀ H', Same H H' → Q (.bl true) H'
end
open PySem L2 PyProof.Rows
inductive Nums (H : Hp) : List V → List Rat → Prop where
  | nil : Nums H [] []
  | cons {p : Addr} {q : Rat} {vs : List V} {qs : List Rat} (h : H p = some (.tup (numV q))) (t : Nums H vs qs) : Nums H (.ref p :: vs) (q :: qs)
def TupS (H H' : Hp) : Prop := ∀ b xs, H b = some (.tup xs) → H' b = some (.tup xs)
theorem TupS.refl (H : Hp) : TupS H H := fun _ _ h => h
theorem TupS.trans {H H1 H2 : Hp} (a : TupS H H1) (b : TupS H1 H2) : TupS H H2 := fun c xs h => b c xs (a c xs h)
theorem _root_.L2.Same.tups {H H' : Hp} (s : Same H H') : TupS H H' := fun b xs h => s b _ h
theorem SameX.tups {u : Addr} {H H' : Hp} (s : SameX u H H') (hu : UrnAt H u) : TupS H H' := fun b xs h => by
  obtain ⟨g, m, p, e, _⟩ := hu
  exact s b _ h (ne_of h e (by intro z; cases z))
theorem TupS.lst {H : Hp} {a : Addr} {xs : List V} {o : HO} (h : H a = some (.lst xs)) : TupS H (upd H a o) := fun b ys e => by
  rw [upd_ne (ne_of e h (by intro z; cases z))]; exact e
theorem TupS.new {H : Hp} {a : Addr} {o : HO} (h : H a = none) : TupS H (upd H a o) := (Same.new h o).tups
theorem Nums.mono {H H' : Hp} (e : TupS H H') : ∀ {vs : List V} {qs : List Rat}, Nums H vs qs → Nums H' vs qs
  | _, _, .nil => .nil
  | _, _, .cons h t => .cons (e _ _ h) (t.mono e)
theorem Nums.length {H : Hp} : ∀ {vs : List V} {qs : List Rat}, Nums H vs qs → vs.length = qs.length
  | _, _, .nil => rfl
  | _, _, .cons _ t => congrArg (· + 1) t.length
theorem Nums.take {H : Hp} : ∀ {vs : List V} {qs : List Rat} (m : Nat), Nums H vs qs → Nums H (vs.take m) (qs.take m)
  | _, _, 0, _ => by simp; exact .nil
  | _, _, _ + 1, .nil => .nil
  | _, _, m + 1, .cons h t => .cons h (t.take m)
theorem Nums.append {H : Hp} : ∀ {vs ws : List V} {qs rs : List Rat}, Nums H vs qs → Nums H ws rs → Nums H (vs ++ ws) (qs ++ rs)
  | _, _, _, _, .nil, b => b
  | _, _, _, _, .cons h t, b => .cons h (t.append b)
theorem Nums.get {H : Hp} : ∀ {vs : List V} {qs : List Rat} {i : Nat} {q : Rat}, Nums H vs qs → qs[i]? = some q → ∃ p, vs[i]? = some (.ref p) ∧ H p = some (.tup (numV q))
  | _, _, _, _, .nil, e => by simp at e
  | _, _, 0, _, .cons h t, e => by
    have := Option.some.inj e
    subst this
    exact ⟨_, rfl, h⟩
  | _, _, i + 1, _, .cons h t, e => by
    obtain ⟨p, e1, e2⟩ := t.get (i := i) (by simpa using e)
    exact ⟨p, by simpa using e1, e2⟩
theorem Nums.getV {H : Hp} : ∀ {vs : List V} {qs : List Rat} {i : Nat} {v : V}, Nums H vs qs → vs[i]? = some v → ∃ p q, v = .ref p ∧ qs[i]? = some q ∧ H p = some (.tup (numV q))
  | _, _, _, _, .nil, e => by simp at e
  | _, _, 0, _, .cons h t, e => by
    have := Option.some.inj e
    subst this
    exact ⟨_, _, rfl, rfl, h⟩
  | _, _, i + 1, _, .cons h t, e => by
    obtain ⟨p, q, e0, e1, e2⟩ := t.getV (i := i) (by simpa using e)
    exact ⟨p, q, e0, by simpa using e1, e2⟩
theorem Nums.isDs {K : PySem.W.Frag} {H : Hp} : ∀ {vs : List V} {qs : List Rat}, Nums H vs qs → IsDs K H vs (qs.map dNum)
  | _, _, .nil => .nil
  | _, _, .cons h t => .cons (isD_num (SqT.of h)) t.isDs
theorem rat_ext {p q : Rat} (h1 : p.num = q.num) (h2 : p.den = q.den) : p = q := by
  cases p; cases q; simp at h1 h2; subst h1 h2; rfl
theorem eqD_nums (p q : Rat) : eqD (dNum p) (dNum q) = decide (p = q) := by
  by_cases h : p = q
  · subst h; rw [eqD_num]; simp
  · rw [decide_eq_false h]
    simp only [dNum, eqD, eqDs, eqV, Bool.and_true]
    by_cases h1 : p.num = q.num
    · have h2 : p.den ≠ q.den := fun z => h (rat_ext h1 z)
      have : ((p.den : Int) == (q.den : Int)) = false := by
        rw [beq_eq_false_iff_ne]; intro z; exact h2 (by omega)
      rw [this, Bool.and_false]
    · have : (p.num == q.num) = false := by rw [beq_eq_false_iff_ne]; exact h1
      rw [this, Bool.false_and]
theorem eqDs_nums : ∀ ps qs : List Rat, eqDs (ps.map dNum) (qs.map dNum) = decide (ps = qs)
  | [], [] => by simp [eqDs]
  | [], _ :: _ => by simp [eqDs]
  | _ :: _, [] => by simp [eqDs]
  | p :: ps, q :: qs => by
    rw [List.map_cons, List.map_cons, eqDs, eqD_nums, eqDs_nums ps qs]
    by_cases h1 : p = q <;> by_cases h2 : ps = qs <;> simp [h1, h2]
theorem okDs_nums : ∀ ps qs : List Rat, okDs (ps.map dNum) (qs.map dNum) = true
  | [], [] => by simp [okDs]
  | [], _ :: _ => by simp [okDs]
  | _ :: _, [] => by simp [okDs]
  | p :: ps, q :: qs => by rw [List.map_cons, List.map_cons, okDs, okD_num, okDs_nums ps qs]; rfl
theorem dpDs_nums : ∀ qs : List Rat, dpDs (qs.map dNum) ≤ 1
  | [] => by simp [dpDs]
  | q :: qs => by
    have h1 : dpD (dNum q) ≤ 1 := by simp [dNum, dpD, dpDs]
    have h2 := dpDs_nums qs
    rw [List.map_cons, dpDs]
    omega
def dList (qs : List Rat) : D := .lst (qs.map dNum)
theorem isD_list {K : PySem.W.Frag} {H : Hp} {a : Addr} {vs : List V} {qs : List Rat} (h : SqL K H a vs) (n : Nums H vs qs) : IsD K H (.ref a) (dList qs) := .lst h n.isDs
theorem eqD_list (ps qs : List Rat) : eqD (dList ps) (dList qs) = decide (ps = qs) := by unfold dList; rw [eqD, eqDs_nums]
theorem okD_list (ps qs : List Rat) : okD (dList ps) (dList qs) = true := by unfold dList; rw [okD, okDs_nums]
theorem dp_list (qs : List Rat) : dpD (dList qs) ≤ 2 := by unfold dList; rw [dpD]; have := dpDs_nums qs; omega
structure IsTl (qs : List Rat) (m : Nat) : Prop where
  le : m ≤ qs.length
  zero : ∀ (i : Nat) (q : Rat), m ≤ i → qs[i]? = some q → q = 0
  last : m ≠ 0 → ∀ q, qs[m - 1]? = some q → q ≠ 0
theorem IsTl.uniq {qs : List Rat} {m n : Nat} (a : IsTl qs m) (b : IsTl qs n) : m = n := by
  have key : ∀ {m n : Nat}, IsTl qs m → IsTl qs n → ¬ m < n := by
    intro m n a b h
    have hn : n - 1 < qs.length := by have := b.le; omega
    exact b.last (by omega) _ (List.getElem?_eq_getElem hn) (a.zero (n - 1) _ (by omega) (List.getElem?_eq_getElem hn))
  have := key a b
  have := key b a
  omega
theorem IsTl.self {qs : List Rat} {m : Nat} (a : IsTl qs m) : IsTl (qs.take m) m := by
  have hl : (qs.take m).length = m := by rw [List.length_take]; have := a.le; omega
  refine ⟨by omega, fun i q hi e => ?_, fun h q e => ?_⟩
  · rw [List.getElem?_eq_none (by omega)] at e; cases e
  · rw [List.getElem?_take_of_lt (by omega)] at e
    exact a.last h q e
def evs {α : Type} : List α → List α
  | [] => []
  | [x] => [x]
  | x :: _ :: r => x :: evs r
def ods {α : Type} (xs : List α) : List α := evs xs.tail
theorem cut_take (vs : List V) {m : Nat} (h : m ≤ vs.length) : cutV vs none (some (m : Int)) = vs.take m := by
  unfold cutV
  have e1 : HT.sIx vs.length 0 none = 0 := by simp [HT.sIx]
  have e2 : HT.sIx vs.length vs.length (some (m : Int)) = m := by
    simp only [HT.sIx]
    split <;> omega
  rw [e1, e2]; simp
end R
set_option maxRecDepth 100000
namespace L2
open PySem PySem.Spec PyProof.Rows
def WhN (Pv : St → Hp → Prop) (μ : St → Hp → Nat) (m : Nat) : St → Hp → Prop := fun σ' H' => ∃ m', m' < m ∧ (m' = μ σ' H' ∧ Pv σ' H')
theorem WhN.mk {Pv : St → Hp → Prop} {μ : St → Hp → Nat} {m : Nat} {σ' : St} {H' : Hp} (h : Pv σ' H') (l : μ σ' H' < m) : WhN Pv μ m σ' H' := ⟨_, l, rfl, h⟩
def WhB (tb : TS) (D : Ends) (Pv : St → Hp → Prop) (μ : St → Hp → Nat) (m : Nat) (σ : St) (H1 : Hp) : Prop :=
  ∃ N : St → Hp → Prop, (∀ σ' H', N σ' H' → ∃ m', m' < m ∧ (m' = μ σ' H' ∧ Pv σ' H')) ∧ tb { D with nx := N, ct := N, bk := D.nx } σ H1
theorem WhB.mk {tb : TS} {D : Ends} {Pv : St → Hp → Prop} {μ : St → Hp → Nat} {m : Nat} {σ : St} {H1 : Hp} (h : tb { D with nx := WhN Pv μ m, ct := WhN Pv μ m, bk := D.nx } σ H1) : WhB tb D Pv μ m σ H1 := ⟨_, fun _ _ n => n, h⟩
theorem while_to {c : TT} {tb : TS} {D : Ends} {σ : St} {H : Hp} (Pv : St → Hp → Prop) (μ : St → Hp → Nat) (h0 : Pv σ H)
    (hs : ∀ σ H, Pv σ H → c σ H fun b H1 => if b = true then WhB tb D Pv μ (μ σ H) σ H1 else D.nx σ H1) : tWhile c tb D σ H := by
  refine ⟨fun m σ H => m = μ σ H ∧ Pv σ H, ⟨_, rfl, h0⟩, ?_⟩
  rintro m σ H ⟨rfl, p⟩
  exact hs σ H p
theorem Same.over {H H1 : Hp} {l : Addr} (s : Same H H1) (hl : H l = none) (o : HO) : Same H (upd H1 l o) := fun b u h => by
  rw [upd_ne (ne_of_none h hl)]; exact s b u h
def CompW (J : It) (D : Addr) (σ0 : St) (H0 : Hp) (g : TG) (te : TE) (Q : VK) : Prop := ∃ W : Nat → Nat → St → Hp → Prop, (∃ m, W 0 m σ0 H0) ∧
  ∀ i m σc H2, W i m σc H2 → (J.stop i H2 ∧ Q (.ref D) H2) ∨
    (J.go i H2 ∧ ∀ x H3, J.yld i H2 x H3 → g x σc H3 fun σ4 H4 => te σ4 H4 fun y H5 => ∃ ys, H5 D = some (.lst ys) ∧ ys.length < sizeLine ∧ ∃ m', m' < m ∧ W (i + 1) m' σ4 (upd H5 D (.lst (ys ++ [y]))))
theorem tComp_eq (wi : TI) (caps : List (Option Nat)) (g : TG) (te : TE) : tComp wi caps g te = fun σ H Q => wi σ H fun J H1 => ∀ D, H1 D = none → CompW J D (capSt caps σ) (upd H1 D (.lst [])) g te Q := rfl
def CompWI (J : It) (D : Addr) (σ0 : St) (H0 : Hp) (g : TG) (tt : TT) (te : TE) (Q : VK) : Prop := ∃ W : Nat → Nat → St → Hp → Prop, (∃ m, W 0 m σ0 H0) ∧
  ∀ i m σc H2, W i m σc H2 → (J.stop i H2 ∧ Q (.ref D) H2) ∨
    (J.go i H2 ∧ ∀ x H3, J.yld i H2 x H3 → g x σc H3 fun σ4 H4 => tt σ4 H4 fun b H4' => if b = true then te σ4 H4' fun y H5 => ∃ ys, H5 D = some (.lst ys) ∧ ys.length < sizeLine ∧ ∃ m', m' < m ∧ W (i + 1) m' σ4 (upd H5 D (.lst (ys ++ [y])))
      else ∃ m', m' < m ∧ W (i + 1) m' σ4 H4')
theorem tCompIf_eq (wi : TI) (caps : List (Option Nat)) (g : TG) (tt : TT) (te : TE) : tCompIf wi caps g tt te = fun σ H Q => wi σ H fun J H1 => ∀ D, H1 D = none → CompWI J D (capSt caps σ) (upd H1 D (.lst [])) g tt te Q := rfl
section
variable {K : PySem.W.Frag} {a D : Addr} {xs : List V} {g : TG} {te : TE} {σ0 : St} {H0 : Hp} {Q : VK}
theorem cw_list (xs : List V) (Pv : Nat → St → Hp → Prop) (h0 : Pv 0 σ0 H0) (hl : ∀ i σ H, i ≤ xs.length → Pv i σ H → SqL K H a xs)
    (hs : ∀ i x σ H, xs[i]? = some x → Pv i σ H → g x σ H fun σ4 H4 => te σ4 H4 fun y H5 => CompN D xs.length Pv i σ4 y H5) (hd : ∀ σ H, Pv xs.length σ H → Q (.ref D) H) : CompW (Itl K a) D σ0 H0 g te Q := comp_list Pv h0 hl hs hd
theorem cw_range {lo : Int} {n : Nat} (Pv : Nat → St → Hp → Prop) (h0 : Pv 0 σ0 H0)
    (hs : ∀ i σ H, i < n → Pv i σ H → g (.int (lo + i)) σ H fun σ4 H4 => te σ4 H4 fun y H5 => CompN D n Pv i σ4 y H5) (hd : ∀ σ H, Pv n σ H → Q (.ref D) H) : CompW (Itr lo n) D σ0 H0 g te Q := comp_range Pv h0 hs hd
end
theorem sub_nil {cells : List (Str × Addr)} : ∀ (x : Str) (c : Addr), ([] : List (Str × Addr)).lookup x = some c → cells.lookup x = some c := fun x c h => by cases h
theorem sub_cons {cells cl : List (Str × Addr)} {k : Str} {a : Addr} (h : cells.lookup k = some a) (r : ∀ (x : Str) (c : Addr), cl.lookup x = some c → cells.lookup x = some c) : ∀ (x : Str) (c : Addr), ((k, a) :: cl).lookup x = some c → cells.lookup x = some c := fun x c e => by
  rw [List.lookup_cons] at e
  split at e
  · rename_i q
    have := eq_of_beq q
    subst this
    cases e
    exact h
  · exact r x c e
end L2
namespace R
open PySem L2 PyProof.Rows
theorem SameX.over {u : Addr} {H H1 : Hp} {l : Addr} (s : SameX u H H1) (hl : H l = none) (o : HO) : SameX u H (L2.upd H1 l o) := fun b x h n => by
  rw [upd_ne (ne_of_none h hl)]; exact s b x h n
theorem SameX.free {u : Addr} {H H' : Hp} {l : Addr} (s : SameX u H H') (hu : UrnAt H' u) (h : H' l = none) : H l = none := by
  cases e : H l with
  | none => rfl
  | some o =>
    by_cases q : l = u
    · subst q
      obtain ⟨_, _, _, z, _⟩ := hu
      rw [z] at h; cases h
    · rw [s l o e q] at h; cases h
theorem UrnAt.other {H : Hp} {u l : Addr} {o : HO} (h : UrnAt H u) (ne : l ≠ u) : UrnAt (upd H l o) u := by
  obtain ⟨g, m, p, e, r⟩ := h
  exact ⟨g, m, p, by rw [upd_ne ne.symm]; exact e, r⟩
theorem new_free {H : Hp} {p l : Addr} {o : HO} (h : upd H p o l = none) : H l = none := by
  by_cases q : l = p
  · subst q; rw [upd_same] at h; cases h
  · rw [upd_ne q] at h; exact h
theorem new_ne {H : Hp} {p l : Addr} {o : HO} (h : upd H p o l = none) : l ≠ p := fun q => by
  subst q; rw [upd_same] at h; cases h
theorem kit_list_list {K : PySem.W.Frag} : PySem.W.kitOne K (.type "list") (.type "list") = some true := by unfold PySem.W.kitOne; rw [if_pos (by decide)]
end R
set_option maxRecDepth 100000
namespace L2
open PySem PySem.Spec PyProof.Rows
section
variable {prog : Program} {w : World} {A : Around} {E : Value → Shared → Prop} {s : Shared}
theorem gt_ints {a b : Int} {t u : Tok} {Q : Value → Shared → Prop} (h : Q (.bool (decide (a > b))) s) : wpAny (model prog w) A (richCompare .Gt (.int a t) (.int b u)) Q E s :=
  richCompare_gives (op := .Gt) (typeIs_int s _ t) (typeIs_int s _ u) F.slot_int_gt F.entry_int_gt (F.args_int_gt_2 _ _) (gives_int_gt _ _ t u) (fun x => nomatch x) h
theorem call_tree_kw {id : String} {b : Builtin} {args : List Value} {kw : List (Str × Value)} {Q : Value → Shared → Prop} (hk : builtinKind id = none) (hp : plainId id = true)
    (hb : entryFor table id = some b) (ha : argsOk id ⟨args, kw⟩)
    (hc : wpAny (model prog w) A.in1 (b ⟨args, kw⟩) (fun fin s' => match fin with
      | .done f => (match (Except.ok f : Result) with | .ok (.ret v) => Q v s' | .ok _ => False | .error e => E e s')
      | .again c' => c'.quiet = true ∧ codeAny (model prog w) A c' (fun r s' => match r with | .ok (.ret v) => Q v s' | .ok _ => False | .error e => E e s') s') E s) :
    wpAny (model prog w) A (call (.builtin id) args kw) Q E s := by
  refine wpAny_call (codeAny_call_builtin hp hb ?_)
  simp only [checkBuiltinCall, hk]
  cases hsig : Manifest.signature? id with
  | none => exact wpAny_pure hc
  | some sig =>
    have ha' : Bind.checkArgs id sig ⟨args, kw⟩ = pure () := by simpa only [argsOk, hsig] using ha
    simp only [ha']
    exact wpAny_pure hc
variable {R : Result → Shared → Prop} {I : Addr} {fp wr : List Addr} {n : Nat} {P : Nat → Value → Prop} {St : Nat → Heap → Prop}
theorem max_loopD (W : Walks prog w A.in1 I fp wr n P St) (hint : ∀ i v, P i v → ∃ x t, v = .int x t) (S : Addr) (hSf : S ∉ fp) (d : Value) :
    ∀ (k j : Nat) (s : Shared) (x0 : Int) (t0 : Tok) (c : Nat), n - (j + 1) = k → j + 1 ≤ n → St (j + 1) s.heap →
    s.heap.get? S = some { cls := .type "list", dict := none, data := .seq #[.int x0 t0, .int x0 t0] c, slots := #[] } →
    (∀ x t h' tk, (∀ b o, b ∉ wr → b ≠ S → s.heap.get? b = some o → h'.get? b = some o) → R (.ok (.ret (.int x t))) { s with heap := h', toks := tk }) →
    codeAny (model prog w) A (.builtin "max.loop" ⟨[.ref I, .none, .ref S], [("default", d)]⟩) R s := by
  have hSw : S ∉ wr := fun h => hSf (W.sub _ h)
  have hname : (toString "max" ++ toString ".loop" : String) = "max.loop" := by decide
  intro k
  induction k with
  | zero =>
    intro j s x0 t0 c hk hj hst hS hR
    have hin : j + 1 = n := by omega
    refine codeAny_builtin F.entry_max_loop ?_
    rw [Around.under_plainId F.plain_max_loop _]
    show wpAny _ A.in1 (seqItems? (.ref S) >>= _) _ _ s
    refine wpAny_bind (wpAny_seqItems hS rfl ?_)
    show wpAny _ A.in1 (tryCatch (pyNext (.ref I)) _ >>= _) _ _ s
    refine wpAny_bind (wpAny_tryCatch (W.done s _ _ (hin ▸ hst) fun h' tk hk' => ?_))
    have hS' := hk' S _ hSw hS
    show wpAny _ A.in1 (updateSeq S (fun _ => #[]) >>= _) _ _ _
    refine wpAny_bind ?_
    refine wpAny_updateSeq hS' rfl (wpAny_bind (wpAny_letGo (wpAny_pure ?_)))
    exact hR x0 t0 _ tk fun b o hbw hbS e => (Heap.get?_update_other _ _ (Ne.symm hbS)).trans (hk' b o hbw e)
  | succ k ih =>
    intro j s x0 t0 c hk hj hst hS hR
    have hlt : j + 1 < n := by omega
    refine codeAny_builtin F.entry_max_loop ?_
    rw [Around.under_plainId F.plain_max_loop _]
    show wpAny _ A.in1 (seqItems? (.ref S) >>= _) _ _ s
    refine wpAny_bind (wpAny_seqItems hS rfl ?_)
    show wpAny _ A.in1 (tryCatch (pyNext (.ref I)) _ >>= _) _ _ s
    refine wpAny_bind (wpAny_tryCatch (W.item (j + 1) s _ _ hlt hst fun v h' tk hP hst' hk' => ?_))
    obtain ⟨x1, t1, rfl⟩ := hint _ _ hP
    have hS' := hk' S _ hSw hS
    show wpAny _ A.in1 (tryCatch (holding [.int x1 t1, .int x1 t1] (richCompare .Gt (.int x1 t1) (.int x0 t0) >>= _)) _ >>= _) _ _ _
    refine wpAny_bind (wpAny_tryCatch (wpAny_holding (wpAny_bind (gt_ints ?_))))
    refine wpAny_bind (wpAny_holding (wpAny_truthy_bool ?_))
    refine wpAny_bind (wpAny_letGo (wpAny_pure ?_))
    cases hb : decide (x1 > x0) with
    | true =>
      simp only [if_true]
      refine wpAny_bind ?_
      refine wpAny_updateSeq hS' rfl (wpAny_bind (wpAny_letGo ?_))
      rw [hname]
      refine wpAny_pure ⟨plainId_quiet F.plain_max_loop _, ih (j + 1) _ x1 t1 _ (by omega) hlt (W.frame _ _ _ hst' fun b hbf o e => ?_) (Heap.get?_update_self _ hS' rfl)
        fun x t h'' tk'' hk'' => ?_⟩
      · exact (Heap.get?_update_other _ _ (fun h : S = b => hSf (by rw [h]; exact hbf))).trans e
      · exact hR x t h'' tk'' fun b o hbw hbS e => hk'' b o hbw hbS ((Heap.get?_update_other _ _ (Ne.symm hbS)).trans (hk' b o hbw e))
    | false =>
      simp only [Bool.false_eq_true, if_false]
      refine wpAny_bind (wpAny_letGo ?_)
      rw [hname]
      refine wpAny_pure ⟨plainId_quiet F.plain_max_loop _, ih (j + 1) _ x0 t0 c (by omega) hlt hst' hS' fun x t h'' tk'' hk'' => ?_⟩
      exact hR x t h'' tk'' fun b o hbw hbS e => hk'' b o hbw hbS (hk' b o hbw e)
theorem max_firstD (W : Walks prog w A.in1 I fp wr n P St) (hint : ∀ i v, P i v → ∃ x t, v = .int x t) (S : Addr) (hSf : S ∉ fp) {x0 : Int} {t0 : Tok} {c : Nat} (hst : St 0 s.heap)
    (hS : s.heap.get? S = some { cls := .type "list", dict := none, data := .seq #[] c, slots := #[] })
    (hR : ∀ x t h' tk, (∀ b o, b ∉ wr → b ≠ S → s.heap.get? b = some o → h'.get? b = some o) → R (.ok (.ret (.int x t))) { s with heap := h', toks := tk }) :
    codeAny (model prog w) A (.builtin "max.loop" ⟨[.ref I, .none, .ref S], [("default", .int x0 t0)]⟩) R s := by
  have hSw : S ∉ wr := fun h => hSf (W.sub _ h)
  have hname : (toString "max" ++ toString ".loop" : String) = "max.loop" := by decide
  refine codeAny_builtin F.entry_max_loop ?_
  rw [Around.under_plainId F.plain_max_loop _]
  show wpAny _ A.in1 (seqItems? (.ref S) >>= _) _ _ s
  refine wpAny_bind (wpAny_seqItems hS rfl ?_)
  show wpAny _ A.in1 (tryCatch (pyNext (.ref I)) _ >>= _) _ _ s
  by_cases hn : 0 < n
  · refine wpAny_bind (wpAny_tryCatch (W.item 0 s _ _ hn hst fun v h' tk hP hst' hk' => ?_))
    obtain ⟨x1, t1, rfl⟩ := hint _ _ hP
    have hS' := hk' S _ hSw hS
    show wpAny _ A.in1 (updateSeq S (fun _ => #[.int x1 t1, .int x1 t1]) >>= _) _ _ _
    refine wpAny_bind ?_
    refine wpAny_updateSeq hS' rfl ?_
    rw [hname]
    refine wpAny_pure ⟨plainId_quiet F.plain_max_loop _, max_loopD W hint S hSf _ _ 0 _ x1 t1 _ rfl hn (W.frame _ _ _ hst' fun b hbf o e => ?_) (Heap.get?_update_self _ hS' rfl) fun x t h'' tk'' hk'' => ?_⟩
    · exact (Heap.get?_update_other _ _ (fun h : S = b => hSf (by rw [h]; exact hbf))).trans e
    · exact hR x t h'' tk'' fun b o hbw hbS e => hk'' b o hbw hbS ((Heap.get?_update_other _ _ (Ne.symm hbS)).trans (hk' b o hbw e))
  · have h0 : n = 0 := by omega
    refine wpAny_bind (wpAny_tryCatch (W.done s _ _ (by rw [h0]; exact hst) fun h' tk hk' => ?_))
    show wpAny _ A.in1 (rule _ >>= _) _ _ _
    refine wpAny_bind (wpAny_rule (wpAny_pure ?_))
    exact hR x0 t0 _ tk fun b o hbw hbS e => hk' b o hbw e
theorem args_maxD (a d : Value) : argsOk "max" ⟨[a], [("default", d)]⟩ := by unfold argsOk; kernel_rfl
end
section
variable {X : Cx}
def tMaxD (K : PySem.W.Frag) (ta : TA) : TE := fun σ H Q => ta σ H fun vs H1 => ∃ (a : Addr) (ns : List Int), vs = [.ref a] ∧ SqL K H1 a (ns.map V.int) ∧ ∀ i : Int, Q (.int i) H1
theorem call_maxD (hc : X.calm = true) {pins : List (Addr × Obj)} {s : Shared} {σ : St} {H : Hp} {a : Addr} {ns : List Int} {Q : VK} {x0 : Int} {t0 : Tok} (I : Inv X pins σ H s) (hq : SqL X.K H a (ns.map V.int)) (q : ∀ i : Int, Q (.int i) H) :
    wpAny (model X.prog X.w) X.A (call (.builtin "max") [.ref a] [("default", .int x0 t0)]) (EP X pins σ Q) X.xe s := by
  have hname : (toString "max" ++ toString ".loop" : String) = "max.loop" := by decide
  obtain ⟨its, r', pl, hz⟩ := I.list hq
  have hp : a ≠ s.heap.objs.size := by
    obtain ⟨o, ho, _⟩ := pl.isList
    exact Nat.ne_of_lt (Heap.lt_size ho)
  refine call_tree_kw F.kind_max F.plain_max F.entry_max (args_maxD _ _) ?_
  show wpAny _ X.A.in1 (Builtin.Builtins.bindParams "max" ["key", "default"] 0 ⟨[], [("default", .int x0 t0)]⟩ >>= _) _ _ s
  refine wpAny_bind (wpAny_of_eq (show Builtin.Builtins.bindParams "max" ["key", "default"] 0 ⟨[], [("default", .int x0 t0)]⟩ = pure [none, some (.int x0 t0)] from by with_unfolding_all rfl) ?_)
  refine wpAny_bind (wpAny_pure ?_)
  refine wpAny_bind (wpAny_pyIter_list pl.isList ?_)
  refine wpAny_bind (wpAny_newObj_type ?_)
  have a1 : a < s.heap.objs.size := by obtain ⟨o, ho, _⟩ := pl.isList; exact Heap.lt_size ho
  rw [hname]
  refine wpAny_pure ⟨plainId_quiet F.plain_max_loop _, ?_⟩
  refine max_firstD (Walks.list (A := X.A.in1) (I.ok.hd hc) s.heap.objs.size a hp its.toArray) ?_ _ ?_ ⟨⟨_, Heap.get?_push_of_some _ (Heap.get?_push_size _ rfl), rfl, rfl⟩, pl.isList.at fun o e => Heap.get?_push_of_some _ (Heap.get?_push_of_some _ e)⟩ (Heap.get?_push_size _ rfl) ?_
  · intro i v hv
    have hv' : its[i]? = some v := by simpa using hv
    have hi : i < ns.length := by
      have := (List.getElem?_eq_some_iff.mp hv').1
      rw [← r'.length, List.length_map] at this; exact this
    obtain ⟨u, hu, ru⟩ := r'.get (i := i) (x := .int ns[i]) (by rw [List.getElem?_map, List.getElem?_eq_getElem hi]; rfl)
    rw [hv'] at hu
    cases hu
    obtain ⟨t, rfl⟩ := ru
    exact ⟨_, _, rfl⟩
  · rw [Heap.size_push]
    intro z
    rcases (by simpa using z : s.heap.objs.size + 1 = s.heap.objs.size ∨ s.heap.objs.size + 1 = a) with e | e
    · exact absurd e (Nat.succ_ne_self _)
    · exact absurd a1 (by rw [← e]; exact Nat.not_lt.mpr (Nat.le_succ _))
  · intro x t h' tk kk
    refine ⟨.int x, H, I.kept (t' := tk) fun b o e => kk b o ?_ ?_ (Heap.get?_push_of_some _ (Heap.get?_push_of_some _ e)), ⟨t, rfl⟩, q x⟩
    · intro z
      have : b = s.heap.objs.size := by simpa using z
      exact absurd (Heap.lt_size e) (by rw [this]; exact Nat.lt_irrefl _)
    · rw [Heap.size_push]
      intro z
      exact absurd (Heap.lt_size e) (by rw [z]; exact Nat.not_lt.mpr (Nat.le_succ _))
theorem pe_maxD {l : Expr} {ta : TA} {p pos p1 p2 : Pos} {x0 : Int} {j : Nat} (hc : X.calm = true) (hg : Gl X "max") (hm : X.mg "max" = none) (ha : PA X [l] ta) (hs : starEach [l] X.env = [(false, eval l X.env)] := by rfl) :
    PE X (.Call (.Name "max" p) [l] [⟨some "default", .Constant (.int x0) j p1, p2⟩] pos) (tMaxD X.K ta) := by
  intro pins s σ H Q I h
  refine wpAny_Call_Name_kw (ld_blt I hg hm (u := .builtin "max") (by decide +kernel) ?_ (by decide) (by decide))
  refine callWith_kw (thn (ha pos pins s σ H _ I h) fun us s1 ⟨vs, H1, I1, r1, q1⟩ => ?_) (by rw [hs]; rfl) (by rw [hs]; rfl) rfl rfl
  obtain ⟨a, ns, e, hq, q⟩ := q1
  subst e
  obtain ⟨u, rfl, rx⟩ := vals1 r1
  cases rx
  show wpAny _ _ (evalAll [do let v ← eval (.Constant (.int x0) j p1) X.env; standAt pos; pure v]) _ _ _
  unfold evalAll
  refine wpAny_bind (wpAny_bind (wpAny_Constant_int (wpAny_bind (wpAny_standAt (wpAny_pure ?_)))))
  unfold evalAll
  refine wpAny_bind (wpAny_holding (wpAny_pure (wpAny_pure ?_)))
  exact call_maxD hc (I1.tok _) hq q
end
end L2
set_option maxRecDepth 100000
namespace R
open PySem L2 PyProof.Rows
structure BdN (k : Nat) (q : Rat) : Prop where
  n : q.num.natAbs < 2 ^ k
  d : q.den < 2 ^ k
theorem BdN.mono {m n : Nat} {q : Rat} (h : BdN m q) (l : m ≤ n) : BdN n q := ⟨Nat.lt_of_lt_of_le h.n (pow_le_pow2 l), Nat.lt_of_lt_of_le h.d (pow_le_pow2 l)⟩
theorem Sm.bdN {q : Rat} (s : Sm q) : BdN 40 q := ⟨Nat.lt_of_le_of_lt s.n (by decide), Nat.lt_of_le_of_lt s.d (by decide)⟩
structure SmW (q : Rat) : Prop where
  n : q.num.natAbs < 2 ^ 42
  d : q.den < 2 ^ 40
section
variable {α β : Type}
def addAt [Add α] : List α → Nat → α → List α
  | [], _, _ => []
  | y :: r, 0, x => (y + x) :: r
  | y :: r, k + 1, x => y :: addAt r k x
theorem addAt_len [Add α] : ∀ (f : List α) (k : Nat) (x : α), (addAt f k x).length = f.length
  | [], _, _ => rfl
  | _ :: _, 0, _ => rfl
  | _ :: r, k + 1, x => by simp [addAt, addAt_len r k x]
theorem addAt_set [Add α] : ∀ (f : List α) (k : Nat) (x y : α), f[k]? = some y → f.set k (y + x) = addAt f k x
  | [], _, _, _, h => by simp at h
  | z :: r, 0, x, y, h => by cases h; rfl
  | z :: r, k + 1, x, y, h => by
    rw [List.set_cons_succ, addAt, addAt_set r k x y (by simpa using h)]
theorem addAt_other [Add α] : ∀ (f : List α) (k i : Nat) (x : α), i ≠ k → (addAt f k x)[i]? = f[i]?
  | [], _, _, _, _ => rfl
  | _ :: _, 0, 0, _, h => absurd rfl h
  | _ :: _, 0, i + 1, _, _ => rfl
  | _ :: _, k + 1, 0, _, _ => rfl
  | _ :: r, k + 1, i + 1, x, h => by
    simp only [addAt, List.getElem?_cons_succ]; exact addAt_other r k i x (by omega)
theorem addAt_same [Add α] : ∀ (f : List α) (k : Nat) (x y : α), f[k]? = some y → (addAt f k x)[k]? = some (y + x)
  | [], _, _, _, h => by simp at h
  | z :: r, 0, x, y, h => by cases h; rfl
  | z :: r, k + 1, x, y, h => by simp only [addAt, List.getElem?_cons_succ]; exact addAt_same r k x y (by simpa using h)
theorem addAt_map [Add α] [Add β] (φ : α → β) (hφ : ∀ a b, φ (a + b) = φ a + φ b) : ∀ (f : List α) (k : Nat) (x : α), (addAt f k x).map φ = addAt (f.map φ) k (φ x)
  | [], _, _ => rfl
  | y :: r, 0, x => by simp [addAt, hφ]
  | y :: r, k + 1, x => by simp [addAt, addAt_map φ hφ r k x]
def innerN [Add α] [Mul α] (z : α) (f : List α) (i : Nat) (x : α) (q : List α) : Nat → List α
  | 0 => f
  | j + 1 => addAt (innerN z f i x q j) (i + j) (x * (q[j]?).getD z)
def outerN [Add α] [Mul α] (z : α) (f p q : List α) : Nat → List α
  | 0 => f
  | i + 1 => innerN z (outerN z f p q i) i ((p[i]?).getD z) q q.length
theorem inner_len [Add α] [Mul α] (z : α) (f : List α) (i : Nat) (x : α) (q : List α) : ∀ j, (innerN z f i x q j).length = f.length
  | 0 => rfl
  | j + 1 => by rw [innerN, addAt_len, inner_len z f i x q j]
theorem outer_len [Add α] [Mul α] (z : α) (f p q : List α) : ∀ n, (outerN z f p q n).length = f.length
  | 0 => rfl
  | n + 1 => by rw [outerN, inner_len, outer_len z f p q n]
end
def mulQ (p q : List Rat) : List Rat := if p = [] ∨ q = [] then [] else outerN 0 (List.replicate (p.length + q.length - 1) 0) p q p.length
def mulZ (p q : List Int) : List Int := if p = [] ∨ q = [] then [] else outerN 0 (List.replicate (p.length + q.length - 1) 0) p q p.length
def scl (s : Rat) (ws : List Int) : List Rat := ws.map fun w : Int => s * (w : Rat)
theorem scl_len (s : Rat) (ws : List Int) : (scl s ws).length = ws.length := by simp [scl]
theorem scl_getD (s : Rat) (ws : List Int) (i : Nat) : ((scl s ws)[i]?).getD 0 = s * (((ws[i]?).getD 0 : Int) : Rat) := by
  unfold scl
  rw [List.getElem?_map]
  cases ws[i]? with
  | none => show (0 : Rat) = s * ((0 : Int) : Rat); rw [Rat.intCast_zero]; grind
  | some w => rfl
theorem scl_addAt (s : Rat) (f : List Int) (k : Nat) (x : Int) : scl s (addAt f k x) = addAt (scl s f) k (s * (x : Rat)) :=
  addAt_map (fun w : Int => s * (w : Rat)) (fun a b => by rw [Rat.intCast_add]; grind) f k x
theorem scl_inner (s t : Rat) (f : List Int) (i : Nat) (x : Int) (q : List Int) : ∀ j, scl (s * t) (innerN 0 f i x q j) = innerN 0 (scl (s * t) f) i (s * (x : Rat)) (scl t q) j
  | 0 => rfl
  | j + 1 => by
    rw [innerN, innerN, scl_addAt, scl_inner s t f i x q j, scl_getD, Rat.intCast_mul]
    congr 1; grind
theorem scl_outer (s t : Rat) (f p q : List Int) : ∀ n, scl (s * t) (outerN 0 f p q n) = outerN 0 (scl (s * t) f) (scl s p) (scl t q) n
  | 0 => rfl
  | n + 1 => by rw [outerN, outerN, scl_inner, scl_outer s t f p q n, scl_getD, scl_len]
theorem scl_mul (s t : Rat) (p q : List Int) : scl (s * t) (mulZ p q) = mulQ (scl s p) (scl t q) := by
  unfold mulZ mulQ
  have e1 : (scl s p = [] ∨ scl t q = []) ↔ (p = [] ∨ q = []) := by simp [scl]
  by_cases h : p = [] ∨ q = []
  · rw [if_pos h, if_pos (e1.mpr h)]; rfl
  · rw [if_neg h, if_neg (fun z => h (e1.mp z)), scl_outer, scl_len, scl_len]
    congr 1
    unfold scl
    rw [List.map_replicate]
    congr 1
    rw [Rat.intCast_zero]; grind
theorem mulQ_len {p q : List Rat} (hp : p ≠ []) (hq : q ≠ []) : (mulQ p q).length = p.length + q.length - 1 := by
  unfold mulQ
  rw [if_neg (by simp [hp, hq]), outer_len, List.length_replicate]
def lcmL (qs : List Rat) : Nat := qs.foldl (fun b q => Nat.lcm b q.den) 1
theorem lcmL_snoc (qs : List Rat) (q : Rat) : lcmL (qs ++ [q]) = Nat.lcm (lcmL qs) q.den := by simp [lcmL]
theorem foldlcm_dvd : ∀ (qs : List Rat) (b m : Nat), b ∣ m → (∀ q ∈ qs, q.den ∣ m) → qs.foldl (fun b q => Nat.lcm b q.den) b ∣ m
  | [], _, _, h, _ => h
  | q :: qs, b, m, h, k => foldlcm_dvd qs _ m (Nat.lcm_dvd h (k q List.mem_cons_self)) fun r hr => k r (List.mem_cons_of_mem _ hr)
theorem lcmL_dvd {qs : List Rat} {m : Nat} (h : ∀ q ∈ qs, q.den ∣ m) : lcmL qs ∣ m := foldlcm_dvd qs 1 m (Nat.one_dvd _) h
theorem foldlcm_self : ∀ (qs : List Rat) (b : Nat), b ∣ qs.foldl (fun b q => Nat.lcm b q.den) b
  | [], _ => Nat.dvd_refl _
  | q :: qs, b => Nat.dvd_trans (Nat.dvd_lcm_left _ _) (foldlcm_self qs _)
theorem foldlcm_mem : ∀ (qs : List Rat) (b : Nat) (q : Rat), q ∈ qs → q.den ∣ qs.foldl (fun b q => Nat.lcm b q.den) b
  | r :: qs, b, q, h => by
    rcases List.mem_cons.mp h with e | e
    · subst e; exact Nat.dvd_trans (Nat.dvd_lcm_right _ _) (foldlcm_self qs _)
    · exact foldlcm_mem qs _ q e
theorem den_dvd {qs : List Rat} {q : Rat} (h : q ∈ qs) : q.den ∣ lcmL qs := foldlcm_mem qs 1 q h
def gcdL (ws : List Int) : Nat := ws.foldl (fun c w => Int.gcd w c) 0
theorem gcdL_snoc (ws : List Int) (w : Int) : gcdL (ws ++ [w]) = Int.gcd w (gcdL ws) := by simp [gcdL]
theorem foldgcd_dvd : ∀ (ws : List Int) (c : Nat), (ws.foldl (fun c w => Int.gcd w c) c ∣ c) ∧ ∀ w ∈ ws, ((ws.foldl (fun c w => Int.gcd w c) c : Nat) : Int) ∣ w
  | [], c => ⟨Nat.dvd_refl _, by simp⟩
  | w :: ws, c => by
    obtain ⟨h1, h2⟩ := foldgcd_dvd ws (Int.gcd w c)
    have a1 : Int.gcd w c ∣ c := by have := Int.gcd_dvd_right w (c : Int); exact Int.natCast_dvd_natCast.mp this
    refine ⟨Nat.dvd_trans h1 a1, fun v hv => ?_⟩
    rcases List.mem_cons.mp hv with e | e
    · subst e
      exact Int.dvd_trans (Int.natCast_dvd_natCast.mpr h1) (Int.gcd_dvd_left v (c : Int))
    · exact h2 v e
theorem gcdL_dvd {ws : List Int} {w : Int} (h : w ∈ ws) : ((gcdL ws : Nat) : Int) ∣ w := (foldgcd_dvd ws 0).2 w h
theorem foldgcd_one : ∀ (ws : List Int), ws.foldl (fun c w => Int.gcd w c) 1 = 1
  | [] => rfl
  | w :: ws => by
    rw [List.foldl_cons]
    have : Int.gcd w ((1 : Nat) : Int) = 1 := by simp
    rw [this, foldgcd_one ws]
theorem gcdL_one {ws : List Int} (i : Nat) (h : gcdL (ws.take i) = 1) : gcdL ws = 1 := by
  have e : ws = ws.take i ++ ws.drop i := (List.take_append_drop i ws).symm
  rw [e]
  unfold gcdL at h ⊢
  rw [List.foldl_append, h, foldgcd_one]
def wholesOf (B : Nat) (qs : List Rat) : List Int := qs.map fun q => q.num * (B : Int).fdiv (q.den : Int)
theorem whole_eq {B : Nat} {q : Rat} (hB : 0 < B) (h : q.den ∣ B) : q = Rat.divInt (q.num * (B : Int).fdiv (q.den : Int)) B := by
  obtain ⟨e, he⟩ := h
  have hd : (q.den : Int) ≠ 0 := by have := q.den_nz; omega
  have e1 : (B : Int).fdiv (q.den : Int) = (e : Int) := by
    rw [he, Int.natCast_mul]; exact fdiv_of_mul hd
  rw [e1]
  conv => lhs; rw [← Rat.num_divInt_den q]
  rw [Rat.divInt_eq_divInt_iff hd (by omega), he, Int.natCast_mul]
  grind
end R
namespace L2
open PySem PySem.Spec PyProof.Rows
section
variable {K : PySem.W.Frag} {a b D : Addr} {xs ys : List V} {g : TG} {te : TE} {σ0 : St} {H0 : Hp} {Q : VK}
theorem cw_enum (xs : List V) (Pv : Nat → St → Hp → Prop) (h0 : Pv 0 σ0 H0) (hl : ∀ i σ H, Pv i σ H → SqL K H a xs)
    (hs : ∀ i x σ H p, xs[i]? = some x → Pv i σ H → H p = none → g (.ref p) σ (upd H p (.tup [.int i, x])) fun σ4 H4 => te σ4 H4 fun v H5 => CompN D xs.length Pv i σ4 v H5)
    (hd : ∀ σ H, Pv xs.length σ H → Q (.ref D) H) : CompW (Ite K a) D σ0 H0 g te Q := by
  refine ⟨fun i m σ H => m = xs.length - i ∧ i ≤ xs.length ∧ Pv i σ H, ⟨_, rfl, Nat.zero_le _, h0⟩, ?_⟩
  rintro i m σ H ⟨rfl, hi, p⟩
  have q := hl i σ H p
  by_cases hlt : i < xs.length
  · refine .inr ⟨⟨xs, xs[i], q, List.getElem?_eq_getElem hlt⟩, ?_⟩
    intro x H3 hy
    obtain ⟨y, r, hy1, hr, rfl, rfl⟩ := hy xs q
    exact hs i y σ _ r hy1 p hr
  · have e : i = xs.length := by omega
    subst e
    exact .inl ⟨⟨xs, q, Nat.le_refl _⟩, hd σ H p⟩
theorem for_enum {tb : TS} {E : Ends} {σ : St} {H : Hp} (xs : List V) (Pv : Nat → St → Hp → Prop) (h0 : Pv 0 σ H) (hl : ∀ i σ H, Pv i σ H → SqL K H a xs)
    (hs : ∀ i x σ H p, xs[i]? = some x → Pv i σ H → H p = none → g (.ref p) σ (upd H p (.tup [.int i, x])) fun σ2 H2 => tb { E with nx := Pv (i + 1), ct := Pv (i + 1), bk := E.nx } σ2 H2) (hd : ∀ σ H, Pv xs.length σ H → E.nx σ H) :
    ∃ W : Nat → Nat → St → Hp → Prop, (∃ m, W 0 m σ H) ∧ ∀ i m σ H, W i m σ H →
      ((Ite K a).stop i H ∧ E.nx σ H) ∨ ((Ite K a).go i H ∧ ∃ N : St → Hp → Prop, (∀ σ' H', N σ' H' → ∃ m', m' < m ∧ W (i + 1) m' σ' H') ∧ ∀ x H', (Ite K a).yld i H x H' → g x σ H' fun σ2 H2 => tb { E with nx := N, ct := N, bk := E.nx } σ2 H2) := by
  refine ⟨fun i m σ H => m = xs.length - i ∧ i ≤ xs.length ∧ Pv i σ H, ⟨_, rfl, Nat.zero_le _, h0⟩, ?_⟩
  rintro i m σ H ⟨rfl, hi, p⟩
  have q := hl i σ H p
  by_cases hlt : i < xs.length
  · refine .inr ⟨⟨xs, xs[i], q, List.getElem?_eq_getElem hlt⟩, Pv (i + 1), fun σ' H' n => ⟨_, by omega, rfl, hlt, n⟩, ?_⟩
    intro x H3 hy
    obtain ⟨y, r, hy1, hr, rfl, rfl⟩ := hy xs q
    exact hs i y σ _ r hy1 p hr
  · have e : i = xs.length := by omega
    subst e
    exact .inl ⟨⟨xs, q, Nat.le_refl _⟩, hd σ H p⟩
end
section
variable {X : Cx}
theorem get_list : PGet X (rIxL X.K) := by
  intro pins s σ H x y v u Q I rx ry h
  obtain ⟨p, xs, i, z, rfl, rfl, hq, he, q⟩ := h
  cases rx
  obtain ⟨t, rfl⟩ := ry
  obtain ⟨its, r, pl, hz⟩ := I.list hq
  obtain ⟨j, h1, h2, h3, h4, h5⟩ := atI_get he
  obtain ⟨w, ew, rw'⟩ := r.get h2
  have hl := r.length
  have hn := line63
  have fin : EP X pins σ Q w s := ⟨z, H, I, rw', q⟩
  by_cases h0 : 0 ≤ i
  · have hj : i.toNat = j := by
      rw [seqIndex_of h0 h5] at h1
      exact Option.some.inj h1
    exact wpAny_getItem_list pl.isList h0 (by omega) (by rw [hj]; simpa using ew) fin
  · have hj : (i + (its.toArray.size : Int)).toNat = j := by
      rw [seqIndex_neg (by omega) h4] at h1
      rw [List.size_toArray, ← hl]
      exact Option.some.inj h1
    exact wpAny_getItem_list_neg pl.isList (by omega) (by rw [List.size_toArray] <;> omega) (by omega) (by rw [hj]; simpa using ew) fin
end
theorem ns_nocell {h : Heap} {a : Addr} {m : Str → Option Value} {o : Obj} (n : h.Ns a m) (e : h.get? a = some o) (v : Option Value) (z : o.data = .cell v) : False := by
  obtain ⟨o', es, ep, e', r⟩ := n
  rw [e] at e'
  cases e'
  have d := r.1
  rw [d] at z; cases z
section
variable {X : Cx}
theorem ps_setComp {elt tg iter : Expr} {scope : Scope} {pos spos py : Pos} {y : Str} {i₀ : Nat} {cl : List (Str × Addr)} {Nc : List Str} {caps : List (Option Nat)} {wi : TI} {g : TG} {te : TE} (hN : X.N.Nodup) (hi₀ : X.N[i₀]? = some y) (hx : Loc X.env.scope y) (hc : X.calm = true) (cp : Caps X scope cl Nc caps) (hi : PI X tg iter wi)
    (hg : ∀ C s₂ H₂ fp pins, PG (X.block scope cl C Nc s₂ H₂ fp pins) tg g) (he : ∀ C s₂ H₂ fp pins, PE (X.block scope cl C Nc s₂ H₂ fp pins) elt te) (hs : ∀ x, foldedSetIterable iter X.env x = pure x := by intro _; rfl) (hsw : swapsWith (.ListComp elt [⟨tg, iter, [], 0⟩] scope pos) (some (.Name y py)) spos.line X.env = pure true := by rfl)
    (hf : X.fn y = true ∨ X.env.scope.names.lookup y = some .local := by first | exact .inl rfl | exact .inr rfl | assumption) :
    PS X (.Assign [.Name y py] (.ListComp elt [⟨tg, iter, [], 0⟩] scope pos) spos) (tAsg (tComp wi caps g te) (gName i₀)) := by
  intro pins s σ H DD I h
  rw [exec_Assign_Name_used _ _ _ _ hsw]
  refine wpAny_bind (wpAny_standAt (wpAny_bind ?_))
  show wpAny _ X.A (do let _ ← comprehension (.ListComp elt [⟨tg, iter, [], 0⟩] scope pos) scope X.env _ (newList []) false (eval iter X.env) (some (assign (.Name y py) X.env))) _ _ s
  refine wpAny_bind (wpAny_mono (wpAny_comprehension_free (use := some (assign (.Name y py) X.env)) (Q := fun _ s' => SP X pins DD .next s') rfl hs cp.clos cp.kind cp.names ?_) (fun _ s' hq => wpAny_pure (wpAny_pure hq)) fun _ _ e => e)
  refine thn (hi pins s σ H _ I h) fun v s1 h1 => thn h1 fun itv s2 h2 => ?_
  obtain ⟨it, fp, tn, J, H2, e, I2, T, st2, f2, hW⟩ := h2
  subst e
  refine wpAny_newObj_type ?_ (by show 0 ≤ sizeLine; exact Nat.zero_le _)
  refine wpAny_newFunctionEnv cp.nocell (by intro y hy; simp at hy) (fun h4 hns hsb => ?_) cp.kind
  dsimp only at hns hsb ⊢
  generalize hH3 : s2.heap.push { cls := .type "list", dict := none, data := .seq ([] : List Value).toArray } = H3 at hns hsb ⊢
  have hCe : H3.objs.size = s2.heap.objs.size + 1 := by rw [← hH3, Heap.size_push]
  have below : ∀ b o, s2.heap.get? b = some o → b ≠ H3.objs.size := fun b o e => by rw [hCe]; exact Nat.ne_of_lt (Nat.lt_succ_of_lt (Heap.lt_size e))
  have old : ∀ b o, s2.heap.get? b = some o → h4.get? b = some o := fun b o e => hsb.extBut b o (below b o e) (Heap.get?_push_of_some _ (hH3 ▸ Heap.get?_push_of_some _ e))
  have hD : h4.get? s2.heap.objs.size = some { cls := .type "list", dict := none, data := .seq ([] : List Value).toArray } :=
    hsb.extBut _ _ (by rw [hCe]; exact Nat.ne_of_lt (Nat.lt_succ_self _)) (Heap.get?_push_of_some _ (hH3 ▸ Heap.get?_push_size _ rfl))
  have hDn : H2 s2.heap.objs.size = none := I2.fresh
  have hCn : H2 H3.objs.size = none := I2.hok.fresh (by rw [hCe]; exact Nat.le_succ _)
  have hCs : s2.heap.objs.size ≤ H3.objs.size := by rw [hCe]; exact Nat.le_succ _
  have hDC : s2.heap.objs.size ≠ H3.objs.size := by rw [hCe]; exact Nat.ne_of_lt (Nat.lt_succ_self _)
  have fpl : ∀ b ∈ fp, ∃ o, s2.heap.get? b = some o := fun b hb => let ⟨o, e, _⟩ := T.obj _ _ st2 b hb; ⟨o, e⟩
  have fpC : ∀ b ∈ fp, b ≠ H3.objs.size := fun b hb => let ⟨o, e⟩ := fpl b hb; below b o e
  have fpD : ∀ b ∈ fp, b ≠ s2.heap.objs.size := fun b hb => let ⟨o, e⟩ := fpl b hb; Nat.ne_of_lt (Heap.lt_size e)
  have stkN : ∀ b, b ≠ X.env.locals → b ∉ X.fs → b ∉ frs X.stack := fun b h1 h2 z => (List.mem_cons.mp (I2.stkSub b z)).elim h1 h2
  obtain ⟨W, ⟨m0, w0⟩, turn⟩ := hW s2.heap.objs.size hDn
  have okB : (X.block scope cl H3.objs.size Nc s2 H2 fp pins).Ok := by
    refine ⟨I2.ok.mod, ?_, I2.ok.glob, I2.ok.blt, hCs, fun x y c h1 h2 => I2.ok.inj x y c (cp.sub x c h1) (cp.sub y c h2), fun x hx => cp.has x hx, fun x c h => (by cases h), I2.ok.hd, I2.ok.frames, .inl rfl, fun b hb => ⟨fpC b hb, fun x c h => (f2 b hb).2.2.2.2.1 x c (cp.sub x c h)⟩, I2.bs, Nat.le_trans I2.ok.bsz I2.sz, fun b o e hb => ?_, fun b hb => stkN b (f2 b hb).2.1 (f2 b hb).2.2.1, I2.stack, I2.stkFree⟩
    · exact cp.kind
    · rcases (f2 b hb).2.2.2.1 with z | z
      · exact I2.ok.noex b o e z
      · exact absurd (Nat.lt_of_lt_of_le (Heap.lt_size e) (Nat.le_trans I2.ok.bsz z)) (Nat.lt_irrefl _)
  have hokB : HOk X.prog X.w (upd H2 s2.heap.objs.size (.lst [])) h4 := I2.hok.laid old (Nat.le_refl _) ⟨Nat.zero_le _, [], _, .nil, hD⟩
  have IB : Inv (X.block scope cl H3.objs.size Nc s2 H2 fp pins) [] (capSt caps σ) (upd H2 s2.heap.objs.size (.lst [])) { s2 with heap := h4, toks := s2.toks + ([] : List (Str × Value)).length } := by
    refine ⟨okB, rfl, I2.bare, Un.laid old (Nat.le_refl _) hDn, ⟨_, hns, fun i x v e1 e2 e3 => ?_⟩, fun x c e => ?_, (show upd H2 s2.heap.objs.size (.lst []) H3.objs.size = none by rw [upd_ne (Ne.symm hDC)]; exact hCn), fun x c e => ?_, fun p hp => ?_, hokB, ?_⟩
    · unfold capSt at e2
      rw [List.getElem?_map] at e2
      cases hcap : caps[i]? with
      | none => rw [hcap] at e2; cases e2
      | some o =>
        rw [hcap] at e2
        cases o with
        | none => cases e2
        | some j =>
          have hj : σ[j]? = some (some v) := by
            have e2' : (σ[j]?).join = some v := Option.some.inj e2
            cases q : σ[j]? with
            | none => rw [q] at e2'; cases e2'
            | some z => rw [q] at e2'; exact congrArg some e2'
          obtain ⟨n1, n2, n3, n4⟩ := cp.cap i j x hcap e1
          obtain ⟨m, hm, hl⟩ := I2.loc
          obtain ⟨u, r, q⟩ := hl j x v n1 hj n2
          rcases q with ⟨k, _⟩ | ⟨k, c, ec, z⟩
          · exact absurd k n3
          · obtain ⟨c', ec'⟩ := cp.has x n4
            have := cp.sub x c' ec'
            rw [ec] at this; cases this
            obtain ⟨oc, ho, hd⟩ := z
            exact ⟨u, r, .inr ⟨n4, c, ec', oc, old _ _ ho, hd⟩⟩
    · obtain ⟨v, oc, ho, hd⟩ := I2.cell x c (cp.sub x c e)
      exact ⟨v, oc, old _ _ ho, hd⟩
    · obtain ⟨v, oc, ho, hd⟩ := I2.cell x c (cp.sub x c e)
      rw [upd_ne (Nat.ne_of_lt (Heap.lt_size ho))]
      exact I2.freeC x c (cp.sub x c e)
    · have hp' : p ∈ X.pn ++ pins := by simpa using hp
      obtain ⟨e1, e2, e3, e4, e5⟩ := I2.pin p hp'
      exact ⟨old _ _ e1, by rw [upd_ne (Nat.ne_of_lt (Heap.lt_size e1))]; exact e2, below _ _ e1, stkN _ e3 e4, e5⟩
    · show (capSt caps σ).length = Nc.length
      unfold capSt
      rw [List.length_map]; exact cp.len
  have stat : ∀ {H' : Hp}, (∀ b ∈ fp, H' b = none) → ∀ b ∈ fp, FpOk (X.block scope cl H3.objs.size Nc s2 H2 fp pins) [] H' b := fun hn b hb =>
    ⟨hn b hb, fpC b hb, stkN b (f2 b hb).2.1 (f2 b hb).2.2.1, .inl hb, fun x c h => (f2 b hb).2.2.2.2.1 x c (cp.sub x c h), fun p hp => (f2 b hb).2.2.2.2.2 p (by simpa using hp)⟩
  have loop : ∀ s5 : Shared, s5 = { s2 with heap := h4, toks := s2.toks + ([] : List (Str × Value)).length } →
      codeAny (model X.prog X.w) X.A (.compLoop (.ListComp elt [⟨tg, iter, [], 0⟩] scope pos) 0 (.ref it) (.ref s2.heap.objs.size) (compEnvC scope cl H3.objs.size X.env))
        (compPost (model X.prog X.w) X.A X.xe (some (assign (.Name y py) X.env)) (fun _ s' => SP X pins DD .next s') (.ref s2.heap.objs.size) H3.objs.size) s5 := by
    rintro s5 rfl
    refine comp_loop (fun n s' => ∃ i σ' H', Inv (X.block scope cl H3.objs.size Nc s2 H2 fp pins) [] σ' H' s' ∧ tn i s'.heap ∧ (∀ b ∈ fp, H' b = none) ∧ W i n σ' H') ?_ m0 ⟨0, _, _, IB, T.keep _ _ _ st2 fun b hb o e => old b o e, fun b hb => by rw [upd_ne (fpD b hb)]; exact (f2 b hb).1, w0⟩
    rintro n s6 ⟨i, σ6, H6, I6, st6, fr6, w6⟩
    rcases turn i n σ6 H6 w6 with ⟨stop, qn⟩ | ⟨go, step⟩
    · refine thn (T.done (X.block scope cl H3.objs.size Nc s2 H2 fp pins) rfl rfl rfl hc i [] s6 σ6 H6 _ I6 (stat fr6) st6 stop) fun r s7 ⟨hr, I7⟩ => ?_
      subst hr
      obtain ⟨m7, hn7, _⟩ := id I7.loc
      have Io : Inv X pins σ H6 s7 := I2.sameC (h'' := s7.heap) f2 I7.os I7.bare I7.base I7.hok hCs I7.free ⟨rfl, fun _ _ => rfl⟩
      have fC : FpOk X pins H6 H3.objs.size := I2.fpOk hCs I7.free
      have fC' : ∀ b ∈ [H3.objs.size], FpOk X pins H6 b := fun b hb => by rw [List.mem_singleton.mp hb]; exact fC
      obtain ⟨oC, esC, epC, hoC, restC⟩ := id hn7
      have obC : ∀ b ∈ [H3.objs.size], ∃ o, s7.heap.get? b = some o ∧ ∀ v, o.data ≠ .cell v := fun b hb => by
        rw [List.mem_singleton.mp hb]
        exact ⟨oC, hoC, fun v z => ns_nocell hn7 hoC v z⟩
      have Ip := Io.pinned fC' obC
      show wpAny (model X.prog X.w) X.A (assign (.Name y py) X.env (.ref s2.heap.objs.size)) _ _ s7
      refine thn (pg_name (pos := py) hN hi₀ hx hf _ s7 σ H6 (.ref s2.heap.objs.size) (.ref s2.heap.objs.size) DD.nx Ip rfl qn) fun _ s9 ⟨σ9, H9, I9, q9⟩ => ?_
      have keepC := (I9.pin (H3.objs.size, oC) (List.mem_append_right _ (List.mem_append_right _ (mem_pinsAt (by simp) hoC)))).1
      have H9C := (I9.pin (H3.objs.size, oC) (List.mem_append_right _ (List.mem_append_right _ (mem_pinsAt (by simp) hoC)))).2.1
      refine ⟨m7, hn7.at' fun o e => by rw [hoC] at e; cases e; exact keepC, fun h' sb => ?_⟩
      obtain ⟨_, g1, g2, g3, g4, g5⟩ := fC
      exact ⟨σ9, H9, I9.unpinned.turned (t' := s9.toks) (fun b o hb e => (sb.2 b hb).trans e) H9C g1 g3 g4 g5, q9⟩
    · refine thn (T.item (X.block scope cl H3.objs.size Nc s2 H2 fp pins) rfl rfl rfl hc i [] s6 σ6 H6 _ I6 (stat fr6) st6 go) fun r s7 ⟨u, hr, h7⟩ => ?_
      subst hr
      refine thn h7 fun _ s8 ⟨x, H8, I8, r8, y8, st8, fr8⟩ => ?_
      have I8' := I8.pinned (stat fr8) (T.obj _ _ st8)
      refine thn (hg _ _ _ _ _ _ s8 σ6 H8 x u _ I8' r8 (step x H8 y8)) fun _ s9 ⟨σ9, H9, I9, q9⟩ => ?_
      refine thn (he _ _ _ _ _ _ s9 σ9 H9 _ I9 q9) fun u10 s10 ⟨v10, H10, I10, r10, ys, hys, hlen, m', hm', w'⟩ => ?_
      refine thn (mt_append _ s10 σ9 H10 (.ref s2.heap.objs.size) [v10] (.ref s2.heap.objs.size) [u10] (fun _ H11 => H11 = upd H10 s2.heap.objs.size (.lst (ys ++ [v10]))) I10 rfl (.cons r10 .nil) ⟨_, ys, v10, rfl, rfl, hys, hlen, rfl⟩) fun _ s11 ⟨_, H11, I11, _, hH11⟩ => ?_
      subst hH11
      refine ⟨m', hm', i + 1, σ9, _, I11.unpinned, T.keep _ _ _ st8 fun b hb o e => (I11.pin (b, o) (List.mem_append_right _ (List.mem_append_right _ (mem_pinsAt hb e)))).1, fun b hb => ?_, w'⟩
      obtain ⟨o, e, d⟩ := T.obj _ _ st8 b hb
      exact (I11.pin (b, o) (List.mem_append_right _ (List.mem_append_right _ (mem_pinsAt hb e)))).2.1
  exact codeAny_compStart_list (loop _ rfl) (T.self _ 0 _ _ _ (T.keep _ _ _ st2 fun b hb o e => old b o e) (loop _ rfl))
end
section
variable {X : Cx}
def ipM (c : Int → Int → Prop) (f : Int → Int → Int) : TIp := fun x y H Q => ∃ i j, x = .int i ∧ y = .int j ∧ c i j ∧ Q (.int (f i j)) H
theorem ip_mul : PIp X .Mult (ipM IntMulOk fun i j => i * j) := by
  intro pins s σ H x y v u Q I r1 r2 h
  obtain ⟨i, j, e1, e2, hc, q⟩ := h
  subst e1; subst e2
  obtain ⟨t, rfl⟩ := r1
  obtain ⟨t', rfl⟩ := r2
  exact imul_int ⟨.int _, H, I.tok _, ⟨_, rfl⟩, q⟩ hc
end
theorem PS.nox {X : Cx} {st : Stmt} {t : TS} (h : PS X.nox st t) : PS X st t := fun pins s σ H D I hw =>
  wpAny_mono (h pins s σ H D (I.wish _) hw) (fun _ _ q => q.unwish) fun _ _ z => False.elim z
structure OwnCells (h h' : Heap) (names : List (Str × NameKind)) (acc cs : List (Str × Addr)) : Prop where
  cell : ∀ x c, cs.lookup x = some c → ∃ v, h'.IsCell c v
  inj : ∀ x y c, cs.lookup x = some c → cs.lookup y = some c → x = y
  old : ∀ x c, cs.lookup x = some c → acc.lookup x = some c ∨ h.objs.size ≤ c
  fresh : ∀ x, (x, NameKind.cell) ∈ names → ∀ c, cs.lookup x = some c → h.objs.size ≤ c
structure CapsC (X : Cx) (scope : Scope) (cl : List (Str × Addr)) (Nc : List Str) (caps : List (Option Nat)) : Prop where
  clos : closureFor scope X.env = pure cl
  sub : ∀ x c, cl.lookup x = some c → X.env.cells.lookup x = some c
  has : ∀ n x, (relabel scope X.env).names.lookup x = some .cell ∨ (relabel scope X.env).names.lookup x = some .free → ∃ c, (cellsFrom n scope.names cl).lookup x = some c
  kind : scope.kind = .function
  names : ∀ x ∈ scope.names, x.2 = .local → scope.names.lookup x.1 = some .local
  len : caps.length = Nc.length
  cap : ∀ (i j : Nat) (x : Str), caps[i]? = some (some j) → Nc[i]? = some x → X.N[j]? = some x ∧ Vis X.env.scope x ∧ X.env.kindOf x ≠ some .local ∧ ((relabel scope X.env).names.lookup x = some .cell ∨ (relabel scope X.env).names.lookup x = some .free) ∧
    (∃ c, cl.lookup x = some c) ∧ ∀ n c, cl.lookup x = some c → (cellsFrom n scope.names cl).lookup x = some c
structure Stp (prog : Program) (w : World) (it src : Addr) (ar : Array Value) (st : Nat → Heap → Prop) : Prop where
  stay : ∀ {k : Nat} {h h' : Heap}, st k h → (∀ o, h.get? it = some o → h'.get? it = some o) → (∀ o, h.get? src = some o → h'.get? src = some o) → st k h'
  item : ∀ {A : Around} {E : Value → Shared → Prop} {s : Shared} {k : Nat} {v : Value} {Q : Value → Shared → Prop}, st k s.heap → ar[k]? = some v → (∀ h', st (k + 1) h' → Heap.SameBut it s.heap h' → Q v { s with heap := h' }) → wpAny (model prog w) A (Builtin.SmallTypes.nextOf (.ref it)) Q E s
  fin : ∀ {A : Around} {E : Value → Shared → Prop} {s : Shared} {k : Nat} {Q : Value → Shared → Prop}, A.handled = none → st k s.heap → ar[k]? = none → (∀ h' e, Heap.ExtBut it s.heap h' → (∃ o, h'.get? e = some o ∧ o.cls = .type "StopIteration") → E (.ref e) { s with heap := h' }) → wpAny (model prog w) A (Builtin.SmallTypes.nextOf (.ref it)) Q E s
open PySem PyProof.Rows
end L2
set_option maxRecDepth 100000
namespace HT
open PySem PyProof.Rows
end HT
namespace L2
open PySem PySem.Spec PyProof.Rows
end L2
set_option maxRecDepth 100000
namespace PySem
open Sem (wp)
open AutoSeq1 (wpAny_loadPart')
end PySem
namespace L2
open PySem PySem.Spec PyProof.Rows
end L2
set_option maxRecDepth 100000
namespace R
open PySem L2 PyProof.Rows
def sumTo (f : Nat → Rat) : Nat → Rat
  | 0 => 0
  | n + 1 => sumTo f n + f n
theorem sumTo_first (f : Nat → Rat) : ∀ n, sumTo f (n + 1) = f 0 + sumTo (fun i => f (i + 1)) n
  | 0 => by simp only [sumTo]; grind
  | n + 1 => by
    rw [sumTo, sumTo_first f n, sumTo]; grind
theorem sumTo_congr {f g : Nat → Rat} : ∀ {n}, (∀ i, i < n → f i = g i) → sumTo f n = sumTo g n
  | 0, _ => rfl
  | n + 1, h => by rw [sumTo, sumTo, sumTo_congr fun i hi => h i (by omega), h n (by omega)]
theorem sumTo_reflect : ∀ (n : Nat) (f : Nat → Rat), sumTo f n = sumTo (fun i => f (n - 1 - i)) n
  | 0, _ => rfl
  | n + 1, f => by
    rw [sumTo_first (fun i => f (n + 1 - 1 - i)) n, sumTo, sumTo_reflect n f]
    have : sumTo (fun i => f (n - 1 - i)) n = sumTo (fun i => f (n + 1 - 1 - (i + 1))) n := sumTo_congr fun i hi => by congr 1; omega
    rw [this]
    show _ = f (n + 1 - 1 - 0) + _
    rw [show n + 1 - 1 - 0 = n by omega]
    grind
theorem sumTo_more {f : Nat → Rat} {m : Nat} : ∀ {n}, m ≤ n → (∀ i, m ≤ i → i < n → f i = 0) → sumTo f n = sumTo f m
  | 0, h, _ => by rw [show m = 0 by omega]
  | n + 1, h, z => by
    by_cases e : m = n + 1
    · rw [e]
    · rw [sumTo, z n (by omega) (by omega), sumTo_more (n := n) (by omega) fun i a b => z i a (by omega)]
      grind
theorem inner_get (f : List Rat) (i : Nat) (x : Rat) (q : List Rat) {k : Nat} (y : Rat) (hy : f[k]? = some y) : ∀ j, (innerN 0 f i x q j)[k]? = some (y + if i ≤ k ∧ k < i + j then x * (q[k - i]?).getD 0 else 0)
  | 0 => by
    rw [innerN, hy, if_neg (by omega)]; congr 1; grind
  | j + 1 => by
    have ih := inner_get f i x q y hy j
    rw [innerN]
    by_cases e : k = i + j
    · subst e
      rw [addAt_same _ _ _ _ ih, if_neg (by omega), if_pos (by omega), show i + j - i = j by omega]
      congr 1; grind
    · rw [addAt_other _ _ _ _ e, ih]
      by_cases h : i ≤ k ∧ k < i + j
      · rw [if_pos h, if_pos (by omega)]
      · rw [if_neg h, if_neg (by omega)]
def term (p q : List Rat) (k i : Nat) : Rat := if i ≤ k then (p[i]?).getD 0 * (q[k - i]?).getD 0 else 0
theorem outer_get (f p q : List Rat) {k : Nat} (hy : f[k]? = some 0) : ∀ n, (outerN 0 f p q n)[k]? = some (sumTo (term p q k) n)
  | 0 => hy
  | n + 1 => by
    rw [outerN, inner_get _ _ _ _ _ (outer_get f p q hy n), sumTo]
    congr 2
    unfold term
    by_cases h : n ≤ k
    · rw [if_pos h]
      by_cases h2 : k < n + q.length
      · rw [if_pos ⟨h, h2⟩]
      · rw [if_neg (by omega), List.getElem?_eq_none (l := q) (by omega)]
        show (0 : Rat) = _ * 0
        grind
    · rw [if_neg h, if_neg (by omega)]
theorem mulQ_get {p q : List Rat} (hp : p ≠ []) (hq : q ≠ []) {k : Nat} (hk : k < p.length + q.length - 1) : (mulQ p q)[k]? = some (sumTo (fun i => (p[i]?).getD 0 * (q[k - i]?).getD 0) (k + 1)) := by
  unfold mulQ
  rw [if_neg (by simp [hp, hq]), outer_get _ _ _ (by rw [List.getElem?_replicate, if_pos hk])]
  congr 1
  have h1 : sumTo (term p q k) (max p.length (k + 1)) = sumTo (term p q k) p.length := sumTo_more (by omega) fun i a _ => by
    unfold term
    rw [List.getElem?_eq_none a]
    split
    · show (0 : Rat) * _ = 0; grind
    · rfl
  have h2 : sumTo (term p q k) (max p.length (k + 1)) = sumTo (term p q k) (k + 1) := sumTo_more (by omega) fun i a _ => by
    unfold term
    rw [if_neg (by omega)]
  rw [← h1, h2]
  exact sumTo_congr fun i hi => by unfold term; rw [if_pos (by omega)]
end R
namespace L2
theorem seq_cut {t R : TS} {D : Ends} {σ : St} {H : Hp} (P : St → Hp → Prop) (first : ∀ N : St → Hp → Prop, (∀ σ H, P σ H → N σ H) → t { D with nx := N } σ H) (rest : ∀ σ H, P σ H → R D σ H) : tSeq t R D σ H := first _ rest
end L2
set_option maxRecDepth 100000
namespace R
section
variable {α : Type} [Lean.Grind.CommRing α]
def syn (c : α) : List α → List α
  | [] => []
  | a :: p => match syn c p with
    | [] => [a]
    | h :: t => (a + c * h) :: h :: t
def pass (c : α) (k : Nat) (l : List α) : List α := l.take k ++ syn c (l.drop k)
end
open PySem L2 PyProof.Rows
structure Bd6 (q : Rat) : Prop where
  n : q.num.natAbs < 2 ^ 6000
  d : q.den < 2 ^ 6000
theorem foldlcm_pos : ∀ (qs : List Rat) (b : Nat), 0 < b → 0 < qs.foldl (fun b q => Nat.lcm b q.den) b
  | [], b, h => h
  | q :: qs, b, h => foldlcm_pos qs _ (Nat.lcm_pos h (by have := q.den_nz; omega))
theorem lcmL_pos (qs : List Rat) : 0 < lcmL qs := foldlcm_pos qs 1 (by decide)
theorem content_cop1 (qs : List Rat) : Int.gcd (gcdL (wholesOf (lcmL qs) qs) : Int) (lcmL qs : Int) = 1 := by
  have hB := lcmL_pos qs
  have key : ∀ c : Nat, c ∣ gcdL (wholesOf (lcmL qs) qs) → c ∣ lcmL qs → c = 1 := by
    intro c h1 h2
    have hc : 0 < c := Nat.pos_of_dvd_of_pos h2 hB
    have h3 : lcmL qs ∣ lcmL qs / c := by
      refine lcmL_dvd fun q hq => ?_
      obtain ⟨e, he⟩ := den_dvd hq
      have hd : (q.den : Int) ≠ 0 := by have := q.den_nz; omega
      have e1 : (lcmL qs : Int).fdiv (q.den : Int) = (e : Int) := by
        rw [he, Int.natCast_mul]; exact fdiv_of_mul hd
      have m1 : (c : Int) ∣ q.num * (e : Int) := by
        have := Int.dvd_trans (Int.natCast_dvd_natCast.mpr h1) (gcdL_dvd (List.mem_map.mpr ⟨q, hq, rfl⟩))
        rw [e1] at this; exact this
      have m2 : c ∣ q.num.natAbs * e := by
        have := Int.natAbs_dvd_natAbs.mpr m1
        rw [Int.natAbs_mul] at this
        simpa using this
      have m3 : c ∣ q.den * e := by rw [← he]; exact h2
      have m4 : c ∣ e := by
        have := Nat.dvd_gcd m2 m3
        rw [Nat.gcd_mul_right] at this
        have hg : Nat.gcd q.num.natAbs q.den = 1 := q.reduced
        rw [hg, Nat.one_mul] at this
        exact this
      obtain ⟨f, hf⟩ := m4
      rw [he, hf]
      refine ⟨f, ?_⟩
      rw [show q.den * (c * f) = c * (q.den * f) by grind, Nat.mul_div_cancel_left _ hc]
    have h4 := Nat.le_of_dvd (Nat.div_pos (Nat.le_of_dvd hB h2) hc) h3
    have h5 := Nat.div_mul_cancel h2
    by_cases hc1 : c = 1
    · exact hc1
    · have : lcmL qs / c * 2 ≤ lcmL qs / c * c := Nat.mul_le_mul_left _ (by omega)
      omega
  have z := key (Int.gcd (gcdL (wholesOf (lcmL qs) qs) : Int) (lcmL qs : Int))
  refine z ?_ ?_
  · exact Int.natCast_dvd_natCast.mp (Int.gcd_dvd_left _ _)
  · exact Int.natCast_dvd_natCast.mp (Int.gcd_dvd_right _ _)
def prodL (ws : List Int) : Int := ws.foldl (fun p v => if v = 0 then p else p * v) 1
theorem prodL_snoc (ws : List Int) (v : Int) : prodL (ws ++ [v]) = if v = 0 then prodL ws else prodL ws * v := by simp [prodL]
theorem foldprod_dvd : ∀ (ws : List Int) (p : Int), p ∣ ws.foldl (fun p v => if v = 0 then p else p * v) p
  | [], p => Int.dvd_refl _
  | v :: ws, p => by
    simp only [List.foldl_cons]
    by_cases h : v = 0
    · rw [if_pos h]; exact foldprod_dvd ws p
    · rw [if_neg h]; exact Int.dvd_trans ⟨v, rfl⟩ (foldprod_dvd ws _)
theorem foldprod_mem : ∀ (ws : List Int) (p v : Int), v ∈ ws → v ≠ 0 → v ∣ ws.foldl (fun p v => if v = 0 then p else p * v) p
  | [], p, v, h, _ => by cases h
  | u :: ws, p, v, h, hv => by
    simp only [List.foldl_cons]
    rcases List.mem_cons.mp h with e | e
    · subst e
      rw [if_neg hv]
      exact Int.dvd_trans ⟨p, Int.mul_comm _ _⟩ (foldprod_dvd ws _)
    · exact foldprod_mem ws _ v e hv
theorem prodL_dvd {ws : List Int} {v : Int} (h : v ∈ ws) (hv : v ≠ 0) : v ∣ prodL ws := foldprod_mem ws 1 v h hv
theorem gcd_thru {b p v : Int} (h : v ∣ p) : Int.gcd (Int.gcd b p : Nat) v = Int.gcd b v := by
  refine Nat.dvd_antisymm ?_ ?_
  · refine Int.dvd_gcd ?_ ?_
    · exact Int.dvd_trans (Int.gcd_dvd_left _ _) (Int.gcd_dvd_left _ _)
    · exact Int.gcd_dvd_right _ _
  · refine Int.dvd_gcd ?_ (Int.gcd_dvd_right _ _)
    exact Int.natCast_dvd_natCast.mpr (Int.dvd_gcd (Int.gcd_dvd_left _ _) (Int.dvd_trans (Int.gcd_dvd_right _ _) h))
theorem sumTo_zero {f : Nat → Rat} : ∀ n, (∀ i, i < n → f i = 0) → sumTo f n = 0
  | 0, _ => rfl
  | n + 1, h => by
    rw [sumTo, sumTo_zero n (fun i hi => h i (by omega)), h n (by omega)]
    grind
open PySem L2 PyProof.Rows
structure ClN (W : Nat) (qs : List Rat) : Prop where
  l : lcmL qs < 2 ^ W
  w : ∀ v ∈ wholesOf (lcmL qs) qs, Int.natAbs v < 2 ^ W
theorem ClN.den {W : Nat} {qs : List Rat} (h : ClN W qs) {q : Rat} (hq : q ∈ qs) : q.den < 2 ^ W := Nat.lt_of_le_of_lt (Nat.le_of_dvd (lcmL_pos qs) (den_dvd hq)) h.l
theorem ClN.num {W : Nat} {qs : List Rat} (h : ClN W qs) {q : Rat} (hq : q ∈ qs) : q.num.natAbs < 2 ^ W := by
  have h1 := h.w _ (List.mem_map.mpr ⟨q, hq, rfl⟩)
  obtain ⟨e, he⟩ := den_dvd hq
  have hp := lcmL_pos qs
  have h0 : (q.den : Int) ≠ 0 := by have := q.den_nz; omega
  have e1 : (lcmL qs : Int).fdiv (q.den : Int) = (e : Int) := by
    rw [he, Int.natCast_mul]; exact fdiv_of_mul h0
  rw [e1, Int.natAbs_mul, Int.natAbs_natCast] at h1
  refine Nat.lt_of_le_of_lt (Nat.le_mul_of_pos_right _ ?_) h1
  rcases Nat.eq_zero_or_pos e with z | z
  · rw [z] at he; omega
  · exact z
theorem ClN.take {W : Nat} {qs : List Rat} (h : ClN W qs) (i : Nat) : lcmL (qs.take i) < 2 ^ W :=
  Nat.lt_of_le_of_lt (Nat.le_of_dvd (lcmL_pos qs) (lcmL_dvd fun q hq => den_dvd (List.mem_of_mem_take hq))) h.l
theorem one_over (v : Int) (L : Nat) : Rat.divInt 1 L * (v : Rat) = Rat.divInt v L := by
  have h1 := Rat.num_divInt_den (v : Rat)
  rw [Rat.num_intCast, Rat.den_intCast] at h1
  conv => lhs; rw [← h1]
  rw [Rat.divInt_mul_divInt]
  simp
theorem divInt_den_dvd (v : Int) {L : Nat} (h : 0 < L) : (Rat.divInt v L).den ∣ L := by
  have hL : (L : Int) ≠ 0 := by omega
  obtain ⟨_, e2⟩ := low_eq (t := v) (b := (L : Int)) (g := (Int.gcd v L : Int)) hL (by rw [if_neg (by omega)])
  obtain ⟨k, hk⟩ := Int.gcd_dvd_right v (L : Int)
  have hg := gcd_pos (t := v) hL
  have e3 : (L : Int).fdiv (Int.gcd v L : Int) = k := by
    conv => lhs; arg 1; rw [hk]
    exact fdiv_of_mul (by omega)
  rw [e3] at e2
  have : ((Rat.divInt v L).den : Int) ∣ (L : Int) := ⟨_, by rw [Int.mul_comm, ← e2]; exact hk⟩
  exact Int.natCast_dvd_natCast.mp this
theorem divInt_cross (v : Int) {L : Nat} (h : 0 < L) : (Rat.divInt v L).num * L = v * ((Rat.divInt v L).den : Int) := by
  have hL : (L : Int) ≠ 0 := by omega
  have hd : ((Rat.divInt v L).den : Int) ≠ 0 := by have := (Rat.divInt v L).den_nz; omega
  exact (Rat.divInt_eq_divInt_iff hd hL).mp (Rat.num_divInt_den _)
theorem cl_of_scl {L W : Nat} {vs : List Int} (hL0 : 0 < L) (hL : L < 2 ^ W) (hv : ∀ v ∈ vs, Int.natAbs v < 2 ^ W) : ClN W (scl (Rat.divInt 1 L) vs) := by
  have hd : lcmL (scl (Rat.divInt 1 L) vs) ∣ L := lcmL_dvd fun q hq => by
    obtain ⟨v, _, rfl⟩ := List.mem_map.mp hq
    rw [one_over]
    exact divInt_den_dvd v hL0
  have hle := Nat.le_of_dvd hL0 hd
  refine ⟨Nat.lt_of_le_of_lt hle hL, fun u hu => ?_⟩
  obtain ⟨q, hq, rfl⟩ := List.mem_map.mp hu
  obtain ⟨e, he⟩ := den_dvd hq
  have h0 : (q.den : Int) ≠ 0 := by have := q.den_nz; omega
  have e1 : (lcmL (scl (Rat.divInt 1 L) vs) : Int).fdiv (q.den : Int) = (e : Int) := by
    rw [he, Int.natCast_mul]; exact fdiv_of_mul h0
  obtain ⟨v, hvm, hvq⟩ := List.mem_map.mp hq
  rw [one_over] at hvq
  have hc := divInt_cross v hL0
  rw [hvq] at hc
  have hc' : q.num.natAbs * L = v.natAbs * q.den := by
    have := congrArg Int.natAbs hc
    rwa [Int.natAbs_mul, Int.natAbs_mul, Int.natAbs_natCast, Int.natAbs_natCast] at this
  rw [e1, Int.natAbs_mul, Int.natAbs_natCast]
  refine Nat.lt_of_le_of_lt ?_ (hv v hvm)
  have h2 : (q.num.natAbs * e) * L ≤ v.natAbs * L := by
    calc (q.num.natAbs * e) * L = (q.num.natAbs * L) * e := by rw [Nat.mul_right_comm]
      _ = v.natAbs * (q.den * e) := by rw [hc', Nat.mul_assoc]
      _ ≤ v.natAbs * L := Nat.mul_le_mul_left _ (by rw [← he]; exact hle)
  exact Nat.le_of_mul_le_mul_right h2 hL0
open PySem L2 PyProof.Rows
structure PolyAt (H : Hp) (p : Addr) (qs : List Rat) : Prop where
  ex : ∃ xs, H p = some (.lst xs) ∧ Nums H xs qs
  bd : ∀ q ∈ qs, q.den < 2 ^ 6000
  len : qs.length < 900
  tl : IsTl qs qs.length
inductive Polys (H : Hp) : List Addr → List (List Rat) → Prop where
  | nil : Polys H [] []
  | cons {p : Addr} {ps : List Addr} {L : List Rat} {Ls : List (List Rat)} (h : PolyAt H p L) (t : Polys H ps Ls) : Polys H (p :: ps) (L :: Ls)
open PySem L2 PyProof.Rows
theorem take_snoc_get {α : Type} {l : List α} {i : Nat} {x : α} (h : l[i]? = some x) : l.take (i + 1) = l.take i ++ [x] := by rw [List.take_succ, h]; rfl
theorem tl_of_last {qs : List Rat} (h : ∀ x, qs[qs.length - 1]? = some x → x ≠ 0) : IsTl qs qs.length :=
  ⟨Nat.le_refl _, fun i q hi e => (by rw [List.getElem?_eq_none hi] at e; cases e), fun _ q e => h q e⟩
theorem SameX.seq {K : PySem.W.Frag} {u : Addr} {H H' : Hp} {b : Addr} {xs : List V} (s : SameX u H H') (hu : H u = none) (h : SqL K H b xs) : SqL K H' b xs := by
  rcases h with h | h
  · rcases h with h | ⟨o, h⟩
    · exact .inl (.inl (s _ _ h (ne_of_none h hu)))
    · exact .inl (.inr ⟨o, s _ _ h (ne_of_none h hu)⟩)
  · exact .inr h
theorem tl_take {qs : List Rat} {m : Nat} (h : IsTl qs m) : IsTl (qs.take m) (qs.take m).length := by
  have := h.self
  rw [List.length_take, Nat.min_eq_left h.le]; exact this
def spLaw (K : PySem.W.Frag) : Sp := fun vs H Q _ => ∃ (a : Addr) (ns : List Int), vs = [.ref a] ∧ SqL K H a (ns.map V.int) ∧ ns.length ≤ 63 ∧ ∀ H', Q (.bl true) H'
structure ExT (K : PySem.W.Frag) (mg : Str → Option Value) (x : Str) (C : Addr) : Prop where
  m : mg x = some (.ref C)
  ox : OwnX K C [.type "ValueError", .type "Exception", .type "BaseException", .type "object"] "ValueError.__new__"
  ec : ExcCls K C
structure CAd where
  c_NoFraction : Addr
  c_NoPolynomial : Addr
  c_NoStretch : Addr
  c_NoRow : Addr
  c_NoPair : Addr
  c_NoBack : Addr
  c_NoForm : Addr
  c_NoParts : Addr
  c_NoDegree : Addr
  c_NoSteps : Addr
  c_NoBox : Addr
  c_NoGain : Addr
  c_NoText : Addr
  c_NoLine : Addr
  c_NoName : Addr
  c_NoDeed : Addr
  c_RestError : Addr
structure XTx (K : PySem.W.Frag) (mg : Str → Option Value) (a : CAd) : Prop where
  x_NoFraction : ExT K mg "NoFraction" a.c_NoFraction
  x_NoPolynomial : ExT K mg "NoPolynomial" a.c_NoPolynomial
  x_NoStretch : ExT K mg "NoStretch" a.c_NoStretch
  x_NoRow : ExT K mg "NoRow" a.c_NoRow
  x_NoPair : ExT K mg "NoPair" a.c_NoPair
  x_NoBack : ExT K mg "NoBack" a.c_NoBack
  x_NoForm : ExT K mg "NoForm" a.c_NoForm
  x_NoParts : ExT K mg "NoParts" a.c_NoParts
  x_NoDegree : ExT K mg "NoDegree" a.c_NoDegree
  x_NoSteps : ExT K mg "NoSteps" a.c_NoSteps
  x_NoBox : ExT K mg "NoBox" a.c_NoBox
  x_NoGain : ExT K mg "NoGain" a.c_NoGain
  x_NoText : ExT K mg "NoText" a.c_NoText
  x_NoLine : ExT K mg "NoLine" a.c_NoLine
  x_NoName : ExT K mg "NoName" a.c_NoName
  x_NoDeed : ExT K mg "NoDeed" a.c_NoDeed
structure Kits (K : PySem.W.Frag) (a : CAd) (C : Addr) (j : Nat) : Prop where
  k_NoFraction : PySem.W.kitOne K (.ref C) (.ref a.c_NoFraction) = some (decide (j = 0))
  k_NoPolynomial : PySem.W.kitOne K (.ref C) (.ref a.c_NoPolynomial) = some (decide (j = 1))
  k_NoStretch : PySem.W.kitOne K (.ref C) (.ref a.c_NoStretch) = some (decide (j = 2))
  k_NoRow : PySem.W.kitOne K (.ref C) (.ref a.c_NoRow) = some (decide (j = 3))
  k_NoPair : PySem.W.kitOne K (.ref C) (.ref a.c_NoPair) = some (decide (j = 4))
  k_NoBack : PySem.W.kitOne K (.ref C) (.ref a.c_NoBack) = some (decide (j = 5))
  k_NoForm : PySem.W.kitOne K (.ref C) (.ref a.c_NoForm) = some (decide (j = 6))
  k_NoParts : PySem.W.kitOne K (.ref C) (.ref a.c_NoParts) = some (decide (j = 7))
  k_NoDegree : PySem.W.kitOne K (.ref C) (.ref a.c_NoDegree) = some (decide (j = 8))
  k_NoSteps : PySem.W.kitOne K (.ref C) (.ref a.c_NoSteps) = some (decide (j = 9))
  k_NoBox : PySem.W.kitOne K (.ref C) (.ref a.c_NoBox) = some (decide (j = 10))
  k_NoGain : PySem.W.kitOne K (.ref C) (.ref a.c_NoGain) = some (decide (j = 11))
  k_NoText : PySem.W.kitOne K (.ref C) (.ref a.c_NoText) = some (decide (j = 12))
  k_NoLine : PySem.W.kitOne K (.ref C) (.ref a.c_NoLine) = some (decide (j = 13))
  k_NoName : PySem.W.kitOne K (.ref C) (.ref a.c_NoName) = some (decide (j = 14))
  k_NoDeed : PySem.W.kitOne K (.ref C) (.ref a.c_NoDeed) = some (decide (j = 15))
  kV : PySem.W.kitOne K (.ref C) (.type "ValueError") = some true
  ec : ExcCls K C
  ex : PySem.W.exmOne K (.ref C) (.ref a.c_RestError) = some true
def nameOf (j : Nat) : Str := [("fraction" : Str), "polynomial", "stretch", "row", "pair", "back", "form", "parts", "degree", "steps", "box", "gain", "text", "line", "name", "deed"].getD j ""
def spWhich (K : PySem.W.Frag) (a : CAd) : Sp := fun vs H Q _ => ∃ e C j, vs = [.ref e] ∧ Kits K a C j ∧ j < 16 ∧ H e = some (Exc (.ref C) e) ∧ ∀ H', Same H H' → Q (.str (nameOf j)) H'
def told (j : Nat) : List V := [V.bl (decide (j = 0)), V.bl (decide (j = 1)), V.bl (decide (j = 2)), V.bl (decide (j = 3))] ++ [V.bl (decide (j = 4)), V.bl (decide (j = 5)), V.bl (decide (j = 6)), V.bl (decide (j = 7))] ++ [V.bl (decide (j = 8)), V.bl (decide (j = 9)), V.bl (decide (j = 10)), V.bl (decide (j = 11))] ++ [V.bl (decide (j = 12)), V.bl (decide (j = 13)), V.bl (decide (j = 14)), V.bl (decide (j = 15))]
theorem told_count : ∀ j, j < 16 → (told j).countP (fun z => eqV z (V.bl true)) = 1 := by decide
theorem told_idx : ∀ j, j < 16 → (told j).findIdx? (fun z => eqV z (V.bl true)) = some j := by decide
theorem told_flat : ∀ j, j < 16 → (told j).all flatV = true := by decide
theorem parts_names : partsOf "fraction polynomial stretch row pair back form parts degree steps box gain text line name deed" " " = [("fraction" : Str), "polynomial", "stretch", "row", "pair", "back", "form", "parts", "degree", "steps", "box", "gain", "text", "line", "name", "deed"] := by decide +kernel
theorem name_at {j : Nat} (hj : j < 16) : atI ((partsOf "fraction polynomial stretch row pair back form parts degree steps box gain text line name deed" " ").map V.str) (j : Int) = some (.str (nameOf j)) := by
  rw [parts_names]
  refine atI_nat ?_
  have : ∀ j, j < 16 → ((["fraction", "polynomial", "stretch", "row", "pair", "back", "form", "parts", "degree", "steps", "box", "gain", "text", "line", "name", "deed"] : List Str).map V.str)[j]? = some (.str (nameOf j)) := by decide
  exact this j hj
theorem ints_get {ws : List Int} {i : Nat} {x : V} (h : (ws.map V.int)[i]? = some x) : ∃ v, ws[i]? = some v ∧ x = .int v := by
  rw [List.getElem?_map] at h
  cases hw : ws[i]? with
  | none => rw [hw] at h; cases h
  | some v => rw [hw] at h; cases h; exact ⟨v, rfl, rfl⟩
open PySem L2 PyProof.Rows
def top (i : Nat) : Stmt := PySem.Challenge.pw_restward_k06_parts_told.main.body.getD i (.Pass ⟨0, 0, 0, 0⟩)
end R
set_option maxRecDepth 100000
local macro_rules | `(tactic| simp! [$ls,*]) => `(tactic| simp only [L2.ipM, L2.tComp_eq, L2.tCompIf_eq, L2.tMaxD, L2.rRep, L2.tAugS, L2.tSl, L2.tPart, L2.tNoPart, L2.rSlL, L2.rPop, L2.rAppend, L2.iEnum, L2.capSt, List.map_cons, List.map_nil, Option.bind_none, Option.bind_some, Option.join_some, L2.tSeq, L2.tIfS, L2.tAnd, L2.tOr, L2.tNot, L2.tTest, L2.tB, L2.tOp, L2.tUn, L2.tBM0, L2.tBM, L2.tVar, L2.tC, L2.tCB, L2.tRet, L2.tAsg, L2.gName, L2.gSub, L2.gTup, L2.gCons, L2.gNil, L2.tCons, L2.tNil, L2.tPar, L2.tTup, L2.tLst, L2.tIf, L2.tAndV, L2.tNotV, L2.tDef, L2.tCallX, L2.tDrop, L2.tNext, L2.tNever, L2.tRaise, L2.tAug, L2.ipI, L2.rI, L2.rI0, L2.rU, L2.rBitLen, L2.rIxL, L2.rIxT, L2.rSetL, L2.rEq, L2.rNe, L2.rCount, L2.rIndex, L2.rSplit, L2.rIsI, L2.rCat, L2.iRng1, L2.iRng2, L2.iList, L2.cxOf, L2.cxR, L2.cxX, L2.Cx.nox, L2.Cx.wish, L2.Cx.body, L2.Cx.suite, List.getElem?_cons_zero, List.getElem?_cons_succ, List.set_cons_zero, List.set_cons_succ, Option.some.injEq, L2.V.int.injEq, L2.V.bl.injEq, L2.V.ref.injEq, L2.V.str.injEq, exists_eq_left', exists_eq_left, exists_and_left, true_and, and_true, List.cons.injEq, reduceCtorEq, Bool.false_eq_true, if_false, if_true, exists_const, ↓reduceIte, L2.tyV, List.length_cons, List.length_nil, exists_eq, List.append_nil, List.cons_append, List.nil_append, decide_eq_true_eq, not_true_eq_false, not_false_eq_true, Bool.not_eq_true', decide_eq_false_iff_not, Bool.not_true, Bool.not_false, and_assoc, false_and, false_or, or_false, $ls,*])
local macro_rules | `(tactic| subst_eqs) => `(tactic| simp! [])
local macro_rules | `(tactic| and_intros) => `(tactic| exact ⟨rfl, rfl, rfl, by decide +kernel, rfl, by decide +kernel, by decide +kernel⟩)
namespace R
open PySem L2 PyProof.Rows
section
variable {P : Program} {w : World} {K : PySem.W.Frag} {mg : Str → Option Value} {base : Heap}
abbrev s__law_low : Stmt := top 46
theorem sc__law_low : FnScope ["_law_top", "_law_bottom", "_law_one", "_law_other_here"] ["_law_top", "_law_bottom"] (defScope s__law_low) := by and_intros
theorem ok__law_low {f : Addr} (d : Df K mg "_law_low" s__law_low ["_law_top", "_law_bottom"] f) (n_abs : mg "abs" = none) : Def P w K mg base CX0 1 "_law_low" f ["_law_top", "_law_bottom"] spLow := by
  refine d.ok (N := ["_law_top", "_law_bottom", "_law_one", "_law_other_here"]) sc__law_low (fun vs H Q E ⟨a, b, h, _⟩ => by rw [h]; rfl) (fun cdv A outer s H vs Q E hr h => ?_)
  obtain ⟨t, b, rfl, hb0, hb, k⟩ := h
  refine ⟨_, (pss_cons (ps_set (i := 2) sc__law_low.nd rfl (Or.inl rfl) (pe_callB call_abs rfl n_abs (by decide +kernel) (pa_cons (pv 0) pa_nil)))
      (pss_cons (ps_set (i := 3) sc__law_low.nd rfl (Or.inl rfl) (pe_callB call_abs rfl n_abs (by decide +kernel) (pa_cons (pv 1) pa_nil)))
      (pss_cons (ps_while PassesOwn.never (pt_cmpR op_gt (pv 3) pe_int (nomark _)) (pss_one (ps_par (i := 2) (j := 3) rfl sc__law_low.nd rfl rfl (by decide) rfl rfl (pa_cons (pv 3) (pa_cons (pe_op op_modN (pv 2) (pv 3)) pa_nil)) rfl)))
      (pss_cons (ps_if (pt_cmpR op_lt (pv 1) pe_int (nomark _)) (pss_one (ps_set (i := 2) sc__law_low.nd rfl (Or.inl rfl) (pe_op op_sub pe_int (pv 2)))) pss_nil)
      (pss_one (ps_ret (pe_tup (pa_cons (pe_op op_fdivB (pv 0) (pv 2)) (pa_cons (pe_op op_fdivB (pv 1) (pv 2)) pa_nil))))))))), ?_⟩
  rw [show start ["_law_top", "_law_bottom", "_law_one", "_law_other_here"] [.int t, .int b] = [some (.int t), some (.int b), none, none] from rfl]
  subst_eqs
  refine while_by (fun σ H1 => H1 = H ∧ ∃ x y : Int, σ = [some (.int t), some (.int b), some (.int x), some (.int y)] ∧ 0 ≤ x ∧ 0 ≤ y ∧ Int.gcd x y = Int.gcd t b) (fun σ _ => match σ with | [_, _, _, some (.int y)] => y.natAbs | _ => 0)
    ⟨rfl, _, _, rfl, by split <;> omega, by split <;> omega, ?_⟩ ?_ ?_
  · have e1 : (if t < 0 then -t else t) = (t.natAbs : Int) := by split <;> omega
    have e2 : (if b < 0 then -b else b) = (b.natAbs : Int) := by split <;> omega
    rw [e1, e2, Int.gcd_eq_natAbs_gcd_natAbs, Int.gcd_eq_natAbs_gcd_natAbs]; simp
  · rintro σ H1 ⟨rfl, x, y, rfl, hx, hy, hg⟩
    subst_eqs
    split
    · rename_i hy0
      exact ⟨by omega, hy, Int.fmod_nonneg_of_pos x hy0, by rw [gcd_fmod]; exact hg, natAbs_fmod_lt x (by omega)⟩
    · rename_i hy0
      have hy' : y = 0 := by omega
      subst hy'
      have ex : x = (Int.gcd t b : Int) := by
        rw [Int.gcd_zero_right] at hg
        omega
      have gp := gcd_pos (t := t) hb0
      have gl := gcd_lt (a := t) hb0 hb
      by_cases hs : b < 0
      · rw [if_pos hs]
        obtain ⟨e1, e2⟩ := low_eq (t := t) (g := 0 - x) hb0 (by rw [if_pos hs, ex]; omega)
        have dv : ∀ i, CDivB i (0 - x) := fun i => divOk (by omega) (by rw [show 0 - x = -x by omega, Int.natAbs_neg, ex]; exact lt_up gl)
        refine ⟨dv _, dv _, small2, fun r hr' => ?_⟩
        exact k r _ (Same.new hr' _) (by rw [upd_same]; unfold numV; rw [e1, e2])
      · rw [if_neg hs]
        obtain ⟨e1, e2⟩ := low_eq (t := t) (g := x) hb0 (by rw [if_neg hs, ex])
        have dv : ∀ i, CDivB i x := fun i => divOk (by omega) (by rw [ex]; exact lt_up gl)
        refine ⟨dv _, dv _, small2, fun r hr' => ?_⟩
        exact k r _ (Same.new hr' _) (by rw [upd_same]; unfold numV; rw [e1, e2])
  · intro σ H1 Q1 Q2 hQ h
    simp only [ipM, tComp_eq, tCompIf_eq, tMaxD, rRep, tAugS, tSl, tPart, tNoPart, rSlL, rPop, rAppend, iEnum, capSt, List.map_cons, List.map_nil, Option.bind_none, Option.bind_some, Option.join_some, tSeq, tIfS, tAnd, tOr, tNot, tTest, tB, tOp, tUn, tBM0, tBM, tVar, tC, tCB, tRet, tAsg, gName, gSub, gTup, gCons, gNil, tCons, tNil, tPar, tTup, tLst, tIf, tAndV, tNotV, tDef, tCallX, tDrop, tNext, tNever, tRaise, tAug, ipI, rI, rI0, rU, rBitLen, rIxL, rIxT, rSetL, rEq, rNe, rCount, rIndex, rSplit, rIsI, rCat, iRng1, iRng2, iList, cxOf, cxR, cxX, Cx.nox, Cx.wish, Cx.body, Cx.suite, List.getElem?_cons_zero, List.getElem?_cons_succ, List.set_cons_zero, List.set_cons_succ, Option.some.injEq, V.int.injEq, V.bl.injEq, V.ref.injEq, V.str.injEq, exists_eq_left', exists_eq_left, exists_and_left, true_and, and_true, List.cons.injEq, reduceCtorEq, Bool.false_eq_true, if_false, if_true, exists_const, ↓reduceIte, tyV, List.length_cons, List.length_nil, exists_eq, List.append_nil, List.cons_append, List.nil_append, decide_eq_true_eq, not_true_eq_false, not_false_eq_true, Bool.not_eq_true', decide_eq_false_iff_not, Bool.not_true, Bool.not_false, and_assoc, false_and, false_or, or_false] at h ⊢
    obtain ⟨v, e1, i, e2, e3⟩ := h
    exact ⟨v, e1, i, e2, hQ _ _ e3⟩
abbrev s__law_urn : Stmt := top 44
theorem sc__law_urn : FnScope ["_law_script", "_law_at", "_law_cell", "_law_prime", "_law_great"] ["_law_script", "_law_at"] (defScope s__law_urn) := by and_intros
set_option maxHeartbeats 0 in
theorem ok__law_urn {f : Addr} (d : Df K mg "_law_urn" s__law_urn ["_law_script", "_law_at"] f) (n_len : mg "len" = none) (n_abs : mg "abs" = none) : Def P w K mg base CX0 1 "_law_urn" f ["_law_script", "_law_at"] (spUrn K) := by
  refine d.ok (N := ["_law_script", "_law_at", "_law_cell", "_law_prime", "_law_great"]) sc__law_urn (fun vs H Q E ⟨x, y, p, h, _⟩ => by rw [h]; rfl) (fun cdv A outer s H vs Q E hr h => ?_)
  obtain ⟨a, ns, i, rfl, hS, h0, h64, k⟩ := h
  refine ⟨_, (pss_cons (ps_set (i := 2) sc__law_urn.nd rfl (Or.inl rfl) pe_int)
      (pss_cons (ps_if (pt_cmpR op_lt (pv 1) (pe_callB call_len_seq rfl n_len (by decide +kernel) (pa_cons (pv 0) pa_nil)) (nomark _)) (pss_one (ps_set (i := 2) sc__law_urn.nd rfl (Or.inl rfl) (pe_ix ix_list (pv 0) (pv 1) (fun _ _ => rfl)))) pss_nil)
      (pss_cons (ps_set (i := 3) sc__law_urn.nd rfl (Or.inl rfl) (pe_ix ix_tup (pe_tup (pa_cons pe_int (pa_cons pe_int (pa_cons pe_int (pa_cons pe_int (pa_cons pe_int (pa_cons pe_int (pa_cons pe_int (pa_cons pe_int pa_nil))))))))) (pe_op op_modN (pv 1) pe_int) (fun _ _ => rfl)))
      (pss_cons (ps_set (i := 4) sc__law_urn.nd rfl (Or.inl rfl) pe_int)
      (pss_cons (ps_if (pt_cmpR op_ge (pe_callB call_abs rfl n_abs (by decide +kernel) (pa_cons (pv 2) pa_nil)) (pe_op op_pow pe_int pe_int) (nomark _)) (pss_one (ps_set (i := 4) sc__law_urn.nd rfl (Or.inl rfl) (pe_callB call_abs rfl n_abs (by decide +kernel) (pa_cons (pv 2) pa_nil)))) pss_nil)
      (pss_one (ps_ret (pe_lst (pa_cons (pv 4) (pa_cons (pe_op op_modN (pe_op op_pow (pe_op op_add (pe_op op_add (pe_op op_modN (pv 2) (pv 3)) (pe_op op_mulB pe_int (pv 1))) pe_int) pe_int) (pv 3)) (pa_cons (pv 3) pa_nil))))))))))), ?_⟩
  rw [show start ["_law_script", "_law_at", "_law_cell", "_law_prime", "_law_great"] [.ref a, .int i] = [some (.ref a), some (.int i), none, none, none] from rfl]
  refine seq_cut (fun σ H1 => H1 = H ∧ σ = [some (.ref a), some (.int i), some (.int 0), none, none]) (fun N hN => ?_) ?_
  · subst_eqs
    exact hN _ _ ⟨rfl, rfl⟩
  rintro σ H1 ⟨rfl, rfl⟩
  refine seq_cut (fun σ H2 => H2 = H1 ∧ ∃ c : Int, σ = [some (.ref a), some (.int i), some (.int c), none, none]) (fun N hN => ?_) ?_
  · subst_eqs
    refine ⟨_, .inl hS, ite2 (fun hl => ?_) (fun _ => hN _ _ ⟨rfl, _, rfl⟩)⟩
    obtain ⟨c, hc⟩ := at_script (ns := ns) h0 (by simpa using hl)
    exact ⟨_, hS, _, hc, hN _ _ ⟨rfl, c, rfl⟩⟩
  rintro σ H2 ⟨rfl, c, rfl⟩
  obtain ⟨pr, hpr, p1, p2⟩ := prime_at h0
  refine seq_cut (fun σ H3 => Same H2 H3 ∧ σ = [some (.ref a), some (.int i), some (.int c), some (.int pr), none]) (fun N hN => ?_) ?_
  · subst_eqs
    exact ⟨by decide, fun p hp => ⟨by decide, _, SqT.of upd_same, _, hpr, hN _ _ ⟨Same.new hp _, rfl⟩⟩⟩
  rintro σ H3 ⟨s1, rfl⟩
  refine seq_cut (fun σ H4 => H4 = H3 ∧ σ = [some (.ref a), some (.int i), some (.int c), some (.int pr), some (.int 0)]) (fun N hN => ?_) ?_
  · subst_eqs
    exact hN _ _ ⟨rfl, rfl⟩
  rintro σ H4 ⟨rfl, rfl⟩
  refine seq_cut (fun σ H5 => H5 = H4 ∧ ∃ g : Int, 0 ≤ g ∧ σ = [some (.ref a), some (.int i), some (.int c), some (.int pr), some (.int g)]) (fun N hN => ?_) ?_
  · subst_eqs
    exact ⟨⟨by decide, by decide, by decide⟩, ite2 (fun _ => hN _ _ ⟨rfl, _, by split <;> omega, rfl⟩) (fun _ => hN _ _ ⟨rfl, _, Int.le_refl _, rfl⟩)⟩
  rintro σ H5 ⟨rfl, g, hg, rfl⟩
  subst_eqs
  have m0 := Int.fmod_nonneg_of_pos c (show 0 < pr by omega)
  have m1 := Int.fmod_lt_of_pos c (show 0 < pr by omega)
  refine ⟨by omega, mulS (by decide), ⟨by decide, by decide, by omega⟩, by omega, by decide, fun r hr' => ?_⟩
  refine k r _ (s1.trans (Same.new hr' _)) (s1.free hr') ⟨g, _, pr, upd_same, hg, Int.fmod_nonneg_of_pos _ (by omega), ?_, by omega, by omega⟩
  have := Int.fmod_lt_of_pos ((c.fmod pr + 65537 * i + 101) ^ (3 : Int).toNat) (show 0 < pr by omega)
  omega
abbrev s__law_draw : Stmt := top 45
theorem sc__law_draw : FnScope ["_law_urn_here", "_law_many", "_law_drawn"] ["_law_urn_here", "_law_many"] (defScope s__law_draw) := by and_intros
set_option maxHeartbeats 0 in
theorem ok__law_draw {f : Addr} (d : Df K mg "_law_draw" s__law_draw ["_law_urn_here", "_law_many"] f) : Def P w K mg base CX0 1 "_law_draw" f ["_law_urn_here", "_law_many"] spDraw := by
  refine d.ok (N := ["_law_urn_here", "_law_many", "_law_drawn"]) sc__law_draw (fun vs H Q E ⟨x, y, h, _⟩ => by rw [h]; rfl) (fun cdv A outer s H vs Q E hr h => ?_)
  obtain ⟨u, n, rfl, ⟨g, m, p, hu, g0, m0, m1, p0, p1⟩, n0, n1, k⟩ := h
  refine ⟨_, (pss_cons (ps_if (pt_cmpR op_gt (pe_ix ix_list (pv 0) pe_int (fun _ _ => rfl)) pe_int (nomark _)) (pss_cons (ps_set (i := 2) sc__law_draw.nd rfl (Or.inl rfl) (pe_op op_modN (pe_ix ix_list (pv 0) pe_int (fun _ _ => rfl)) (pv 1)))
      (pss_cons (ps_asg (pe_op op_fdivB (pe_ix ix_list (pv 0) pe_int (fun _ _ => rfl)) (pv 1)) (pg_sub (pv 0) pe_int set_list))
      (pss_one (ps_ret (pv 2))))) pss_nil)
      (pss_cons (ps_asg (pe_op op_modN (pe_op op_add (pe_op op_mulB (pe_ix ix_list (pv 0) pe_int (fun _ _ => rfl)) pe_int) pe_int) (pe_ix ix_list (pv 0) pe_int (fun _ _ => rfl))) (pg_sub (pv 0) pe_int set_list))
      (pss_one (ps_ret (pe_op op_modN (pe_op op_fdivB (pe_op op_modN (pe_op op_pow (pe_op op_fdivB (pe_ix ix_list (pv 0) pe_int (fun _ _ => rfl)) pe_int) pe_int) pe_int) pe_int) (pv 1)))))), ?_⟩
  rw [show start ["_law_urn_here", "_law_many", "_law_drawn"] [.ref u, .int n] = [some (.ref u), some (.int n), none] from rfl]
  have L1 : SqL K H u [.int g, .int m, .int p] := SqL.of hu
  have x0 : ∀ g m p : Int, atI [V.int g, .int m, .int p] 0 = some (.int g) := fun _ _ _ => rfl
  have x1 : ∀ g m p : Int, atI [V.int g, .int m, .int p] 1 = some (.int m) := fun _ _ _ => rfl
  have x2 : ∀ g m p : Int, atI [V.int g, .int m, .int p] 2 = some (.int p) := fun _ _ _ => rfl
  subst_eqs
  have dn : ∀ i, CDivB i n := fun i => divOk (by omega) (Nat.lt_of_lt_of_le (show n.natAbs < 2 ^ 40 by omega) (pow_le_pow2 (by decide)))
  refine ⟨_, L1, _, x0 g m p, _, rfl, ite2 (fun hg => ?_) (fun hg => ?_)⟩
  · refine ⟨_, L1, _, x0 g m p, _, rfl, by omega, _, L1, _, x0 g m p, _, rfl, dn _, _, hu, 0, rfl, ?_⟩
    exact k _ _ (Int.fmod_nonneg_of_pos _ n0) (Int.fmod_lt_of_pos _ n0) (SameX.upd _ _ _) ⟨g.fdiv n, m, p, upd_same, Int.fdiv_nonneg g0 (by omega), m0, m1, p0, p1⟩
  · have q0 := Int.fmod_nonneg_of_pos (m * 60013 + 12289) p0
    have q1 := Int.fmod_lt_of_pos (m * 60013 + 12289) p0
    have z : SqL K (upd H u (.lst [.int g, .int ((m * 60013 + 12289).fmod p), .int p])) u [.int g, .int ((m * 60013 + 12289).fmod p), .int p] := SqL.of upd_same
    have d16 : 0 ≤ ((m * 60013 + 12289).fmod p).fdiv 16 ∧ ((m * 60013 + 12289).fmod p).fdiv 16 < 2 ^ 40 := by
      rw [Int.fdiv_eq_ediv_of_nonneg _ (by decide)]
      omega
    refine ⟨_, L1, _, x1 g m p, _, rfl, mulS' (by decide), _, L1, _, x2 g m p, _, rfl, by omega, _, hu, 1, rfl, _, z, _, x1 _ _ _, _, rfl, divOk (by decide) (Nat.lt_of_lt_of_le (show (16 : Int).natAbs < 2 ^ 40 by decide) (pow_le_pow2 (by decide))), ⟨by decide, by decide, by omega⟩, by decide, divOk (by decide) (Nat.lt_of_lt_of_le (show (8 : Int).natAbs < 2 ^ 40 by decide) (pow_le_pow2 (by decide))), by omega, ?_⟩
    exact k _ _ (Int.fmod_nonneg_of_pos _ n0) (Int.fmod_lt_of_pos _ n0) (SameX.upd _ _ _) ⟨g, _, p, upd_same, g0, q0, by omega, p0, p1⟩
abbrev s__law_kind : Stmt := top 49
theorem sc__law_kind : FnScope ["_law_urn_here"] ["_law_urn_here"] (defScope s__law_kind) := by and_intros
set_option maxHeartbeats 0 in
theorem ok__law_kind {f fd : Addr} (d : Df K mg "_law_kind" s__law_kind ["_law_urn_here"] f) (G__law_draw : Def P w K mg base CX0 1 "_law_draw" fd ["_law_urn_here", "_law_many"] spDraw) : Def P w K mg base CX0 2 "_law_kind" f ["_law_urn_here"] spKind := by
  refine d.ok (N := ["_law_urn_here"]) sc__law_kind (fun vs H Q E ⟨u, h, _⟩ => by rw [h]; rfl) (fun cdv A outer s H vs Q E hr h => ?_)
  obtain ⟨u, rfl, hu, k⟩ := h
  refine ⟨_, (pss_one (ps_ret (pe_ix ix_list (pe_lst (pa_cons pe_int (pa_cons pe_int (pa_cons pe_int (pa_cons pe_int (pa_cons pe_int (pa_cons pe_int (pa_cons pe_int (pa_cons pe_int pa_nil))))))))) (pe_def G__law_draw hr (pa_cons (pv 0) (pa_cons pe_int pa_nil)) pass0) (fun _ _ => rfl)))), ?_⟩
  rw [show start ["_law_urn_here"] [.ref u] = [some (.ref u)] from rfl]
  simp! [spDraw]
  refine ⟨by decide, fun l hl => ⟨urn_new hu hl, by decide, by decide, fun r H' r0 r1 sx hu' => ?_⟩⟩
  have e := sx l _ upd_same (urn_ne hu hl)
  have sx' : SameX u H H' := SameX.trans (Same.x (Same.new hl _) u) sx
  have h3 : r = 0 ∨ r = 1 ∨ r = 2 ∨ r = 3 ∨ r = 4 ∨ r = 5 ∨ r = 6 ∨ r = 7 := by omega
  rcases h3 with h | h | h | h | h | h | h | h <;> subst h <;> exact ⟨_, SqL.of e, _, rfl, k _ H' (by decide) sx' hu'⟩
abbrev s__law_number : Stmt := top 50
theorem sc__law_number : FnScope ["_law_urn_here", "_law_kind_here", "_law_top"] ["_law_urn_here", "_law_kind_here"] (defScope s__law_number) := by and_intros
abbrev s__law_whole : Stmt := top 55
theorem sc__law_whole : FnScope ["_law_thing"] ["_law_thing"] (defScope s__law_whole) := by and_intros
theorem ok__law_whole {f : Addr} (d : Df K mg "_law_whole" s__law_whole ["_law_thing"] f) (n_isinstance : mg "isinstance" = none) (n_int : mg "int" = none) (n_bool : mg "bool" = none) : Def P w K mg base CX0 1 "_law_whole" f ["_law_thing"] spWhole := by
  refine d.ok (N := ["_law_thing"]) sc__law_whole (fun vs H Q E ⟨u, h, _⟩ => by rw [h]; rfl) (fun cdv A outer s H vs Q E hr h => ?_)
  obtain ⟨i, rfl, k⟩ := h
  refine ⟨_, (pss_one (ps_ret (pe_and (pe_callB call_isinst rfl n_isinstance (by decide +kernel) (pa_cons (pv 0) (pa_cons (pe_bltn (v := .ty "int") rfl n_int (by decide +kernel) rfl) pa_nil))) (pe_one (pe_not (pe_callB call_isinst rfl n_isinstance (by decide +kernel) (pa_cons (pv 0) (pa_cons (pe_bltn (v := .ty "bool") rfl n_bool (by decide +kernel) rfl) pa_nil)))))))), ?_⟩
  rw [show start ["_law_thing"] [.int i] = [some (.int i)] from rfl]
  subst_eqs
  exact ⟨trivial, _, .of (.int i), _, kit_int_int, iteT ⟨trivial, _, .of (.int i), _, kit_int_bool, k⟩⟩
abbrev s__law_is_number : Stmt := top 56
theorem sc__law_is_number : FnScope ["_law_thing"] ["_law_thing"] (defScope s__law_is_number) := by and_intros
set_option maxHeartbeats 0 in
theorem ok__law_is_number {f fw fl : Addr} (d : Df K mg "_law_is_number" s__law_is_number ["_law_thing"] f) (G__law_whole : Def P w K mg base CX0 1 "_law_whole" fw ["_law_thing"] spWhole) (G__law_low : Def P w K mg base CX0 1 "_law_low" fl ["_law_top", "_law_bottom"] spLow) (n_isinstance : mg "isinstance" = none) (n_tuple : mg "tuple" = none) (n_len : mg "len" = none) :
    Def P w K mg base CX0 2 "_law_is_number" f ["_law_thing"] (spIsNum K) := by
  refine d.ok (N := ["_law_thing"]) sc__law_is_number (fun vs H Q E ⟨u, q, h, _⟩ => by rw [h]; rfl) (fun cdv A outer s H vs Q E hr h => ?_)
  obtain ⟨x, q, rfl, ⟨ap, rfl, hS⟩, hd, k⟩ := h
  have hu := hr.units
  refine ⟨_, (pss_cons (ps_if (PW.pt (pw_or (pt_not (pt_val (pe_callB call_isinst rfl n_isinstance (by decide +kernel) (pa_cons (pv 0) (pa_cons (pe_bltn (v := .ty "tuple") rfl n_tuple (by decide +kernel) rfl) pa_nil))))) (pw_or (pt_cmpR op_ne (pe_callB call_len_seq rfl n_len (by decide +kernel) (pa_cons (pv 0) pa_nil)) pe_int (nomark _)) (pw_or (pt_not (pt_val (pe_def G__law_whole hr (pa_cons (pe_ix ix_tup (pv 0) pe_int (fun _ _ => rfl)) pa_nil) pass0))) (pw_or1 (pt_not (pt_val (pe_def G__law_whole hr (pa_cons (pe_ix ix_tup (pv 0) pe_int (fun _ _ => rfl)) pa_nil) pass0)))))))) (pss_one (ps_ret pe_bl)) pss_nil)
      (pss_one (ps_ret (pe_and (pe_cmpR op_gt (pe_ix ix_tup (pv 0) pe_int (fun _ _ => rfl)) pe_int (nomark _)) (pe_one (pe_cmpR (op_eqD hu) (pe_def G__law_low hr (pa_cons (pe_ix ix_tup (pv 0) pe_int (fun _ _ => rfl)) (pa_cons (pe_ix ix_tup (pv 0) pe_int (fun _ _ => rfl)) pa_nil)) pass0) (pv 0) (nomark _))))))), ?_⟩
  rw [show start ["_law_thing"] [.ref ap] = [some (.ref ap)] from rfl]
  have dq := rat_den_pos q
  simp! [spWhole, scal]
  refine ⟨trivial, _, .sqt hS, _, kit_tup_tup, ?_⟩
  simp! [spWhole, scal]
  refine ⟨_, .inr hS, ?_⟩
  simp! [spWhole, scal, numV]
  refine ite2 (fun hh => absurd rfl hh) (fun _ => ?_)
  refine ⟨_, hS, _, at0 q, _, rfl, _, hS, _, at1 q, _, rfl, _, hS, _, at1 q, _, rfl, ?_⟩
  rw [if_pos dq]
  refine ⟨_, hS, _, at0 q, _, hS, _, at1 q, _, _, rfl, by omega, hd, fun r H' sm hr' => ?_⟩
  rw [Rat.num_divInt_den] at hr'
  refine ⟨dNum q, dNum q, rfl, isD_num (SqT.of hr'), isD_num (sm.tup hS), okD_num q q, dp_num q, ?_⟩
  rw [eqD_num]; exact k H' sm
end
section
variable {P : Program} {w : World} {K : PySem.W.Frag} {mg : Str → Option Value} {base : Heap}
def spOther : Sp := fun vs H Q _ => ∃ u kd, vs = [.ref u, .int kd] ∧ UrnAt H u ∧ ∀ r q H', Sm q → q ≠ 0 → SameX u H H' → UrnAt H' u → H' r = some (.tup (numV q)) → Q (.ref r) H'
abbrev s__law_other : Stmt := top 51
theorem sc__law_other : FnScope ["_law_urn_here", "_law_kind_here", "_law_found"] ["_law_urn_here", "_law_kind_here"] (defScope s__law_other) := by and_intros
def spTrim (K : PySem.W.Frag) : Sp := fun vs H Q _ => ∃ a xs qs, vs = [.ref a] ∧ SqL K H a xs ∧ Nums H xs qs ∧ ∀ m r H', IsTl qs m → Same H H' → H r = none → H' r = some (.lst (xs.take m)) → Q (.ref r) H'
abbrev s__law_trim : Stmt := top 53
theorem sc__law_trim : FnScope ["_law_numbers", "_law_found"] ["_law_numbers"] (defScope s__law_trim) := by and_intros
theorem last_at {α : Type} {xs : List α} {x : α} (h : xs[xs.length - 1]? = some x) : atI xs (-1) = some x := by
  have hp : xs.length - 1 < xs.length := (List.getElem?_eq_some_iff.mp h).1
  have e : ixN xs.length (-1) = some (xs.length - 1) := by
    unfold ixN
    rw [if_neg (by decide)]
    rw [if_pos (by omega)]
    congr 1
    omega
  unfold atI
  rw [e]
  exact h
set_option maxHeartbeats 0 in
theorem ok__law_trim {f : Addr} (d : Df K mg "_law_trim" s__law_trim ["_law_numbers"] f) (n_list : mg "list" = none) : Def P w K mg base CX0 1 "_law_trim" f ["_law_numbers"] (spTrim K) := by
  refine d.ok (N := ["_law_numbers", "_law_found"]) sc__law_trim (fun vs H Q E ⟨a, xs, qs, h, _⟩ => by rw [h]; rfl) (fun cdv A outer s H vs Q E hr h => ?_)
  obtain ⟨a, xs, qs, rfl, hS, hN, k⟩ := h
  have hu := hr.units
  refine ⟨_, (pss_cons (ps_set (i := 1) sc__law_trim.nd rfl (Or.inl rfl) (pe_callTy call_list_of rfl n_list (by decide +kernel) (pa_cons (pv 0) pa_nil)))
      (pss_cons (ps_while PassesOwn.never (PW.pt (pw_and (pt_cmpR (op_neD hu) (pv 1) (pe_lst pa_nil) (nomark _)) (pw_and1 (pt_cmpR op_eq (pe_ix ix_tup (pe_ix ix_list (pv 1) (pe_un un_neg pe_int) (fun _ _ => rfl)) pe_int (fun _ _ => rfl)) pe_int (nomark _))))) (pss_one (ps_expr (pe_bm0 PySem.F.plainAttrs_list PySem.F.slot_list_pop PySem.F.type_list_pop mt_pop (pv 1)))))
      (pss_one (ps_ret (pv 1))))), ?_⟩
  rw [show start ["_law_numbers", "_law_found"] [.ref a] = [some (.ref a), none] from rfl]
  subst_eqs
  refine ⟨_, .inl hS, fun l hl => ?_⟩
  refine while_to (fun σ H1 => σ = [some (.ref a), some (.ref l)] ∧ ∃ m, m ≤ qs.length ∧ (∀ (i : Nat) (q : Rat), m ≤ i → qs[i]? = some q → q = 0) ∧ Same H H1 ∧ H1 l = some (.lst (xs.take m))) (fun σ H1 => match H1 l with | some (.lst ys) => ys.length | _ => 0)
    ⟨rfl, qs.length, Nat.le_refl _, fun i q hi e => ?_, Same.new hl _, ?_⟩ ?_
  · rw [List.getElem?_eq_none hi] at e; cases e
  · rw [upd_same, ← hN.length, List.take_length]
  · rintro σ H1 ⟨rfl, m, hm, hz, sm, e1⟩
    have hml : (xs.take m).length = m := by rw [List.length_take, hN.length]; omega
    subst_eqs
    refine ⟨by decide, fun p hp => ?_⟩
    have n1 : Nums H1 (xs.take m) (qs.take m) := (hN.mono sm.tups).take m
    have pl : p ≠ l := (ne_of_none e1 hp).symm
    have e2 : upd H1 p (.lst []) l = some (.lst (xs.take m)) := by rw [upd_ne pl.symm]; exact e1
    have n2 : Nums (upd H1 p (.lst [])) (xs.take m) (qs.take m) := n1.mono (TupS.new hp)
    refine ⟨dList (qs.take m), dList [], rfl, isD_list (SqL.of e2) n2, isD_list (SqL.of upd_same) .nil, okD_list _ _, Nat.le_trans (dp_list _) (by decide), ?_⟩
    rw [eqD_list]
    by_cases h0 : m = 0
    · subst h0
      simp only [List.take_zero, decide_true, Bool.not_true, Bool.false_eq_true, if_false]
      refine ⟨false, rfl, ite2 (fun h => absurd h (by decide)) fun _ => k 0 l _ ⟨Nat.zero_le _, hz, fun h => absurd rfl h⟩ (sm.trans (Same.new hp _)) hl ?_⟩
      rw [e2]
    · have hlt : m - 1 < qs.length := by omega
      have hne : qs.take m ≠ [] := fun z => by
        have := congrArg List.length z
        rw [List.length_take, List.length_nil] at this
        omega
      simp only [hne, decide_false, Bool.not_false]
      obtain ⟨pv, hv, hpv⟩ := n2.get (i := m - 1) (q := qs[m - 1]) (by rw [List.getElem?_take_of_lt (by omega)]; exact List.getElem?_eq_getElem hlt)
      refine ⟨true, rfl, ite2 (fun _ => ?_) (fun h => absurd rfl h)⟩
      refine ⟨_, SqL.of e2, _, last_at (by rw [hml]; exact hv), _, rfl, _, SqT.of hpv, _, at0 _, rfl, ?_⟩
      refine ite2 (fun hn => ?_) (fun hn => ?_)
      · have hn' : qs[m - 1].num = 0 := V.int.inj hn
        refine WhB.mk ?_
        subst_eqs
        refine ⟨.inl ⟨_, SqL.of e2⟩, _, e2, _, by rw [hml]; exact hv, WhN.mk ⟨rfl, m - 1, by omega, fun i q hi e => ?_, (sm.trans (Same.new hp _)).over hl _, ?_⟩ ?_⟩
        · by_cases hi' : i = m - 1
          · subst hi'
            rw [List.getElem?_eq_getElem hlt] at e
            cases e
            exact num_zero.mp hn'
          · exact hz i q (by omega) e
        · rw [upd_same, List.dropLast_eq_take, hml, List.take_take, Nat.min_eq_left (by omega)]
        · rw [upd_same]
          simp only [e1, List.length_dropLast]
          omega
      · have hn' : qs[m - 1] ≠ 0 := fun z => hn (by rw [z]; rfl)
        exact k m l _ ⟨hm, hz, fun _ q e => by rw [List.getElem?_eq_getElem hlt] at e; cases e; exact hn'⟩ (sm.trans (Same.new hp _)) hl e2
end
section
variable {P : Program} {w : World} {K : PySem.W.Frag} {mg : Str → Option Value} {base : Heap}
def spIsPoly (K : PySem.W.Frag) : Sp := fun vs H Q _ => ∃ a xs qs, vs = [.ref a] ∧ H a = some (.lst xs) ∧ Nums H xs qs ∧ (∀ p ∈ qs, p.den < 2 ^ 6000) ∧ xs.length < 1000 ∧ IsTl qs qs.length ∧ ∀ H', Same H H' → Q (.bl true) H'
abbrev s__law_is_poly : Stmt := top 57
theorem sc__law_is_poly : FnScope ["_law_thing"] ["_law_thing"] (defScope s__law_is_poly) := by and_intros
set_option maxHeartbeats 0 in
theorem ok__law_is_poly {f fd fn : Addr} (d : Df K mg "_law_is_poly" s__law_is_poly ["_law_thing"] f) (G__law_is_number : Def P w K mg base CX0 2 "_law_is_number" fd ["_law_thing"] (spIsNum K)) (G__law_trim : Def P w K mg base CX0 1 "_law_trim" fn ["_law_numbers"] (spTrim K))
    (n_isinstance : mg "isinstance" = none) (n_list : mg "list" = none) (n_all : mg "all" = none) : Def P w K mg base CX0 3 "_law_is_poly" f ["_law_thing"] (spIsPoly K) := by
  refine d.ok (N := ["_law_thing"]) sc__law_is_poly (fun vs H Q E ⟨u, kd, mo, h, _⟩ => by rw [h]; rfl) (fun cdv A outer s H vs Q E hr h => ?_)
  obtain ⟨a, xs, qs, rfl, ha, hN, hs, hl, ht, k⟩ := h
  have hu := hr.units
  refine ⟨_, (pss_one (ps_ret (pe_and (pe_callB call_isinst rfl n_isinstance (by decide +kernel) (pa_cons (pv 0) (pa_cons (pe_bltn (v := .ty "list") rfl n_list (by decide +kernel) rfl) pa_nil))) (pe_and (pe_callB (call_all rfl) rfl n_all (by decide +kernel) (pa_cons (pe_comp (Nc := ["_law_one"]) (caps := [none]) rfl (Caps.of (osc := defScope s__law_is_poly) (N := ["_law_thing"]) (ks := []) rfl rfl rfl rfl sub_nil (by decide +kernel)) (pi_list (pv 0)) (fun C s₂ H₂ fp pins => (pg_name (i := 0) (show List.Nodup (["_law_one"] : List Str) by decide +kernel) rfl (Or.inl rfl) (Or.inr rfl))) (fun C s₂ H₂ fp pins => (pe_def G__law_is_number hr (pa_cons (pv 0) pa_nil) pass0))) pa_nil)) (pe_one (pe_cmpR (op_eqD hu) (pe_def G__law_trim hr (pa_cons (pv 0) pa_nil) pass0) (pv 0) (nomark _))))))), ?_⟩
  rw [show start ["_law_thing"] [.ref a] = [some (.ref a)] from rfl]
  subst_eqs
  refine ⟨trivial, _, .of (.lst ha), _, kit_list_list, ite2 (fun _ => ?_) (fun h => absurd rfl h)⟩
  refine ⟨⟨_, SqL.of ha⟩, fun D hD => ?_⟩
  have hDa : a ≠ D := ne_of_none ha hD
  refine cw_list xs (fun i σ H2 => ∃ o, σ = [o] ∧ Same H H2 ∧ H2 D = some (.lst ((List.replicate i true).map V.bl))) ⟨_, rfl, Same.new hD _, upd_same⟩ (fun i σ H2 _ ⟨o, _, s2, _⟩ => SqL.of (s2 _ _ ha)) ?_ ?_
  · rintro i x σ H2 hx ⟨o, rfl, s2, e2⟩
    have hi : i < xs.length := (List.getElem?_eq_some_iff.mp hx).1
    obtain ⟨p, q, rfl, hq, hp⟩ := hN.getV hx
    subst_eqs
    have sq := hs q (List.mem_of_getElem? hq)
    refine ⟨_, q, rfl, ⟨p, rfl, SqT.of (s2 _ _ hp)⟩, ?_, fun H3 s3 => ?_⟩
    · rw [Int.natAbs_natCast]
      exact sq
    · refine CompN.mk hi (s3 _ _ e2) (by simp; exact Nat.lt_of_lt_of_le (show i < 1000 by omega) (by decide)) ⟨_, rfl, (s2.trans s3).over hD _, ?_⟩
      rw [upd_same, List.replicate_succ', List.map_append]
      rfl
  · rintro σ H2 ⟨o, rfl, s2, e2⟩
    subst_eqs
    refine ⟨_, SqL.of e2, ite2 (fun _ => ?_) (fun h => absurd (by simp) h)⟩
    have n2 := hN.mono s2.tups
    refine ⟨a, xs, qs, rfl, SqL.of (s2 _ _ ha), n2, fun m r H3 tl s3 hr' e3 => ?_⟩
    have em := tl.uniq ht
    subst em
    have et : xs.take qs.length = xs := by rw [← hN.length, List.take_length]
    rw [et] at e3
    refine ⟨dList qs, dList qs, rfl, isD_list (SqL.of e3) (n2.mono s3.tups), isD_list (SqL.of (s3 _ _ (s2 _ _ ha))) (n2.mono s3.tups), okD_list _ _, Nat.le_trans (dp_list _) (by decide), ?_⟩
    rw [eqD_list]
    simp only [decide_true]
    exact k H3 (s2.trans s3)
end
def tyD : D → Value
  | .v .non => .type "NoneType"
  | .v (.bl _) => .type "bool"
  | .v (.int _) => .type "int"
  | .v (.str _) => .type "str"
  | .v _ => .type "object"
  | .tup _ => .type "tuple"
  | .lst _ => .type "list"
theorem _root_.L2.IsD.ty {K : PySem.W.Frag} {H : Hp} {v : V} {d : D} (h : IsD K H v d) : TyX K H v (tyD d) := by
  cases h with
  | v f =>
    cases v with
    | non => exact .of .non
    | bl b => exact .of (.bl b)
    | int i => exact .of (.int i)
    | str s => exact .of (.str s)
    | _ => cases f
  | tup h t => exact .sqt h
  | lst h t => exact .sql h
def isTupD : D → Bool
  | .tup _ => true
  | _ => false
def isLstD : D → Bool
  | .lst _ => true
  | _ => false
section
variable {K : PySem.W.Frag}
theorem kit_D_tuple {H : Hp} {v : V} {d : D} (h : IsD K H v d) : PySem.W.kitOne K (tyD d) (.type "tuple") = some (isTupD d) := by
  cases h with
  | v f =>
    cases v with
    | non => kernel_rfl
    | bl b => kernel_rfl
    | int i => kernel_rfl
    | str s => kernel_rfl
    | _ => cases f
  | tup h t => kernel_rfl
  | lst h t => kernel_rfl
theorem kit_D_list {H : Hp} {v : V} {d : D} (h : IsD K H v d) : PySem.W.kitOne K (tyD d) (.type "list") = some (isLstD d) := by
  cases h with
  | v f =>
    cases v with
    | non => kernel_rfl
    | bl b => kernel_rfl
    | int i => kernel_rfl
    | str s => kernel_rfl
    | _ => cases f
  | tup h t => kernel_rfl
  | lst h t => kernel_rfl
end
end R
namespace L2
open PySem PyProof.Rows
end L2
set_option maxRecDepth 100000
namespace R
open PySem L2 PyProof.Rows
mutual
def noU : D → Bool
  | .v _ => true
  | .tup ds => noUs ds
  | .lst ds => (ds.length != 3) && noUs ds
def noUs : List D → Bool
  | [] => true
  | d :: ds => noU d && noUs ds
end
end R
set_option maxRecDepth 100000
namespace L2
open PySem PyProof.Rows
end L2
namespace R
open PySem L2 PyProof.Rows
inductive Rws (H : Hp) : List Addr → List (List Rat) → Prop where
  | nil : Rws H [] []
  | cons {p : Addr} {xs : List V} {ps : List Addr} {L : List Rat} {Ls : List (List Rat)} (h : H p = some (.lst xs)) (n : Nums H xs L) (t : Rws H ps Ls) : Rws H (p :: ps) (L :: Ls)
theorem Rws.length {H : Hp} : ∀ {ts : List Addr} {M : List (List Rat)}, Rws H ts M → ts.length = M.length
  | _, _, .nil => rfl
  | _, _, .cons _ _ t => congrArg (· + 1) t.length
theorem Rws.same {H H' : Hp} (s : Same H H') : ∀ {ts : List Addr} {M : List (List Rat)}, Rws H ts M → Rws H' ts M
  | _, _, .nil => .nil
  | _, _, .cons h n t => .cons (s _ _ h) (n.mono s.tups) (t.same s)
theorem Rws.append {H : Hp} : ∀ {ts us : List Addr} {M N : List (List Rat)}, Rws H ts M → Rws H us N → Rws H (ts ++ us) (M ++ N)
  | _, _, _, _, .nil, h => h
  | _, _, _, _, .cons h n t, k => .cons h n (t.append k)
structure TabAt (H : Hp) (D : Addr) (M : List (List Rat)) (H2 : Hp) : Prop where
  same : Same H H2
  at' : ∃ ts : List Addr, H2 D = some (.lst (ts.map V.ref)) ∧ (∀ t ∈ ts, H t = none ∧ t ≠ D) ∧ ts.Nodup ∧ Rws H2 ts M
structure RowAt (H : Hp) (D : Addr) (L : List Rat) (H2 : Hp) : Prop where
  same : Same H H2
  at' : ∃ xs : List V, H2 D = some (.lst xs) ∧ Nums H2 xs L
def NmC (K : PySem.W.Frag) (H : Hp) (p : Addr) (q : Rat) : Prop := H p = some (.tup (numV q)) ∨ ∀ H', SqT K H' p (numV q)
theorem NmC.sqt {K : PySem.W.Frag} {H : Hp} {p : Addr} {q : Rat} : NmC K H p q → SqT K H p (numV q)
  | .inl h => SqT.of h
  | .inr h => h H
theorem NmC.mono {K : PySem.W.Frag} {H H' : Hp} {p : Addr} {q : Rat} (e : TupS H H') : NmC K H p q → NmC K H' p q
  | .inl h => .inl (e _ _ h)
  | .inr h => .inr h
inductive NumsC (K : PySem.W.Frag) (H : Hp) : List V → List Rat → Prop where
  | nil : NumsC K H [] []
  | cons {p : Addr} {q : Rat} {vs : List V} {qs : List Rat} (h : NmC K H p q) (t : NumsC K H vs qs) : NumsC K H (.ref p :: vs) (q :: qs)
theorem NumsC.mono {K : PySem.W.Frag} {H H' : Hp} (e : TupS H H') : ∀ {vs : List V} {qs : List Rat}, NumsC K H vs qs → NumsC K H' vs qs
  | _, _, .nil => .nil
  | _, _, .cons h t => .cons (h.mono e) (t.mono e)
theorem NumsC.length {K : PySem.W.Frag} {H : Hp} : ∀ {vs : List V} {qs : List Rat}, NumsC K H vs qs → vs.length = qs.length
  | _, _, .nil => rfl
  | _, _, .cons _ t => congrArg (· + 1) t.length
theorem NumsC.getV {K : PySem.W.Frag} {H : Hp} : ∀ {vs : List V} {qs : List Rat} {i : Nat} {v : V}, NumsC K H vs qs → vs[i]? = some v → ∃ p q, v = .ref p ∧ qs[i]? = some q ∧ NmC K H p q
  | _, _, _, _, .nil, e => by simp at e
  | _, _, 0, _, .cons h t, e => by cases e; exact ⟨_, _, rfl, rfl, h⟩
  | _, _, i + 1, _, .cons _ t, e => t.getV (i := i) (by simpa using e)
theorem Nums.toC {K : PySem.W.Frag} {H : Hp} : ∀ {vs : List V} {qs : List Rat}, Nums H vs qs → NumsC K H vs qs
  | _, _, .nil => .nil
  | _, _, .cons h t => .cons (.inl h) t.toC
inductive RwsC (K : PySem.W.Frag) (H : Hp) : List Addr → List (List Rat) → Prop where
  | nil : RwsC K H [] []
  | cons {p : Addr} {xs : List V} {ps : List Addr} {L : List Rat} {Ls : List (List Rat)} (h : H p = some (.lst xs)) (n : NumsC K H xs L) (t : RwsC K H ps Ls) : RwsC K H (p :: ps) (L :: Ls)
structure TabC (K : PySem.W.Frag) (H : Hp) (D : Addr) (M : List (List Rat)) (H2 : Hp) : Prop where
  same : Same H H2
  at' : ∃ ts : List Addr, H2 D = some (.lst (ts.map V.ref)) ∧ (∀ t ∈ ts, H t = none ∧ t ≠ D) ∧ ts.Nodup ∧ RwsC K H2 ts M
structure RowC (K : PySem.W.Frag) (H : Hp) (D : Addr) (L : List Rat) (H2 : Hp) : Prop where
  same : Same H H2
  at' : ∃ xs : List V, H2 D = some (.lst xs) ∧ NumsC K H2 xs L
theorem len_ok {n : Nat} (h : n ≤ 100) : n < sizeLine := Nat.lt_of_le_of_lt h (by decide)
def ClA (D : Addr) (H : Hp) (v : V) (p : List Rat) : Prop := ∃ r l, v = .ref r ∧ H r = some (.tup [.ref l, .int (lcmL p)]) ∧ H l = some (.lst ((wholesOf (lcmL p) p).map V.int)) ∧ l ≠ D
inductive ClL (D : Addr) (H : Hp) : List V → List (List Rat) → Prop where
  | nil : ClL D H [] []
  | cons {v : V} {p : List Rat} {vs : List V} {ps : List (List Rat)} (h : ClA D H v p) (t : ClL D H vs ps) : ClL D H (v :: vs) (p :: ps)
structure ClR (H : Hp) (D : Addr) (M : List (List Rat)) (H2 : Hp) : Prop where
  same : Same H H2
  at' : ∃ vs : List V, H2 D = some (.lst vs) ∧ ClL D H2 vs M
def hc (a : Nat → Rat) (i j : Nat) : Rat := if (i + j) % 2 = 1 then a i * a j else 0
def hf (a : Nat → Rat) : Nat → Nat → Rat
  | 0, j => hc a 0 (j + 1)
  | i + 1, j => hc a (i + 1) (j + 1) - hf a i (j + 1)
def pw (x : Rat) : Nat → Rat
  | 0 => 1
  | i + 1 => pw x i * x
theorem sumTo_mul (c : Rat) (f : Nat → Rat) : ∀ n, c * sumTo f n = sumTo (fun i => c * f i) n
  | 0 => by simp [sumTo]
  | n + 1 => by rw [sumTo, sumTo, ← sumTo_mul c f n]; grind
theorem sumTo_add (f g : Nat → Rat) : ∀ n, sumTo f n + sumTo g n = sumTo (fun i => f i + g i) n
  | 0 => by simp [sumTo]; grind
  | n + 1 => by rw [sumTo, sumTo, sumTo, ← sumTo_add f g n]; grind
def hR (a : Nat → Rat) (n i : Nat) (y : Rat) : Rat := sumTo (fun j => hf a i j * pw y j) n
def hC (a : Nat → Rat) (n i : Nat) (y : Rat) : Rat := sumTo (fun j => hc a i j * pw y j) (n + 1)
def sg (i : Nat) : Rat := if i % 2 = 0 then 1 else -1
def OvB (B W : Nat) (q : Rat) : Prop := ∃ v : Int, q = Rat.divInt v B ∧ v.natAbs < 2 ^ W
theorem OvB.mono {B V W : Nat} {q : Rat} (h : OvB B V q) (l : V ≤ W) : OvB B W q := let ⟨v, e, b⟩ := h; ⟨v, e, Nat.lt_of_lt_of_le b (pow_le_pow2 l)⟩
theorem OvB.zero (B W : Nat) : OvB B W 0 := ⟨0, by rw [Rat.zero_divInt], Nat.two_pow_pos _⟩
theorem OvB.mul {B C V W : Nat} {p q : Rat} (h : OvB B V p) (k : OvB C W q) : OvB (B * C) (V + W) (p * q) := by
  obtain ⟨v, rfl, b⟩ := h
  obtain ⟨u, rfl, c⟩ := k
  refine ⟨v * u, by rw [Rat.divInt_mul_divInt, Int.natCast_mul], ?_⟩
  rw [Int.natAbs_mul, Nat.pow_add]
  exact Nat.mul_lt_mul'' b c
theorem OvB.neg {B W : Nat} {q : Rat} (h : OvB B W q) : OvB B W (-q) := by
  obtain ⟨v, rfl, b⟩ := h
  exact ⟨-v, by rw [Rat.neg_divInt], by rw [Int.natAbs_neg]; exact b⟩
theorem OvB.add {B W : Nat} (hB : 0 < B) {p q : Rat} (h : OvB B W p) (k : OvB B W q) : OvB B (W + 1) (p + q) := by
  obtain ⟨v, rfl, b⟩ := h
  obtain ⟨u, rfl, c⟩ := k
  refine ⟨v + u, ?_, ?_⟩
  · have hz : (B : Int) ≠ 0 := by omega
    rw [Rat.divInt_add_divInt _ _ hz hz]
    refine (Rat.divInt_eq_divInt_iff (Int.mul_ne_zero hz hz) hz).mpr ?_
    grind
  · have := Int.natAbs_add_le v u
    rw [Nat.pow_succ]; omega
theorem OvB.bdN {B W : Nat} (hB : 0 < B) (hW : B < 2 ^ W) {q : Rat} (h : OvB B W q) : BdN W q := by
  obtain ⟨v, rfl, b⟩ := h
  have := divInt_le (t := v) (b := (B : Int)) (by omega)
  rw [Int.natAbs_natCast] at this
  exact ⟨Nat.lt_of_le_of_lt this.1 b, Nat.lt_of_le_of_lt this.2 hW⟩
theorem lastAt {α : Type} {xs : List α} {x : α} (h : xs[xs.length - 1]? = some x) : atI xs (-1) = some x := by
  have hp : xs.length - 1 < xs.length := (List.getElem?_eq_some_iff.mp h).1
  have e : ixN xs.length (-1) = some (xs.length - 1) := by
    unfold ixN
    rw [if_neg (by decide)]
    rw [if_pos (by omega)]
    congr 1
    omega
  unfold atI
  rw [e]
  exact h
def aQ (qs : List Rat) (k : Nat) : Rat := (qs[k]?).getD 0
def aZ (ws : List Int) (k : Nat) : Int := (ws[k]?).getD 0
theorem aQ_scl (s : Rat) (ws : List Int) : aQ (scl s ws) = fun k => s * (aZ ws k : Rat) := by
  funext k
  unfold aQ aZ scl
  rw [List.getElem?_map]
  cases ws[k]? with
  | none => simp [Rat.intCast_zero]
  | some v => simp
theorem aZ_lt {ws : List Int} {W : Nat} (h : ∀ v ∈ ws, Int.natAbs v < 2 ^ W) : ∀ k, (aZ ws k).natAbs < 2 ^ W := fun k => by
  unfold aZ
  cases q : ws[k]? with
  | none => exact Nat.two_pow_pos _
  | some v => exact h v (List.mem_of_getElem? q)
def NK (kd : Int) (q : Rat) : Prop := if kd = 2 then BdN 40 q else if kd = 0 then OvB 60 10 q else OvB 1 4 q
theorem ov60 {t d : Int} (h1 : 1 ≤ d) (h6 : d ≤ 6) (h : t.natAbs ≤ 9) : OvB 60 10 (Rat.divInt t d) := by
  have h0 : d = 1 ∨ d = 2 ∨ d = 3 ∨ d = 4 ∨ d = 5 ∨ d = 6 := by omega
  rcases h0 with rfl | rfl | rfl | rfl | rfl | rfl
  · exact ⟨t * 60, (Rat.divInt_eq_divInt_iff (by decide) (by decide)).mpr (by omega), by omega⟩
  · exact ⟨t * 30, (Rat.divInt_eq_divInt_iff (by decide) (by decide)).mpr (by omega), by omega⟩
  · exact ⟨t * 20, (Rat.divInt_eq_divInt_iff (by decide) (by decide)).mpr (by omega), by omega⟩
  · exact ⟨t * 15, (Rat.divInt_eq_divInt_iff (by decide) (by decide)).mpr (by omega), by omega⟩
  · exact ⟨t * 12, (Rat.divInt_eq_divInt_iff (by decide) (by decide)).mpr (by omega), by omega⟩
  · exact ⟨t * 10, (Rat.divInt_eq_divInt_iff (by decide) (by decide)).mpr (by omega), by omega⟩
theorem ov1 {t : Int} (h : t.natAbs ≤ 9) : OvB 1 4 (Rat.divInt t 1) := ⟨t, rfl, by omega⟩
theorem NK.ovb0 {q : Rat} (h : NK 0 q) : OvB 60 10 q := by unfold NK at h; rw [if_neg (by decide), if_pos rfl] at h; exact h
theorem NK.ovb1 {q : Rat} (h : NK 1 q) : OvB 1 4 q := by unfold NK at h; rw [if_neg (by decide), if_neg (by decide)] at h; exact h
theorem bd_of {t b : Int} (hb : b ≠ 0) (h1 : t.natAbs ≤ 9) (h2 : b.natAbs ≤ 7) : BdN 4 (Rat.divInt t b) := by
  have := divInt_le (t := t) hb
  exact ⟨Nat.lt_of_le_of_lt this.1 (by omega), Nat.lt_of_le_of_lt this.2 (by omega)⟩
section
variable {P : Program} {w : World} {K : PySem.W.Frag} {mg : Str → Option Value} {base : Heap}
def spNumberC : Sp := fun vs H Q _ => ∃ u kd, vs = [.ref u, .int kd] ∧ UrnAt H u ∧ ∀ r q H', NK kd q → SameX u H H' → UrnAt H' u → H' r = some (.tup (numV q)) → Q (.ref r) H'
set_option maxHeartbeats 0 in
theorem okD__law_number {f fd fl : Addr} (d : Df K mg "_law_number" s__law_number ["_law_urn_here", "_law_kind_here"] f) (G__law_draw : Def P w K mg base CX0 1 "_law_draw" fd ["_law_urn_here", "_law_many"] spDraw) (G__law_low : Def P w K mg base CX0 1 "_law_low" fl ["_law_top", "_law_bottom"] spLow) (n_int : mg "int" = none) : Def P w K mg base CX0 2 "_law_number" f ["_law_urn_here", "_law_kind_here"] spNumberC := by
  refine d.ok (N := ["_law_urn_here", "_law_kind_here", "_law_top"]) sc__law_number (fun vs H Q E ⟨u, kd, h, _⟩ => by rw [h]; rfl) (fun cdv A outer s H vs Q E hr h => ?_)
  obtain ⟨u, kd, rfl, hu, k⟩ := h
  refine ⟨_, (pss_cons (ps_if (pt_cmpR op_eq (pv 1) pe_int (nomark _)) (pss_cons (ps_set (i := 2) sc__law_number.nd rfl (Or.inl rfl) (pe_op op_add (pe_op op_mulB (pe_def G__law_draw hr (pa_cons (pv 0) (pa_cons (pe_op op_pow pe_int pe_int) pa_nil)) pass0) (pe_op op_pow pe_int pe_int)) (pe_def G__law_draw hr (pa_cons (pv 0) (pa_cons (pe_op op_pow pe_int pe_int) pa_nil)) pass0)))
      (pss_one (ps_ret (pe_def G__law_low hr (pa_cons (pe_op op_mulB (pv 2) (pe_ix ix_list (pe_lst (pa_cons pe_int (pa_cons (pe_un un_neg pe_int) pa_nil))) (pe_def G__law_draw hr (pa_cons (pv 0) (pa_cons pe_int pa_nil)) pass0) (fun _ _ => rfl))) (pa_cons (pe_op op_add pe_int (pe_op op_mulB (pe_def G__law_draw hr (pa_cons (pv 0) (pa_cons (pe_op op_pow pe_int pe_int) pa_nil)) pass0) (pe_op op_pow pe_int pe_int))) pa_nil)) pass0)))) pss_nil)
      (pss_one (ps_ret (pe_def G__law_low hr (pa_cons (pe_op op_sub (pe_def G__law_draw hr (pa_cons (pv 0) (pa_cons pe_int pa_nil)) pass0) pe_int) (pa_cons (pe_op op_add pe_int (pe_op op_mulB (pe_def G__law_draw hr (pa_cons (pv 0) (pa_cons pe_int pa_nil)) pass0) (pe_callTy call_int1 rfl n_int (by decide +kernel) (pa_cons (pe_cmpR op_eq (pv 1) pe_int (nomark _)) pa_nil)))) pa_nil)) pass0)))), ?_⟩
  rw [show start ["_law_urn_here", "_law_kind_here", "_law_top"] [.ref u, .int kd] = [some (.ref u), some (.int kd), none] from rfl]
  have e10 : (10 : Int) ^ Int.toNat 6 = 1000000 := by decide
  simp! [spDraw, scal]
  refine ite2 (fun hk2 => ?_) (fun hk2 => ?_)
  · refine ⟨⟨by decide, by decide, by decide⟩, hu, by decide, by decide, fun r2 H2 a2 b2 s2 u2 => ?_⟩
    refine ⟨⟨by decide, by decide, by decide⟩, mulS' (by decide), ⟨by decide, by decide, by decide⟩, u2, by decide, by decide, fun r3 H3 a3 b3 s3 u3 => ?_⟩
    refine ⟨by decide, fun l hl => ⟨urn_new u3 hl, by decide, by decide, fun r4 H4 a4 b4 s4 u4 => ?_⟩⟩
    have e := s4 l _ upd_same (urn_ne u3 hl)
    have b2' : r2 < 1000000 := b2
    have b3' : r3 < 1000000 := b3
    have sx : SameX u H H4 := s2.trans (s3.trans (SameX.trans (Same.x (Same.new hl _) u) s4))
    have fin : ∀ sg : Int, sg = 1 ∨ sg = -1 → (CPow 10 6 ∧ UrnAt H4 u ∧ 0 < (10 : Int) ^ Int.toNat 6 ∧ (10 : Int) ^ Int.toNat 6 < 2 ^ 40 ∧ ∀ (r : Int) (H' : Hp), 0 ≤ r → r < 10 ^ Int.toNat 6 → SameX u H4 H' → UrnAt H' u →
        CPow 10 6 ∧ IntMulOk r (10 ^ Int.toNat 6) ∧ spLow [V.int ((r2 * 10 ^ Int.toNat 6 + r3) * sg), V.int (1 + r * 10 ^ Int.toNat 6)] H' Q E0) := by
      intro sg hsg
      refine ⟨⟨by decide, by decide, by decide⟩, u4, by decide, by decide, fun r5 H5 a5 b5 s5 u5 => ⟨⟨by decide, by decide, by decide⟩, mulS' (by decide), ?_⟩⟩
      rw [e10] at b5 ⊢
      refine ⟨_, _, rfl, by omega, Nat.lt_of_lt_of_le (show (1 + r5 * 1000000).natAbs < 2 ^ 64 by omega) (pow_le_pow2 (by decide)), fun r H' sm hr' => ?_⟩
      refine k r _ H' (by unfold NK; rw [if_pos hk2]; refine (sm_of (by omega) ?_ (by omega)).bdN; rcases hsg with h | h <;> subst h <;> omega) (sx.trans (s5.trans (Same.x sm u))) (Same.urn sm u5) hr'
    have h3 : r4 = 0 ∨ r4 = 1 := by omega
    rcases h3 with h | h <;> subst h
    · exact ⟨_, SqL.of e, _, rfl, _, rfl, mulS' (by decide), fin 1 (.inl rfl)⟩
    · exact ⟨_, SqL.of e, _, rfl, _, rfl, mulS' (by decide), fin (-1) (.inr rfl)⟩
  · refine ⟨hu, by decide, by decide, fun r2 H2 a2 b2 s2 u2 => ⟨u2, by decide, by decide, fun r3 H3 a3 b3 s3 u3 => ⟨mulS (by omega), ?_⟩⟩⟩
    have hz : ∃ z : Int, z = r3 * (if kd = 0 then 1 else 0) ∧ 0 ≤ z ∧ z ≤ 5 ∧ (kd ≠ 0 → z = 0) := by
      refine ⟨_, rfl, ?_, ?_, ?_⟩
      · split <;> omega
      · split <;> omega
      · intro h; rw [if_neg h, Int.mul_zero]
    obtain ⟨z, ez, z0, z6, zk⟩ := hz
    rw [← ez]
    refine ⟨_, _, rfl, by omega, Nat.lt_of_lt_of_le (show (1 + z).natAbs < 2 ^ 64 by omega) (pow_le_pow2 (by decide)), fun r H' sm hr' => ?_⟩
    exact k r _ H' (by
      unfold NK
      rw [if_neg hk2]
      by_cases h0 : kd = 0
      · rw [if_pos h0]; exact ov60 (by omega) (by omega) (by omega)
      · rw [if_neg h0, zk h0]; exact ov1 (by omega)) (s2.trans (s3.trans (Same.x sm u))) (Same.urn sm u3) hr'
def spOtherC : Sp := fun vs H Q _ => ∃ u kd, vs = [.ref u, .int kd] ∧ UrnAt H u ∧ ∀ r q H', NK kd q → q ≠ 0 → SameX u H H' → UrnAt H' u → H' r = some (.tup (numV q)) → Q (.ref r) H'
set_option maxHeartbeats 0 in
theorem okD__law_other {f fd fl : Addr} (d : Df K mg "_law_other" s__law_other ["_law_urn_here", "_law_kind_here"] f) (G__law_draw : Def P w K mg base CX0 1 "_law_draw" fd ["_law_urn_here", "_law_many"] spDraw) (GD__law_number : Def P w K mg base CX0 2 "_law_number" fl ["_law_urn_here", "_law_kind_here"] spNumberC) : Def P w K mg base CX0 3 "_law_other" f ["_law_urn_here", "_law_kind_here"] spOtherC := by
  refine d.ok (N := ["_law_urn_here", "_law_kind_here", "_law_found"]) sc__law_other (fun vs H Q E ⟨u, kd, h, _⟩ => by rw [h]; rfl) (fun cdv A outer s H vs Q E hr h => ?_)
  obtain ⟨u, kd, rfl, hu, k⟩ := h
  have G__law_number := GD__law_number
  refine ⟨_, (pss_cons (ps_set (i := 2) sc__law_other.nd rfl (Or.inl rfl) (pe_def G__law_number hr (pa_cons (pv 0) (pa_cons (pv 1) pa_nil)) pass0))
      (pss_cons (ps_if (pt_cmpR op_eq (pe_ix ix_tup (pv 2) pe_int (fun _ _ => rfl)) pe_int (nomark _)) (pss_one (ps_ret (pe_tup (pa_cons (pe_op op_add pe_int (pe_def G__law_draw hr (pa_cons (pv 0) (pa_cons pe_int pa_nil)) pass0)) (pa_cons pe_int pa_nil))))) pss_nil)
      (pss_one (ps_ret (pv 2))))), ?_⟩
  rw [show start ["_law_urn_here", "_law_kind_here", "_law_found"] [.ref u, .int kd] = [some (.ref u), some (.int kd), none] from rfl]
  simp! [spDraw]
  refine ⟨u, kd, rfl, hu, fun r q H1 sm s1 u1 e1 => ?_⟩
  refine ⟨r, rfl, _, SqT.of e1, _, at0 q, rfl, ite2 (fun _ => ?_) (fun hn => ?_)⟩
  · refine ⟨u1, by decide, by decide, fun r2 H2 a2 b2 s2 u2 => ⟨small2, fun l hl => ?_⟩⟩
    have hd := num_den_of (n := 1 + r2) (d := 1) (by decide) (by simp)
    refine k l (Rat.divInt (1 + r2) 1) _ (by
      unfold NK
      split
      · exact (bd_of (by decide) (by omega) (by decide)).mono (by decide)
      · split
        · exact ov60 (by decide) (by decide) (by omega)
        · exact ov1 (by omega)) ?_ (s1.trans (s2.trans (Same.x (Same.new hl _) u))) (urn_new u2 hl) ?_
    · intro z
      rw [z] at hd
      have : (0 : Rat).num = 0 := rfl
      omega
    · rw [upd_same]
      unfold numV
      rw [hd.1, hd.2]
  · refine k r q H1 sm (fun z => hn ?_) s1 u1 e1
    rw [z]; rfl
end
theorem rnum_pos {q : Rat} (h : 0 < q.num) : 0 < q := (Rat.lt_iff 0 q).mpr (by
  show (0 : Int) * (q.den : Int) < q.num * ((1 : Nat) : Int)
  rw [Int.zero_mul]; simpa using h)
theorem NK.neg {kd : Int} {q : Rat} (h : NK kd q) : NK kd (-q) := by
  unfold NK at h ⊢
  split at h
  · rename_i z
    rw [if_pos z]
    exact ⟨by show (-q.num).natAbs < _; rw [Int.natAbs_neg]; exact h.n, h.d⟩
  · rename_i z
    rw [if_neg z]
    split at h
    · rename_i y; rw [if_pos y]; exact h.neg
    · rename_i y; rw [if_neg y]; exact h.neg
theorem nk_abs {kd : Int} {q : Rat} (h : NK kd q) (q0 : q ≠ 0) : ∃ q', [V.int (if q.num < 0 then -q.num else q.num), V.int q.den] = numV q' ∧ NK kd q' ∧ 0 < q' := by
  have n0 : q.num ≠ 0 := fun z => q0 (Rat.num_eq_zero.mp z)
  by_cases z : q.num < 0
  · refine ⟨-q, ?_, h.neg, rnum_pos (by show 0 < -q.num; omega)⟩
    show _ = [V.int (-q.num), V.int q.den]
    rw [if_pos z]
  · refine ⟨q, ?_, h, rnum_pos (by omega)⟩
    show _ = [V.int q.num, V.int q.den]
    rw [if_neg z]
section
variable {P : Program} {w : World} {K : PySem.W.Frag} {mg : Str → Option Value} {base : Heap}
def spAbove : Sp := fun vs H Q _ => ∃ u kd, vs = [.ref u, .int kd] ∧ UrnAt H u ∧ ∀ r q H', NK kd q → 0 < q → SameX u H H' → UrnAt H' u → H' r = some (.tup (numV q)) → Q (.ref r) H'
abbrev s__law_above : Stmt := top 52
theorem sc__law_above : FnScope ["_law_urn_here", "_law_kind_here", "_law_found"] ["_law_urn_here", "_law_kind_here"] (defScope s__law_above) := by and_intros
set_option maxHeartbeats 0 in
theorem ok__law_above {f f1 : Addr} (d : Df K mg "_law_above" s__law_above ["_law_urn_here", "_law_kind_here"] f) (GD__law_other : Def P w K mg base CX0 3 "_law_other" f1 ["_law_urn_here", "_law_kind_here"] spOtherC) (n_abs : mg "abs" = none) : Def P w K mg base CX0 4 "_law_above" f ["_law_urn_here", "_law_kind_here"] spAbove := by
  refine d.ok (N := ["_law_urn_here", "_law_kind_here", "_law_found"]) sc__law_above (by rintro vs H Q E ⟨_, _, h, _⟩; rw [h]; rfl) (fun cdv A outer s H vs Q E hr h => ?_)
  obtain ⟨u, kd, rfl, hu, k⟩ := h
  have G__law_other := GD__law_other
  refine ⟨_, (pss_cons (ps_set (i := 2) sc__law_above.nd rfl (Or.inl rfl) (pe_def G__law_other hr (pa_cons (pv 0) (pa_cons (pv 1) pa_nil)) pass0))
      (pss_one (ps_ret (pe_tup (pa_cons (pe_callB call_abs rfl n_abs (by decide +kernel) (pa_cons (pe_ix ix_tup (pv 2) pe_int (fun _ _ => rfl)) pa_nil)) (pa_cons (pe_ix ix_tup (pv 2) pe_int (fun _ _ => rfl)) pa_nil)))))), ?_⟩
  rw [show start ["_law_urn_here", "_law_kind_here", "_law_found"] [.ref u, .int kd] = [some (.ref u), some (.int kd), none] from rfl]
  subst_eqs
  refine ⟨u, kd, rfl, hu, fun r q H1 nk q0 s1 u1 e1 => ?_⟩
  obtain ⟨q', e', n', p'⟩ := nk_abs nk q0
  refine ⟨r, rfl, _, SqT.of e1, _, at0 q, _, rfl, r, rfl, _, SqT.of e1, _, at1 q, small2, fun p hp => ?_⟩
  refine k p q' _ n' p' (s1.trans (Same.x (Same.new hp _) u)) (urn_new u1 hp) ?_
  rw [upd_same, e']
end
structure BtN (k : Nat) (q : Rat) : Prop where
  n : q.num.natAbs < 2 ^ 20000
  d : q.den < 2 ^ k
theorem BtN.d' {n : Nat} {q : Rat} (b : BtN n q) : (q.den : Int).natAbs < 2 ^ n := by rw [Int.natAbs_natCast]; exact b.d
theorem Nums.set {H : Hp} : ∀ {vs : List V} {qs : List Rat} (k : Nat) {p : Addr} {q : Rat}, Nums H vs qs → H p = some (.tup (numV q)) → Nums H (vs.set k (.ref p)) (qs.set k q)
  | _, _, _, _, _, .nil, _ => .nil
  | _, _, 0, _, _, .cons _ t, h => .cons h t
  | _, _, k + 1, _, _, .cons h' t, h => .cons h' (t.set k h)
theorem Nums.rep {H : Hp} {p : Addr} {q : Rat} (h : H p = some (.tup (numV q))) : ∀ n, Nums H (List.replicate n (.ref p)) (List.replicate n q)
  | 0 => .nil
  | n + 1 => .cons h (Nums.rep h n)
section
variable {P : Program} {w : World} {K : PySem.W.Frag} {mg : Str → Option Value} {base : Heap}
def spLBin (K : PySem.W.Frag) (op : Rat → Rat → Rat) : Sp := fun vs H Q _ => ∃ (x y : V) (p q : Rat) (m n : Nat), vs = [x, y] ∧ Num K H x p ∧ Num K H y q ∧ BtN m p ∧ BtN n q ∧ m + n ≤ 6000 ∧ NumRes H Q (op p q)
theorem denN {p q : Rat} {m n : Nat} (bp : BtN m p) (bq : BtN n q) (h : m + n ≤ 6000) : ((p.den : Int) * q.den).natAbs < 2 ^ 6000 := by
  rw [Int.natAbs_mul]
  have := Nat.mul_lt_mul'' bp.d' bq.d'
  rw [← Nat.pow_add] at this
  exact Nat.lt_of_lt_of_le this (pow_le_pow2 h)
theorem dens_ne (p q : Rat) : (p.den : Int) * q.den ≠ 0 := Int.ne_of_gt (Int.mul_pos (rat_den_pos p) (rat_den_pos q))
abbrev s__law_plus : Stmt := top 47
theorem sc__law_plus : FnScope ["_law_one", "_law_other_here"] ["_law_one", "_law_other_here"] (defScope s__law_plus) := by and_intros
theorem ok__law_plus {f fl : Addr} (d : Df K mg "_law_plus" s__law_plus ["_law_one", "_law_other_here"] f) (G__law_low : Def P w K mg base CX0 1 "_law_low" fl ["_law_top", "_law_bottom"] spLow) : Def P w K mg base CX0 2 "_law_plus" f ["_law_one", "_law_other_here"] (spLBin K (· + ·)) := by
  refine d.ok (N := ["_law_one", "_law_other_here"]) sc__law_plus (by rintro vs H Q E ⟨x, y, p, q, m, n, h, _⟩; rw [h]; rfl) (fun cdv A outer s H vs Q E hr h => ?_)
  obtain ⟨x, y, p, q, m, n, rfl, ⟨ap, rfl, hp⟩, ⟨aq, rfl, hq⟩, bp, bq, hmn, k⟩ := h
  refine ⟨_, (pss_one (ps_ret (pe_def G__law_low hr (pa_cons (pe_op op_add (pe_op op_mulB (pe_ix ix_tup (pv 0) pe_int (fun _ _ => rfl)) (pe_ix ix_tup (pv 1) pe_int (fun _ _ => rfl))) (pe_op op_mulB (pe_ix ix_tup (pv 1) pe_int (fun _ _ => rfl)) (pe_ix ix_tup (pv 0) pe_int (fun _ _ => rfl)))) (pa_cons (pe_op op_mulB (pe_ix ix_tup (pv 0) pe_int (fun _ _ => rfl)) (pe_ix ix_tup (pv 1) pe_int (fun _ _ => rfl))) pa_nil)) pass0))), ?_⟩
  rw [show start ["_law_one", "_law_other_here"] [.ref ap, .ref aq] = [some (.ref ap), some (.ref aq)] from rfl]
  subst_eqs
  refine ⟨_, hp, _, at0 p, _, hq, _, at1 q, _, rfl, _, rfl, mulOk bp.n bq.d' (by omega), _, hq, _, at0 q, _, hp, _, at1 p, _, rfl, _, rfl, mulOk bq.n bp.d' (by omega), _, hp, _, at1 p, _, hq, _, at1 q, _, rfl, _, rfl, mulOk bp.d' bq.d' (by omega), ?_⟩
  refine ⟨_, _, rfl, dens_ne p q, denN bp bq hmn, ?_⟩
  rw [← add_divInt]
  exact k
abbrev s__law_times : Stmt := top 48
theorem sc__law_times : FnScope ["_law_one", "_law_other_here"] ["_law_one", "_law_other_here"] (defScope s__law_times) := by and_intros
theorem ok__law_times {f fl : Addr} (d : Df K mg "_law_times" s__law_times ["_law_one", "_law_other_here"] f) (G__law_low : Def P w K mg base CX0 1 "_law_low" fl ["_law_top", "_law_bottom"] spLow) : Def P w K mg base CX0 2 "_law_times" f ["_law_one", "_law_other_here"] (spLBin K (· * ·)) := by
  refine d.ok (N := ["_law_one", "_law_other_here"]) sc__law_times (by rintro vs H Q E ⟨x, y, p, q, m, n, h, _⟩; rw [h]; rfl) (fun cdv A outer s H vs Q E hr h => ?_)
  obtain ⟨x, y, p, q, m, n, rfl, ⟨ap, rfl, hp⟩, ⟨aq, rfl, hq⟩, bp, bq, hmn, k⟩ := h
  refine ⟨_, (pss_one (ps_ret (pe_def G__law_low hr (pa_cons (pe_op op_mulB (pe_ix ix_tup (pv 0) pe_int (fun _ _ => rfl)) (pe_ix ix_tup (pv 1) pe_int (fun _ _ => rfl))) (pa_cons (pe_op op_mulB (pe_ix ix_tup (pv 0) pe_int (fun _ _ => rfl)) (pe_ix ix_tup (pv 1) pe_int (fun _ _ => rfl))) pa_nil)) pass0))), ?_⟩
  rw [show start ["_law_one", "_law_other_here"] [.ref ap, .ref aq] = [some (.ref ap), some (.ref aq)] from rfl]
  subst_eqs
  refine ⟨_, hp, _, at0 p, _, hq, _, at0 q, _, rfl, _, rfl, mulOk bp.n bq.n (by omega), _, hp, _, at1 p, _, hq, _, at1 q, _, rfl, _, rfl, mulOk bp.d' bq.d' (by omega), ?_⟩
  refine ⟨_, _, rfl, dens_ne p q, denN bp bq hmn, ?_⟩
  rw [← mul_divInt]
  exact k
end
def threeI : List D → Bool
  | [.v (.int _), .v (.int _), .v (.int _)] => true
  | _ => false
mutual
def noW : D → Bool
  | .v _ => true
  | .tup ds => noWs ds
  | .lst ds => !threeI ds && noWs ds
def noWs : List D → Bool
  | [] => true
  | d :: ds => noW d && noWs ds
end
mutual
def smD (m : Nat) : D → Prop
  | .v (.int i) => i.natAbs < 2 ^ m
  | .v _ => True
  | .tup ds => smDs m ds
  | .lst ds => smDs m ds
def smDs (m : Nat) : List D → Prop
  | [] => True
  | d :: ds => smD m d ∧ smDs m ds
end
def below (p q : Rat) : Bool := decide (p.num * (q.den : Int) < q.num * (p.den : Int))
structure IsBox (B : List (Rat × Rat)) : Prop where
  l2 : 2 ≤ B.length
  l8 : B.length ≤ 8
  le : ∀ s ∈ B, s.1 ≤ s.2
  last : ∀ s, B[B.length - 1]? = some s → 0 < s.1
def zs (t b a : Int) : List Int → List Int
  | [] => [b * a]
  | x :: r => (b * a + t * x) :: zs t b x r
structure MidN (n : Nat) (R : List Rat) : Prop where
  ex : ∃ (B : Nat) (ws : List Int), 0 < B ∧ B < 2 ^ (40 * n + 1) ∧ R = scl (Rat.divInt 1 B) ws ∧ ∀ v ∈ ws, Int.natAbs v < 2 ^ (41 * n + 1)
  len : R.length = n + 1
  last : R[n]? = some 1
inductive Spans (H : Hp) : List V → List (Rat × Rat) → Prop where
  | nil : Spans H [] []
  | cons {p a b : Addr} {s : Rat × Rat} {vs : List V} {B : List (Rat × Rat)} (h : H p = some (.tup [.ref a, .ref b])) (ha : H a = some (.tup (numV s.1))) (hb : H b = some (.tup (numV s.2))) (t : Spans H vs B) : Spans H (.ref p :: vs) (s :: B)
def dStr2 (a b : Str) : D := .tup [.v (.str a), .v (.str b)]
theorem eqD_str2 (a b : Str) : eqD (dStr2 a b) (dStr2 a b) = true := by simp [dStr2, eqD, eqDs, eqV]
theorem okD_str2 (a b c d : Str) : okD (dStr2 a b) (dStr2 c d) = true := by simp [dStr2, okD, okDs]
theorem dp_str2 (a b : Str) : dpD (dStr2 a b) ≤ 60 := by simp [dStr2, dpD, dpDs]
theorem isD_str2 {K : PySem.W.Frag} {H : Hp} {p : Addr} {a b : Str} (h : SqT K H p [.str a, .str b]) : IsD K H (.ref p) (dStr2 a b) := .tup h (.cons (.v rfl) (.cons (.v rfl) .nil))
mutual
theorem okD_refl : ∀ d : D, okD d d = true
  | .v _ => by rw [okD]
  | .tup ds => by rw [okD]; exact okDs_refl ds
  | .lst ds => by rw [okD]; exact okDs_refl ds
theorem okDs_refl : ∀ ds : List D, okDs ds ds = true
  | [] => by simp [okDs]
  | d :: ds => by rw [okDs, okD_refl d, okDs_refl ds]; rfl
end
structure TbX (u : Addr) (H : Hp) (a : Addr) (ts : List Addr) (M : List (List Rat)) : Prop where
  au : a ≠ u
  tu : ∀ t ∈ ts, t ≠ u
  at' : H a = some (.lst (ts.map V.ref))
  rws : Rws H ts M
structure LsX (u : Addr) (H : Hp) (a : Addr) (xs : List V) (qs : List Rat) : Prop where
  au : a ≠ u
  at' : H a = some (.lst xs)
  nums : Nums H xs qs
theorem addAt_mem {α : Type} [Add α] : ∀ (f : List α) (k : Nat) (x v : α), v ∈ addAt f k x → v ∈ f ∨ ∃ y ∈ f, v = y + x
  | [], _, _, _, h => by cases h
  | y :: r, 0, x, v, h => by
    rcases List.mem_cons.mp h with z | z
    · exact .inr ⟨y, List.mem_cons_self, z⟩
    · exact .inl (List.mem_cons_of_mem _ z)
  | y :: r, k + 1, x, v, h => by
    rcases List.mem_cons.mp h with z | z
    · exact .inl (by rw [z]; exact List.mem_cons_self)
    · rcases addAt_mem r k x v z with w | ⟨u, hu, e⟩
      · exact .inl (List.mem_cons_of_mem _ w)
      · exact .inr ⟨u, List.mem_cons_of_mem _ hu, e⟩
theorem addAt_ovb {B W : Nat} (hB : 0 < B) {f : List Rat} {k : Nat} {x : Rat} (hf : ∀ v ∈ f, OvB B W v) (hx : OvB B W x) : ∀ v ∈ addAt f k x, OvB B (W + 1) v := fun v hv => by
  rcases addAt_mem f k x v hv with h | ⟨y, hy, rfl⟩
  · exact (hf v h).mono (by omega)
  · exact (hf y hy).add hB hx
def cv (f g : Nat → Rat) (k : Nat) : Rat := sumTo (fun i => f i * g (k - i)) (k + 1)
theorem aQ_mulQ (p q : List Rat) (k : Nat) : aQ (mulQ p q) k = cv (aQ p) (aQ q) k := by
  by_cases hp : p = []
  · subst hp
    have : mulQ [] q = [] := by unfold mulQ; rw [if_pos (.inl rfl)]
    rw [this]
    symm
    exact sumTo_zero _ fun i _ => by show (0 : Rat) * _ = 0; grind
  by_cases hq : q = []
  · subst hq
    have : mulQ p [] = [] := by unfold mulQ; rw [if_pos (.inr rfl)]
    rw [this]
    symm
    exact sumTo_zero _ fun i _ => by show _ * (0 : Rat) = 0; grind
  by_cases hk : k < p.length + q.length - 1
  · have := mulQ_get hp hq hk
    unfold aQ
    rw [this]; rfl
  · have h1 : aQ (mulQ p q) k = 0 := by
      unfold aQ
      rw [List.getElem?_eq_none (by rw [mulQ_len hp hq]; omega)]; rfl
    rw [h1]
    symm
    refine sumTo_zero _ fun i hi => ?_
    by_cases h2 : i < p.length
    · have : aQ q (k - i) = 0 := by unfold aQ; rw [List.getElem?_eq_none (by omega)]; rfl
      rw [this]; grind
    · have : aQ p i = 0 := by unfold aQ; rw [List.getElem?_eq_none (by omega)]; rfl
      rw [this]; grind
theorem aQ_take {qs : List Rat} {m : Nat} (t : IsTl qs m) (k : Nat) : aQ (qs.take m) k = aQ qs k := by
  unfold aQ
  rw [List.getElem?_take]
  split
  · rfl
  · cases h : qs[k]? with
    | none => rfl
    | some v => rw [t.zero k v (by omega) h]; rfl
theorem tl_ext {p q : List Rat} (tp : IsTl p p.length) (tq : IsTl q q.length) (h : ∀ k, aQ p k = aQ q k) : p = q := by
  have key : ∀ {p q : List Rat}, IsTl p p.length → (∀ k, aQ p k = aQ q k) → p.length ≤ q.length := fun {p q} tp h => by
    by_cases z : p.length = 0
    · omega
    · have hl : p.length - 1 < p.length := by omega
      have := tp.last z _ (List.getElem?_eq_getElem hl)
      have e := h (p.length - 1)
      refine Classical.byContradiction fun w => this ?_
      unfold aQ at e
      rw [List.getElem?_eq_getElem hl, List.getElem?_eq_none (by omega)] at e
      exact e
  have hl : p.length = q.length := by
    have h1 := key tp h
    have h2 := key tq fun k => (h k).symm
    omega
  refine List.ext_getElem? fun k => ?_
  by_cases hk : k < p.length
  · have e := h k
    unfold aQ at e
    rw [List.getElem?_eq_getElem hk, List.getElem?_eq_getElem (by omega)] at e ⊢
    exact congrArg some e
  · rw [List.getElem?_eq_none (by omega), List.getElem?_eq_none (by omega)]
theorem cv_add (f g h : Nat → Rat) (k : Nat) : cv (fun i => f i + g i) h k = cv f h k + cv g h k := by
  unfold cv
  rw [sumTo_add]
  exact sumTo_congr fun i _ => by grind
theorem cv_mul (c : Rat) (f h : Nat → Rat) (k : Nat) : cv (fun i => c * f i) h k = c * cv f h k := by
  unfold cv
  rw [sumTo_mul]
  exact sumTo_congr fun i _ => by grind
theorem sumTo_single (g : Nat → Rat) (t : Nat) : ∀ n, sumTo (fun i => if i = t then g i else 0) n = if t < n then g t else 0
  | 0 => by rw [if_neg (by omega)]; rfl
  | n + 1 => by
    rw [sumTo, sumTo_single g t n]
    by_cases h : t < n
    · rw [if_pos h, if_neg (by omega), if_pos (by omega)]; grind
    · by_cases h2 : n = t
      · rw [if_neg h, if_pos h2, if_pos (by omega), h2]; grind
      · rw [if_neg h, if_neg h2, if_neg (by omega)]; grind
theorem cv_single (d : Rat) (t : Nat) (h : Nat → Rat) (k : Nat) : cv (fun i => if i = t then d else 0) h k = if t ≤ k then d * h (k - t) else 0 := by
  unfold cv
  have : sumTo (fun i => (if i = t then d else 0) * h (k - i)) (k + 1) = sumTo (fun i => if i = t then d * h (k - i) else 0) (k + 1) := sumTo_congr fun i _ => by split <;> grind
  rw [this, sumTo_single]
  by_cases e : t ≤ k
  · rw [if_pos (by omega), if_pos e]
  · rw [if_neg (by omega), if_neg e]
def zc (ws : List Int) (k : Nat) : Rat := (aZ ws k : Rat)
theorem inner_getZ (f : List Int) (i : Nat) (x : Int) (q : List Int) {k : Nat} (y : Int) (hy : f[k]? = some y) : ∀ j, (innerN 0 f i x q j)[k]? = some (y + if i ≤ k ∧ k < i + j then x * (q[k - i]?).getD 0 else 0)
  | 0 => by
    rw [innerN, hy, if_neg (by omega)]; congr 1; omega
  | j + 1 => by
    have ih := inner_getZ f i x q y hy j
    rw [innerN]
    by_cases e : k = i + j
    · subst e
      rw [addAt_same _ _ _ _ ih, if_neg (by omega), if_pos (by omega), show i + j - i = j by omega]
      congr 1; omega
    · rw [addAt_other _ _ _ _ e, ih]
      by_cases h : i ≤ k ∧ k < i + j
      · rw [if_pos h, if_pos (by omega)]
      · rw [if_neg h, if_neg (by omega)]
structure IsTz (ws : List Int) (m : Nat) : Prop where
  le : m ≤ ws.length
  zero : ∀ i v, m ≤ i → ws[i]? = some v → v = 0
  last : m ≠ 0 → ∀ v, ws[m - 1]? = some v → v ≠ 0
theorem aZ_take {ws : List Int} {m : Nat} (t : IsTz ws m) (k : Nat) : aZ (ws.take m) k = aZ ws k := by
  unfold aZ
  rw [List.getElem?_take]
  split
  · rfl
  · cases h : ws[k]? with
    | none => rfl
    | some v => rw [t.zero k v (by omega) h]; rfl
theorem IsTz.self {ws : List Int} {m : Nat} (t : IsTz ws m) : IsTz (ws.take m) (ws.take m).length := by
  have hm : (ws.take m).length = m := by rw [List.length_take]; have := t.le; omega
  refine ⟨Nat.le_refl _, fun i v hi h => ?_, fun hn v h => ?_⟩
  · rw [List.getElem?_eq_none hi] at h; cases h
  · rw [hm] at hn h
    rw [List.getElem?_take, if_pos (by omega)] at h
    exact t.last hn v h
def Dv (one other Q R : List Int) (many : Int) : Prop := ∀ k, (many : Rat) * zc one k = cv (zc Q) (zc other) k + zc R k
theorem dv_step {one other Q R R' : List Int} {many c d : Int} {t : Nat} (h : Dv one other Q R many) (ht : t < Q.length) (hQ : aZ Q t = 0) (hR : ∀ k, aZ R' k = c * aZ R k - if t ≤ k then d * aZ other (k - t) else 0) :
    Dv one other ((Q.map (c * ·)).set t d) R' (many * c) := by
  intro k
  have e1 : zc ((Q.map (c * ·)).set t d) = fun i => (c : Rat) * zc Q i + if i = t then (d : Rat) else 0 := by
    funext i
    unfold zc aZ
    rw [List.getElem?_set]
    by_cases z : t = i
    · subst z
      rw [if_pos rfl, if_pos (by rw [List.length_map]; exact ht), if_pos rfl]
      unfold aZ at hQ
      rw [hQ, Rat.intCast_zero]
      simp only [Option.getD_some]
      grind
    · rw [if_neg z, if_neg (fun w => z w.symm), List.getElem?_map]
      cases Q[i]? with
      | none => simp [Rat.intCast_zero]; grind
      | some v => simp [Rat.intCast_mul]; grind
  have e2 : zc R' k = (c : Rat) * zc R k - if t ≤ k then (d : Rat) * zc other (k - t) else 0 := by
    unfold zc
    rw [hR k, Rat.intCast_sub, Rat.intCast_mul]
    split
    · rw [Rat.intCast_mul]
    · rw [Rat.intCast_zero]
  rw [e1, cv_add (fun i => (c : Rat) * zc Q i) (fun i => if i = t then (d : Rat) else 0), cv_mul, cv_single, e2, Rat.intCast_mul]
  have := h k
  have e3 : (many : Rat) * (c : Rat) * zc one k = (c : Rat) * ((many : Rat) * zc one k) := by grind
  rw [e3, this]
  grind
theorem OvB.bt {B W e : Nat} {q : Rat} (h : OvB B W q) (hB : 0 < B) (hBe : B < 2 ^ e) (hW : W ≤ 20000) : BtN e q := by
  obtain ⟨v, rfl, b⟩ := h
  have := divInt_le (t := v) (b := (B : Int)) (by omega)
  rw [Int.natAbs_natCast] at this
  exact ⟨Nat.lt_of_le_of_lt this.1 (Nat.lt_of_lt_of_le b (pow_le_pow2 hW)), Nat.lt_of_le_of_lt this.2 hBe⟩
section
variable {P : Program} {w : World} {K : PySem.W.Frag} {mg : Str → Option Value} {base : Heap}
def spLMulG (K : PySem.W.Frag) : Sp := fun vs H Q _ => ∃ (a b : Addr) (xs ys : List V) (ps qs : List Rat) (B C V' W e : Nat), vs = [.ref a, .ref b] ∧ SqL K H a xs ∧ SqL K H b ys ∧ Nums H xs ps ∧ Nums H ys qs ∧ (∀ q ∈ ps, OvB B V' q) ∧ (∀ q ∈ qs, OvB C W q) ∧ 0 < B ∧ 0 < C ∧ B * C < 2 ^ e ∧ 1 ≤ e ∧ 2 * e ≤ 6000 ∧ V' + W ≤ 19000 ∧ ps.length ≤ 20 ∧ qs.length ≤ 20 ∧
  ∀ m r zs H', IsTl (mulQ ps qs) m → (∀ q ∈ mulQ ps qs, OvB (B * C) (V' + W + 400) q) → Same H H' → H r = none → H' r = some (.lst zs) → Nums H' zs ((mulQ ps qs).take m) → Q (.ref r) H'
abbrev s__law_poly_times : Stmt := top 54
theorem sc__law_poly_times : FnScope ["_law_p", "_law_q", "_law_found", "_law_i", "_law_one", "_law_j", "_law_other_here"] ["_law_p", "_law_q"] (defScope s__law_poly_times) := by and_intros
set_option maxHeartbeats 0 in
theorem ok__law_poly_times {f fp f1 f2 : Addr} (d : Df K mg "_law_poly_times" s__law_poly_times ["_law_p", "_law_q"] f) (G__law_plus : Def P w K mg base CX0 2 "_law_plus" fp ["_law_one", "_law_other_here"] (spLBin K (· + ·))) (G__law_times : Def P w K mg base CX0 2 "_law_times" f1 ["_law_one", "_law_other_here"] (spLBin K (· * ·))) (G__law_trim : Def P w K mg base CX0 1 "_law_trim" f2 ["_law_numbers"] (spTrim K)) (n_len : mg "len" = none) (n_enumerate : mg "enumerate" = none) : Def P w K mg base CX0 3 "_law_poly_times" f ["_law_p", "_law_q"] (spLMulG K) := by
  refine d.ok (N := ["_law_p", "_law_q", "_law_found", "_law_i", "_law_one", "_law_j", "_law_other_here"]) sc__law_poly_times (by rintro vs H Q E ⟨_, _, _, _, _, _, _, _, _, _, _, h, _⟩; rw [h]; rfl) (fun cdv A outer s H vs Q E hr h => ?_)
  obtain ⟨a, b, xs, ys, ps, qs, B, C, V', W, e, rfl, hS, hS', hN, hN', hs, hs', hB, hC, hBC, he1, he, hVW, hl, hl', k⟩ := h
  have hBCp := Nat.mul_pos hB hC
  have hBe : B < 2 ^ e := Nat.lt_of_le_of_lt (Nat.le_mul_of_pos_right _ hC) hBC
  have hCe : C < 2 ^ e := Nat.lt_of_le_of_lt (Nat.le_mul_of_pos_left _ hB) hBC
  have hu := hr.units
  refine ⟨_, (pss_cons (ps_if (PW.pt (pw_or (pt_cmpR (op_eqD hu) (pv 0) (pe_lst pa_nil) (nomark _)) (pw_or1 (pt_cmpR (op_eqD hu) (pv 1) (pe_lst pa_nil) (nomark _))))) (pss_one (ps_ret (pe_lst pa_nil))) pss_nil)
      (pss_cons (ps_set (i := 2) sc__law_poly_times.nd rfl (Or.inl rfl) (pe_op op_rep (pe_lst (pa_cons (pe_tup (pa_cons pe_int (pa_cons pe_int pa_nil))) pa_nil)) (pe_op op_sub (pe_op op_add (pe_callB call_len_seq rfl n_len (by decide +kernel) (pa_cons (pv 0) pa_nil)) (pe_callB call_len_seq rfl n_len (by decide +kernel) (pa_cons (pv 1) pa_nil))) pe_int)))
      (pss_cons (ps_for PassesOwn.never rfl (pi_enum rfl n_enumerate (pa_cons (pv 0) pa_nil)) (show PG _ _ (gTup K 2 (gCons (gName 3) (gCons (gName 4) gNil))) from by (refine pg_tup (n := 2) ?_ ?_ ?_ ?_; rfl; (refine pgs_cons ?_ ?_ ?_; (exact (pg_name (i := 3) sc__law_poly_times.nd rfl (Or.inl rfl))); (refine pgs_cons ?_ ?_ ?_; (exact (pg_name (i := 4) sc__law_poly_times.nd rfl (Or.inl rfl))); (exact pgs_nil); rfl); rfl); rfl; rfl)) (pss_one (ps_for PassesOwn.never rfl (pi_enum rfl n_enumerate (pa_cons (pv 1) pa_nil)) (show PG _ _ (gTup K 2 (gCons (gName 5) (gCons (gName 6) gNil))) from by (refine pg_tup (n := 2) ?_ ?_ ?_ ?_; rfl; (refine pgs_cons ?_ ?_ ?_; (exact (pg_name (i := 5) sc__law_poly_times.nd rfl (Or.inl rfl))); (refine pgs_cons ?_ ?_ ?_; (exact (pg_name (i := 6) sc__law_poly_times.nd rfl (Or.inl rfl))); (exact pgs_nil); rfl); rfl); rfl; rfl)) (pss_one (ps_asg (pe_def G__law_plus hr (pa_cons (pe_ix ix_list (pv 2) (pe_op op_add (pv 3) (pv 5)) (fun _ _ => rfl)) (pa_cons (pe_def G__law_times hr (pa_cons (pv 4) (pa_cons (pv 6) pa_nil)) pass0) pa_nil)) pass0) (pg_sub (pv 2) (pe_op op_add (pv 3) (pv 5)) set_list))))))
      (pss_one (ps_ret (pe_def G__law_trim hr (pa_cons (pv 2) pa_nil) pass0)))))), ?_⟩
  rw [show start ["_law_p", "_law_q", "_law_found", "_law_i", "_law_one", "_law_j", "_law_other_here"] [.ref a, .ref b] = [some (.ref a), some (.ref b), none, none, none, none, none] from rfl]
  subst_eqs
  have tl0 : IsTl ([] : List Rat) 0 := ⟨Nat.le_refl _, fun i q _ e => by simp at e, fun h => absurd rfl h⟩
  refine ⟨by decide, fun p hp => ?_⟩
  have S1 := Same.new hp (.lst [])
  refine ⟨dList ps, dList [], rfl, isD_list (S1.seq hS) (hN.mono S1.tups), isD_list (SqL.of upd_same) .nil, okD_list _ _, Nat.le_trans (dp_list _) (by decide), ?_⟩
  rw [eqD_list]
  refine ⟨_, rfl, ite2 (fun h => ⟨by decide, fun r hr' => ?_⟩) (fun h => ?_)⟩
  · have e : mulQ ps qs = [] := by rw [mulQ, if_pos (.inl (by simpa using h))]
    rw [e] at k
    exact k 0 r [] _ tl0 (by simp) (S1.trans (Same.new hr' _)) (S1.free hr') upd_same .nil
  have np : ps ≠ [] := fun z => h (by simp [z])
  refine ⟨by decide, fun p2 hp2 => ?_⟩
  have S2 := S1.trans (Same.new hp2 (.lst []))
  refine ⟨dList qs, dList [], rfl, isD_list (S2.seq hS') (hN'.mono S2.tups), isD_list (SqL.of upd_same) .nil, okD_list _ _, Nat.le_trans (dp_list _) (by decide), ?_⟩
  rw [eqD_list]
  refine ⟨_, rfl, ite2 (fun h => ⟨by decide, fun r hr' => ?_⟩) (fun h => ?_)⟩
  · have e : mulQ ps qs = [] := by rw [mulQ, if_pos (.inr (by simpa using h))]
    rw [e] at k
    exact k 0 r [] _ tl0 (by simp) (S2.trans (Same.new hr' _)) (S2.free hr') upd_same .nil
  have nq : qs ≠ [] := fun z => h (by simp [z])
  have lx := hN.length
  have ly := hN'.length
  have lp : 0 < ps.length := List.length_pos_iff.mpr np
  have lq : 0 < qs.length := List.length_pos_iff.mpr nq
  refine ⟨small2, fun p3 hp3 => ⟨small1, fun p4 hp4 => ?_⟩⟩
  have S3 := S2.trans (Same.new hp3 (.tup [.int 0, .int 1]))
  have S4 := S3.trans (Same.new hp4 (.lst [.ref p3]))
  refine ⟨_, .inl (S4.seq hS), _, .inl (S4.seq hS'), _, upd_same, by omega, by omega, ?_, fun l hl0 => ?_⟩
  · simp only [List.length_cons, List.length_nil]
    exact Nat.le_trans (show _ ≤ 40 by omega) (by decide)
  have hz : (List.replicate ((xs.length : Int) + (ys.length : Int) - 1).toNat [V.ref p3]).flatten = List.replicate (ps.length + qs.length - 1) (V.ref p3) := by
    have e : ((xs.length : Int) + (ys.length : Int) - 1).toNat = ps.length + qs.length - 1 := by omega
    rw [e, List.flatten_replicate_singleton]
  rw [hz]
  have S5 := S4.trans (Same.new hl0 (.lst (List.replicate (ps.length + qs.length - 1) (.ref p3))))
  have hlH : H l = none := S4.free hl0
  have ez : (upd (upd (upd (upd (upd H p (.lst [])) p2 (.lst [])) p3 (.tup [.int 0, .int 1])) p4 (.lst [.ref p3])) l (.lst (List.replicate (ps.length + qs.length - 1) (.ref p3)))) p3 = some (.tup (numV 0)) := Same.new hl0 _ _ _ (Same.new hp4 _ _ _ upd_same)
  refine ⟨_, rfl, a, rfl, ⟨_, S5.seq hS⟩, for_enum xs (fun i σ H2 => ∃ o3 o4 o5 o6, σ = [some (.ref a), some (.ref b), some (.ref l), o3, o4, o5, o6] ∧ Same H H2 ∧ ∃ zs, H2 l = some (.lst zs) ∧ Nums H2 zs (outerN 0 (List.replicate (ps.length + qs.length - 1) (0 : Rat)) ps qs i) ∧ ∀ v ∈ outerN 0 (List.replicate (ps.length + qs.length - 1) (0 : Rat)) ps qs i, OvB (B * C) (V' + W + i * qs.length) v)
    ⟨_, _, _, _, rfl, S5, _, upd_same, Nums.rep ez _, fun v hv => by rw [(List.mem_replicate.mp hv).2]; exact OvB.zero _ _⟩ (fun i σ H2 ⟨_, _, _, _, _, s2, _⟩ => s2.seq hS) ?_ ?_⟩
  · rintro i x σ H2 r hx ⟨o3, o4, o5, o6, rfl, s2, zs, e2, n2, b2⟩ hr'
    obtain ⟨px, q, rfl, hq, hpx⟩ := hN.getV hx
    have hi := (List.getElem?_eq_some_iff.mp hq).1
    have sr := Same.new hr' (.tup [.int i, .ref px])
    refine ⟨_, _, rfl, SqT.of upd_same, rfl, _, _, rfl, _, _, rfl, rfl, ?_⟩
    refine ⟨_, rfl, b, rfl, ⟨_, (s2.trans sr).seq hS'⟩, for_enum ys (fun j σ H4 => ∃ o5 o6, σ = [some (.ref a), some (.ref b), some (.ref l), some (.int i), some (.ref px), o5, o6] ∧ Same H H4 ∧ ∃ zs, H4 l = some (.lst zs) ∧ Nums H4 zs (innerN 0 (outerN 0 (List.replicate (ps.length + qs.length - 1) (0 : Rat)) ps qs i) i q qs j) ∧ ∀ v ∈ innerN 0 (outerN 0 (List.replicate (ps.length + qs.length - 1) (0 : Rat)) ps qs i) i q qs j, OvB (B * C) (V' + W + (i * qs.length + j)) v)
      ⟨_, _, rfl, s2.trans sr, _, sr _ _ e2, n2.mono sr.tups, b2⟩ (fun i σ H2 ⟨_, _, _, s2, _⟩ => s2.seq hS') ?_ ?_⟩
    · rintro j y σ H4 t hy ⟨o5, o6, rfl, s4, zs4, e4, n4, b4⟩ ht
      obtain ⟨py, q', rfl, hq', hpy⟩ := hN'.getV hy
      have hj := (List.getElem?_eq_some_iff.mp hq').1
      have st := Same.new ht (.tup [.int j, .ref py])
      have e5 := st _ _ e4
      have hF : i + j < (innerN 0 (outerN 0 (List.replicate (ps.length + qs.length - 1) (0 : Rat)) ps qs i) i q qs j).length := by
        rw [inner_len, outer_len, List.length_replicate]; omega
      have eg := List.getElem?_eq_getElem hF
      obtain ⟨pv, hv, hpv⟩ := (n4.mono st.tups).get eg
      have ec : (i : Int) + (j : Int) = ((i + j : Nat) : Int) := by omega
      have hc : i * qs.length + j < 400 := by
        have h1 : i * qs.length ≤ 19 * qs.length := Nat.mul_le_mul_right _ (by omega)
        omega
      subst_eqs
      have o1 := hs q (List.mem_of_getElem? hq)
      have o2 := hs' q' (List.mem_of_getElem? hq')
      have sq := o1.bt hB hBe (by omega)
      have sq' := o2.bt hC hCe (by omega)
      refine ⟨_, SqT.of upd_same, rfl, _, _, rfl, _, _, rfl, rfl, _, rfl, _, SqL.of e5, _, (by rw [ec]; exact atI_nat hv), ?_⟩
      refine ⟨_, _, q, q', e, e, rfl, ⟨px, rfl, SqT.of (st _ _ (s4 _ _ hpx))⟩, ⟨py, rfl, SqT.of (st _ _ (s4 _ _ hpy))⟩, sq, sq', by omega, fun r1 H5 s5 er1 => ?_⟩
      have bold := b4 _ (List.getElem_mem hF)
      refine ⟨_, _, _, _, e, e, rfl, ⟨pv, rfl, SqT.of (s5 _ _ hpv)⟩, ⟨r1, rfl, SqT.of er1⟩, bold.bt hBCp hBC (by omega), (o1.mul o2).bt hBCp hBC (by omega), by omega, fun r2 H6 s6 er2 => ?_⟩
      have e6 := s6 _ _ (s5 _ _ e5)
      have lz : zs4.length = (innerN 0 (outerN 0 (List.replicate (ps.length + qs.length - 1) (0 : Rat)) ps qs i) i q qs j).length := n4.length
      have n6 : Nums H6 zs4 (innerN 0 (outerN 0 (List.replicate (ps.length + qs.length - 1) (0 : Rat)) ps qs i) i q qs j) := ((n4.mono st.tups).mono s5.tups).mono s6.tups
      have estep : innerN 0 (outerN 0 (List.replicate (ps.length + qs.length - 1) (0 : Rat)) ps qs i) i q qs (j + 1) = addAt (innerN 0 (outerN 0 (List.replicate (ps.length + qs.length - 1) (0 : Rat)) ps qs i) i q qs j) (i + j) (q * q') := by
        rw [innerN, hq']; rfl
      refine ⟨_, rfl, _, e6, i + j, ?_, (s4.trans (st.trans (s5.trans s6))).over hlH _, _, upd_same, ?_, ?_⟩
      · rw [ec]
        unfold ixN
        rw [if_pos (by omega), if_pos (by rw [lz]; omega)]
        rfl
      · rw [estep, ← addAt_set _ _ _ _ eg]
        exact (n6.set (i + j) er2).mono (TupS.lst e6)
      · rw [estep]
        intro v hv'
        exact (addAt_ovb hBCp b4 ((o1.mul o2).mono (by omega)) v hv').mono (by omega)
    · rintro σ H4 ⟨o5, o6, rfl, s4, zs4, e4, n4, b4⟩
      refine ⟨_, _, _, _, rfl, s4, zs4, e4, ?_, ?_⟩
      · rw [ly] at n4
        rw [outerN, hq]; exact n4
      · rw [ly] at b4
        rw [outerN, hq]
        intro v hv
        refine (b4 v hv).mono ?_
        have e : (i + 1) * qs.length = i * qs.length + qs.length := by grind
        omega
  · rintro σ H2 ⟨o3, o4, o5, o6, rfl, s2, zs, e2, n2, b2⟩
    rw [lx] at n2 b2
    have em : mulQ ps qs = outerN 0 (List.replicate (ps.length + qs.length - 1) 0) ps qs ps.length := by rw [mulQ, if_neg (by simp [np, nq])]
    rw [← em] at n2 b2
    refine ⟨_, rfl, l, zs, _, rfl, SqL.of e2, n2, fun m r H3 tl s3 hr' e3 => ?_⟩
    refine k m r _ _ tl (fun v hv => (b2 v hv).mono ?_) (s2.trans s3) (s2.free hr') e3 ((n2.take m).mono s3.tups)
    have : ps.length * qs.length ≤ 20 * 20 := Nat.mul_le_mul hl hl'
    omega
end
theorem OvB.up {B W : Nat} {q : Rat} (h : OvB B W q) (hB : 0 < B) {C c : Nat} (hC : 0 < C) (hc : C < 2 ^ c) : OvB (B * C) (W + c) q := by
  obtain ⟨v, rfl, b⟩ := h
  refine ⟨v * C, ?_, ?_⟩
  · rw [Int.natCast_mul]
    refine (Rat.divInt_eq_divInt_iff (by omega) (Int.mul_ne_zero (by omega) (by omega))).mpr ?_
    grind
  · rw [Int.natAbs_mul, Int.natAbs_natCast, Nat.pow_add]
    exact Nat.mul_lt_mul'' b hc
theorem cl_of_ovb {B W : Nat} (hB : 0 < B) (hW : B < 2 ^ W) {qs : List Rat} (h : ∀ x ∈ qs, OvB B W x) : ClN W qs := by
  have : ∃ vs : List Int, qs = scl (Rat.divInt 1 B) vs ∧ ∀ v ∈ vs, Int.natAbs v < 2 ^ W := by
    induction qs with
    | nil => exact ⟨[], rfl, by simp⟩
    | cons q qs ih =>
      obtain ⟨vs, e, hv⟩ := ih fun x hx => h x (List.mem_cons_of_mem _ hx)
      obtain ⟨v, e2, b⟩ := h q List.mem_cons_self
      refine ⟨v :: vs, ?_, fun u hu => ?_⟩
      · rw [e]
        show q :: _ = (Rat.divInt 1 B * (v : Rat)) :: _
        rw [one_over, ← e2]; rfl
      · rcases List.mem_cons.mp hu with z | z
        · rw [z]; exact b
        · exact hv u z
  obtain ⟨vs, rfl, hv⟩ := this
  exact cl_of_scl hB hW hv
def DueOk (u : Addr) (H : Hp) (v : V) (ps qs : List Rat) : Prop := v = .non ∨ ∃ td l1 l2 zs1 zs2 g0 g1, v = .ref td ∧ td ≠ u ∧ H td = some (.tup [.ref l1, .ref l2]) ∧ LsX u H l1 zs1 g0 ∧ LsX u H l2 zs2 g1 ∧ IsTl g0 g0.length ∧ IsTl g1 g1.length ∧ g1.length < qs.length ∧ ∀ k, aQ ps k = cv (aQ qs) (aQ g0) k + aQ g1 k
structure PairOk (u : Addr) (H : Hp) (ap aq : Addr) (due : V) (xs ys : List V) (ps qs : List Rat) (S W1 W2 : Nat) : Prop where
  lp : LsX u H ap xs ps
  lq : LsX u H aq ys qs
  tp : IsTl ps ps.length
  tq : IsTl qs qs.length
  q0 : qs ≠ []
  c1 : ClN W1 ps
  c2 : ClN W2 qs
  w1 : 1 ≤ W1
  w2 : 1 ≤ W2
  w3 : W2 ≤ 690
  t : W1 + S * (W2 + 1) + W2 ≤ 2300
  s : ps.length + 1 ≤ qs.length + S
  pl : ps.length ≤ 16
  ql : qs.length ≤ 16
  due : DueOk u H due ps qs
theorem zc_aQ (ws : List Int) : zc ws = aQ (scl 1 ws) := by
  rw [aQ_scl]; funext k
  show _ = 1 * zc ws k
  grind
def dl : Nat → Rat := fun k => if k = 0 then 1 else 0
theorem ovb_sum {B W : Nat} (hB : 0 < B) {f : Nat → Rat} (h : ∀ i, OvB B W (f i)) : ∀ n, OvB B (W + n) (sumTo f n)
  | 0 => OvB.zero _ _
  | n + 1 => ((ovb_sum hB h n).add hB ((h n).mono (by omega))).mono (by omega)
theorem php : ∀ (m n : Nat) (f : Nat → Nat), (∀ i, i < n → f i < m) → m < n → ∃ i j, i < j ∧ j < n ∧ f i = f j
  | 0, n, f, hf, h => absurd (hf 0 h) (by omega)
  | m + 1, 0, f, hf, h => by omega
  | m + 1, n + 1, f, hf, h => by
    by_cases c : ∃ i, i < n ∧ f i = f n
    · obtain ⟨i, hi, e⟩ := c
      exact ⟨i, n, hi, by omega, e⟩
    · have hn := hf n (by omega)
      have ne : ∀ i, i < n → f i ≠ f n := fun i hi e => c ⟨i, hi, e⟩
      obtain ⟨i, j, h1, h2, h3⟩ := php m n (fun i => if f i < f n then f i else f i - 1) (fun i hi => by
        have := hf i (by omega)
        have := ne i hi
        show (if f i < f n then f i else f i - 1) < m
        split <;> omega) (by omega)
      refine ⟨i, j, h1, by omega, ?_⟩
      have a := ne i (by omega)
      have b := ne j h2
      split at h3 <;> split at h3 <;> omega
def cod (b : Nat) (y : Nat → Nat) : Nat → Nat
  | 0 => 0
  | M + 1 => y 0 + b * cod b (fun e => y (e + 1)) M
def dig (b t : Nat) : Nat → Nat
  | 0 => t % b
  | i + 1 => dig b (t / b) i
theorem dig_lt {b : Nat} (hb : 0 < b) : ∀ i t, dig b t i < b
  | 0, t => Nat.mod_lt _ hb
  | i + 1, t => dig_lt hb i (t / b)
theorem cod_dig {b : Nat} (hb : 0 < b) : ∀ N t, t < b ^ N → cod b (dig b t) N = t
  | 0, t, h => by simp at h; rw [h]; rfl
  | N + 1, t, h => by
    have h1 : t / b < b ^ N := by rw [Nat.pow_succ] at h; exact Nat.div_lt_of_lt_mul (by rw [Nat.mul_comm]; exact h)
    have ih := cod_dig hb N (t / b) h1
    show t % b + b * cod b (dig b (t / b)) N = t
    rw [ih]
    exact Nat.mod_add_div t b
theorem cod_lt {b : Nat} : ∀ M (y : Nat → Nat), (∀ e, e < M → y e < b) → cod b y M < b ^ M
  | 0, y, h => by simp [cod]
  | M + 1, y, h => by
    have ih := cod_lt M (fun e => y (e + 1)) fun e he => h (e + 1) (by omega)
    have h0 := h 0 (by omega)
    show y 0 + b * cod b (fun e => y (e + 1)) M < b ^ (M + 1)
    rw [Nat.pow_succ, Nat.mul_comm (b ^ M)]
    have : b * (cod b (fun e => y (e + 1)) M + 1) ≤ b * b ^ M := Nat.mul_le_mul_left _ ih
    rw [Nat.mul_add] at this
    omega
theorem cod_inj {b : Nat} (hb : 0 < b) : ∀ M (y z : Nat → Nat), (∀ e, e < M → y e < b) → (∀ e, e < M → z e < b) → cod b y M = cod b z M → ∀ e, e < M → y e = z e
  | 0, _, _, _, _, _, e, he => by omega
  | M + 1, y, z, hy, hz, h, e, he => by
    have h' : y 0 + b * cod b (fun e => y (e + 1)) M = z 0 + b * cod b (fun e => z (e + 1)) M := h
    have y0 := hy 0 (by omega)
    have z0 := hz 0 (by omega)
    have m1 := congrArg (· % b) h'
    simp only [Nat.add_mul_mod_self_left, Nat.mod_eq_of_lt y0, Nat.mod_eq_of_lt z0] at m1
    have m2 : cod b (fun e => y (e + 1)) M = cod b (fun e => z (e + 1)) M := by
      rw [m1] at h'
      exact Nat.eq_of_mul_eq_mul_left hb (by omega)
    cases e with
    | zero => exact m1
    | succ e => exact cod_inj hb M (fun e => y (e + 1)) (fun e => z (e + 1)) (fun e he => hy (e + 1) (by omega)) (fun e he => hz (e + 1) (by omega)) m2 e (by omega)
def sZ (f : Nat → Int) : Nat → Int
  | 0 => 0
  | n + 1 => sZ f n + f n
theorem sZ_sub (f g : Nat → Int) : ∀ n, sZ (fun i => f i - g i) n = sZ f n - sZ g n
  | 0 => rfl
  | n + 1 => by rw [sZ, sZ_sub f g n, sZ, sZ]; omega
theorem sZ_congr {f g : Nat → Int} : ∀ {n}, (∀ i, i < n → f i = g i) → sZ f n = sZ g n
  | 0, _ => rfl
  | n + 1, h => by rw [sZ, sZ, sZ_congr fun i hi => h i (by omega), h n (by omega)]
theorem sZ_le {f : Nat → Int} {C : Nat} : ∀ {n}, (∀ i, i < n → (f i).natAbs ≤ C) → (sZ f n).natAbs ≤ n * C
  | 0, _ => by simp [sZ]
  | n + 1, h => by
    have ih := sZ_le (n := n) fun i hi => h i (by omega)
    have h1 := h n (by omega)
    rw [sZ, Nat.succ_mul]
    omega
theorem siegel (A : Nat → Nat → Int) {M N B : Nat} (hA : ∀ e, e < M → ∀ i, i < N → (A e i).natAbs ≤ B) (hN : M < N) (hB : 1 ≤ B) :
    ∃ d : Nat → Int, (∃ i, i < N ∧ d i ≠ 0) ∧ (∀ i, i < N → (d i).natAbs ≤ (2 * N * B) ^ M) ∧ ∀ e, e < M → sZ (fun i => A e i * d i) N = 0 := by
  obtain ⟨c, hc⟩ : ∃ c, c = 2 * N * B := ⟨_, rfl⟩
  have c1 : 1 ≤ c := by
    rw [hc]
    have : 1 * 1 ≤ 2 * N * B := Nat.mul_le_mul (by omega) hB
    omega
  obtain ⟨X, hX⟩ : ∃ X, X = c ^ M := ⟨_, rfl⟩
  have hb : 0 < c * (X + 1) := Nat.mul_pos (by omega) (by omega)
  obtain ⟨L, hL⟩ : ∃ L : Nat → Nat → Int, ∀ t e, L t e = sZ (fun i => A e i * (dig (X + 1) t i : Int)) N := ⟨_, fun _ _ => rfl⟩
  have Lb : ∀ t e, e < M → (L t e).natAbs ≤ N * (B * X) := fun t e he => by
    rw [hL]
    refine sZ_le fun i hi => ?_
    rw [Int.natAbs_mul, Int.natAbs_natCast]
    have := dig_lt (b := X + 1) (by omega) i t
    exact Nat.mul_le_mul (hA e he i hi) (by omega)
  have yb : ∀ t e, e < M → (L t e + (N * (B * X) : Nat)).toNat < c * (X + 1) := fun t e he => by
    have := Lb t e he
    have e1 : c * (X + 1) = 2 * (N * (B * X)) + c := by
      rw [hc, Nat.mul_add, Nat.mul_one]
      have : 2 * N * B * X = 2 * (N * (B * X)) := by rw [Nat.mul_assoc, Nat.mul_assoc]
      omega
    omega
  have big : (c * (X + 1)) ^ M < (X + 1) ^ N := by
    rw [Nat.mul_pow]
    have h1 : c ^ M * (X + 1) ^ M < (X + 1) * (X + 1) ^ M := Nat.mul_lt_mul_of_pos_right (by omega) (Nat.pow_pos (by omega))
    have h2 : (X + 1) * (X + 1) ^ M = (X + 1) ^ (M + 1) := by rw [Nat.pow_succ, Nat.mul_comm]
    have h3 : (X + 1) ^ (M + 1) ≤ (X + 1) ^ N := Nat.pow_le_pow_right (by omega) (by omega)
    omega
  obtain ⟨t1, t2, h12, h2n, he⟩ := php _ _ (fun t => cod (c * (X + 1)) (fun e => (L t e + (N * (B * X) : Nat)).toNat) M) (fun t _ => cod_lt M _ fun e he => yb t e he) big
  have heq : ∀ e, e < M → L t1 e = L t2 e := fun e hee => by
    have := cod_inj hb M _ _ (fun e he => yb t1 e he) (fun e he => yb t2 e he) he e hee
    have b1 := Lb t1 e hee
    have b2 := Lb t2 e hee
    omega
  refine ⟨fun i => (dig (X + 1) t1 i : Int) - (dig (X + 1) t2 i : Int), ?_, fun i hi => ?_, fun e hee => ?_⟩
  · refine Classical.byContradiction fun z => ?_
    have alle : ∀ i, i < N → dig (X + 1) t1 i = dig (X + 1) t2 i := fun i hi => by
      refine Classical.byContradiction fun w => z ⟨i, hi, ?_⟩
      show (dig (X + 1) t1 i : Int) - (dig (X + 1) t2 i : Int) ≠ 0
      omega
    have cc : ∀ (N : Nat) (y z : Nat → Nat), (∀ i, i < N → y i = z i) → cod (X + 1) y N = cod (X + 1) z N := by
      intro N
      induction N with
      | zero => intro _ _ _; rfl
      | succ N ih => intro y z h; show y 0 + _ * _ = z 0 + _ * _; rw [h 0 (by omega), ih _ _ fun i hi => h (i + 1) (by omega)]
    have e1 := cod_dig (b := X + 1) (by omega) N t1 (by omega)
    have e2 := cod_dig (b := X + 1) (by omega) N t2 h2n
    rw [cc N _ _ alle] at e1
    omega
  · have d1 := dig_lt (b := X + 1) (by omega) i t1
    have d2 := dig_lt (b := X + 1) (by omega) i t2
    show ((dig (X + 1) t1 i : Int) - (dig (X + 1) t2 i : Int)).natAbs ≤ (2 * N * B) ^ M
    rw [← hc, ← hX]
    omega
  · have := heq e hee
    rw [hL, hL] at this
    have e2 : sZ (fun i => A e i * ((dig (X + 1) t1 i : Int) - (dig (X + 1) t2 i : Int))) N = sZ (fun i => A e i * (dig (X + 1) t1 i : Int) - A e i * (dig (X + 1) t2 i : Int)) N := sZ_congr fun i _ => by rw [Int.mul_sub]
    rw [e2, sZ_sub, this]; omega
theorem cv_first (f g : Nat → Rat) (k : Nat) : cv f g (k + 1) = f 0 * g (k + 1) + cv (fun i => f (i + 1)) g k := by
  unfold cv
  rw [sumTo_first]
  congr 1
  exact sumTo_congr fun i _ => by rw [show k + 1 - (i + 1) = k - i by omega]
theorem cvf_comm (f g : Nat → Rat) (k : Nat) : cv f g k = cv g f k := by
  unfold cv
  rw [sumTo_reflect]
  exact sumTo_congr fun i hi => by
    rw [show k + 1 - 1 - i = k - i by omega, show k - (k - i) = i by omega]; grind
theorem cv_congr {f g h l : Nat → Rat} {k : Nat} (a : ∀ i, i ≤ k → f i = g i) (b : ∀ i, i ≤ k → h i = l i) : cv f h k = cv g l k :=
  sumTo_congr fun i hi => by rw [a i (by omega), b (k - i) (by omega)]
theorem cv_at0 (f g : Nat → Rat) : cv f g 0 = f 0 * g 0 := by
  show (0 : Rat) + f 0 * g 0 = _
  grind
theorem cv_assoc : ∀ (k : Nat) (f g h : Nat → Rat), cv (cv f g) h k = cv f (cv g h) k
  | 0, f, g, h => by rw [cv_at0, cv_at0, cv_at0, cv_at0]; grind
  | k + 1, f, g, h => by
    rw [cv_first, cv_first f]
    have e1 : cv (fun i => cv f g (i + 1)) h k = cv (fun i => f 0 * g (i + 1) + cv (fun i => f (i + 1)) g i) h k := cv_congr (fun i _ => cv_first f g i) fun _ _ => rfl
    rw [e1, cv_add (fun i => f 0 * g (i + 1)) (cv (fun i => f (i + 1)) g), cv_mul (f 0) (fun i => g (i + 1)), cv_assoc k, cv_first g]
    rw [cv_at0]; grind
theorem cv_zero {f : Nat → Rat} (h : ∀ k, f k = 0) (g : Nat → Rat) (k : Nat) : cv f g k = 0 := sumTo_zero _ fun i _ => by rw [h]; grind
def Dg (f : Nat → Rat) (n : Nat) : Prop := ∀ k, n ≤ k → f k = 0
theorem Dg.cv {f g : Nat → Rat} {m n : Nat} (hf : Dg f m) (hg : Dg g n) : Dg (cv f g) (m + n - 1) := fun k hk => sumTo_zero _ fun i hi => by
  by_cases h : m ≤ i
  · rw [hf i h]; grind
  · rw [hg (k - i) (by omega)]; grind
theorem dg_back {f B : Nat → Rat} {nf n N : Nat} (hf : Dg f nf) (hB : Dg B (n + 1)) (hn : B n ≠ 0) (h : Dg (cv f B) N) : Dg f (N - n) := by
  have key : ∀ j, ∀ k, nf - j ≤ k → N - n ≤ k → f k = 0 := by
    intro j
    induction j with
    | zero => intro k hk _; exact hf k (by omega)
    | succ j ih =>
      intro k hk hN
      by_cases h1 : nf - j ≤ k
      · exact ih k h1 hN
      have e := h (k + n) (by omega)
      have one : cv f B (k + n) = f k * B n := by
        unfold R.cv
        have : sumTo (fun i => f i * B (k + n - i)) (k + n + 1) = sumTo (fun i => if i = k then f k * B n else 0) (k + n + 1) := sumTo_congr fun i _ => by
          by_cases z : i = k
          · rw [if_pos z, z, Nat.add_sub_cancel_left]
          · rw [if_neg z]
            by_cases y : i < k
            · rw [hB _ (by omega)]; grind
            · rw [ih i (by omega) (by omega)]; grind
        rw [this, sumTo_single, if_pos (by omega)]
      rw [one] at e
      have := Rat.mul_inv_cancel _ hn
      generalize (B n)⁻¹ = u at this
      generalize B n = y at *
      grind
  exact fun k hk => key nf k (by omega) hk
structure Eu (p q A B : Nat → Rat) (lp lq la lb : Nat) : Prop where
  inv : ∀ m, m < la → ∀ u v, Dg u (lq - m) → Dg v (lp - m) → Dg (fun k => cv u p k + cv v q k) m →
    ∃ a b, (∀ k, cv u p k + cv v q k = cv a A k + cv b B k) ∧ Dg a (lb - m) ∧ Dg b (la - m) ∧ ((∀ k, a k = 0) → (∀ k, b k = 0) → ∀ k, u k = 0 ∧ v k = 0)
  le : la ≤ max lp lq
theorem sumTo_split (f : Nat → Rat) (n : Nat) : ∀ m, sumTo f (n + m) = sumTo f n + sumTo (fun i => f (n + i)) m
  | 0 => by simp only [sumTo, Nat.add_zero]; grind
  | m + 1 => by rw [← Nat.add_assoc, sumTo, sumTo_split f n m, sumTo]; grind
theorem cast_sZ (f : Nat → Int) : ∀ n, ((sZ f n : Int) : Rat) = sumTo (fun i => (f i : Rat)) n
  | 0 => by simp [sZ, sumTo, Rat.intCast_zero]
  | n + 1 => by rw [sZ, sumTo, Rat.intCast_add, cast_sZ f n]
theorem cv_supp {u : Nat → Rat} {n : Nat} (hu : Dg u n) (p : Nat → Rat) (k : Nat) : cv u p k = sumTo (fun i => u i * if i ≤ k then p (k - i) else 0) n := by
  unfold cv
  rw [← sumTo_more (f := fun i => u i * if i ≤ k then p (k - i) else 0) (m := n) (n := max n (k + 1)) (by omega) (fun i hi _ => by rw [hu i hi]; grind),
    sumTo_more (f := fun i => u i * if i ≤ k then p (k - i) else 0) (m := k + 1) (n := max n (k + 1)) (by omega) (fun i hi _ => by rw [if_neg (by omega)]; grind)]
  exact sumTo_congr fun i hi => by rw [if_pos (by omega)]
theorem dvd_gcdL {d : Nat} : ∀ (ws : List Int) (c : Nat), d ∣ c → (∀ w ∈ ws, (d : Int) ∣ w) → d ∣ ws.foldl (fun c w => Int.gcd w c) c
  | [], c, h, _ => h
  | w :: r, c, h, hw => dvd_gcdL r _ (Int.dvd_gcd (hw w List.mem_cons_self) (by exact Int.natCast_dvd_natCast.mpr h)) fun x hx => hw x (List.mem_cons_of_mem _ hx)
theorem prim_le {b : Rat} (hb : b ≠ 0) {ws : List Int} (hg : gcdL ws = 1) {s : Nat → Int} (h : ∀ k, (s k : Rat) = b * zc ws k) : ∀ k, (aZ ws k).natAbs ≤ (s k).natAbs := by
  have e : ∀ k, (b.den : Int) * s k = b.num * aZ ws k := fun k => by
    have h1 := h k
    have h2 : (b.den : Rat) * b = (b.num : Rat) := by
      have h3 : (b.den : Rat) ≠ 0 := fun w => b.den_nz (Rat.natCast_inj.mp (by rw [w]; rfl))
      have h4 : b = (b.num : Rat) / (b.den : Rat) := by
        have := Rat.num_divInt_den b
        rw [Rat.divInt_eq_div] at this
        exact this.symm
      have h5 := Rat.mul_inv_cancel _ h3
      rw [Rat.div_def] at h4
      generalize (b.den : Rat) = y at *
      generalize y⁻¹ = z at *
      generalize (b.num : Rat) = n at *
      grind
    have h3 : (((b.den : Int) * s k : Int) : Rat) = ((b.num * aZ ws k : Int) : Rat) := by
      rw [Rat.intCast_mul, Rat.intCast_mul, h1, Rat.intCast_natCast]
      unfold zc
      grind
    exact Rat.intCast_inj.mp h3
  have d1 : b.den = 1 := by
    have : b.den ∣ gcdL ws := dvd_gcdL ws 0 (Nat.dvd_zero _) fun w hw => by
      obtain ⟨k, hk, ek⟩ := List.getElem_of_mem hw
      have h1 := e k
      have h2 : aZ ws k = w := by unfold aZ; rw [List.getElem?_eq_getElem hk, ek]; rfl
      rw [h2] at h1
      have : (b.den : Int) ∣ b.num * w := ⟨s k, by rw [← h1]⟩
      have h3 : b.den ∣ b.num.natAbs * w.natAbs := by
        have := Int.natAbs_dvd_natAbs.mpr this
        rw [Int.natAbs_natCast, Int.natAbs_mul] at this
        exact this
      exact Int.natAbs_dvd_natAbs.mp (by rw [Int.natAbs_natCast]; exact Nat.Coprime.dvd_of_dvd_mul_left (Nat.Coprime.symm b.reduced) h3)
    rw [hg] at this
    exact Nat.dvd_one.mp this
  intro k
  have h1 := e k
  rw [d1] at h1
  have n0 : b.num ≠ 0 := fun w => hb (Rat.num_eq_zero.mp w)
  have h2 : s k = b.num * aZ ws k := by rw [← h1]; simp
  rw [h2, Int.natAbs_mul]
  exact Nat.le_mul_of_pos_left _ (by omega)
def sgd (i : Nat) : Rat := if i % 2 = 0 then 1 else -1
abbrev Mt := Nat → Nat → Rat
def mn (M : Mt) (i : Nat) : Mt := fun r c => M (if r < i then r else r + 1) (c + 1)
def dt : Nat → Mt → Rat
  | 0, _ => 1
  | n + 1, M => sumTo (fun i => sgd i * M i 0 * dt n (mn M i)) (n + 1)
def IsI (q : Rat) : Prop := ∃ z : Int, q = (z : Rat)
def hz (A B : Nat → Rat) : Mt := fun i c => if c < i / 2 then 0 else if i % 2 = 0 then B (c - i / 2) else A (c - i / 2)
def behind (A B : Nat → Rat) : Nat → Rat := fun j => B 0 * A (j + 1) - A 0 * B (j + 1)
def hm (A B : Nat → Rat) (m : Nat) : Mt := fun i c => if i % 2 = 1 ∧ i < m then B 0 * hz A B i c - A 0 * hz A B (i - 1) c else hz A B i c
structure Pos (n : Nat) (g : Nat → Nat → Rat) : Prop where
  p : ∀ i, i ≤ n → 0 < g i 0
  s : ∀ i, 1 ≤ i → i < n → ∀ j, g i 0 * g (i - 1) j = g i 0 * g (i + 1) (j + 1) - g (i + 1) 0 * g i (j + 1)
  l : 1 ≤ n → ∀ j, g 0 0 * g 1 (j + 1) - g 1 0 * g 0 (j + 1) = 0
  z : ∀ i j, i ≤ n → i < 2 * j → g i j = 0
def sh (C : Nat → Rat) : Nat → Rat
  | 0 => 0
  | j + 1 => C j
inductive Hs : Nat → (Nat → Rat) → (Nat → Rat) → Prop where
  | base {A B : Nat → Rat} (h0 : A 0 ≠ 0) (hA : ∀ j, A (j + 1) = 0) (hB : ∀ j, B j = 0) : Hs 0 A B
  | step {n : Nat} {A B C : Nat → Rat} {a : Rat} (ha : 0 < a) (hA : ∀ j, A j = a * B j + sh C j) (h : Hs n B C) : Hs (n + 1) A B
theorem rsq (x : Rat) : 0 ≤ x * x := by
  rcases Rat.le_total (a := 0) (b := x) with h | h
  · exact Rat.mul_nonneg h h
  · have : x * x = (-x) * (-x) := by grind
    rw [this]
    exact Rat.mul_nonneg (by grind) (by grind)
abbrev Cz := Rat × Rat
def bF (c x : Nat) : Nat := (c + 1) * (x * (x + 1))
theorem gcdL_over {ws vs : List Int} {g : Nat} (hg : gcdL ws = g) (h0 : g ≠ 0) (hl : vs.length = ws.length) (h : ∀ k, aZ ws k = (g : Int) * aZ vs k) : gcdL vs = 1 := by
  have hd : (g * gcdL vs) ∣ gcdL ws := dvd_gcdL ws 0 (Nat.dvd_zero _) fun w hw => by
    obtain ⟨k, hk, ek⟩ := List.getElem_of_mem hw
    have h1 := h k
    have h2 : aZ ws k = w := by unfold aZ; rw [List.getElem?_eq_getElem hk, ek]; rfl
    have h3 : aZ vs k = vs[k]'(by omega) := by unfold aZ; rw [List.getElem?_eq_getElem (by omega)]; rfl
    rw [h2, h3] at h1
    rw [h1]
    obtain ⟨e, he⟩ := gcdL_dvd (List.getElem_mem (h := by omega) : vs[k]'(by omega) ∈ vs)
    exact ⟨e, by rw [he, Int.natCast_mul]; grind⟩
  rw [hg] at hd
  obtain ⟨e, he⟩ := hd
  have : g * 1 = g * (gcdL vs * e) := by rw [Nat.mul_one, ← Nat.mul_assoc]; exact he
  have := Nat.eq_of_mul_eq_mul_left (by omega) this
  exact Nat.dvd_one.mp ⟨e, this⟩
structure SgS (c d0 L K : Nat) (P0 Q0 : List Int) (s t : Rat) (A B : List Int) : Prop where
  tA : IsTz A A.length
  tB : IsTz B B.length
  lA : A.length ≤ L
  lB : B.length < A.length
  gB : B ≠ [] → gcdL B = 1
  eu : Eu (zc P0) (zc Q0) (zc A) (zc B) P0.length Q0.length A.length B.length
  s0 : s ≠ 0
  t0 : t ≠ 0
  wA : ∀ k, (aZ A k).natAbs < 2 ^ (c * (2 * (L - A.length) + 1))
  wB : ∀ k, (aZ B k).natAbs < 2 ^ (c * (2 * (L - A.length) + 1))
  sd : s.den < 2 ^ (d0 + bF c (L - A.length - 1))
  sn : s.num.natAbs < 2 ^ (d0 + 2 * bF c (L - A.length - 1))
  td : t.den < 2 ^ (d0 + bF c (L - A.length))
  tn : t.num.natAbs < 2 ^ (d0 + 2 * bF c (L - A.length))
theorem tz_lead {B : List Int} (t : IsTz B B.length) (h : 0 < B.length) : aZ B (B.length - 1) ≠ 0 := by
  have := t.last (by omega) _ (List.getElem?_eq_getElem (by omega))
  unfold aZ
  rw [List.getElem?_eq_getElem (by omega)]
  exact this
theorem zc_dg (B : List Int) : Dg (zc B) B.length := fun k hk => by
  unfold zc aZ
  rw [List.getElem?_eq_none hk]
  exact Rat.intCast_zero
theorem zc_ne {B : List Int} {k : Nat} (h : aZ B k ≠ 0) : zc B k ≠ 0 := fun w => h (Rat.intCast_inj.mp (by unfold zc at w; rw [w, Rat.intCast_zero]))
def FmX (K : PySem.W.Frag) (D : Addr) (H : Hp) (r : Addr) (s : Rat) (ws : List Int) : Prop := ∃ rs l, SqT K H r [.ref rs, .ref l] ∧ SqT K H rs (numV s) ∧ H l = some (.lst (ws.map V.int)) ∧ l ≠ D
inductive Fms (K : PySem.W.Frag) (D : Addr) (H : Hp) : List V → List (Rat × List Int) → Prop where
  | nil : Fms K D H [] []
  | cons {r : Addr} {s : Rat} {ws : List Int} {xs : List V} {fs : List (Rat × List Int)} (h : FmX K D H r s ws) (t : Fms K D H xs fs) : Fms K D H (.ref r :: xs) ((s, ws) :: fs)
theorem prim_int {b : Rat} {ws : List Int} (hg : gcdL ws = 1) {s : Nat → Int} (h : ∀ k, (s k : Rat) = b * zc ws k) : ∃ g : Int, b = (g : Rat) := by
  have hb2 : (b.den : Rat) * b = (b.num : Rat) := by
    have h3 : (b.den : Rat) ≠ 0 := fun w => b.den_nz (Rat.natCast_inj.mp (by rw [w]; rfl))
    have h4 : b = (b.num : Rat) / (b.den : Rat) := by
      have := Rat.num_divInt_den b
      rw [Rat.divInt_eq_div] at this
      exact this.symm
    have h5 := Rat.mul_inv_cancel _ h3
    rw [Rat.div_def] at h4
    generalize (b.den : Rat) = y at *
    generalize y⁻¹ = z at *
    generalize (b.num : Rat) = n at *
    grind
  have e : ∀ k, (b.den : Int) * s k = b.num * aZ ws k := fun k => by
    have h1 := h k
    have h3 : (((b.den : Int) * s k : Int) : Rat) = ((b.num * aZ ws k : Int) : Rat) := by
      rw [Rat.intCast_mul, Rat.intCast_mul, h1, Rat.intCast_natCast]
      unfold zc
      grind
    exact Rat.intCast_inj.mp h3
  have d1 : b.den = 1 := by
    have : b.den ∣ gcdL ws := dvd_gcdL ws 0 (Nat.dvd_zero _) fun w hw => by
      obtain ⟨k, hk, ek⟩ := List.getElem_of_mem hw
      have h1 := e k
      have h2 : aZ ws k = w := by unfold aZ; rw [List.getElem?_eq_getElem hk, ek]; rfl
      rw [h2] at h1
      have : (b.den : Int) ∣ b.num * w := ⟨s k, by rw [← h1]⟩
      have h3 : b.den ∣ b.num.natAbs * w.natAbs := by
        have := Int.natAbs_dvd_natAbs.mpr this
        rw [Int.natAbs_natCast, Int.natAbs_mul] at this
        exact this
      exact Int.natAbs_dvd_natAbs.mp (by rw [Int.natAbs_natCast]; exact Nat.Coprime.dvd_of_dvd_mul_left (Nat.Coprime.symm b.reduced) h3)
    rw [hg] at this
    exact Nat.dvd_one.mp this
  refine ⟨b.num, ?_⟩
  rw [← hb2, d1]
  show b = ((1 : Nat) : Rat) * b
  have : ((1 : Nat) : Rat) = 1 := rfl
  rw [this]; grind
theorem aZ_mem {ws : List Int} {X : Nat} (h : ∀ k, (aZ ws k).natAbs < X) : ∀ v ∈ ws, Int.natAbs v < X := fun v hv => by
  obtain ⟨k, hk, ek⟩ := List.getElem_of_mem hv
  have h2 : aZ ws k = v := by unfold aZ; rw [List.getElem?_eq_getElem hk, ek]; rfl
  rw [← h2]; exact h k
theorem cl_mulk {B W : Nat} {q : Rat} (h : OvB B W q) {k : Nat} (hk : k < 16) : OvB B (W + 4) (((k : Int) : Rat) * q) := by
  obtain ⟨v, e, b⟩ := h
  refine ⟨(k : Int) * v, ?_, ?_⟩
  · rw [e, Rat.divInt_eq_div, Rat.divInt_eq_div, Rat.div_def, Rat.div_def, Rat.intCast_mul]; grind
  · rw [Int.natAbs_mul, Int.natAbs_natCast, Nat.pow_add, Nat.mul_comm (2 ^ W)]
    exact Nat.mul_lt_mul'' hk b
structure Pf where
  f : Nat → Rat
theorem Pf.ext {a b : Pf} (h : ∀ k, a.f k = b.f k) : a = b := by
  cases a; cases b; congr 1; exact funext h
def pCst (c : Rat) : Pf := ⟨fun k => if k = 0 then c else 0⟩
def pMul (a b : Pf) : Pf := ⟨cv a.f b.f⟩
def pPow (a : Pf) : Nat → Pf
  | 0 => pCst 1
  | n + 1 => pMul (pPow a n) a
theorem cv_cst (c : Rat) (h : Nat → Rat) (k : Nat) : cv (fun k => if k = 0 then c else 0) h k = c * h k := by
  rw [cv_single, if_pos (by omega), Nat.sub_zero]
theorem pCst_mul (c : Rat) (a : Pf) (k : Nat) : (pMul (pCst c) a).f k = c * a.f k := cv_cst c a.f k
instance instPf : Lean.Grind.CommRing Pf where
  add a b := ⟨fun k => a.f k + b.f k⟩
  mul := pMul
  neg a := ⟨fun k => - a.f k⟩
  sub a b := ⟨fun k => a.f k - b.f k⟩
  natCast := ⟨fun n => pCst n⟩
  ofNat n := ⟨pCst n⟩
  intCast := ⟨fun n => pCst n⟩
  nsmul := ⟨fun n a => pMul (pCst n) a⟩
  zsmul := ⟨fun n a => pMul (pCst n) a⟩
  npow := ⟨pPow⟩
  add_zero a := Pf.ext fun k => by
    show a.f k + (if k = 0 then ((0 : Nat) : Rat) else 0) = a.f k
    have : ((0 : Nat) : Rat) = 0 := rfl
    rw [this]; split <;> grind
  add_comm a b := Pf.ext fun k => by show a.f k + b.f k = b.f k + a.f k; grind
  add_assoc a b c := Pf.ext fun k => by show a.f k + b.f k + c.f k = a.f k + (b.f k + c.f k); grind
  mul_assoc a b c := Pf.ext fun k => cv_assoc k a.f b.f c.f
  one_mul a := Pf.ext fun k => by
    show cv (fun k => if k = 0 then ((1 : Nat) : Rat) else 0) a.f k = a.f k
    rw [cv_cst]
    have : ((1 : Nat) : Rat) = 1 := rfl
    rw [this]; grind
  right_distrib a b c := Pf.ext fun k => cv_add a.f b.f c.f k
  mul_zero a := Pf.ext fun k => by
    show cv a.f (fun k => if k = 0 then ((0 : Nat) : Rat) else 0) k = (if k = 0 then ((0 : Nat) : Rat) else 0)
    rw [cvf_comm, cv_cst]
    have : ((0 : Nat) : Rat) = 0 := rfl
    rw [this]; split <;> grind
  mul_comm a b := Pf.ext fun k => cvf_comm a.f b.f k
  mul_one a := Pf.ext fun k => by
    show cv a.f (fun k => if k = 0 then ((1 : Nat) : Rat) else 0) k = a.f k
    rw [cvf_comm, cv_cst]
    have : ((1 : Nat) : Rat) = 1 := rfl
    rw [this]; grind
  left_distrib a b c := Pf.ext fun k => by
    show cv a.f (fun k => b.f k + c.f k) k = cv a.f b.f k + cv a.f c.f k
    rw [cvf_comm, cv_add, cvf_comm b.f, cvf_comm c.f]
  zero_mul a := Pf.ext fun k => by
    show cv (fun k => if k = 0 then ((0 : Nat) : Rat) else 0) a.f k = (if k = 0 then ((0 : Nat) : Rat) else 0)
    rw [cv_cst]
    have : ((0 : Nat) : Rat) = 0 := rfl
    rw [this]; split <;> grind
  pow_zero a := Pf.ext fun k => by
    show (if k = 0 then (1 : Rat) else 0) = if k = 0 then ((1 : Nat) : Rat) else 0
    rfl
  pow_succ a n := rfl
  ofNat_succ n := Pf.ext fun k => by
    show (if k = 0 then ((n + 1 : Nat) : Rat) else 0) = (if k = 0 then (n : Rat) else 0) + (if k = 0 then ((1 : Nat) : Rat) else 0)
    split
    · rw [Rat.natCast_add]
    · grind
  neg_add_cancel a := Pf.ext fun k => by
    show - a.f k + a.f k = if k = 0 then ((0 : Nat) : Rat) else 0
    have : ((0 : Nat) : Rat) = 0 := rfl
    rw [this]; split <;> grind
  sub_eq_add_neg a b := Pf.ext fun k => by show a.f k - b.f k = a.f k + - b.f k; grind
  neg_zsmul i a := Pf.ext fun k => by
    show (pMul (pCst ((-i : Int) : Rat)) a).f k = - (pMul (pCst (i : Rat)) a).f k
    rw [pCst_mul, pCst_mul, Rat.intCast_neg]; grind
  intCast_neg i := Pf.ext fun k => by
    show (if k = 0 then ((-i : Int) : Rat) else 0) = - (if k = 0 then (i : Rat) else 0)
    split
    · rw [Rat.intCast_neg]
    · grind
theorem pf_add (a b : Pf) (k : Nat) : (a + b).f k = a.f k + b.f k := rfl
theorem pf_sub (a b : Pf) (k : Nat) : (a - b).f k = a.f k - b.f k := rfl
theorem pf_mul (a b : Pf) (k : Nat) : (a * b).f k = cv a.f b.f k := rfl
theorem pf_c (c : Rat) (a : Pf) (k : Nat) : (pCst c * a).f k = c * a.f k := pCst_mul c a k
theorem pCst_m (c d : Rat) : pCst (c * d) = pCst c * pCst d := Pf.ext fun k => by
  rw [pf_c]
  show (if k = 0 then c * d else 0) = c * (if k = 0 then d else 0)
  split <;> grind
theorem pCst_one : pCst 1 = 1 := Pf.ext fun k => rfl
theorem pCst_inv {c : Rat} (h : c ≠ 0) : pCst c * pCst c⁻¹ = 1 := by rw [← pCst_m, Rat.mul_inv_cancel _ h, pCst_one]
theorem pCst_neg (c : Rat) : pCst (-c) = - pCst c := Pf.ext fun k => by
  show (if k = 0 then -c else 0) = - (if k = 0 then c else 0)
  split <;> grind
def zp (ws : List Int) : Pf := ⟨zc ws⟩
theorem zp_nil : zp [] = 0 := Pf.ext fun k => by
  show zc [] k = (if k = 0 then ((0 : Nat) : Rat) else 0)
  cases k with
  | zero => rfl
  | succ k => rfl
theorem pf_zero (k : Nat) : (0 : Pf).f k = 0 := by
  show (if k = 0 then ((0 : Nat) : Rat) else 0) = 0
  have : ((0 : Nat) : Rat) = 0 := rfl
  rw [this]; split <;> rfl
theorem pf_one (k : Nat) : (1 : Pf).f k = if k = 0 then 1 else 0 := rfl
structure Ev (p q A B fa ha fb hb : Pf) (lp lq la lb : Nat) : Prop where
  inv : ∀ m, m < la → ∀ u v : Pf, Dg u.f (lq - m) → Dg v.f (lp - m) → Dg (u * p + v * q).f m →
    ∃ a b : Pf, u = a * fa + b * fb ∧ v = a * ha + b * hb ∧ Dg a.f (lb - m) ∧ Dg b.f (la - m)
  idA : A = fa * p + ha * q
  idB : B = fb * p + hb * q
  cr : ∃ δ : Rat, δ ≠ 0 ∧ pCst δ * p = hb * A - ha * B ∧ pCst δ * q = fa * B - fb * A
  le : la ≤ max lp lq
theorem Ev.base {p q : Pf} {lp lq : Nat} : Ev p q p q 1 0 0 1 lp lq lp lq :=
  ⟨fun m hm u v hu hv hs => ⟨u, v, by grind, by grind, hu, hv⟩, by grind, by grind, ⟨1, by decide, by rw [pCst_one]; grind, by rw [pCst_one]; grind⟩, by omega⟩
theorem Ev.step {p q A B fa ha fb hb C fc hc Q : Pf} {lp lq la lb lc : Nat} {c d : Rat} (e : Ev p q A B fa ha fb hb lp lq la lb) (hl : lb ≤ la) (hB : Dg B.f lb) (h0 : 0 < lb) (hn : B.f (lb - 1) ≠ 0)
    (hC : Dg C.f lc) (hlc : lc < lb) (hc' : c ≠ 0) (hd : d ≠ 0) {lQ : Nat} (hQ : Dg Q.f lQ) (h : pCst c * A = Q * B + pCst d * C) (hf : pCst d * fc = pCst c * fa - Q * fb) (hh : pCst d * hc = pCst c * ha - Q * hb) : Ev p q B C fb hb fc hc lp lq lb lc := by
  have ec := pCst_inv hc'
  have ed := pCst_inv hd
  have eA := e.idA
  have eB := e.idB
  refine ⟨fun m hm u v hu hv hs => ?_, eB, ?_, ?_, by have := e.le; omega⟩
  · obtain ⟨a, b, eu, ev, ha', hb'⟩ := e.inv m (by omega) u v hu hv hs
    obtain ⟨a', ea'⟩ : ∃ a', a' = a * (pCst c⁻¹ * Q) + b := ⟨_, rfl⟩
    obtain ⟨b', eb'⟩ : ∃ b', b' = pCst c⁻¹ * (pCst d * a) := ⟨_, rfl⟩
    have tot : u * p + v * q = a' * B + b' * C := by
      rw [eu, ev, ea', eb']
      generalize pCst c⁻¹ = ci at *
      generalize pCst d⁻¹ = di at *
      generalize pCst c = c0 at *
      generalize pCst d = d0 at *
      grind
    have tu : u = a' * fb + b' * fc := by
      rw [eu, ea', eb']
      generalize pCst c⁻¹ = ci at *
      generalize pCst d⁻¹ = di at *
      generalize pCst c = c0 at *
      generalize pCst d = d0 at *
      grind
    have tv : v = a' * hb + b' * hc := by
      rw [ev, ea', eb']
      generalize pCst c⁻¹ = ci at *
      generalize pCst d⁻¹ = di at *
      generalize pCst c = c0 at *
      generalize pCst d = d0 at *
      grind
    have db : Dg b'.f (lb - m) := fun k hk => by
      rw [eb', pf_c, pf_c, ha' k hk]; grind
    have dq : Dg (pCst c⁻¹ * Q).f lQ := fun k hk => by rw [pf_c, hQ k hk]; grind
    have some : Dg a'.f (max ((lb - m) + lQ - 1) (la - m)) := fun k hk => by
      rw [ea', pf_add, pf_mul, Dg.cv ha' dq k (by omega), hb' k (by omega)]; grind
    have hprod : Dg (cv a'.f B.f) (max m ((lb - m) + lc - 1)) := fun k hk => by
      have h1 := congrArg (fun z => Pf.f z k) tot
      have h2 : (u * p + v * q).f k = 0 := hs k (by omega)
      have h3 : (b' * C).f k = 0 := db.cv hC k (by omega)
      have h4 : (u * p + v * q).f k = (a' * B).f k + (b' * C).f k := h1
      show (a' * B).f k = 0
      grind
    have back := dg_back (n := lb - 1) some (by rw [Nat.sub_add_cancel h0]; exact hB) hn hprod
    exact ⟨a', b', tu, tv, fun k hk => back k (by omega), db⟩
  · generalize pCst d⁻¹ = di at *
    generalize pCst c⁻¹ = ci at *
    generalize pCst c = c0 at *
    generalize pCst d = d0 at *
    have : d0 * C = d0 * (fc * p + hc * q) := by grind
    have h2 : di * (d0 * C) = di * (d0 * (fc * p + hc * q)) := by rw [this]
    grind
  · obtain ⟨δ, δ0, c1, c2⟩ := e.cr
    refine ⟨-(c * (d⁻¹ * δ)), fun z => ?_, ?_, ?_⟩
    · have h1 := Rat.mul_inv_cancel _ hd
      have h2 : c * (d⁻¹ * δ) = 0 := by grind
      rcases Rat.mul_eq_zero.mp h2 with z | z
      · exact hc' z
      · rcases Rat.mul_eq_zero.mp z with z | z
        · rw [z] at h1; grind
        · exact δ0 z
    · rw [pCst_neg, pCst_m, pCst_m]
      generalize pCst d⁻¹ = di at *
      generalize pCst c⁻¹ = ci at *
      generalize pCst c = c0 at *
      generalize pCst d = d0 at *
      generalize pCst δ = e0 at *
      have h2 : hc = di * (c0 * ha - Q * hb) := by grind
      have h3 : C = di * (c0 * A - Q * B) := by grind
      rw [h2, h3]
      grind
    · rw [pCst_neg, pCst_m, pCst_m]
      generalize pCst d⁻¹ = di at *
      generalize pCst c⁻¹ = ci at *
      generalize pCst c = c0 at *
      generalize pCst d = d0 at *
      generalize pCst δ = e0 at *
      have h2 : fc = di * (c0 * fa - Q * fb) := by grind
      have h3 : C = di * (c0 * A - Q * B) := by grind
      rw [h2, h3]
      grind
theorem Ev.siegel {P Qs : List Int} {A B fa ha fb hb : Pf} {la lb K N : Nat} (e : Ev (zp P) (zp Qs) A B fa ha fb hb P.length Qs.length la lb) (hl : lb < la)
    (hP : ∀ k, (aZ P k).natAbs ≤ K) (hQ : ∀ k, (aZ Qs k).natAbs ≤ K) (hK : 1 ≤ K) (hN : N = (Qs.length - (la - 1)) + (P.length - (la - 1))) :
    ∃ (b0 : Rat) (u v s : Nat → Int), b0 ≠ 0 ∧ (∀ k, (u k : Rat) = b0 * fb.f k) ∧ (∀ k, (v k : Rat) = b0 * hb.f k) ∧ (∀ k, (s k : Rat) = b0 * B.f k) ∧
      (∀ k, (u k).natAbs ≤ (2 * N * K) ^ (N - 1)) ∧ (∀ k, (v k).natAbs ≤ (2 * N * K) ^ (N - 1)) ∧ ∀ k, (s k).natAbs ≤ N * (K * (2 * N * K) ^ (N - 1)) := by
  have hle := e.le
  obtain ⟨m, hm⟩ : ∃ m, m = la - 1 := ⟨_, rfl⟩
  obtain ⟨n1, h1⟩ : ∃ n1, n1 = Qs.length - m := ⟨_, rfl⟩
  obtain ⟨n2, h2⟩ : ∃ n2, n2 = P.length - m := ⟨_, rfl⟩
  obtain ⟨M, hM⟩ : ∃ M, M = N - 1 := ⟨_, rfl⟩
  obtain ⟨G, hG⟩ : ∃ G : Nat → Nat → Int, ∀ k i, G k i = if i < n1 then (if i ≤ k then aZ P (k - i) else 0) else (if i - n1 ≤ k then aZ Qs (k - (i - n1)) else 0) := ⟨_, fun _ _ => rfl⟩
  have Gb : ∀ k i, (G k i).natAbs ≤ K := fun k i => by
    rw [hG]
    split
    · split
      · exact hP _
      · simp
    · split
      · exact hQ _
      · simp
  obtain ⟨d, ⟨i0, hi0, hd0⟩, hdb, hd⟩ := R.siegel (fun e i => G (m + e) i) (M := M) (N := N) (B := K) (fun e _ i _ => Gb _ _) (by omega) hK
  obtain ⟨s, hs⟩ : ∃ s : Nat → Int, ∀ k, s k = sZ (fun i => G k i * d i) N := ⟨_, fun _ => rfl⟩
  obtain ⟨u, hu⟩ : ∃ u : Nat → Int, ∀ i, u i = if i < n1 then d i else 0 := ⟨_, fun _ => rfl⟩
  obtain ⟨v, hv⟩ : ∃ v : Nat → Int, ∀ i, v i = if i < n2 then d (n1 + i) else 0 := ⟨_, fun _ => rfl⟩
  obtain ⟨U, hU⟩ : ∃ U : Pf, ∀ k, U.f k = (u k : Rat) := ⟨⟨fun k => (u k : Rat)⟩, fun _ => rfl⟩
  obtain ⟨V, hV⟩ : ∃ V : Pf, ∀ k, V.f k = (v k : Rat) := ⟨⟨fun k => (v k : Rat)⟩, fun _ => rfl⟩
  have du : Dg U.f n1 := fun k hk => by rw [hU, hu, if_neg (by omega), Rat.intCast_zero]
  have dv : Dg V.f n2 := fun k hk => by rw [hV, hv, if_neg (by omega), Rat.intCast_zero]
  have sr : ∀ k, (s k : Rat) = (U * zp P + V * zp Qs).f k := fun k => by
    rw [pf_add, pf_mul, pf_mul]
    show _ = cv U.f (zc P) k + cv V.f (zc Qs) k
    rw [hs, cast_sZ, show N = n1 + n2 by omega, sumTo_split, cv_supp du, cv_supp dv]
    congr 1
    · refine sumTo_congr fun i hi => ?_
      rw [Rat.intCast_mul, hG, if_pos hi, hU, hu, if_pos hi]
      split
      · unfold zc; grind
      · rw [Rat.intCast_zero]; grind
    · refine sumTo_congr fun i hi => ?_
      rw [Rat.intCast_mul, hG, if_neg (by omega), hV, hv, if_pos hi, show n1 + i - n1 = i by omega]
      split
      · unfold zc; grind
      · rw [Rat.intCast_zero]; grind
  have ds : ∀ k, m ≤ k → s k = 0 := fun k hk => by
    by_cases h : k < m + M
    · have := hd (k - m) (by omega)
      rw [show m + (k - m) = k by omega] at this
      rw [hs]; exact this
    · rw [hs]
      have : ∀ i, i < N → G k i * d i = 0 := fun i hi => by
        have : G k i = 0 := by
          rw [hG]
          split
          · split
            · unfold aZ; rw [List.getElem?_eq_none (by omega)]; rfl
            · rfl
          · split
            · unfold aZ; rw [List.getElem?_eq_none (by omega)]; rfl
            · rfl
        rw [this, Int.zero_mul]
      have := sZ_le (f := fun i => G k i * d i) (C := 0) (n := N) fun i hi => by rw [this i hi]; simp
      omega
  obtain ⟨a, b, eu, ev, ha', hb'⟩ := e.inv m (by omega) U V (by rw [← h1]; exact du) (by rw [← h2]; exact dv) (fun k hk => by
    rw [← sr, ds k hk, Rat.intCast_zero])
  have a0 : a = 0 := Pf.ext fun k => by rw [pf_zero]; exact ha' k (by omega)
  have b1 : b = pCst (b.f 0) := Pf.ext fun k => by
    show b.f k = if k = 0 then b.f 0 else 0
    by_cases z : k = 0
    · rw [if_pos z, z]
    · rw [if_neg z]; exact hb' k (by omega)
  have eu' : U = pCst (b.f 0) * fb := by rw [eu, a0, ← b1]; grind
  have ev' : V = pCst (b.f 0) * hb := by rw [ev, a0, ← b1]; grind
  refine ⟨b.f 0, u, v, s, fun w => ?_, fun k => ?_, fun k => ?_, fun k => ?_, fun k => ?_, fun k => ?_, fun k => ?_⟩
  · by_cases c : i0 < n1
    · have : U.f i0 = 0 := by rw [eu', pf_c, w]; grind
      rw [hU, hu, if_pos c] at this
      exact hd0 (Rat.intCast_inj.mp (by rw [this, Rat.intCast_zero]))
    · have : V.f (i0 - n1) = 0 := by rw [ev', pf_c, w]; grind
      rw [hV, hv, if_pos (by omega), show n1 + (i0 - n1) = i0 by omega] at this
      exact hd0 (Rat.intCast_inj.mp (by rw [this, Rat.intCast_zero]))
  · rw [← hU, eu', pf_c]
  · rw [← hV, ev', pf_c]
  · rw [sr, ← pf_c]
    have : U * zp P + V * zp Qs = pCst (b.f 0) * B := by rw [eu', ev', e.idB]; grind
    rw [this]
  · rw [hu]
    split
    · exact by rw [← hM]; exact hdb k (by omega)
    · exact Nat.zero_le _
  · rw [hv]
    split
    · exact by rw [← hM]; exact hdb _ (by omega)
    · exact Nat.zero_le _
  · rw [hs]
    refine sZ_le fun i hi => ?_
    rw [Int.natAbs_mul]
    exact Nat.mul_le_mul (Gb k i) (by rw [← hM]; exact hdb i hi)
theorem int_le {g : Int} (g0 : (g : Rat) ≠ 0) {x y : Int} (h : (y : Rat) = (g : Rat) * (x : Rat)) : x.natAbs ≤ y.natAbs := by
  have e : y = g * x := Rat.intCast_inj.mp (by rw [h, Rat.intCast_mul])
  have : g ≠ 0 := fun z => g0 (by rw [z]; rfl)
  rw [e, Int.natAbs_mul]
  exact Nat.le_mul_of_pos_left _ (by omega)
theorem pow_nk {N K c : Nat} (hN : 1 ≤ N) (hK : 1 ≤ K) (h : 2 * N * K ≤ 2 ^ c) : N * (K * (2 * N * K) ^ (N - 1)) < 2 ^ (c * N) ∧ (2 * N * K) ^ (N - 1) < 2 ^ (c * N) := by
  have e1 : N = (N - 1) + 1 := by omega
  have h3 : (2 * N * K) ^ N ≤ (2 ^ c) ^ N := Nat.pow_le_pow_left h _
  rw [← Nat.pow_mul] at h3
  have h4 : 0 < (2 * N * K) ^ (N - 1) := Nat.pow_pos (Nat.mul_pos (by omega) (by omega))
  have h5 : 0 < N * (K * (2 * N * K) ^ (N - 1)) := Nat.mul_pos (by omega) (Nat.mul_pos (by omega) h4)
  have h6 : (2 * N * K) ^ N = 2 * (N * (K * (2 * N * K) ^ (N - 1))) := by
    conv => lhs; rw [e1, Nat.pow_succ]
    rw [← e1]
    generalize (2 * N * K) ^ (N - 1) = y
    grind
  have h7 : (2 * N * K) ^ (N - 1) ≤ N * (K * (2 * N * K) ^ (N - 1)) := by
    have : 1 * (1 * (2 * N * K) ^ (N - 1)) ≤ N * (K * (2 * N * K) ^ (N - 1)) := Nat.mul_le_mul hN (Nat.mul_le_mul_right _ hK)
    omega
  omega
theorem prime_ex : ∀ n : Nat, 2 ≤ n → ∃ p, 2 ≤ p ∧ p ∣ n ∧ ∀ d, d ∣ p → d = 1 ∨ d = p := by
  intro n
  induction n using Nat.strongRecOn with
  | ind n ih =>
    intro h
    by_cases c : ∃ d, d ∣ n ∧ d ≠ 1 ∧ d ≠ n
    · obtain ⟨d, d1, d2, d3⟩ := c
      have dle := Nat.le_of_dvd (by omega) d1
      have d0 : d ≠ 0 := fun z => by rw [z] at d1; have := Nat.eq_zero_of_zero_dvd d1; omega
      obtain ⟨p, p1, p2, p3⟩ := ih d (by omega) (by omega)
      exact ⟨p, p1, Nat.dvd_trans p2 d1, p3⟩
    · refine ⟨n, h, Nat.dvd_refl _, fun d hd => ?_⟩
      by_cases e1 : d = 1
      · exact .inl e1
      · by_cases e2 : d = n
        · exact .inr e2
        · exact absurd ⟨d, hd, e1, e2⟩ c
theorem prime_mul {p : Nat} (hp : ∀ d, d ∣ p → d = 1 ∨ d = p) {a b : Int} (h : (p : Int) ∣ a * b) : (p : Int) ∣ a ∨ (p : Int) ∣ b := by
  have h1 : p ∣ a.natAbs * b.natAbs := by
    have := Int.natAbs_dvd_natAbs.mpr h
    rwa [Int.natAbs_natCast, Int.natAbs_mul] at this
  rcases hp _ (Nat.gcd_dvd_left p a.natAbs) with g | g
  · right
    exact Int.natAbs_dvd_natAbs.mp (by rw [Int.natAbs_natCast]; exact Nat.Coprime.dvd_of_dvd_mul_left g h1)
  · left
    have := Nat.gcd_dvd_right p a.natAbs
    rw [g] at this
    exact Int.natAbs_dvd_natAbs.mp (by rw [Int.natAbs_natCast]; exact this)
theorem dvd_sZ {p : Int} {f : Nat → Int} : ∀ {n}, (∀ i, i < n → p ∣ f i) → p ∣ sZ f n
  | 0, _ => ⟨0, by simp [sZ]⟩
  | n + 1, h => by rw [sZ]; exact Int.dvd_add (dvd_sZ fun i hi => h i (by omega)) (h n (by omega))
theorem dvd_term {p : Int} {f : Nat → Int} {j : Nat} : ∀ {n}, j < n → (∀ i, i < n → i ≠ j → p ∣ f i) → p ∣ sZ f n → p ∣ f j
  | 0, h, _, _ => by omega
  | n + 1, h, ha, hs => by
    rw [sZ] at hs
    by_cases e : j = n
    · subst e
      exact (Int.dvd_add_right (dvd_sZ fun i hi => ha i (by omega) (by omega))).mp hs
    · exact dvd_term (n := n) (by omega) (fun i hi => ha i (by omega)) ((Int.dvd_add_left (ha n (by omega) (fun z => e z.symm))).mp hs)
theorem gauss_p {p : Nat} (hp2 : 2 ≤ p) (hp : ∀ d, d ∣ p → d = 1 ∨ d = p) {Q : List Int} (hg : gcdL Q = 1) {V : Nat → Int} {n : Nat} (hV : ∀ k, n ≤ k → V k = 0) (h : ∀ k, (p : Int) ∣ sZ (fun i => V i * aZ Q (k - i)) (k + 1)) : ∀ k, (p : Int) ∣ V k := by
  obtain ⟨j, j1, j2⟩ : ∃ j, ¬ (p : Int) ∣ aZ Q j ∧ ∀ i, j < i → (p : Int) ∣ aZ Q i := by
    have key : ∀ m, (∀ i, m ≤ i → (p : Int) ∣ aZ Q i) → ∃ j, ¬ (p : Int) ∣ aZ Q j ∧ ∀ i, j < i → (p : Int) ∣ aZ Q i := by
      intro m
      induction m with
      | zero =>
        intro hm
        have : p ∣ gcdL Q := dvd_gcdL Q 0 (Nat.dvd_zero _) fun w hw => by
          obtain ⟨k, hk, ek⟩ := List.getElem_of_mem hw
          have h2 : aZ Q k = w := by unfold aZ; rw [List.getElem?_eq_getElem hk, ek]; rfl
          rw [← h2]; exact hm k (by omega)
        rw [hg] at this
        have := Nat.dvd_one.mp this
        omega
      | succ m ih =>
        intro hm
        by_cases c : (p : Int) ∣ aZ Q m
        · exact ih fun i hi => by
            by_cases e : i = m
            · rw [e]; exact c
            · exact hm i (by omega)
        · exact ⟨m, c, fun i hi => hm i hi⟩
    exact key Q.length fun i hi => by unfold aZ; rw [List.getElem?_eq_none hi]; exact ⟨0, by simp⟩
  have key : ∀ t, ∀ k, n - t ≤ k → (p : Int) ∣ V k := by
    intro t
    induction t with
    | zero => intro k hk; rw [hV k (by omega)]; exact ⟨0, by simp⟩
    | succ t ih =>
      intro k hk
      by_cases c : n - t ≤ k
      · exact ih k c
      have := dvd_term (p := (p : Int)) (f := fun i => V i * aZ Q (k + j - i)) (j := k) (n := k + j + 1) (by omega) (fun i hi hne => by
        by_cases z : i < k
        · obtain ⟨y, hy⟩ := j2 (k + j - i) (by omega)
          exact ⟨V i * y, by show V i * aZ Q (k + j - i) = _; rw [hy]; grind⟩
        · obtain ⟨y, hy⟩ := ih i (by omega)
          exact ⟨y * aZ Q (k + j - i), by show V i * aZ Q (k + j - i) = _; rw [hy]; grind⟩) (h (k + j))
      have h2 : (p : Int) ∣ V k * aZ Q j := by
        have e : k + j - k = j := by omega
        rw [e] at this; exact this
      rcases prime_mul hp h2 with z | z
      · exact z
      · exact absurd z j1
  exact fun k => key n k (by omega)
theorem sZ_mul (c : Int) (f : Nat → Int) : ∀ n, sZ (fun i => c * f i) n = c * sZ f n
  | 0 => by simp [sZ]
  | n + 1 => by rw [sZ, sZ, sZ_mul c f n]; grind
theorem gauss_z {Q : List Int} (hg : gcdL Q = 1) {n : Nat} : ∀ (d : Nat), 0 < d → ∀ V : Nat → Int, (∀ k, n ≤ k → V k = 0) → (∀ k, (d : Int) ∣ sZ (fun i => V i * aZ Q (k - i)) (k + 1)) → ∀ k, (d : Int) ∣ V k := by
  intro d
  induction d using Nat.strongRecOn with
  | ind d ih =>
    intro d0 V hV h
    by_cases d1 : d = 1
    · intro k; rw [d1]; exact ⟨V k, by simp⟩
    obtain ⟨p, p2, ⟨e, he⟩, pp⟩ := prime_ex d (by omega)
    have e0 : 0 < e := Nat.pos_of_ne_zero fun z => by rw [z] at he; omega
    have ed : e < d := by
      have : 2 * e ≤ p * e := Nat.mul_le_mul_right _ p2
      omega
    have all := gauss_p p2 pp hg hV fun k => Int.dvd_trans ⟨(e : Int), by rw [he, Int.natCast_mul]⟩ (h k)
    have pz : (p : Int) ≠ 0 := by omega
    obtain ⟨V', hV'⟩ : ∃ V' : Nat → Int, ∀ k, V k = (p : Int) * V' k := ⟨fun k => V k / (p : Int), fun k => (Int.mul_ediv_cancel' (all k)).symm⟩
    have r := ih e ed e0 V' (fun k hk => by
      have h1 := hV' k
      rw [hV k hk] at h1
      rcases Int.mul_eq_zero.mp h1.symm with z | z
      · exact absurd z pz
      · exact z) fun k => by
        have h1 := h k
        have h2 : sZ (fun i => V i * aZ Q (k - i)) (k + 1) = (p : Int) * sZ (fun i => V' i * aZ Q (k - i)) (k + 1) := by
          rw [← sZ_mul]
          exact sZ_congr fun i _ => by rw [hV' i]; grind
        rw [h2, he, Int.natCast_mul] at h1
        exact Int.dvd_of_mul_dvd_mul_left pz h1
    intro k
    obtain ⟨y, hy⟩ := r k
    exact ⟨y, by rw [hV' k, hy, he, Int.natCast_mul]; grind⟩
theorem den_ex (h : Nat → Rat) : ∀ n, ∃ D : Nat, 0 < D ∧ ∀ k, k < n → ∃ y : Int, (D : Rat) * h k = (y : Rat)
  | 0 => ⟨1, by omega, fun k hk => by omega⟩
  | n + 1 => by
    obtain ⟨D, D0, hD⟩ := den_ex h n
    refine ⟨D * (h n).den, Nat.mul_pos D0 (h n).den_pos, fun k hk => ?_⟩
    have hn : ((h n).den : Rat) * h n = ((h n).num : Rat) := by
      have h3 : ((h n).den : Rat) ≠ 0 := fun w => (h n).den_nz (Rat.natCast_inj.mp (by rw [w]; rfl))
      have h4 : h n = ((h n).num : Rat) / ((h n).den : Rat) := by
        have := Rat.num_divInt_den (h n)
        rw [Rat.divInt_eq_div] at this
        exact this.symm
      have h5 := Rat.mul_inv_cancel _ h3
      rw [Rat.div_def] at h4
      generalize ((h n).den : Rat) = y at *
      generalize y⁻¹ = z at *
      generalize ((h n).num : Rat) = n at *
      grind
    by_cases e : k = n
    · subst e
      exact ⟨(D : Int) * (h k).num, by rw [Rat.natCast_mul, Rat.intCast_mul, ← hn, Rat.intCast_natCast]; grind⟩
    · obtain ⟨y, hy⟩ := hD k (by omega)
      exact ⟨((h n).den : Int) * y, by rw [Rat.natCast_mul, Rat.intCast_mul, ← hy, Rat.intCast_natCast]; grind⟩
theorem gauss {Q : List Int} (hg : gcdL Q = 1) {h : Pf} {n : Nat} (hd : Dg h.f n) {z : Nat → Int} (e : ∀ k, (h * zp Q).f k = (z k : Rat)) : ∃ y : Nat → Int, ∀ k, h.f k = (y k : Rat) := by
  obtain ⟨D, D0, hD⟩ := den_ex h.f n
  have DR : (D : Rat) ≠ 0 := fun w => by
    have := Rat.natCast_inj.mp (show (D : Rat) = ((0 : Nat) : Rat) by rw [w]; rfl)
    omega
  obtain ⟨V, hV⟩ : ∃ V : Nat → Int, ∀ k, (D : Rat) * h.f k = (V k : Rat) := by
    have : ∀ k, ∃ y : Int, (D : Rat) * h.f k = (y : Rat) := fun k => by
      by_cases c : k < n
      · exact hD k c
      · exact ⟨0, by rw [hd k (by omega), Rat.intCast_zero]; grind⟩
    exact ⟨fun k => Classical.choose (this k), fun k => Classical.choose_spec (this k)⟩
  have all := gauss_z hg (n := n) D D0 V (fun k hk => by
    have h1 := hV k
    rw [hd k hk] at h1
    exact Rat.intCast_inj.mp (by rw [← h1, Rat.intCast_zero]; grind)) fun k => by
      refine ⟨z k, Rat.intCast_inj.mp ?_⟩
      rw [cast_sZ, Rat.intCast_mul, ← e k, pf_mul]
      show _ = _ * cv h.f (zc Q) k
      unfold cv
      rw [Rat.intCast_natCast, sumTo_mul]
      exact sumTo_congr fun i _ => by
        rw [Rat.intCast_mul, ← hV]
        unfold zc
        grind
  refine ⟨fun k => Classical.choose (all k), fun k => ?_⟩
  have h1 : V k = (D : Int) * Classical.choose (all k) := Classical.choose_spec (all k)
  have h2 := hV k
  rw [h1, Rat.intCast_mul, Rat.intCast_natCast] at h2
  have := Rat.mul_inv_cancel _ DR
  generalize (D : Rat)⁻¹ = di at *
  generalize (D : Rat) = d0 at *
  generalize ((Classical.choose (all k) : Int) : Rat) = y at *
  grind
theorem cv_top {f g : Nat → Rat} {a b : Nat} (hf : Dg f (a + 1)) (hg : Dg g (b + 1)) : cv f g (a + b) = f a * g b := by
  unfold cv
  have : sumTo (fun i => f i * g (a + b - i)) (a + b + 1) = sumTo (fun i => if i = a then f a * g b else 0) (a + b + 1) := sumTo_congr fun i _ => by
    by_cases z : i = a
    · rw [if_pos z, z, Nat.add_sub_cancel_left]
    · rw [if_neg z]
      by_cases y : i < a
      · rw [hg _ (by omega)]; grind
      · rw [hf i (by omega)]; grind
  rw [this, sumTo_single, if_pos (by omega)]
def ExZ (one other : List Int) : Prop := ∃ (V : Nat → Int) (n : Nat), (∀ k, n ≤ k → V k = 0) ∧ ∀ k, zc one k = cv (fun i => (V i : Rat)) (zc other) k
theorem lead_dvd {one other Qz Rz : List Int} {n t : Nat} (hx : ExZ one other) (dv : Dv one other Qz Rz 1) (ho : other.length = n + 1) (h0 : aZ other n ≠ 0) (hr : Rz.length = n + 1 + t) : aZ other n ∣ aZ Rz (t + n) := by
  obtain ⟨V, nv, hV, e⟩ := hx
  obtain ⟨D, hD⟩ : ∃ D : Pf, D = ⟨fun i => (V i : Rat)⟩ - zp Qz := ⟨_, rfl⟩
  have eD : D * zp other = zp Rz := by
    have e1 : zp one = ⟨fun i => (V i : Rat)⟩ * zp other := Pf.ext e
    have e2 : zp one = zp Qz * zp other + zp Rz := Pf.ext fun k => by
      have := dv k
      rw [show ((1 : Int) : Rat) = 1 from rfl] at this
      show zc one k = cv (zc Qz) (zc other) k + zc Rz k
      rw [← this]; grind
    rw [hD]
    generalize (⟨fun i => (V i : Rat)⟩ : Pf) = x at *
    grind
  have dD : Dg D.f (max nv Qz.length) := fun k hk => by
    rw [hD, pf_sub]
    show (V k : Rat) - zc Qz k = 0
    rw [hV k (by omega), zc_dg Qz k (by omega), Rat.intCast_zero]; grind
  have oD : Dg (zc other) (n + 1) := by rw [← ho]; exact zc_dg other
  have back : Dg D.f (t + 1) := by
    have := dg_back (f := D.f) (B := zc other) (N := n + 1 + t) dD oD (zc_ne h0) (fun k hk => by
      have : (D * zp other).f k = (zp Rz).f k := by rw [eD]
      rw [show cv D.f (zc other) k = (D * zp other).f k from rfl, this]
      exact zc_dg Rz k (by omega))
    rwa [show n + 1 + t - n = t + 1 by omega] at this
  have top := cv_top back oD
  have h1 : zc Rz (t + n) = D.f t * zc other n := by
    rw [← top, show cv D.f (zc other) (t + n) = (D * zp other).f (t + n) from rfl, eD]; rfl
  refine ⟨V t - aZ Qz t, Rat.intCast_inj.mp ?_⟩
  have h2 : D.f t = (V t : Rat) - zc Qz t := by rw [hD]; rfl
  rw [h2] at h1
  unfold zc at h1
  rw [h1, Rat.intCast_mul, Rat.intCast_sub]; grind
theorem zp_mul (a b : List Int) : zp (mulZ a b) = zp a * zp b := Pf.ext fun k => by
  show zc (mulZ a b) k = cv (zc a) (zc b) k
  rw [zc_aQ (mulZ a b), zc_aQ a, zc_aQ b, ← aQ_mulQ, ← scl_mul]
  have : (1 : Rat) * 1 = 1 := by decide +kernel
  rw [this]
theorem sZ_supp {f : Nat → Int} {n C : Nat} (h : ∀ i, n ≤ i → f i = 0) (hc : ∀ i, (f i).natAbs ≤ C) : ∀ m, (sZ f m).natAbs ≤ n * C
  | 0 => by simp [sZ]
  | m + 1 => by
    by_cases z : m + 1 ≤ n
    · exact Nat.le_trans (sZ_le (n := m + 1) fun i _ => hc i) (Nat.mul_le_mul_right _ z)
    · rw [sZ, h m (by omega), Int.add_zero]
      exact sZ_supp h hc m
theorem cast_cv (f g : Nat → Int) (k : Nat) : cv (fun i => (f i : Rat)) (fun i => (g i : Rat)) k = ((sZ (fun i => f i * g (k - i)) (k + 1) : Int) : Rat) := by
  unfold cv
  rw [cast_sZ]
  exact sumTo_congr fun i _ => by rw [Rat.intCast_mul]
theorem cvz_lt {f g : Nat → Int} {n a b : Nat} (hn : n ≤ 32) (hf : ∀ i, n ≤ i → f i = 0) (ha : ∀ i, (f i).natAbs < 2 ^ a) (hb : ∀ i, (g i).natAbs < 2 ^ b) (k m : Nat) : (sZ (fun i => f i * g (k - i)) m).natAbs < 2 ^ (a + b + 5) := by
  have h1 := sZ_supp (f := fun i => f i * g (k - i)) (n := n) (C := 2 ^ a * 2 ^ b - 1) (fun i hi => by
    show f i * g (k - i) = 0
    rw [hf i hi, Int.zero_mul]) (fun i => by
      show (f i * g (k - i)).natAbs ≤ _
      rw [Int.natAbs_mul]
      have := Nat.mul_lt_mul'' (ha i) (hb (k - i))
      omega) m
  have p : 0 < 2 ^ a * 2 ^ b := Nat.mul_pos (Nat.two_pow_pos _) (Nat.two_pow_pos _)
  have h2 : n * (2 ^ a * 2 ^ b - 1) ≤ 32 * (2 ^ a * 2 ^ b - 1) := Nat.mul_le_mul_right _ hn
  rw [Nat.pow_add, Nat.pow_add]
  have e : (2 : Nat) ^ 5 = 32 := by decide
  rw [e]
  omega
theorem mulZ_lt {p q : List Int} {a b : Nat} (hl : p.length ≤ 32) (hp : ∀ k, (aZ p k).natAbs < 2 ^ a) (hq : ∀ k, (aZ q k).natAbs < 2 ^ b) (k : Nat) : (aZ (mulZ p q) k).natAbs < 2 ^ (a + b + 5) := by
  have h : aZ (mulZ p q) k = sZ (fun i => aZ p i * aZ q (k - i)) (k + 1) := Rat.intCast_inj.mp (by
    rw [← cast_cv]
    exact congrArg (fun z => Pf.f z k) (zp_mul p q))
  rw [h]
  exact cvz_lt hl (fun i hi => by unfold aZ; rw [List.getElem?_eq_none hi]; rfl) hp hq k _
theorem tz_ext {a b : List Int} (ta : IsTz a a.length) (tb : IsTz b b.length) (h : ∀ k, aZ a k = aZ b k) : a = b := by
  have le : ∀ {a b : List Int}, IsTz b b.length → (∀ k, aZ a k = aZ b k) → b.length ≤ a.length := fun {a b} tb h => by
    rcases Nat.lt_or_ge a.length b.length with z | z
    · have h1 := tz_lead tb (by omega)
      rw [← h] at h1
      exact absurd (by unfold aZ; rw [List.getElem?_eq_none (by omega)]; rfl) h1
    · exact z
  have l1 := le tb h
  have l2 := le ta fun k => (h k).symm
  refine List.ext_getElem (by omega) fun k h1 h2 => ?_
  have := h k
  unfold aZ at this
  rw [List.getElem?_eq_getElem h1, List.getElem?_eq_getElem h2] at this
  exact this
theorem zp_inj {a b : List Int} (h : zp a = zp b) (k : Nat) : aZ a k = aZ b k := Rat.intCast_inj.mp (congrArg (fun z => Pf.f z k) h)
def fz (v : Nat → Int) : Pf := ⟨fun k => (v k : Rat)⟩
theorem icast_ne' {z : Int} (h : z ≠ 0) : (z : Rat) ≠ 0 := fun w => h (Rat.intCast_inj.mp (by rw [w, Rat.intCast_zero]))
def wL (c L la : Nat) : Nat := c * (2 * (L + 1 - la))
theorem wL_ge {c L la : Nat} (h : la ≤ L) : 2 * c ≤ wL c L la := by
  unfold wL
  have : c * 2 ≤ c * (2 * (L + 1 - la)) := Nat.mul_le_mul_left _ (by omega)
  omega
theorem wL_mono {c L la lb : Nat} (h : lb ≤ la) : wL c L la ≤ wL c L lb := Nat.mul_le_mul_left _ (by omega)
structure LC (P0 Q0 : List Int) (K c L : Nat) : Prop where
  tP : IsTz P0 P0.length
  tQ : IsTz Q0 Q0.length
  lp : P0.length ≤ L
  lq : Q0.length ≤ L
  kP : ∀ k, (aZ P0 k).natAbs ≤ K
  kQ : ∀ k, (aZ Q0 k).natAbs ≤ K
  k1 : 1 ≤ K
  l1 : 1 ≤ L
  hc : 4 * L * K ≤ 2 ^ c
structure LS (P0 Q0 : List Int) (c L w : Nat) (A Fa B Fb : List Int) (ha hb : Pf) : Prop where
  ev : Ev (zp P0) (zp Q0) (zp A) (zp B) (zp Fa) ha (zp Fb) hb P0.length Q0.length A.length B.length
  tA : IsTz A A.length
  tB : IsTz B B.length
  lA : A.length ≤ L
  lB : B.length ≤ L
  st : (A = P0 ∧ B = Q0 ∧ Fa = [1] ∧ Fb = [] ∧ ha = 0 ∧ hb = 1 ∧ w = c) ∨ (B.length < A.length ∧ A.length ≤ Q0.length ∧ w = wL c L A.length)
  bA : ∀ k, (aZ A k).natAbs < 2 ^ w
  bFa : ∀ k, (aZ Fa k).natAbs < 2 ^ w
  bB : B ≠ [] → ∀ k, (aZ B k).natAbs < 2 ^ w
  bFb : B ≠ [] → ∀ k, (aZ Fb k).natAbs < 2 ^ w
  hA : ∀ k (z : Int), ha.f k = (z : Rat) → z.natAbs < 2 ^ w
  hB : B ≠ [] → ∀ k (z : Int), hb.f k = (z : Rat) → z.natAbs < 2 ^ w
  dA : ∃ n, Dg ha.f n
  dB : ∃ n, Dg hb.f n
  lFa : Fa.length ≤ max 1 (Q0.length + 1 - A.length)
  lFb : Fb.length ≤ Q0.length + 1 - A.length
  tFa : IsTz Fa Fa.length
  tFb : IsTz Fb Fb.length
theorem tz_nil : IsTz [] ([] : List Int).length := ⟨Nat.le_refl _, (fun i v hi e => by cases e), fun h => absurd rfl h⟩
theorem fdiv_all {ws : List Int} {g : Nat} (hg : g ≠ 0) (h : ∀ v ∈ ws, (g : Int) ∣ v) (k : Nat) : aZ ws k = (g : Int) * aZ (ws.map fun v => v.fdiv (g : Int)) k := by
  have gi : (g : Int) ≠ 0 := by omega
  unfold aZ
  rw [List.getElem?_map]
  cases hk : ws[k]? with
  | none => simp
  | some v =>
    obtain ⟨y, hy⟩ := h v (List.mem_of_getElem? hk)
    have h1 : v.fdiv (g : Int) = y := by
      conv => lhs; arg 1; rw [hy]
      exact fdiv_of_mul gi
    show v = (g : Int) * v.fdiv (g : Int)
    rw [h1]; exact hy
theorem tz_over {ws vs : List Int} {g : Int} (t : IsTz ws ws.length) (hl : vs.length = ws.length) (h : ∀ k, aZ ws k = g * aZ vs k) : IsTz vs vs.length := by
  refine ⟨Nat.le_refl _, (fun i v hi e => by rw [List.getElem?_eq_none hi] at e; cases e), fun h0 v hv z => ?_⟩
  have h1 := tz_lead t (by omega)
  rw [h, ← hl] at h1
  have : aZ vs (vs.length - 1) = v := by unfold aZ; rw [hv]; rfl
  rw [this, z, Int.mul_zero] at h1
  exact h1 rfl
structure LRes (P0 Q0 A F : List Int) (w L c : Nat) : Prop where
  tA : IsTz A A.length
  nA : A ≠ []
  lA : A.length ≤ L
  lF : F.length ≤ L
  lF2 : F.length ≤ max 1 (Q0.length + 1 - A.length)
  tF : IsTz F F.length
  bA : ∀ k, (aZ A k).natAbs < 2 ^ w
  bF : ∀ k, (aZ F k).natAbs < 2 ^ w
  bA2 : ∀ k, (aZ A k).natAbs < 2 ^ wL c L A.length
  idA : ∃ h : Pf, (∃ n, Dg h.f n) ∧ zp A = zp F * zp P0 + h * zp Q0 ∧ ∀ k (z : Int), h.f k = (z : Rat) → z.natAbs < 2 ^ w
  p1 : ∃ (κ : Rat) (v : Nat → Int), (∃ n, ∀ k, n ≤ k → v k = 0) ∧ zp P0 = pCst κ * (fz v * zp A) ∧ (∀ k, (v k).natAbs < 2 ^ wL c L A.length) ∧ κ.num.natAbs < 2 ^ c ∧ κ.den < 2 ^ (wL c L A.length + wL c L A.length)
  q1 : ∃ (κ : Rat) (v : Nat → Int), (∃ n, ∀ k, n ≤ k → v k = 0) ∧ zp Q0 = pCst κ * (fz v * zp A) ∧ (∀ k, (v k).natAbs < 2 ^ wL c L A.length) ∧ κ.num.natAbs < 2 ^ c ∧ κ.den < 2 ^ (wL c L A.length + wL c L A.length)
  q0 : Q0 = [] → A = P0 ∧ F = [1]
def OvP (B W : Nat) (p : Pf) : Prop := ∀ k, OvB B W (p.f k)
theorem OvP.mul {B C V W n : Nat} (hB : 0 < B) (hC : 0 < C) {p q : Pf} (hp : OvP B V p) (hq : OvP C W q) (dp : Dg p.f n) : OvP (B * C) (V + W + n) (p * q) := fun k => by
  have e : (p * q).f k = sumTo (fun i => p.f i * if i ≤ k then q.f (k - i) else 0) n := cv_supp dp q.f k
  rw [e]
  refine ovb_sum (Nat.mul_pos hB hC) (fun i => ?_) n
  split
  · exact (hp i).mul (hq _)
  · have : p.f i * 0 = 0 := by grind
    rw [this]; exact OvB.zero _ _
def qp (l : List Rat) : Pf := ⟨aQ l⟩
theorem qp_scl (s : Rat) (ws : List Int) : qp (scl s ws) = pCst s * zp ws := Pf.ext fun k => by
  rw [pf_c]
  show aQ (scl s ws) k = s * zc ws k
  rw [aQ_scl]; rfl
theorem qp_mul (p q : List Rat) : qp (mulQ p q) = qp p * qp q := Pf.ext fun k => aQ_mulQ p q k
theorem qp_dg (l : List Rat) : Dg (qp l).f l.length := fun k hk => by
  show aQ l k = 0
  unfold aQ; rw [List.getElem?_eq_none hk]; rfl
theorem qp_ovp {B W : Nat} {l : List Rat} (h : ∀ x ∈ l, OvB B W x) : OvP B W (qp l) := fun k => by
  show OvB B W (aQ l k)
  unfold aQ
  cases hk : l[k]? with
  | none => exact OvB.zero _ _
  | some x => exact h x (List.mem_of_getElem? hk)
theorem ovp_qp {B W : Nat} {l : List Rat} (h : OvP B W (qp l)) : ∀ x ∈ l, OvB B W x := fun x hx => by
  obtain ⟨k, hk, e⟩ := List.getElem_of_mem hx
  have := h k
  have e2 : (qp l).f k = x := by
    show aQ l k = x
    unfold aQ; rw [List.getElem?_eq_getElem hk, e]; rfl
  rw [e2] at this; exact this
def fld (M : List (List Rat)) (last : List Rat) : Nat → Pf × Pf
  | 0 => (qp last, 0)
  | n + 1 => (qp ((M[M.length - 1 - n]?).getD []) * (fld M last n).1 + (fld M last n).2, (fld M last n).1)
mutual
inductive HD (H : Hp) : V → D → Prop where
  | v {x : V} (f : flatV x = true) : HD H x (.v x)
  | tup {p : Addr} {xs : List V} {ds : List D} (h : H p = some (.tup xs)) (t : HDs H xs ds) : HD H (.ref p) (.tup ds)
  | lst {p : Addr} {xs : List V} {ds : List D} (h : H p = some (.lst xs)) (t : HDs H xs ds) : HD H (.ref p) (.lst ds)
inductive HDs (H : Hp) : List V → List D → Prop where
  | nil : HDs H [] []
  | cons {x : V} {xs : List V} {d : D} {ds : List D} (h : HD H x d) (t : HDs H xs ds) : HDs H (x :: xs) (d :: ds)
end
def evZ (qs : List Rat) : Bool := (evs qs).all fun q => decide (q = 0)
def odZ (qs : List Rat) : Bool := (ods qs).all fun q => decide (q = 0)
def cOk (c T : Nat) : Prop := (c = 10 ∧ T ≤ 14) ∨ (c = 40 ∧ T ≤ 5)
structure RowQ (c : Nat) (M : List (List Rat)) (last : List Rat) : Prop where
  m : ∀ L ∈ M, IsTl L L.length ∧ 2 ≤ L.length ∧ evZ L = true ∧ ∀ x ∈ L, BdN c x
  t : IsTl last last.length
  n : last ≠ []
  p : evZ last = true ∨ odZ last = true
  o : ∀ x ∈ last, BdN c x
  z : cOk c (last.length - 1 + (M.map fun L => L.length - 1).sum)
def dsum (M : List (List Rat)) : Nat → Nat
  | 0 => 0
  | n + 1 => dsum M n + (((M[M.length - 1 - n]?).getD []).length - 1)
def dn (M : List (List Rat)) (last : List Rat) (n : Nat) : Nat := last.length - 1 + dsum M n
structure Prt (M : List (List Rat)) (last : List Rat) (l : Rat) : Prop where
  m : ∀ L ∈ M, ∃ a : Rat, 0 < a ∧ L = [0, a]
  e : last = [l]
  n : l ≠ 0
def gP (M : List (List Rat)) (last : List Rat) (rh : Rat) (i j : Nat) : Rat := if 2 * j ≤ i then rh * (fld M last i).1.f (i - 2 * j) else 0
theorem qp_cons (a : Rat) (es : List Rat) (g : Pf) (k : Nat) : (qp (a :: es) * g).f k = a * g.f k + (if k = 0 then 0 else (qp es * g).f (k - 1)) := by
  cases k with
  | zero =>
    show cv (aQ (a :: es)) g.f 0 = _
    rw [cv_at0, if_pos rfl]
    show a * g.f 0 = _; grind
  | succ k =>
    show cv (aQ (a :: es)) g.f (k + 1) = _
    rw [cv_first, if_neg (by omega), Nat.add_sub_cancel]
    rfl
theorem qp_none (g : Pf) (k : Nat) : (qp [] * g).f k = 0 := cv_zero (fun _ => rfl) g.f k
def at' (g : Pf) (d k : Nat) : Rat := if d ≤ k then g.f (k - d) else 0
theorem at_s (g : Pf) (d k : Nat) : at' g (d + 1) (k + 1) = at' g d k := by
  unfold at'
  by_cases h : d ≤ k
  · rw [if_pos h, if_pos (by omega : d + 1 ≤ k + 1), Nat.add_sub_add_right]
  · rw [if_neg h, if_neg (by omega : ¬ d + 1 ≤ k + 1)]
theorem at_0 (g : Pf) (d : Nat) : at' g (d + 1) 0 = 0 := if_neg (by omega)
theorem at_z (g : Pf) (k : Nat) : at' g 0 k = g.f k := if_pos (Nat.zero_le _)
theorem one_f (g : Pf) (k : Nat) : (qp [1] * g).f k = g.f k := by
  rw [qp_cons]
  split
  · grind
  · rw [qp_none]; grind
theorem lin_f (c : Rat) (g : Pf) (k : Nat) : (qp [c, 1] * g).f k = c * g.f k + at' g 1 k := by
  rw [qp_cons]
  cases k with
  | zero => rw [if_pos rfl, at_0]
  | succ k => rw [if_neg (Nat.succ_ne_zero k), Nat.add_sub_cancel, one_f, at_s, at_z]
def rwA (p : Nat → Rat) (n : Nat) : Nat → Rat := fun j => if 2 * j ≤ n then p (n - 2 * j) else 0
def rwB (p : Nat → Rat) (n : Nat) : Nat → Rat := fun j => if 2 * j + 1 ≤ n then p (n - 1 - 2 * j) else 0
def Hp' (p : Pf) (n : Nat) : Prop := Hs n (rwA p.f n) (rwB p.f n)
inductive BadE : Nat → Pf → Prop where
  | lin {r : Rat} (h : 0 ≤ r) : BadE 1 (qp [-r, 1])
  | quad {u v : Rat} (h : 0 ≤ u) (hv : 0 < v) : BadE 2 (qp [u * u + v, -2 * u, 1])
  | ev2 {c : Rat} (h : c ≠ 0) : BadE 2 (qp [c, 0, 1])
  | ev4 {c : Rat} (h : c ≠ 0) : BadE 4 (qp [c, 0, 0, 0, 1])
structure Fac (d l : Nat) (f : Pf) : Prop where
  dg : ∀ (g : Pf) (m : Nat), (∀ k, m < k → g.f k = 0) → ∀ k, m + d < k → (f * g).f k = 0
  ld : ∀ (g : Pf) (m : Nat), (∀ k, m < k → g.f k = 0) → (f * g).f (m + d) = g.f m
  le : l ≤ d
  go : (l = d ∧ ∀ (p : Pf) (n : Nat), (∀ k, n < k → p.f k = 0) → Hp' p n → Hp' (f * p) (n + d)) ∨ (l < d ∧ BadE d f)
structure Rt (n l : Nat) (p : Pf) : Prop where
  nz : p.f n ≠ 0
  hi : ∀ k, n < k → p.f k = 0
  le : l ≤ n
  go : (l = n ∧ Hp' p n) ∨ (l < n ∧ ∃ d e g m, n = m + d ∧ BadE d e ∧ p = e * g ∧ ∀ k, m < k → g.f k = 0)
theorem NK.o60 {kd : Int} {q : Rat} (h : NK kd q) (hk : kd = 0 ∨ kd = 1) : OvB 60 10 q := by
  rcases hk with rfl | rfl
  · exact h.ovb0
  · have := h.ovb1.up (C := 60) (c := 6) (by decide) (by decide) (by decide)
    exact this
theorem ovb_int {B : Nat} (t : Int) {W : Nat} (hB : 0 < B) (h : (t * B).natAbs < 2 ^ W) : OvB B W (t : Rat) := by
  refine ⟨t * B, ?_, h⟩
  have b0 : ((B : Int) : Rat) ≠ 0 := fun z => by
    have := (Rat.intCast_inj (a := (B : Int)) (b := 0)).mp z
    omega
  rw [Rat.divInt_eq_div, Rat.div_def, Rat.intCast_mul, Rat.mul_assoc, Rat.mul_inv_cancel _ b0, Rat.mul_one]
theorem small3 : (3 : Nat) ≤ sizeLine := by decide
theorem new_u {H : Hp} {u a : Addr} (o : HO) (h : H a = none) (hu : UrnAt H u) : ∃ H', upd H a o = H' ∧ Same H H' ∧ H' a = some o ∧ UrnAt H' u ∧ a ≠ u := ⟨_, rfl, Same.new h o, upd_same, urn_new hu h, urn_ne hu h⟩
section
variable {P : Program} {w : World} {K : PySem.W.Frag} {mg : Str → Option Value} {base : Heap}
def spCD : Sp := fun vs H Q _ => ∃ a b : Int, vs = [.int a, .int b] ∧ (a.natAbs < 2 ^ 6000 ∨ b.natAbs < 2 ^ 6000) ∧ Q (.int (Int.gcd a b)) H
abbrev s_common_divisor : Stmt := top 24
theorem sc_common_divisor : FnScope ["one", "other"] ["one", "other"] (defScope s_common_divisor) := by and_intros
theorem ok_common_divisor {f : Addr} (d : Df K mg "common_divisor" s_common_divisor ["one", "other"] f) (c_SHORT : ∃ t, mg "SHORT" = some (.int 6000 t)) (n_abs : mg "abs" = none) : Def P w K mg base CX0 1 "common_divisor" f ["one", "other"] spCD := by
  obtain ⟨tS, c_SHORT⟩ := c_SHORT
  refine d.ok (N := ["one", "other"]) sc_common_divisor (fun vs H Q E ⟨a, b, h, _⟩ => by rw [h]; rfl) (fun cdv A outer s H vs Q E hr h => ?_)
  obtain ⟨a, b, rfl, hab, q⟩ := h
  refine ⟨_, (pss_cons (ps_if (PW.pt (pw_and (pt_cmpR op_gt (pe_bm0 PySem.F.plainAttrs_int PySem.F.slot_int_bit_length PySem.F.type_int_bit_length mt_bitlen (pv 1)) (pe_glob (v := .int 6000) rfl c_SHORT ⟨_, rfl⟩) (nomark _)) (pw_and1 (pt_cmpR op_gt (pe_bm0 PySem.F.plainAttrs_int PySem.F.slot_int_bit_length PySem.F.type_int_bit_length mt_bitlen (pv 0)) (pe_glob (v := .int 6000) rfl c_SHORT ⟨_, rfl⟩) (nomark _))))) (pss_one ps_never) pss_nil)
      (pss_cons (ps_while PassesOwn.never (pt_truth (pv 1) (fun _ => rfl)) (pss_one (ps_par (i := 0) (j := 1) rfl sc_common_divisor.nd rfl rfl (by decide) rfl rfl (pa_cons (pv 1) (pa_cons (pe_op op_modN (pv 0) (pv 1)) pa_nil)) rfl)))
      (pss_one (ps_ret (pe_callB call_abs rfl n_abs (by decide +kernel) (pa_cons (pv 0) pa_nil)))))), ?_⟩
  rw [show start ["one", "other"] [.int a, .int b] = [some (.int a), some (.int b)] from rfl]
  have hno : ¬ ((6000 : Int) < Builtin.Int.intBits b ∧ (6000 : Int) < Builtin.Int.intBits a) := by
    rintro ⟨h1, h2⟩
    rcases hab with z | z
    · have := intBits_lt z; omega
    · have := intBits_lt z; omega
  have main : ∀ {D : Ends} , (∀ x : Int, ∀ y : Int, y = 0 → Int.gcd x y = Int.gcd a b → D.nx [some (.int x), some (.int y)] H) → tWhile (fun σ H_1 Q => tVar 1 σ H_1 fun x H' => ∃ k, TruV K x H' k ∧ Q k H')
      (tPar 0 1 (tCons (tVar 1) (tCons (tOp (rI (fun x j => j ≠ 0) fun i j => V.int (i.fmod j)) (tVar 0) (tVar 1)) tNil))) D [some (.int a), some (.int b)] H := by
    intro D hD
    refine while_by (fun σ H1 => H1 = H ∧ ∃ x y : Int, σ = [some (.int x), some (.int y)] ∧ Int.gcd x y = Int.gcd a b) (fun σ _ => match σ with | [_, some (.int y)] => y.natAbs | _ => 0) ⟨rfl, a, b, rfl, rfl⟩ ?_ ?_
    · rintro σ H1 ⟨rfl, x, y, rfl, hg⟩
      simp! [TruV]
      split
      · rename_i hy
        have hy' : y ≠ 0 := by simpa using hy
        exact ⟨hy', by rw [gcd_fmod]; exact hg, natAbs_fmod_lt x hy'⟩
      · rename_i hy
        have hy' : y = 0 := by simpa using hy
        exact hD x y hy' hg
    · intro σ H1 Q Q' hQ h
      obtain ⟨v, e1, k, e2, e3⟩ := h
      exact ⟨v, e1, k, e2, hQ _ _ e3⟩
  have fin : ∀ x y : Int, y = 0 → Int.gcd x y = Int.gcd a b → Q (.int (if x < 0 then -x else x)) H := fun x y hy hg => by
    subst hy
    have e : (if x < 0 then -x else x) = (Int.gcd a b : Int) := by
      rw [← hg, Int.gcd_zero_right]
      split <;> omega
    rw [e]; exact q
  have nxt : ∀ x y : Int, y = 0 → Int.gcd x y = Int.gcd a b → (tRet (tCB (fun xs H Q => ∃ i, xs = [V.int i] ∧ Q (V.int (if i < 0 then -i else i)) H) (tCons (tVar 0) tNil)) { nx := fun x H' => Q V.non H', rt := Q }) [some (.int x), some (.int y)] H := fun x y hy hg => by
    subst_eqs
    exact fin x y hy hg
  subst_eqs
  split
  · split
    · exact hno ⟨‹_›, ‹_›⟩
    · exact main nxt
  · exact main nxt
end
instance {K : PySem.W.Frag} {H : Hp} {vs : List V} {qs : List Rat} : Coe (Nums H vs qs) (NumsC K H vs qs) := ⟨Nums.toC⟩
section
variable {P : Program} {w : World} {K : PySem.W.Frag} {mg : Str → Option Value} {base : Heap}
def spContent (K : PySem.W.Frag) : Sp := fun vs H Q _ => ∃ a ws, vs = [.ref a] ∧ SqL K H a (ws.map V.int) ∧ (∀ w ∈ ws, Int.natAbs w < 2 ^ 6000) ∧ Q (.int (gcdL ws)) H
abbrev s_content_of : Stmt := top 27
theorem sc_content_of : FnScope ["wholes", "content", "whole"] ["wholes"] (defScope s_content_of) := by and_intros
set_option maxHeartbeats 0 in
theorem ok_content_of {f fc : Addr} (d : Df K mg "content_of" s_content_of ["wholes"] f) (G_common_divisor : Def P w K mg base CX0 1 "common_divisor" fc ["one", "other"] spCD) : Def P w K mg base CX0 2 "content_of" f ["wholes"] (spContent K) := by
  refine d.ok (N := ["wholes", "content", "whole"]) sc_content_of (by rintro vs H Q E ⟨a, b, h, _⟩; rw [h]; rfl) (fun cdv A outer s H vs Q E hr h => ?_)
  obtain ⟨a, ws, rfl, hS, hb, k⟩ := h
  refine ⟨_, (pss_cons (ps_set (i := 1) sc_content_of.nd rfl (Or.inl rfl) pe_int)
      (pss_cons (ps_for PassesOwn.never rfl (pi_list (pv 0)) (pg_name (i := 2) sc_content_of.nd rfl (Or.inl rfl)) (pss_cons (ps_set (i := 1) sc_content_of.nd rfl (Or.inl rfl) (pe_def G_common_divisor hr (pa_cons (pv 2) (pa_cons (pv 1) pa_nil)) pass0))
      (pss_one (ps_if (pt_cmpR op_eq (pv 1) pe_int (nomark _)) (pss_one (ps_ret pe_int)) pss_nil))))
      (pss_one (ps_ret (pv 1))))), ?_⟩
  rw [show start ["wholes", "content", "whole"] [.ref a] = [some (.ref a), none, none] from rfl]
  subst_eqs
  refine ⟨_, rfl, a, rfl, ⟨_, hS⟩, for_list (xs := ws.map V.int) (fun i σ H1 => H1 = H ∧ ∃ o, σ = [some (.ref a), some (.int (gcdL (ws.take i) : Nat)), o]) ⟨rfl, _, rfl⟩ (fun i σ H1 _ ⟨e, _⟩ => e ▸ hS) ?_ ?_⟩
  · rintro i x σ H1 hx ⟨rfl, o, rfl⟩
    rw [List.getElem?_map] at hx
    cases hw : ws[i]? with
    | none => rw [hw] at hx; cases hx
    | some v =>
      rw [hw] at hx
      cases hx
      have hm := List.mem_of_getElem? hw
      simp! [spCD]
      have es : ws.take (i + 1) = ws.take i ++ [v] := by rw [List.take_succ, hw]; rfl
      have eg : Int.gcd v (gcdL (ws.take i) : Int) = gcdL (ws.take (i + 1)) := by rw [es, gcdL_snoc]
      refine ⟨.inl (Nat.lt_of_lt_of_le (hb v hm) (pow_le_pow2 (by decide))), ?_⟩
      rw [eg]
      refine ⟨rfl, ite2 (fun h1 => ?_) (fun _ => ?_)⟩
      · have : gcdL (ws.take (i + 1)) = 1 := by omega
        have e1 := gcdL_one _ this
        rw [e1] at k
        exact k
      · exact ⟨rfl, _, rfl⟩
  · rintro σ H1 ⟨rfl, o, rfl⟩
    rw [List.length_map, List.take_length]
    exact ⟨_, rfl, k⟩
def spCleared (K : PySem.W.Frag) : Sp := fun vs H Q _ => ∃ a xs qs, vs = [.ref a] ∧ SqL K H a xs ∧ NumsC K H xs qs ∧ (∃ W : Nat, ClN W qs ∧ W ≤ 6000) ∧ qs.length ≤ 100 ∧
  ∀ r l H', Same H H' → H l = none → H' r = some (.tup [.ref l, .int (lcmL qs)]) → H' l = some (.lst ((wholesOf (lcmL qs) qs).map V.int)) → Q (.ref r) H'
abbrev s_cleared : Stmt := top 30
theorem sc_cleared : FnScope ["numbers", "bottom", "number"] ["numbers"] (defScope s_cleared) := by and_intros
set_option maxHeartbeats 0 in
theorem ok_cleared {f fc : Addr} (d : Df K mg "cleared" s_cleared ["numbers"] f) (G_common_divisor : Def P w K mg base CX0 1 "common_divisor" fc ["one", "other"] spCD) : Def P w K mg base CX0 2 "cleared" f ["numbers"] (spCleared K) := by
  refine d.ok (N := ["numbers", "bottom", "number"]) sc_cleared (by rintro vs H Q E ⟨a, b, c, h, _⟩; rw [h]; rfl) (fun cdv A outer s H vs Q E hr h => ?_)
  obtain ⟨a, xs, qs, rfl, hS, hN, ⟨W, hs, hm⟩, hl, k⟩ := h
  refine ⟨_, (pss_cons (ps_set (i := 1) sc_cleared.nd rfl (Or.inr rfl) pe_int)
      (pss_cons (ps_for PassesOwn.never rfl (pi_list (pv 0)) (pg_name (i := 2) sc_cleared.nd rfl (Or.inl rfl)) (pss_one (ps_set (i := 1) sc_cleared.nd rfl (Or.inr rfl) (pe_op op_mulB (pe_op op_fdivB (pv 1) (pe_def G_common_divisor hr (pa_cons (pv 1) (pa_cons (pe_ix ix_tup (pv 2) pe_int (fun _ _ => rfl)) pa_nil)) pass0)) (pe_ix ix_tup (pv 2) pe_int (fun _ _ => rfl))))))
      (pss_one (ps_ret (pe_tup (pa_cons (pe_comp (Nc := ["bottom", "top", "under"]) (caps := [some 1, none, none]) rfl (Caps.of (osc := defScope s_cleared) (N := ["numbers", "bottom", "number"]) (ks := ["bottom"]) rfl rfl rfl rfl (sub_cons rfl sub_nil) (by decide +kernel)) (pi_list (pv 0)) (fun C s₂ H₂ fp pins => (show PG _ _ (gTup K 2 (gCons (gName 1) (gCons (gName 2) gNil))) from by (refine pg_tup (n := 2) ?_ ?_ ?_ ?_; rfl; (refine pgs_cons ?_ ?_ ?_; (exact (pg_name (i := 1) (show List.Nodup (["bottom", "top", "under"] : List Str) by decide +kernel) rfl (Or.inl rfl) (Or.inr rfl))); (refine pgs_cons ?_ ?_ ?_; (exact (pg_name (i := 2) (show List.Nodup (["bottom", "top", "under"] : List Str) by decide +kernel) rfl (Or.inl rfl) (Or.inr rfl))); (exact pgs_nil); rfl); rfl); rfl; rfl))) (fun C s₂ H₂ fp pins => (pe_op op_mulB (pv 1) (pe_op op_fdivB (pv 0) (pv 2))))) (pa_cons (pv 1) pa_nil))))))), ?_⟩
  rw [show start ["numbers", "bottom", "number"] [.ref a] = [some (.ref a), none, none] from rfl]
  subst_eqs
  have small : ∀ q ∈ qs, q.den < 2 ^ 6000 := fun q hq => Nat.lt_of_lt_of_le (hs.den hq) (pow_le_pow2 hm)
  have hB : ∀ i, 0 < lcmL (qs.take i) ∧ lcmL (qs.take i) < 2 ^ 6000 := fun i => by
    exact ⟨lcmL_pos _, Nat.lt_of_lt_of_le (hs.take i) (pow_le_pow2 hm)⟩
  refine ⟨_, rfl, a, rfl, ⟨_, hS⟩, for_list (xs := xs) (fun i σ H1 => H1 = H ∧ ∃ o, σ = [some (.ref a), some (.int (lcmL (qs.take i) : Nat)), o]) ⟨rfl, _, rfl⟩ (fun i σ H1 _ ⟨e, _⟩ => e ▸ hS) ?_ ?_⟩
  · rintro i x σ H1 hx ⟨rfl, o, rfl⟩
    obtain ⟨p, q, rfl, hq, hp⟩ := hN.getV hx
    obtain ⟨b1, b2⟩ := hB i
    have hd := small q (List.mem_of_getElem? hq)
    have hd0 := rat_den_pos q
    have es : qs.take (i + 1) = qs.take i ++ [q] := by rw [List.take_succ, hq]; rfl
    have gp : (0 : Int) < (Int.gcd (lcmL (qs.take i) : Int) (q.den : Int) : Nat) := by
      have := gcd_pos (t := (lcmL (qs.take i) : Int)) (b := (q.den : Int)) (by omega); omega
    have el : (lcmL (qs.take i) : Int).fdiv (Int.gcd (lcmL (qs.take i) : Int) (q.den : Int) : Nat) * (q.den : Int) = (lcmL (qs.take (i + 1)) : Nat) := by
      rw [es, lcmL_snoc]
      obtain ⟨e, he⟩ := Int.gcd_dvd_left (lcmL (qs.take i) : Int) (q.den : Int)
      have hg : Int.gcd (lcmL (qs.take i) : Int) (q.den : Int) = Nat.gcd (lcmL (qs.take i)) q.den := by simp [Int.gcd]
      have h1 : (lcmL (qs.take i) : Int).fdiv (Int.gcd (lcmL (qs.take i) : Int) (q.den : Int) : Nat) = e := by
        conv => lhs; arg 1; rw [he]
        exact fdiv_of_mul (by omega)
      rw [h1]
      have h2 : Nat.gcd (lcmL (qs.take i)) q.den * Nat.lcm (lcmL (qs.take i)) q.den = lcmL (qs.take i) * q.den := Nat.gcd_mul_lcm _ _
      have h3 : ((Nat.gcd (lcmL (qs.take i)) q.den : Nat) : Int) * (Nat.lcm (lcmL (qs.take i)) q.den : Nat) = (lcmL (qs.take i) : Int) * (q.den : Int) := by
        rw [← Int.natCast_mul, h2, Int.natCast_mul]
      rw [← hg] at h3
      have h4 : ((Int.gcd (lcmL (qs.take i) : Int) (q.den : Int) : Nat) : Int) * (e * q.den) = ((Int.gcd (lcmL (qs.take i) : Int) (q.den : Int) : Nat) : Int) * (Nat.lcm (lcmL (qs.take i)) q.den : Nat) := by
        rw [h3, ← Int.mul_assoc, ← he]
      exact Int.eq_of_mul_eq_mul_left (by omega) h4
    simp! [spCD]
    have hd9 : (q.den : Int).natAbs < 2 ^ 6000 := by rw [Int.natAbs_natCast]; exact hd
    exact ⟨_, hp.sqt, _, at1 q, _, rfl, .inr (lt_up hd9), divOk (by omega) (gcd_lt (by omega) (lt_up hd9)), _, hp.sqt, _, at1 q, _, rfl, mulOk (m := 6000) (n := 6000) (Nat.lt_of_le_of_lt (fdiv_le (by omega) (Int.gcd_dvd_left _ _)) (by rw [Int.natAbs_natCast]; exact b2)) hd9, el, _, rfl⟩
  · rintro σ H1 ⟨rfl, o, rfl⟩
    rw [← hN.length] at hl
    have e1 : qs.take xs.length = qs := by rw [hN.length, List.take_length]
    rw [e1]
    simp! [spCD]
    refine ⟨⟨_, hS⟩, fun D hD => ?_⟩
    refine cw_list xs (fun i σ H2 => ∃ o1 o2, σ = [some (.int (lcmL qs)), o1, o2] ∧ Same H1 H2 ∧ H2 D = some (.lst ((wholesOf (lcmL qs) (qs.take i)).map V.int))) ⟨_, _, rfl, Same.new hD _, upd_same⟩ (fun i σ H2 _ ⟨_, _, _, s2, _⟩ => s2.seq hS) ?_ ?_
    · rintro i x σ H2 hx ⟨o1, o2, rfl, s2, e2⟩
      have hi := (List.getElem?_eq_some_iff.mp hx).1
      obtain ⟨p, q, rfl, hq, hp⟩ := hN.getV hx
      have hd := small q (List.mem_of_getElem? hq)
      have hd0 := rat_den_pos q
      have hd9 : (q.den : Int).natAbs < 2 ^ 6000 := by rw [Int.natAbs_natCast]; exact hd
      have hn9 := hs.num (List.mem_of_getElem? hq)
      have es : qs.take (i + 1) = qs.take i ++ [q] := by rw [List.take_succ, hq]; rfl
      subst_eqs
      refine ⟨_, s2.tup hp.sqt, rfl, _, _, rfl, _, _, rfl, rfl, ?_⟩
      refine ⟨_, rfl, divOk (by omega) (lt_up hd9), _, rfl, mulOk (m := 6000) (n := 6000) (Nat.lt_of_lt_of_le hn9 (pow_le_pow2 (by omega))) (Nat.lt_of_le_of_lt (fdiv_le (by omega) (Int.natCast_dvd_natCast.mpr (den_dvd (List.mem_of_getElem? hq)))) (by rw [Int.natAbs_natCast]; have := (hB qs.length).2; rwa [List.take_length] at this)), ?_⟩
      refine CompN.mk hi e2 ?_ ⟨_, _, rfl, (s2.trans (Same.refl _)).over hD _, ?_⟩
      · simp only [List.length_map, wholesOf, List.length_take]
        exact Nat.lt_of_le_of_lt (show _ ≤ 100 by omega) (by decide)
      · rw [upd_same, es]
        simp [wholesOf]
    · rintro σ H2 ⟨o1, o2, rfl, s2, e2⟩
      rw [e1] at e2
      refine ⟨small2, fun p hp => k p D _ (s2.trans (Same.new hp _)) hD upd_same ?_⟩
      rw [upd_ne (ne_of_none e2 hp)]; exact e2
end
theorem lift_eq {qs : List Rat} (hc : gcdL (wholesOf (lcmL qs) qs) ≠ 0) :
    let c : Int := gcdL (wholesOf (lcmL qs) qs)
    (Rat.divInt c (lcmL qs)).num = c ∧ ((Rat.divInt c (lcmL qs)).den : Int) = lcmL qs ∧ qs = scl (Rat.divInt c (lcmL qs)) ((wholesOf (lcmL qs) qs).map fun v => v.fdiv c) := by
  intro c
  have hB := lcmL_pos qs
  obtain ⟨h1, h2⟩ := num_den_of (n := c) (d := (lcmL qs : Int)) (by omega) (content_cop1 qs)
  refine ⟨h1, h2, ?_⟩
  unfold scl wholesOf
  rw [List.map_map, List.map_map]
  conv => lhs; rw [← List.map_id qs]
  refine List.map_congr_left fun q hq => ?_
  show q = Rat.divInt c (lcmL qs) * (((q.num * (lcmL qs : Int).fdiv (q.den : Int)).fdiv c : Int) : Rat)
  obtain ⟨e, he⟩ := gcdL_dvd (ws := wholesOf (lcmL qs) qs) (List.mem_map.mpr ⟨q, hq, rfl⟩)
  have hc' : c ≠ 0 := by show ((gcdL (wholesOf (lcmL qs) qs) : Nat) : Int) ≠ 0; omega
  have e1 : (q.num * (lcmL qs : Int).fdiv (q.den : Int)).fdiv c = e := by
    conv => lhs; arg 1; rw [he]
    exact fdiv_of_mul hc'
  rw [e1]
  conv => lhs; rw [whole_eq hB (den_dvd hq)]
  rw [he]
  have e2 : (e : Rat) = Rat.divInt e 1 := by
    have := Rat.num_divInt_den (e : Rat)
    rw [Rat.num_intCast, Rat.den_intCast] at this
    exact this.symm
  rw [e2, Rat.divInt_mul_divInt, Int.mul_one]
theorem gcdL_ne {ws : List Int} {v : Int} (h : v ∈ ws) (hv : v ≠ 0) : gcdL ws ≠ 0 := fun z => by
  obtain ⟨e, he⟩ := gcdL_dvd h
  rw [z] at he
  simp at he
  exact hv he
theorem fdiv_small {a g : Int} {n : Nat} (hg : 0 < g) (hd : g ∣ a) (h : a.natAbs < n) : (a.fdiv g).natAbs < n := Nat.lt_of_le_of_lt (fdiv_le hg hd) h
section
variable {P : Program} {w : World} {K : PySem.W.Frag} {mg : Str → Option Value} {base : Heap}
theorem dvd_foldg {d : Nat} : ∀ (ws : List Int) (c : Nat), d ∣ c → (∀ w ∈ ws, (d : Int) ∣ w) → d ∣ ws.foldl (fun c w => Int.gcd w c) c
  | [], c, h, _ => h
  | w :: r, c, h, hw => dvd_foldg r _ (Int.dvd_gcd (hw w List.mem_cons_self) (Int.natCast_dvd_natCast.mpr h)) fun x hx => hw x (List.mem_cons_of_mem _ hx)
theorem gcdL_prim {ws : List Int} (hc : gcdL ws ≠ 0) : gcdL (ws.map fun v => v.fdiv ((gcdL ws : Nat) : Int)) = 1 := by
  obtain ⟨g, hg⟩ : ∃ g, g = gcdL ws := ⟨_, rfl⟩
  obtain ⟨e, he⟩ : ∃ e, e = gcdL (ws.map fun v => v.fdiv ((gcdL ws : Nat) : Int)) := ⟨_, rfl⟩
  have hd : (g * e) ∣ gcdL ws := dvd_foldg ws 0 (Nat.dvd_zero _) fun w hw => by
    obtain ⟨y, hy⟩ := gcdL_dvd hw
    have h1 : w.fdiv ((gcdL ws : Nat) : Int) = y := by
      conv => lhs; arg 1; rw [hy]
      exact fdiv_of_mul (by omega)
    obtain ⟨z, hz⟩ := gcdL_dvd (List.mem_map.mpr ⟨w, hw, rfl⟩ : w.fdiv ((gcdL ws : Nat) : Int) ∈ ws.map fun v => v.fdiv ((gcdL ws : Nat) : Int))
    rw [h1, ← he] at hz
    exact ⟨z, by rw [hy, ← hg, hz, Int.natCast_mul, Int.mul_assoc]⟩
  rw [← hg] at hd
  obtain ⟨z, hz⟩ := hd
  have h2 : g * 1 = g * (e * z) := by rw [Nat.mul_one, ← Nat.mul_assoc]; exact hz
  have h3 := Nat.eq_of_mul_eq_mul_left (show 0 < g by omega) h2
  rw [← he]
  exact Nat.dvd_one.mp ⟨z, h3⟩
def spLiftedG (K : PySem.W.Frag) : Sp := fun vs H Q _ => ∃ a xs qs, vs = [.ref a] ∧ SqL K H a xs ∧ NumsC K H xs qs ∧ ∃ W : Nat, ClN W qs ∧ W ≤ 6000 ∧ 1 ≤ W ∧ qs.length ≤ 100 ∧ IsTl qs qs.length ∧
  ∀ r rs l s ws H', Same H H' → H l = none → H' r = some (.tup [.ref rs, .ref l]) → SqT K H' rs (numV s) → H' l = some (.lst (ws.map V.int)) → BdN W s → s ≠ 0 → (∀ v ∈ ws, Int.natAbs v < 2 ^ W) → ws.length = qs.length → qs = scl s ws → (ws ≠ [] → gcdL ws = 1) → Q (.ref r) H'
def spLiftedP (K : PySem.W.Frag) : Sp := fun vs H Q _ => ∃ a xs qs, vs = [.ref a] ∧ SqL K H a xs ∧ NumsC K H xs qs ∧ ∃ W : Nat, ClN W qs ∧ W ≤ 6000 ∧ 1 ≤ W ∧ qs.length ≤ 100 ∧ IsTl qs qs.length ∧
  ∀ r rs l s ws H', Same H H' → H l = none → H' r = some (.tup [.ref rs, .ref l]) → SqT K H' rs (numV s) → H' l = some (.lst (ws.map V.int)) → BdN W s → s ≠ 0 → (∀ v ∈ ws, Int.natAbs v < 2 ^ W) → ws.length = qs.length → qs = scl s ws → (ws ≠ [] → gcdL ws = 1) → 0 < s → Q (.ref r) H'
abbrev s_lifted : Stmt := top 31
theorem sc_lifted : FnScope ["p", "content", "wholes", "bottom"] ["p"] (defScope s_lifted) := by and_intros
set_option maxHeartbeats 0 in
theorem okP_lifted {f fc fk aN : Addr} (d : Df K mg "lifted" s_lifted ["p"] f) (G_cleared : Def P w K mg base CX0 2 "cleared" fc ["numbers"] (spCleared K)) (G_content_of : Def P w K mg base CX0 2 "content_of" fk ["wholes"] (spContent K)) (c_ONE : mg "ONE" = some (.ref aN)) (tN : ∀ H, SqT K H aN (numV 1)) : Def P w K mg base CX0 3 "lifted" f ["p"] (spLiftedP K) := by
  refine d.ok (N := ["p", "content", "wholes", "bottom"]) sc_lifted (by rintro vs H Q E ⟨a, b, c, h, _⟩; rw [h]; rfl) (fun cdv A outer s H vs Q E hr h => ?_)
  obtain ⟨a, xs, qs, rfl, hS, hN, m, hs, hm, hm1, hl, ht, k⟩ := h
  refine ⟨_, (pss_cons (ps_asg (pe_def G_cleared hr (pa_cons (pv 0) pa_nil) pass0) (show PG _ _ (gTup K 2 (gCons (gName 2) (gCons (gName 3) gNil))) from by (refine pg_tup (n := 2) ?_ ?_ ?_ ?_; rfl; (refine pgs_cons ?_ ?_ ?_; (exact (pg_name (i := 2) sc_lifted.nd rfl (Or.inl rfl))); (refine pgs_cons ?_ ?_ ?_; (exact (pg_name (i := 3) sc_lifted.nd rfl (Or.inl rfl))); (exact pgs_nil); rfl); rfl); rfl; rfl)))
      (pss_cons (ps_if (pt_not (pt_truth (pv 2) (fun _ => rfl))) (pss_one (ps_ret (pe_tup (pa_cons (pe_glob (v := .ref _) rfl c_ONE rfl) (pa_cons (pe_lst pa_nil) pa_nil))))) pss_nil)
      (pss_cons (ps_set (i := 1) sc_lifted.nd rfl (Or.inr rfl) (pe_def G_content_of hr (pa_cons (pv 2) pa_nil) pass0))
      (pss_one (ps_ret (pe_tup (pa_cons (pe_tup (pa_cons (pv 1) (pa_cons (pv 3) pa_nil))) (pa_cons (pe_comp (Nc := ["content", "whole"]) (caps := [some 1, none]) rfl (Caps.of (osc := defScope s_lifted) (N := ["p", "content", "wholes", "bottom"]) (ks := ["content"]) rfl rfl rfl rfl (sub_cons rfl sub_nil) (by decide +kernel)) (pi_list (pv 2)) (fun C s₂ H₂ fp pins => (pg_name (i := 1) (show List.Nodup (["content", "whole"] : List Str) by decide +kernel) rfl (Or.inl rfl) (Or.inr rfl))) (fun C s₂ H₂ fp pins => (pe_op op_fdivB (pv 1) (pv 0)))) pa_nil)))))))), ?_⟩
  rw [show start ["p", "content", "wholes", "bottom"] [.ref a] = [some (.ref a), none, none, none] from rfl]
  simp! [TruV]
  refine ⟨a, xs, qs, rfl, hS, hN, ⟨m, hs, hm⟩, hl, fun r l H1 s1 hl1 er el => ?_⟩
  have hB := lcmL_pos qs
  have hB1 := hs.l
  have wl := hs.w
  refine ⟨r, rfl, _, SqT.of er, rfl, _, _, rfl, _, _, rfl, rfl, _, .inl ⟨_, SqL.of el, rfl⟩, ite2 (fun h0 => ?_) (fun h0 => ?_)⟩
  · have hq : qs = [] := by
      cases qs with
      | nil => rfl
      | cons q r => simp [wholesOf] at h0
    subst hq
    refine ⟨by decide, fun p hp => ⟨small2, fun p1 hp1 => ?_⟩⟩
    refine k p1 aN p 1 [] _ (s1.trans ((Same.new hp _).trans (Same.new hp1 _))) (s1.free hp) upd_same (tN _) (by rw [upd_ne (new_ne hp1).symm]; exact upd_same) ⟨Nat.lt_of_lt_of_le (show _ < 2 ^ 1 by decide) (pow_le_pow2 (by omega)), Nat.lt_of_lt_of_le (show _ < 2 ^ 1 by decide) (pow_le_pow2 (by omega))⟩ (by decide) (by simp) (by simp) rfl (fun z => absurd rfl z) (by decide)
  · have hq : qs ≠ [] := fun z => h0 (by rw [z]; rfl)
    have lp : 0 < qs.length := List.length_pos_iff.mpr hq
    have hlast : qs.length - 1 < qs.length := by omega
    have hne : qs[qs.length - 1] ≠ 0 := ht.last (by omega) _ (List.getElem?_eq_getElem hlast)
    have hmem : qs[qs.length - 1] ∈ qs := List.getElem_mem hlast
    have hc : gcdL (wholesOf (lcmL qs) qs) ≠ 0 := by
      refine gcdL_ne (List.mem_map.mpr ⟨_, hmem, rfl⟩) ?_
      obtain ⟨e, he⟩ := den_dvd hmem
      have h0 : (qs[qs.length - 1].den : Int) ≠ 0 := by have := qs[qs.length - 1].den_nz; omega
      have e1 : (lcmL qs : Int).fdiv (qs[qs.length - 1].den : Int) = (e : Int) := by
        rw [he, Int.natCast_mul]; exact fdiv_of_mul h0
      rw [e1]
      refine Int.mul_ne_zero (fun z => hne (num_zero.mp z)) ?_
      intro z
      have : e = 0 := by omega
      rw [this] at he; omega
    obtain ⟨f1, f2, f3⟩ := lift_eq hc
    have cpos : (0 : Int) < (gcdL (wholesOf (lcmL qs) qs) : Nat) := by omega
    have cle : gcdL (wholesOf (lcmL qs) qs) < 2 ^ m := by
      have hm : qs[qs.length - 1].num * (lcmL qs : Int).fdiv (qs[qs.length - 1].den : Int) ∈ wholesOf (lcmL qs) qs := List.mem_map.mpr ⟨_, hmem, rfl⟩
      obtain ⟨e, he⟩ := gcdL_dvd hm
      have w1 := wl _ hm
      rw [he, Int.natAbs_mul, Int.natAbs_natCast] at w1
      have e0 : e.natAbs ≠ 0 := fun z => by
        have hz : e = 0 := by omega
        rw [hz, Int.mul_zero] at he
        rcases Int.mul_eq_zero.mp he with q1 | q1
        · exact hne (num_zero.mp q1)
        · obtain ⟨e', he'⟩ := den_dvd hmem
          have h0 : (qs[qs.length - 1].den : Int) ≠ 0 := by have := qs[qs.length - 1].den_nz; omega
          have e1 : (lcmL qs : Int).fdiv (qs[qs.length - 1].den : Int) = (e' : Int) := by
            rw [he', Int.natCast_mul]; exact fdiv_of_mul h0
          rw [e1] at q1
          have : e' = 0 := by omega
          rw [this] at he'; omega
      exact Nat.lt_of_le_of_lt (Nat.le_mul_of_pos_right _ (by omega)) w1
    refine ⟨l, _, rfl, SqL.of el, fun v hv => Nat.lt_of_lt_of_le (wl v hv) (pow_le_pow2 hm), small2, fun p hp => ⟨l, rfl, ⟨_, SqL.of (Same.new hp _ _ _ el)⟩, fun D hD => ?_⟩⟩
    have sp := Same.new hp (.tup [.int (gcdL (wholesOf (lcmL qs) qs) : Nat), .int (lcmL qs)])
    refine cw_list ((wholesOf (lcmL qs) qs).map V.int) (fun i σ H2 => ∃ o, σ = [some (.int (gcdL (wholesOf (lcmL qs) qs) : Nat)), o] ∧ Same (upd H1 p (.tup [.int (gcdL (wholesOf (lcmL qs) qs) : Nat), .int (lcmL qs)])) H2 ∧ H2 D = some (.lst ((((wholesOf (lcmL qs) qs).take i).map fun v => v.fdiv (gcdL (wholesOf (lcmL qs) qs) : Nat)).map V.int)))
      ⟨_, rfl, Same.new hD _, upd_same⟩ (fun i σ H2 _ ⟨_, _, s2, _⟩ => SqL.of (s2 _ _ (sp _ _ el))) ?_ ?_
    · rintro i x σ H2 hx ⟨o, rfl, s2, e2⟩
      have hi := (List.getElem?_eq_some_iff.mp hx).1
      rw [List.getElem?_map] at hx
      cases hw : (wholesOf (lcmL qs) qs)[i]? with
      | none => rw [hw] at hx; cases hx
      | some v =>
        rw [hw] at hx
        cases hx
        subst_eqs
        refine ⟨divOk (by omega) (by rw [Int.natAbs_natCast]; exact lt_up cle (by omega)), CompN.mk hi e2 ?_ ⟨_, rfl, s2.over hD _, ?_⟩⟩
        · simp only [List.length_map, List.length_take, wholesOf]
          exact Nat.lt_of_le_of_lt (show _ ≤ 100 by omega) (by decide)
        · rw [upd_same, List.take_succ, hw]
          simp
    · rintro σ H2 ⟨o, rfl, s2, e2⟩
      rw [List.length_map, List.take_length] at e2
      refine ⟨small2, fun p1 hp1 => ?_⟩
      have S := (s1.trans sp).trans (s2.trans (Same.new hp1 (.tup [.ref p, .ref D])))
      have ep : SqT K (upd H2 p1 (.tup [.ref p, .ref D])) p (numV (Rat.divInt (gcdL (wholesOf (lcmL qs) qs) : Nat) (lcmL qs))) := by
        refine SqT.of ?_
        rw [upd_ne (ne_of_none (s2 _ _ upd_same) hp1), s2 _ _ upd_same]
        unfold numV
        rw [f1, f2]
      refine k p1 p D _ ((wholesOf (lcmL qs) qs).map fun v => v.fdiv (gcdL (wholesOf (lcmL qs) qs) : Nat)) _ S (s1.free (new_free hD)) upd_same ep (by rw [upd_ne (ne_of_none e2 hp1)]; exact e2) ⟨?_, ?_⟩ ?_ ?_ ?_ f3 (fun _ => gcdL_prim hc) ?_
      · rw [f1, Int.natAbs_natCast]; exact cle
      · have : (Rat.divInt (gcdL (wholesOf (lcmL qs) qs) : Nat) (lcmL qs)).den = lcmL qs := by omega
        rw [this]; exact hB1
      · intro z
        rw [z] at f1
        have : (0 : Rat).num = 0 := rfl
        omega
      · intro v hv
        obtain ⟨v', hv', rfl⟩ := List.mem_map.mp hv
        exact fdiv_small cpos (gcdL_dvd hv') (wl v' hv')
      · simp only [List.length_map, wholesOf]
      · exact rnum_pos (by rw [f1]; exact cpos)
theorem okD_lifted {f fc fk aN : Addr} (d : Df K mg "lifted" s_lifted ["p"] f) (G_cleared : Def P w K mg base CX0 2 "cleared" fc ["numbers"] (spCleared K)) (G_content_of : Def P w K mg base CX0 2 "content_of" fk ["wholes"] (spContent K)) (c_ONE : mg "ONE" = some (.ref aN)) (tN : ∀ H, SqT K H aN (numV 1)) : Def P w K mg base CX0 3 "lifted" f ["p"] (spLiftedG K) :=
  (okP_lifted d G_cleared G_content_of c_ONE tN).imp (by
    rintro vs H Q E ⟨a, xs, qs, h1, h2, h3, W, h4, h5, h6, h7, h8, k⟩
    exact ⟨a, xs, qs, h1, h2, h3, W, h4, h5, h6, h7, h8, fun r rs l s ws H' a1 a2 a3 a4 a5 a6 a7 a8 a9 b1 b2 _ => k r rs l s ws H' a1 a2 a3 a4 a5 a6 a7 a8 a9 b1 b2⟩)
end
theorem low_num (s : Rat) {v : Int} (hv : v ≠ 0) : v.fdiv (Int.gcd (s.den : Int) v : Nat) * s.num = (s * (v : Rat)).num ∧ (s.den : Int).fdiv (Int.gcd (s.den : Int) v : Nat) = ((s * (v : Rat)).den : Int) := by
  have dp := rat_den_pos s
  have hg := gcd_pos (t := (s.den : Int)) hv
  obtain ⟨d', hd⟩ := Int.gcd_dvd_left (s.den : Int) v
  obtain ⟨v', hv'⟩ := Int.gcd_dvd_right (s.den : Int) v
  have hc : Int.gcd d' v' = 1 := coprime_parts hv hd hv'
  have e1 : v.fdiv (Int.gcd (s.den : Int) v : Nat) = v' := by
    conv => lhs; arg 1; rw [hv']
    exact fdiv_of_mul (by omega)
  have e2 : (s.den : Int).fdiv (Int.gcd (s.den : Int) v : Nat) = d' := by
    conv => lhs; arg 1; rw [hd]
    exact fdiv_of_mul (by omega)
  rw [e1, e2]
  have ev : s * (v : Rat) = Rat.divInt (s.num * v) s.den := by
    have h1 := Rat.num_divInt_den (v : Rat)
    rw [Rat.num_intCast, Rat.den_intCast] at h1
    conv => lhs; rw [← Rat.num_divInt_den s, ← h1]
    rw [Rat.divInt_mul_divInt]
    simp
  rw [ev]
  have hd0 : 0 < d' := by
    rcases Int.lt_or_le 0 d' with z | z
    · exact z
    · have := Int.mul_nonneg (show (0 : Int) ≤ (Int.gcd (s.den : Int) v : Nat) by omega) (show 0 ≤ -d' by omega)
      rw [Int.mul_neg] at this; omega
  have c1 : Int.gcd d' s.num = 1 := by
    have := cop_dvd (k := s.num) (m := (s.den : Int)) (n := d') (rat_gcd s) ⟨_, by rw [Int.mul_comm]; exact hd⟩
    exact cop_symm this
  refine eq_of_divInt hd0 (cop_symm (cop_mul_right hc c1)) (by omega) ?_
  generalize (Int.gcd (s.den : Int) v : Int) = g at *
  rw [hd, hv']
  grind
section
variable {P : Program} {w : World} {K : PySem.W.Frag} {mg : Str → Option Value} {base : Heap}
def DfaOk (b : Int) (ws : List Int) (d : Int) : Prop := 0 < d ∧ d ∣ b ∧ ∀ v ∈ ws, v ≠ 0 → Int.gcd d v = Int.gcd b v
def spDfa (K : PySem.W.Frag) : Sp := fun vs H Q _ => ∃ (a : Addr) (ws : List Int) (b : Int), vs = [.ref a, .int b] ∧ SqL K H a (ws.map V.int) ∧ ws.length ≤ 100 ∧ 0 < b ∧ b.natAbs < 2 ^ 6000 ∧ (∀ v ∈ ws, Int.natAbs v < 2 ^ 20000) ∧ ∀ H' d, Same H H' → DfaOk b ws d → Q (.int d) H'
abbrev s_divisor_for_all : Stmt := top 32
theorem sc_divisor_for_all : FnScope ["wholes", "bottom", "longest", "product", "whole"] ["wholes", "bottom"] (defScope s_divisor_for_all) := by and_intros
set_option maxHeartbeats 0 in
theorem ok_divisor_for_all {f fc : Addr} {tL : Tok} (d : Df K mg "divisor_for_all" s_divisor_for_all ["wholes", "bottom"] f) (G_common_divisor : Def P w K mg base CX0 1 "common_divisor" fc ["one", "other"] spCD) (c_LONG : mg "LONG" = some (.int 1000 tL)) (n_max : mg "max" = none) : Def P w K mg base CX0 2 "divisor_for_all" f ["wholes", "bottom"] (spDfa K) := by
  refine d.ok (N := ["wholes", "bottom", "longest", "product", "whole"]) sc_divisor_for_all (by rintro vs H Q E ⟨a, b, c, h, _⟩; rw [h]; rfl) (fun cdv A outer s H vs Q E hr h => ?_)
  obtain ⟨a, ws, b, rfl, hS, hl, hb0, hb, hws, k⟩ := h
  refine ⟨_, (pss_cons (ps_set (i := 2) sc_divisor_for_all.nd rfl (Or.inl rfl) (pe_maxD rfl rfl n_max (pa_cons (pe_comp (Nc := ["whole"]) (caps := [none]) rfl (Caps.of (osc := defScope s_divisor_for_all) (N := ["wholes", "bottom", "longest", "product", "whole"]) (ks := []) rfl rfl rfl rfl sub_nil (by decide +kernel)) (pi_list (pv 0)) (fun C s₂ H₂ fp pins => (pg_name (i := 0) (show List.Nodup (["whole"] : List Str) by decide +kernel) rfl (Or.inl rfl) (Or.inr rfl))) (fun C s₂ H₂ fp pins => (show PE _ _ (tBM0 K "int" _ _) from by exact (pe_bm0 PySem.F.plainAttrs_int PySem.F.slot_int_bit_length PySem.F.type_int_bit_length mt_bitlen (pv 0))))) pa_nil)))
      (pss_cons (ps_if (PW.pt (pw_or (pt_cmpR op_lt (pe_bm0 PySem.F.plainAttrs_int PySem.F.slot_int_bit_length PySem.F.type_int_bit_length mt_bitlen (pv 1)) (pe_glob (v := .int 1000) rfl c_LONG ⟨_, rfl⟩) (nomark _)) (pw_or1 (pt_cmpR op_gt (pe_bm0 PySem.F.plainAttrs_int PySem.F.slot_int_bit_length PySem.F.type_int_bit_length mt_bitlen (pv 1)) (pe_op op_mulB pe_int (pv 2)) (nomark _))))) (pss_one (ps_ret (pv 1))) pss_nil)
      (pss_cons (ps_set (i := 3) sc_divisor_for_all.nd rfl (Or.inl rfl) pe_int)
      (pss_cons (ps_for PassesOwn.never rfl (pi_list (pv 0)) (pg_name (i := 4) sc_divisor_for_all.nd rfl (Or.inl rfl)) (pss_one (ps_if (pt_truth (pv 4) (fun _ => rfl)) (pss_one (ps_set (i := 3) sc_divisor_for_all.nd rfl (Or.inl rfl) (pe_op op_modN (pe_op op_mulB (pv 3) (pv 4)) (pv 1)))) pss_nil)))
      (pss_one (ps_ret (pe_def G_common_divisor hr (pa_cons (pv 1) (pa_cons (pv 3) pa_nil)) pass0))))))), ?_⟩
  rw [show start ["wholes", "bottom", "longest", "product", "whole"] [.ref a, .int b] = [some (.ref a), some (.int b), none, none, none] from rfl]
  subst_eqs
  have triv : DfaOk b ws b := ⟨hb0, Int.dvd_refl _, fun _ _ _ => rfl⟩
  refine ⟨⟨_, hS⟩, fun D hD => ?_⟩
  refine cw_list (ws.map V.int) (fun i σ H2 => ∃ o, σ = [o] ∧ Same H H2 ∧ ∃ ns : List Int, ns.length = i ∧ H2 D = some (.lst (ns.map V.int))) ⟨_, rfl, Same.new hD _, [], rfl, upd_same⟩ (by rintro i σ H2 _ ⟨_, _, s2, _⟩; exact s2.seq hS) ?_ ?_
  · rintro i x σ H2 hx ⟨o, rfl, s2, ns, hn, e2⟩
    have hi := (List.getElem?_eq_some_iff.mp hx).1
    obtain ⟨v, hw, rfl⟩ := ints_get hx
    subst_eqs
    refine CompN.mk hi e2 ?_ ⟨_, rfl, s2.over hD _, ?_⟩
    · rw [List.length_map] at hi ⊢
      exact Nat.lt_of_lt_of_le (show ns.length < 101 by omega) (by decide)
    · refine ⟨ns ++ [(Builtin.Int.intBits v : Int)], by simp [hn], ?_⟩
      rw [upd_same, List.map_append]; rfl
  · rintro σ H2 ⟨o, rfl, s2, ns, hn, e2⟩
    refine ⟨D, rfl, ns, SqL.of e2, fun i => ?_⟩
    refine ite2 (fun _ => k H2 b s2 triv) (fun _ => ?_)
    refine ⟨mulS (by decide), ite2 (fun _ => k H2 b s2 triv) (fun _ => ?_)⟩
    refine ⟨_, rfl, a, rfl, ⟨_, s2.seq hS⟩, for_list (xs := ws.map V.int) (fun i' σ H3 => H3 = H2 ∧ ∃ p o, σ = [some (.ref a), some (.int b), some (.int i), some (.int p), o] ∧ p.natAbs < 2 ^ 6000 ∧ ∃ e, prodL (ws.take i') = p + b * e) ⟨rfl, 1, _, rfl, Nat.lt_of_lt_of_le (show _ < 2 ^ 1 by decide) (pow_le_pow2 (by decide)), 0, by simp [prodL]⟩ (by rintro i' σ H3 _ ⟨rfl, _⟩; exact s2.seq hS) ?_ ?_⟩
    · rintro i' x σ H3 hx ⟨rfl, p, o, rfl, hp, e, he⟩
      obtain ⟨v, hv, rfl⟩ := ints_get hx
      have hvm := hws v (List.mem_of_getElem? hv)
      have es : ws.take (i' + 1) = ws.take i' ++ [v] := by rw [List.take_succ, hv]; rfl
      simp! [TruV]
      refine ite2 (fun h => ?_) (fun h => ?_)
      · have hv0 : v ≠ 0 := by simpa using h
        refine ⟨mulOk hp hvm, by omega, ?_, (p * v).fdiv b + e * v, ?_⟩
        · have h1 := Int.fmod_nonneg_of_pos (p * v) hb0
          have h2 := Int.fmod_lt_of_pos (p * v) hb0
          omega
        · rw [es, prodL_snoc, if_neg hv0, he]
          have := Int.fmod_add_mul_fdiv (p * v) b
          grind
      · have hv0 : v = 0 := by simpa using h
        refine ⟨hp, e, ?_⟩
        rw [es, prodL_snoc, if_pos hv0, he]
    · rintro σ H3 ⟨rfl, p, o, rfl, hp, e, he⟩
      rw [List.length_map, List.take_length] at he
      simp! [spCD]
      refine ⟨.inl hb, k _ _ s2 ⟨?_, Int.gcd_dvd_left _ _, fun v hv hv0 => ?_⟩⟩
      · have := gcd_pos (t := p) (b := b) (by omega)
        rw [Int.gcd_comm] at this; omega
      · have e1 : Int.gcd b p = Int.gcd b (prodL ws) := by
          rw [he]
          refine Nat.dvd_antisymm ?_ ?_
          · exact Int.dvd_gcd (Int.gcd_dvd_left _ _) (Int.dvd_add (Int.gcd_dvd_right _ _) (Int.dvd_trans (Int.gcd_dvd_left _ _) ⟨e, rfl⟩))
          · refine Int.dvd_gcd (Int.gcd_dvd_left _ _) ?_
            have h1 := Int.gcd_dvd_right b (p + b * e)
            have h2 : ((Int.gcd b (p + b * e) : Nat) : Int) ∣ b * e := Int.dvd_trans (Int.gcd_dvd_left _ _) ⟨e, rfl⟩
            have := Int.dvd_sub h1 h2
            rwa [Int.add_sub_cancel] at this
        rw [e1]
        exact gcd_thru (prodL_dvd hv hv0)
def spLowered (K : PySem.W.Frag) : Sp := fun vs H Q _ => ∃ (x : V) (s : Rat) (a : Addr) (ws : List Int), vs = [x, .ref a] ∧ Num K H x s ∧ SqL K H a (ws.map V.int) ∧ s.den < 2 ^ 6000 ∧ s.num.natAbs < 2 ^ 6000 ∧ (∀ v ∈ ws, Int.natAbs v < 2 ^ 20000) ∧ ws.length ≤ 100 ∧
  ∀ r xs H', Same H H' → H r = none → H' r = some (.lst xs) → Nums H' xs (scl s ws) → Q (.ref r) H'
abbrev s_lowered : Stmt := top 33
theorem sc_lowered : FnScope ["scale", "wholes", "divisor", "numbers", "whole", "top", "bottom", "shared"] ["scale", "wholes"] (defScope s_lowered) := by and_intros
set_option maxHeartbeats 0 in
theorem ok_lowered {f fd fc : Addr} (d : Df K mg "lowered" s_lowered ["scale", "wholes"] f) (G_divisor_for_all : Def P w K mg base CX0 2 "divisor_for_all" fd ["wholes", "bottom"] (spDfa K)) (G_common_divisor : Def P w K mg base CX0 1 "common_divisor" fc ["one", "other"] spCD) : Def P w K mg base CX0 3 "lowered" f ["scale", "wholes"] (spLowered K) := by
  refine d.ok (N := ["scale", "wholes", "divisor", "numbers", "whole", "top", "bottom", "shared"]) sc_lowered (by rintro vs H Q E ⟨a, b, c, e, h, _⟩; rw [h]; rfl) (fun cdv A outer s H vs Q E hr h => ?_)
  obtain ⟨x, sc, a, ws, rfl, ⟨px, rfl, hx⟩, hS, hd, hn, hw, hl, k⟩ := h
  refine ⟨_, (pss_cons (ps_asg (pv 0) (show PG _ _ (gTup K 2 (gCons (gName 5) (gCons (gName 6) gNil))) from by (refine pg_tup (n := 2) ?_ ?_ ?_ ?_; rfl; (refine pgs_cons ?_ ?_ ?_; (exact (pg_name (i := 5) sc_lowered.nd rfl (Or.inl rfl))); (refine pgs_cons ?_ ?_ ?_; (exact (pg_name (i := 6) sc_lowered.nd rfl (Or.inl rfl))); (exact pgs_nil); rfl); rfl); rfl; rfl)))
      (pss_cons (ps_set (i := 2) sc_lowered.nd rfl (Or.inl rfl) (pe_def G_divisor_for_all hr (pa_cons (pv 1) (pa_cons (pv 6) pa_nil)) pass0))
      (pss_cons (ps_set (i := 3) sc_lowered.nd rfl (Or.inl rfl) (pe_lst pa_nil))
      (pss_cons (ps_for PassesOwn.never rfl (pi_list (pv 1)) (pg_name (i := 4) sc_lowered.nd rfl (Or.inl rfl)) (pss_cons (ps_set (i := 7) sc_lowered.nd rfl (Or.inl rfl) (pe_ifExp (pt_truth (pv 4) (fun _ => rfl)) (pe_def G_common_divisor hr (pa_cons (pv 2) (pa_cons (pv 4) pa_nil)) pass0) (pv 6)))
      (pss_one (ps_expr (pe_bm PySem.F.plainAttrs_list PySem.F.slot_list_append PySem.F.type_list_append mt_append (pv 3) (pa_cons (pe_tup (pa_cons (pe_op op_mulB (pe_op op_fdivB (pv 4) (pv 7)) (pv 5)) (pa_cons (pe_op op_fdivB (pv 6) (pv 7)) pa_nil))) pa_nil))))))
      (pss_one (ps_ret (pv 3))))))), ?_⟩
  rw [show start ["scale", "wholes", "divisor", "numbers", "whole", "top", "bottom", "shared"] [.ref px, .ref a] = [some (.ref px), some (.ref a), none, none, none, none, none, none] from rfl]
  simp! [TruV]
  refine ⟨_, hx, rfl, _, _, rfl, _, _, rfl, rfl, a, ws, _, rfl, hS, hl, by have := rat_den_pos sc; omega, by rw [Int.natAbs_natCast]; exact hd, hw, fun H1 dv s1 ⟨dv0, dv1, dv2⟩ => ⟨by decide, fun p hp => ?_⟩⟩
  refine ⟨_, rfl, a, rfl, ⟨_, (s1.trans (Same.new hp _)).seq hS⟩, for_list (xs := ws.map V.int) (fun i σ H2 => ∃ o1 o2, σ = [some (.ref px), some (.ref a), some (.int dv), some (.ref p), o1, some (.int sc.num), some (.int sc.den), o2] ∧ Same H1 H2 ∧ ∃ xs, H2 p = some (.lst xs) ∧ Nums H2 xs (scl sc (ws.take i))) ⟨_, _, rfl, Same.new hp _, [], upd_same, .nil⟩ (fun i σ H2 _ ⟨_, _, _, s2, _⟩ => s2.seq (s1.seq hS)) ?_ ?_⟩
  · rintro i x σ H2 hx' ⟨o1, o2, rfl, s2, xs, e2, n2⟩
    have hi := (List.getElem?_eq_some_iff.mp hx').1
    obtain ⟨v, hv, rfl⟩ := ints_get hx'
    have dp := rat_den_pos sc
    have es : ws.take (i + 1) = ws.take i ++ [v] := by rw [List.take_succ, hv]; rfl
    have hvb := hw v (List.mem_of_getElem? hv)
    have hdb : (sc.den : Int).natAbs < 2 ^ 6000 := by rw [Int.natAbs_natCast]; exact hd
    simp! [TruV, spCD]
    have fin : ∀ (A B : Int), A = (sc * (v : Rat)).num → B = ((sc * (v : Rat)).den : Int) → ∀ p1, H2 p1 = none → ∃ x, upd H2 p1 (.tup [.int A, .int B]) p = some (.lst x) ∧ x.length < sizeLine ∧ Same H1 (upd (upd H2 p1 (.tup [.int A, .int B])) p (.lst (x ++ [.ref p1]))) ∧
        ∃ xs, upd (upd H2 p1 (.tup [.int A, .int B])) p (.lst (x ++ [.ref p1])) p = some (.lst xs) ∧ Nums (upd (upd H2 p1 (.tup [.int A, .int B])) p (.lst (x ++ [.ref p1]))) xs (scl sc (ws.take (i + 1))) := by
      intro A B hA hB p1 hp1
      have e := Same.new hp1 (.tup [.int A, .int B]) _ _ e2
      refine ⟨xs, e, ?_, (s2.trans (Same.new hp1 _)).over hp _, _, upd_same, ?_⟩
      · rw [n2.length, scl_len, List.length_take]
        exact Nat.lt_of_le_of_lt (show _ ≤ 100 by omega) (by decide)
      · have e3 : scl sc (ws.take (i + 1)) = scl sc (ws.take i) ++ [sc * (v : Rat)] := by rw [es]; simp [scl]
        rw [e3]
        exact ((n2.mono (TupS.new hp1)).append (.cons (by rw [upd_same]; unfold numV; rw [hA, hB]) .nil)).mono (TupS.lst e)
    refine ite2 (fun h => ?_) (fun h => ?_)
    · have hv0 : v ≠ 0 := by simpa using h
      obtain ⟨q1, q2⟩ := low_num sc hv0
      have gp := gcd_pos (t := (sc.den : Int)) hv0
      have gl := gcd_lt_left (b := v) (show (sc.den : Int) ≠ 0 by omega) hdb
      have hdvb : dv.natAbs < 2 ^ 6000 := by
        have := Int.le_of_dvd (by omega) dv1
        omega
      rw [dv2 v (List.mem_of_getElem? hv) hv0]
      refine ⟨.inl hdvb, .inl ⟨_, SqL.of e2⟩, divOk (by omega) (lt_up gl), mulOk (fdiv_small (by omega) (Int.gcd_dvd_right _ _) hvb) hn, divOk (by omega) (lt_up gl), small2, fin _ _ q1 q2⟩
    · have hv0 : v = 0 := by simpa using h
      subst hv0
      have z1 : sc * ((0 : Int) : Rat) = 0 := by rw [Rat.intCast_zero]; grind
      refine ⟨.inl ⟨_, SqL.of e2⟩, divOk (by omega) (lt_up hdb), mulOk (m := 1) (by rw [Int.zero_fdiv]; decide) hn, divOk (by omega) (lt_up hdb), small2, fin _ _ ?_ ?_⟩
      · rw [z1, Int.zero_fdiv, Int.zero_mul]; rfl
      · rw [z1, Int.fdiv_self (by omega)]; rfl
  · rintro σ H2 ⟨o1, o2, rfl, s2, xs, e2, n2⟩
    rw [List.length_map, List.take_length] at n2
    exact ⟨_, rfl, k p xs H2 (s1.trans s2) (s1.free hp) e2 n2⟩
end
section
variable {P : Program} {w : World} {K : PySem.W.Frag} {mg : Str → Option Value} {base : Heap}
def spTrimZ (K : PySem.W.Frag) : Sp := fun vs H Q _ => ∃ (a : Addr) (ws : List Int), vs = [.ref a] ∧ SqL K H a (ws.map V.int) ∧ ws.length ≤ 100 ∧ ∀ m r, IsTz ws m → H r = none → Q (.ref r) (upd H r (.lst ((ws.take m).map V.int)))
abbrev s_trimmed : Stmt := top 28
theorem sc_trimmed : FnScope ["wholes", "many"] ["wholes"] (defScope s_trimmed) := by and_intros
set_option maxHeartbeats 0 in
theorem ok_trimmed {f : Addr} (d : Df K mg "trimmed" s_trimmed ["wholes"] f) (n_len : mg "len" = none) : Def P w K mg base CX0 1 "trimmed" f ["wholes"] (spTrimZ K) := by
  refine d.ok (N := ["wholes", "many"]) sc_trimmed (by rintro vs H Q E ⟨_, _, h, _⟩; rw [h]; rfl) (fun cdv A outer s H vs Q E hr h => ?_)
  obtain ⟨a, ws, rfl, hS, hl, k⟩ := h
  refine ⟨_, (pss_cons (ps_set (i := 1) sc_trimmed.nd rfl (Or.inl rfl) (pe_callB call_len_seq rfl n_len (by decide +kernel) (pa_cons (pv 0) pa_nil)))
      (pss_cons (ps_while PassesOwn.never (PW.pt (pw_and (pt_truth (pv 1) (fun _ => rfl)) (pw_and1 (pt_cmpR op_eq (pe_ix ix_list (pv 0) (pe_op op_sub (pv 1) pe_int) (fun _ _ => rfl)) pe_int (nomark _))))) (pss_one (ps_aug (i := 1) sc_trimmed.nd rfl (Or.inl rfl) pe_int ip_sub)))
      (pss_one (ps_ret (pe_slice sl_list (pv 0) po_none (po_some (pv 1))))))), ?_⟩
  rw [show start ["wholes", "many"] [.ref a] = [some (.ref a), none] from rfl]
  refine seq_cut (fun σ H1 => σ = [some (.ref a), some (.int ws.length)] ∧ H = H1) (fun N hN => ?_) ?_
  · subst_eqs
    refine ⟨_, .inl hS, hN _ _ ⟨?_, rfl⟩⟩
    rw [List.length_map]
  rintro σ H1 ⟨rfl, rfl⟩
  refine seq_cut (fun σ H1 => ∃ m : Nat, σ = [some (.ref a), some (.int m)] ∧ H = H1 ∧ IsTz ws m) (fun N hN => ?_) ?_
  · refine while_to (fun σ H1 => H = H1 ∧ ∃ m : Nat, σ = [some (.ref a), some (.int m)] ∧ m ≤ ws.length ∧ ∀ i v, m ≤ i → ws[i]? = some v → v = 0) (fun σ _ => match σ with | [_, some (.int y)] => y.toNat | _ => 0) ⟨rfl, ws.length, rfl, Nat.le_refl _, fun i v hi h => by rw [List.getElem?_eq_none hi] at h; cases h⟩ ?_
    rintro σ H1 ⟨rfl, m, rfl, hm, hz⟩
    simp! [TruV]
    refine ite2 (fun h0 => ?_) (fun h0 => ?_)
    · have h0' : m ≠ 0 := fun z => by subst z; simp at h0
      have hlt : m - 1 < ws.length := by omega
      have hg : ws[m - 1]? = some ws[m - 1] := List.getElem?_eq_getElem hlt
      have ei : ((m : Int) - 1) = ((m - 1 : Nat) : Int) := by omega
      rw [ei]
      refine ⟨_, hS, .int ws[m - 1], atI_nat (by rw [List.getElem?_map, hg]; rfl), rfl, ite2 (fun hn => ?_) (fun hn => ?_)⟩
      · have hn' : ws[m - 1] = 0 := by simpa using hn
        refine WhB.mk ?_
        subst_eqs
        refine WhN.mk ⟨rfl, m - 1, by rw [ei], by omega, fun i v hi e => ?_⟩ ?_
        · by_cases hi' : i = m - 1
          · subst hi'
            rw [hg] at e
            cases e
            exact hn'
          · exact hz i v (by omega) e
        · show ((m : Int) - 1).toNat < (m : Int).toNat
          omega
      · refine hN _ _ ⟨m, rfl, rfl, hm, hz, fun _ v e => ?_⟩
        rw [hg] at e
        cases e
        intro z
        exact hn (by rw [z])
    · have h0' : m = 0 := by
        by_cases z : m = 0
        · exact z
        · exact absurd (by simp [z]) h0
      exact hN _ _ ⟨m, rfl, rfl, hm, hz, fun h => absurd h0' h⟩
  rintro σ H1 ⟨m, rfl, rfl, t⟩
  subst_eqs
  refine ⟨_, hS, fun p hp => ?_⟩
  rw [cut_take _ (by rw [List.length_map]; exact t.le), ← List.map_take]
  exact k m p t hp
theorem ixN_nat {n k : Nat} (h : k < n) : ixN n (k : Int) = some k := by
  unfold ixN
  rw [if_pos (by omega), if_pos (by omega)]
  simp
theorem small3' : (3 : Nat) ≤ sizeLine := by decide
structure WDD (H : Hp) (one other : List Int) (n W1 W2 kst : Nat) (lq lr : Addr) (many : Int) (Qz Rz : List Int) (H3 : Hp) : Prop where
  same : Same H H3
  fq : H lq = none
  fr : H lr = none
  nqr : lq ≠ lr
  eq : H3 lq = some (.lst (Qz.map V.int))
  er : H3 lr = some (.lst (Rz.map V.int))
  m1 : 1 ≤ many
  mb : many.natAbs < 2 ^ (kst * W2 + 1)
  qb : ∀ v ∈ Qz, Int.natAbs v < 2 ^ (W1 + kst * (W2 + 1))
  rb : ∀ v ∈ Rz, Int.natAbs v < 2 ^ (W1 + kst * (W2 + 1))
  kl : kst + Rz.length ≤ one.length
  ks : kst = 0 ∨ kst + n ≤ one.length
  k0 : kst = 0 → Rz.length = one.length
  rt : IsTz Rz Rz.length
  ql : Qz.length = one.length - n
  qz : ∀ i, i + n < Rz.length → aZ Qz i = 0
  qlast : kst ≠ 0 → ∀ v, Qz[Qz.length - 1]? = some v → v ≠ 0
  dv : Dv one other Qz Rz many
  ex : ExZ one other → many = 1
theorem scaleC {K : PySem.W.Frag} {l D : Addr} {ws : List Int} {f : Int} {H1 : Hp} {Q : VK} {m m2 : Nat} (e : H1 l = some (.lst (ws.map V.int))) (hD : H1 D = none) (hl : ws.length ≤ 100) (hf : f.natAbs < 2 ^ m2) (hw : ∀ v ∈ ws, Int.natAbs v < 2 ^ m) (hm : m + m2 ≤ 20000)
    (k : ∀ H2, Same H1 H2 → H2 D = some (.lst ((ws.map (f * ·)).map V.int)) → Q (.ref D) H2) : CompW (Itl K l) D [some (.int f), none] (upd H1 D (.lst [])) (gName 1) (tOp (rI IntMulOk fun i j => V.int (i * j)) (tVar 0) (tVar 1)) Q := by
  refine cw_list (ws.map V.int) (fun i σ H3 => ∃ o, σ = [some (.int f), o] ∧ Same H1 H3 ∧ H3 D = some (.lst (((ws.take i).map (f * ·)).map V.int))) ⟨_, rfl, Same.new hD _, upd_same⟩ (fun i σ H3 _ ⟨_, _, s3, _⟩ => SqL.of (s3 _ _ e)) ?_ ?_
  · rintro i y σ H3 hy ⟨o, rfl, s3, e3⟩
    have hi := (List.getElem?_eq_some_iff.mp hy).1
    obtain ⟨v, hv, rfl⟩ := ints_get hy
    subst_eqs
    refine ⟨mulOk hf (hw v (List.mem_of_getElem? hv)) (by omega), CompN.mk hi e3 ?_ ⟨_, rfl, s3.over hD _, ?_⟩⟩
    · simp only [List.length_map, List.length_take]
      exact Nat.lt_of_le_of_lt (show _ ≤ 100 by omega) (by decide)
    · rw [upd_same, List.take_succ, hv]
      simp
  · rintro σ H3 ⟨o, rfl, s3, e3⟩
    rw [List.length_map, List.take_length] at e3
    exact k H3 s3 e3
def lenAt (k : Nat) (σ : L2.St) (H : Hp) : Nat := match σ[k]? with
  | some (some (.ref r)) => (match H r with
    | some (.lst xs) => xs.length
    | _ => 0)
  | _ => 0
theorem lenAt_of {k : Nat} {σ : L2.St} {H : Hp} {r : Addr} {xs : List V} (h : σ[k]? = some (some (.ref r))) (e : H r = some (.lst xs)) : lenAt k σ H = xs.length := by
  unfold lenAt; rw [h]; simp only [e]
def spWDX (K : PySem.W.Frag) : Sp := fun vs H Q _ => ∃ (a b : Addr) (one other : List Int) (n S W1 W2 : Nat), vs = [.ref a, .ref b] ∧ SqL K H a (one.map V.int) ∧ SqL K H b (other.map V.int) ∧ one.length ≤ 30 ∧ other.length = n + 1 ∧ n ≤ 30 ∧ aZ other n ≠ 0 ∧ IsTz one one.length ∧ one.length ≤ n + S ∧ (∀ v ∈ one, Int.natAbs v < 2 ^ W1) ∧ (∀ v ∈ other, Int.natAbs v < 2 ^ W2) ∧ W1 + S * (W2 + 1) ≤ 5000 ∧ W2 ≤ 5000 ∧
  ∀ r lq lr many Qz Rz H', Same H H' → H lq = none → H lr = none → lq ≠ lr → H' r = some (.tup [.int many, .ref lq, .ref lr]) → H' lq = some (.lst (Qz.map V.int)) → H' lr = some (.lst (Rz.map V.int)) → 1 ≤ many → many.natAbs < 2 ^ (S * W2 + 1) → (∀ v ∈ Qz, Int.natAbs v < 2 ^ (W1 + S * (W2 + 1))) → (∀ v ∈ Rz, Int.natAbs v < 2 ^ (W1 + S * (W2 + 1))) → Rz.length ≤ n → IsTz Rz Rz.length → Qz.length = one.length - n → IsTz Qz Qz.length → Dv one other Qz Rz many → (ExZ one other → many = 1) → Q (.ref r) H'
abbrev s_whole_divided : Stmt := top 38
theorem sc_whole_divided : FnScope ["one", "other", "lead", "many", "quotient", "rest", "part", "place", "factor", "further", "whole"] ["one", "other"] (defScope s_whole_divided) := by and_intros
set_option maxHeartbeats 0 in
theorem okD_whole_divided {f f1 : Addr} (d : Df K mg "whole_divided" s_whole_divided ["one", "other"] f) (G_trimmed : Def P w K mg base CX0 1 "trimmed" f1 ["wholes"] (spTrimZ K)) (n_len : mg "len" = none) (n_max : mg "max" = none) (n_list : mg "list" = none) (n_abs : mg "abs" = none) (n_enumerate : mg "enumerate" = none) : Def P w K mg base CX0 2 "whole_divided" f ["one", "other"] (spWDX K) := by
  refine d.ok (N := ["one", "other", "lead", "many", "quotient", "rest", "part", "place", "factor", "further", "whole"]) sc_whole_divided (by rintro vs H Q E ⟨_, _, _, _, _, _, _, _, h, _⟩; rw [h]; rfl) (fun cdv A outer s H vs Q E hr h => ?_)
  obtain ⟨a, b, one, other, n, S, W1, W2, rfl, hS, hS', hl1, hl2, hn, h0, ht1, hS1, hw1, hw2, hT, hT2, k⟩ := h
  refine ⟨_, (pss_cons (ps_set (i := 2) sc_whole_divided.nd rfl (Or.inl rfl) (pe_ix ix_list (pv 1) (pe_un un_neg pe_int) (fun _ _ => rfl)))
      (pss_cons (ps_set (i := 3) sc_whole_divided.nd rfl (Or.inl rfl) pe_int)
      (pss_cons (ps_set (i := 4) sc_whole_divided.nd rfl (Or.inl rfl) (pe_op op_rep (pe_lst (pa_cons pe_int pa_nil)) (pe_callB (call_max2 rfl) rfl n_max (by decide +kernel) (pa_cons pe_int (pa_cons (pe_op op_add (pe_op op_sub (pe_callB call_len_seq rfl n_len (by decide +kernel) (pa_cons (pv 0) pa_nil)) (pe_callB call_len_seq rfl n_len (by decide +kernel) (pa_cons (pv 1) pa_nil))) pe_int) pa_nil)))))
      (pss_cons (ps_set (i := 5) sc_whole_divided.nd rfl (Or.inl rfl) (pe_callTy call_list_of rfl n_list (by decide +kernel) (pa_cons (pv 0) pa_nil)))
      (pss_cons (ps_while PassesOwn.never (pt_cmpR op_ge (pe_callB call_len_seq rfl n_len (by decide +kernel) (pa_cons (pv 5) pa_nil)) (pe_callB call_len_seq rfl n_len (by decide +kernel) (pa_cons (pv 1) pa_nil)) (nomark _)) (pss_cons (ps_set (i := 6) sc_whole_divided.nd rfl (Or.inl rfl) (pe_ix ix_list (pv 5) (pe_un un_neg pe_int) (fun _ _ => rfl)))
      (pss_cons (ps_set (i := 7) sc_whole_divided.nd rfl (Or.inl rfl) (pe_op op_sub (pe_callB call_len_seq rfl n_len (by decide +kernel) (pa_cons (pv 5) pa_nil)) (pe_callB call_len_seq rfl n_len (by decide +kernel) (pa_cons (pv 1) pa_nil))))
      (pss_cons (ps_if (pt_cmpR op_eq (pe_op op_modN (pv 6) (pv 2)) pe_int (nomark _)) (pss_one (ps_set (i := 6) sc_whole_divided.nd rfl (Or.inl rfl) (pe_op op_fdivB (pv 6) (pv 2)))) (pss_cons (ps_set (i := 8) sc_whole_divided.nd rfl (Or.inr rfl) (pe_callB call_abs rfl n_abs (by decide +kernel) (pa_cons (pv 2) pa_nil)))
      (pss_cons (ps_set (i := 6) sc_whole_divided.nd rfl (Or.inl rfl) (pe_ifExp (pt_cmpR op_gt (pv 2) pe_int (nomark _)) (pv 6) (pe_un un_neg (pv 6))))
      (pss_cons (ps_aug (i := 3) sc_whole_divided.nd rfl (Or.inl rfl) (pv 8) ip_mul)
      (pss_cons (ps_setComp (i₀ := 4) sc_whole_divided.nd rfl (Or.inl rfl) (Nc := ["factor", "whole"]) (caps := [some 8, none]) rfl (Caps.of (osc := defScope s_whole_divided) (N := ["one", "other", "lead", "many", "quotient", "rest", "part", "place", "factor", "further", "whole"]) (ks := ["factor"]) rfl rfl rfl rfl (sub_cons rfl sub_nil) (by decide +kernel)) (pi_list (pv 4)) (fun C s₂ H₂ fp pins => (pg_name (i := 1) (show List.Nodup (["factor", "whole"] : List Str) by decide +kernel) rfl (Or.inl rfl) (Or.inr rfl))) (fun C s₂ H₂ fp pins => (pe_op op_mulB (pv 0) (pv 1))))
      (pss_one (ps_setComp (i₀ := 5) sc_whole_divided.nd rfl (Or.inl rfl) (Nc := ["factor", "whole"]) (caps := [some 8, none]) rfl (Caps.of (osc := defScope s_whole_divided) (N := ["one", "other", "lead", "many", "quotient", "rest", "part", "place", "factor", "further", "whole"]) (ks := ["factor"]) rfl rfl rfl rfl (sub_cons rfl sub_nil) (by decide +kernel)) (pi_list (pv 5)) (fun C s₂ H₂ fp pins => (pg_name (i := 1) (show List.Nodup (["factor", "whole"] : List Str) by decide +kernel) rfl (Or.inl rfl) (Or.inr rfl))) (fun C s₂ H₂ fp pins => (pe_op op_mulB (pv 0) (pv 1))))))))))
      (pss_cons (ps_asg (pv 6) (pg_sub (pv 4) (pv 7) set_list))
      (pss_cons (ps_for PassesOwn.never rfl (pi_enum rfl n_enumerate (pa_cons (pv 1) pa_nil)) (show PG _ _ (gTup K 2 (gCons (gName 9) (gCons (gName 10) gNil))) from by (refine pg_tup (n := 2) ?_ ?_ ?_ ?_; rfl; (refine pgs_cons ?_ ?_ ?_; (exact (pg_name (i := 9) sc_whole_divided.nd rfl (Or.inl rfl))); (refine pgs_cons ?_ ?_ ?_; (exact (pg_name (i := 10) sc_whole_divided.nd rfl (Or.inl rfl))); (exact pgs_nil); rfl); rfl); rfl; rfl)) (pss_one (ps_augS (pv 5) (pe_op op_add (pv 7) (pv 9)) get_list (pe_op op_mulB (pv 6) (pv 10)) ip_sub set_list)))
      (pss_one (ps_set (i := 5) sc_whole_divided.nd rfl (Or.inl rfl) (pe_def G_trimmed hr (pa_cons (pv 5) pa_nil) pass0)))))))))
      (pss_one (ps_ret (pe_tup (pa_cons (pv 3) (pa_cons (pv 4) (pa_cons (pv 5) pa_nil))))))))))), ?_⟩
  rw [show start ["one", "other", "lead", "many", "quotient", "rest", "part", "place", "factor", "further", "whole"] [.ref a, .ref b] = [some (.ref a), some (.ref b), none, none, none, none, none, none, none, none, none] from rfl]
  obtain ⟨lead, hlead⟩ : ∃ z, z = aZ other n := ⟨_, rfl⟩
  have hg : other[n]? = some lead := by rw [hlead]; unfold aZ; rw [List.getElem?_eq_getElem (by omega)]; rfl
  have l0 : lead ≠ 0 := by rw [hlead]; exact h0
  have lb : lead.natAbs < 2 ^ W2 := hw2 _ (List.mem_of_getElem? hg)
  refine seq_cut (fun σ H1 => σ = [some (.ref a), some (.ref b), some (.int lead), none, none, none, none, none, none, none, none] ∧ H = H1) (fun N hN => ?_) ?_
  · subst_eqs
    refine ⟨_, hS', _, lastAt (x := .int lead) (by rw [List.length_map, hl2, List.getElem?_map, Nat.add_sub_cancel, hg]; rfl), hN _ _ ⟨rfl, rfl⟩⟩
  rintro σ H1 ⟨rfl, rfl⟩
  refine seq_cut (fun σ H1 => σ = [some (.ref a), some (.ref b), some (.int lead), some (.int 1), none, none, none, none, none, none, none] ∧ H = H1) (fun N hN => ?_) ?_
  · subst_eqs
    exact hN _ _ ⟨rfl, rfl⟩
  rintro σ H1 ⟨rfl, rfl⟩
  refine seq_cut (fun σ H1 => ∃ lq, σ = [some (.ref a), some (.ref b), some (.int lead), some (.int 1), some (.ref lq), none, none, none, none, none, none] ∧ Same H H1 ∧ H lq = none ∧ H1 lq = some (.lst ((List.replicate (one.length - n) (0 : Int)).map V.int))) (fun N hN => ?_) ?_
  · subst_eqs
    refine ⟨by decide, fun p hp => ?_⟩
    have Sp := Same.new hp (.lst [.int 0])
    have ez : (if (((one.map V.int).length : Nat) : Int) - (((other.map V.int).length : Nat) : Int) + 1 > 0 then (((one.map V.int).length : Nat) : Int) - (((other.map V.int).length : Nat) : Int) + 1 else 0) = ((one.length - n : Nat) : Int) := by
      rw [List.length_map, List.length_map, hl2]
      split <;> omega
    refine ⟨_, .inl (Sp.seq hS), _, .inl (Sp.seq hS'), _, upd_same, ?_⟩
    rw [ez]
    refine ⟨by omega, by omega, ?_, fun p1 hp1 => hN _ _ ⟨p1, rfl, Sp.trans (Same.new hp1 _), Sp.free hp1, ?_⟩⟩
    · have : (([V.int 0] : List V).length * ((one.length - n : Nat) : Int).toNat) ≤ 100 := by simp; omega
      exact Nat.le_trans this (by decide)
    · rw [upd_same, Int.toNat_natCast, List.flatten_replicate_singleton, List.map_replicate]
  rintro σ H1 ⟨lq, rfl, s1, fq, eq⟩
  refine seq_cut (fun σ H2 => ∃ lr, σ = [some (.ref a), some (.ref b), some (.int lead), some (.int 1), some (.ref lq), some (.ref lr), none, none, none, none, none] ∧ Same H1 H2 ∧ H1 lr = none ∧ H2 lr = some (.lst (one.map V.int))) (fun N hN => ?_) ?_
  · subst_eqs
    refine ⟨_, .inl (s1.seq hS), fun l hl => hN _ _ ⟨l, rfl, Same.new hl _, hl, upd_same⟩⟩
  rintro σ H2 ⟨lr, rfl, s2, fr, er⟩
  refine seq_cut (fun σ H3 => ∃ lq lr many Qz Rz o6 o7 o8 o9 o10, σ = [some (.ref a), some (.ref b), some (.int lead), some (.int many), some (.ref lq), some (.ref lr), o6, o7, o8, o9, o10] ∧ Same H H3 ∧ H lq = none ∧ H lr = none ∧ lq ≠ lr ∧ H3 lq = some (.lst (Qz.map V.int)) ∧ H3 lr = some (.lst (Rz.map V.int)) ∧ 1 ≤ many ∧ many.natAbs < 2 ^ (S * W2 + 1) ∧ (∀ v ∈ Qz, Int.natAbs v < 2 ^ (W1 + S * (W2 + 1))) ∧ (∀ v ∈ Rz, Int.natAbs v < 2 ^ (W1 + S * (W2 + 1))) ∧ Rz.length ≤ n ∧ IsTz Rz Rz.length ∧ Qz.length = one.length - n ∧ IsTz Qz Qz.length ∧ Dv one other Qz Rz many ∧ (ExZ one other → many = 1)) (fun N hN => ?_) ?_
  · have w2p : 1 ≤ W2 := by
      rcases Nat.eq_zero_or_pos W2 with z | z
      · rw [z] at lb; omega
      · exact z
    refine while_to (fun σ H3 => ∃ kst lq lr many Qz Rz o6 o7 o8 o9 o10, σ = [some (.ref a), some (.ref b), some (.int lead), some (.int many), some (.ref lq), some (.ref lr), o6, o7, o8, o9, o10] ∧ WDD H one other n W1 W2 kst lq lr many Qz Rz H3) (lenAt 5) ⟨0, lq, lr, 1, _, one, _, _, _, _, _, rfl, ⟨s1.trans s2, fq, s1.free fr, ne_of_none eq fr, s2 _ _ eq, er, by decide, by simp, fun v hv => ?_, fun v hv => ?_, by omega, .inl rfl, fun _ => rfl, ht1, by rw [List.length_replicate], fun i _ => ?_, fun z => absurd rfl z, fun k => ?_, fun _ => rfl⟩⟩ ?_
    · rw [(List.mem_replicate.mp hv).2]; exact Nat.two_pow_pos _
    · have := hw1 v hv
      simpa using this
    · unfold aZ
      rw [List.getElem?_replicate]
      split <;> rfl
    · have : cv (zc (List.replicate (one.length - n) (0 : Int))) (zc other) k = 0 := sumTo_zero _ fun i _ => by
        have : zc (List.replicate (one.length - n) (0 : Int)) i = 0 := by
          unfold zc aZ
          rw [List.getElem?_replicate]
          split <;> rfl
        rw [this]; grind
      rw [this]
      show (1 : Rat) * _ = _
      grind
    clear eq er fq fr s1 s2 lq lr
    rintro σ H3 ⟨kst, lq, lr, many, Qz, Rz, o6, o7, o8, o9, o10, rfl, D⟩
    have hSb := D.same.seq hS'
    simp only [tTest, tOp, tCB, tCons, tNil, tVar, rI0]
    refine ⟨_, rfl, lr, _, rfl, .inl (SqL.of D.er), _, rfl, b, _, rfl, .inl hSb, _, _, rfl, rfl, _, rfl, ?_⟩
    rw [List.length_map, List.length_map, hl2]
    refine ite2 (fun hge => WhB.mk ?_) (fun hlt => ?_)
    · have hge' : n + 1 ≤ Rz.length := by
        have : ((n + 1 : Nat) : Int) ≤ (Rz.length : Int) := by simpa using hge
        omega
      obtain ⟨t, ht⟩ : ∃ t, Rz.length = n + 1 + t := ⟨Rz.length - (n + 1), by omega⟩
      have htq : t < Qz.length := by rw [D.ql]; have := D.kl; omega
      obtain ⟨y, hy⟩ : ∃ y, Rz[Rz.length - 1]? = some y := ⟨_, List.getElem?_eq_getElem (by omega)⟩
      have y0 : y ≠ 0 := D.rt.last (by omega) y hy
      have yb := D.rb y (List.mem_of_getElem? hy)
      refine seq_cut (fun σ H4 => σ = [some (.ref a), some (.ref b), some (.int lead), some (.int many), some (.ref lq), some (.ref lr), some (.int y), o7, o8, o9, o10] ∧ H3 = H4) (fun N hN => ?_) ?_
      · subst_eqs
        exact ⟨_, SqL.of D.er, _, lastAt (x := .int y) (by rw [List.length_map, List.getElem?_map, hy]; rfl), hN _ _ ⟨rfl, rfl⟩⟩
      rintro σ H4 ⟨rfl, rfl⟩
      refine seq_cut (fun σ H4 => σ = [some (.ref a), some (.ref b), some (.int lead), some (.int many), some (.ref lq), some (.ref lr), some (.int y), some (.int (t : Int)), o8, o9, o10] ∧ H3 = H4) (fun N hN => ?_) ?_
      · subst_eqs
        refine ⟨_, .inl (SqL.of D.er), _, .inl hSb, hN _ _ ⟨?_, rfl⟩⟩
        rw [List.length_map, List.length_map, hl2, ht, show (((n + 1 + t : Nat) : Int) - ((n + 1 : Nat) : Int)) = (t : Int) by omega]
      rintro σ H4 ⟨rfl, rfl⟩
      refine seq_cut (fun σ H4 => ∃ lq1 lr1 c d o8, σ = [some (.ref a), some (.ref b), some (.int lead), some (.int (many * c)), some (.ref lq1), some (.ref lr1), some (.int d), some (.int (t : Int)), o8, o9, o10] ∧ Same H3 H4 ∧ H lq1 = none ∧ H lr1 = none ∧ lq1 ≠ lr1 ∧ H4 lq1 = some (.lst ((Qz.map (c * ·)).map V.int)) ∧ H4 lr1 = some (.lst ((Rz.map (c * ·)).map V.int)) ∧ c * y = d * lead ∧ 1 ≤ c ∧ c.natAbs < 2 ^ W2 ∧ d.natAbs ≤ y.natAbs ∧ d ≠ 0 ∧ (lead ∣ y → c = 1)) (fun N hN => ?_) ?_
      · subst_eqs
        have hks : kst ≤ S := by rcases D.ks with z | z <;> omega
        have hkm := Nat.mul_le_mul_right (W2 + 1) hks
        have hkm2 : kst * W2 ≤ kst * (W2 + 1) := Nat.mul_le_mul_left _ (by omega)
        have one2 : (1 : Nat) < 2 ^ W2 := Nat.lt_of_lt_of_le (show 1 < 2 ^ 1 by decide) (pow_le_pow2 w2p)
        refine ⟨l0, rfl, ite2 (fun hd => ?_) (fun hd => ?_)⟩
        · refine ⟨divOk l0 (lt_up lb (by omega)), hN _ _ ⟨lq, lr, 1, y.fdiv lead, o8, by rw [Int.mul_one], Same.refl _, D.fq, D.fr, D.nqr, ?_, ?_, ?_, by decide, one2, ?_, ?_, fun _ => rfl⟩⟩
          · have : Qz.map ((1 : Int) * ·) = Qz := by conv => rhs; rw [← List.map_id Qz]
                                                     exact List.map_congr_left fun v _ => Int.one_mul v
            rw [this]; exact D.eq
          · have : Rz.map ((1 : Int) * ·) = Rz := by conv => rhs; rw [← List.map_id Rz]
                                                     exact List.map_congr_left fun v _ => Int.one_mul v
            rw [this]; exact D.er
          · have := Int.fmod_add_mul_fdiv y lead
            rw [hd] at this
            rw [Int.one_mul, Int.mul_comm]; omega
          · have := Int.fmod_add_mul_fdiv y lead
            rw [hd, Int.zero_add] at this
            conv => rhs; rw [← this]
            rw [Int.natAbs_mul]
            exact Nat.le_mul_of_pos_left _ (by omega)
          · intro z
            have := Int.fmod_add_mul_fdiv y lead
            rw [hd, z] at this
            simp at this
            exact y0 this.symm
        · have hnd : ¬ lead ∣ y := fun z => hd (by simpa using Int.fmod_eq_zero_of_dvd z)
          have fin : ∀ d : Int, (if lead < 0 then -lead else lead) * y = d * lead → d.natAbs = y.natAbs → IntMulOk many (if lead < 0 then -lead else lead) ∧ (∃ xs, SqL K H3 lq xs) ∧ ∀ (D : Addr), H3 D = none → CompW (Itl K lq) D [some (V.int (if lead < 0 then -lead else lead)), none] (upd H3 D (HO.lst [])) (gName 1) (tOp (rI IntMulOk fun i j => V.int (i * j)) (tVar 0) (tVar 1)) fun x H1 => (∃ xs, SqL K H1 lr xs) ∧ ∀ (D : Addr), H1 D = none → CompW (Itl K lr) D [some (V.int (if lead < 0 then -lead else lead)), none] (upd H1 D (HO.lst [])) (gName 1) (tOp (rI IntMulOk fun i j => V.int (i * j)) (tVar 0) (tVar 1)) fun x_1 H1 => N [some (V.ref a), some (V.ref b), some (V.int lead), some (V.int (many * if lead < 0 then -lead else lead)), some x, some x_1, some (V.int d), some (V.int ↑t), some (V.int (if lead < 0 then -lead else lead)), o9, o10] H1 := fun d hd1 hd2 => by
            have ab : ((if lead < 0 then -lead else lead) : Int).natAbs = lead.natAbs := by split <;> omega
            have ab1 : (1 : Int) ≤ (if lead < 0 then -lead else lead) := by split <;> omega
            generalize (if lead < 0 then -lead else lead) = c at ab ab1 hd1 ⊢
            have cb : c.natAbs < 2 ^ W2 := by omega
            have hml := D.kl
            refine ⟨mulOk D.mb cb (by omega), ⟨_, SqL.of D.eq⟩, fun D1 hD1 => scaleC D.eq hD1 (by rw [D.ql]; omega) cb D.qb (by omega) fun H4 s4 e4 => ?_⟩
            refine ⟨⟨_, SqL.of (s4 _ _ D.er)⟩, fun D2 hD2 => scaleC (s4 _ _ D.er) hD2 (by omega) cb D.rb (by omega) fun H5 s5 e5 => ?_⟩
            exact hN _ _ ⟨D1, D2, c, d, _, rfl, s4.trans s5, D.same.free hD1, D.same.free (s4.free hD2), ne_of_none e4 hD2, s5 _ _ e4, e5, hd1, ab1, cb, by omega, fun z => y0 (by omega), fun z => absurd z hnd⟩
          refine ite2 (fun hp => fin y ?_ rfl) (fun hp => fin (-y) ?_ (by omega))
          · rw [if_neg (by omega)]; exact Int.mul_comm _ _
          · rw [if_pos (by omega), Int.neg_mul, Int.neg_mul, Int.mul_comm]
      rintro σ H4 ⟨lq1, lr1, c, d, o8, rfl, s4, fq1, fr1, nqr1, eq1, er1, hcd, c1, cb, db, d0, cl1⟩
      refine seq_cut (fun σ H5 => σ = [some (.ref a), some (.ref b), some (.int lead), some (.int (many * c)), some (.ref lq1), some (.ref lr1), some (.int d), some (.int (t : Int)), o8, o9, o10] ∧ Same H H5 ∧ H5 lq1 = some (.lst (((Qz.map (c * ·)).set t d).map V.int)) ∧ H5 lr1 = some (.lst ((Rz.map (c * ·)).map V.int))) (fun N hN => ?_) ?_
      · subst_eqs
        refine ⟨_, eq1, t, ixN_nat (by rw [List.length_map, List.length_map]; exact htq), hN _ _ ⟨rfl, (D.same.trans s4).over fq1 _, ?_, ?_⟩⟩
        · rw [upd_same, List.map_set]
        · rw [upd_ne nqr1.symm]; exact er1
      rintro σ H5 ⟨rfl, s5, eq5, er5⟩
      refine seq_cut (fun σ H6 => ∃ o9 o10, σ = [some (.ref a), some (.ref b), some (.int lead), some (.int (many * c)), some (.ref lq1), some (.ref lr1), some (.int d), some (.int (t : Int)), o8, o9, o10] ∧ Same H H6 ∧ H6 lq1 = some (.lst (((Qz.map (c * ·)).set t d).map V.int)) ∧ H6 lr1 = some (.lst ((innerN 0 (Rz.map (c * ·)) t (-d) other other.length).map V.int))) (fun N hN => ?_) ?_
      · refine ⟨_, rfl, b, rfl, ⟨_, s5.seq hS'⟩, for_enum (other.map V.int) (fun j σ H6 => ∃ o9 o10, σ = [some (.ref a), some (.ref b), some (.int lead), some (.int (many * c)), some (.ref lq1), some (.ref lr1), some (.int d), some (.int (t : Int)), o8, o9, o10] ∧ Same H H6 ∧ H6 lq1 = some (.lst (((Qz.map (c * ·)).set t d).map V.int)) ∧ H6 lr1 = some (.lst ((innerN 0 (Rz.map (c * ·)) t (-d) other j).map V.int))) ⟨_, _, rfl, s5, eq5, er5⟩ (by rintro j σ H6 ⟨_, _, _, s6, _⟩; exact s6.seq hS') ?_ (by rintro σ H6 ⟨o9, o10, rfl, s6, eq6, er6⟩; rw [List.length_map] at er6; exact hN _ _ ⟨o9, o10, rfl, s6, eq6, er6⟩)⟩
        rintro j x σ H6 p hx ⟨o9, o10, rfl, s6, eq6, er6⟩ hp
        obtain ⟨v, hv, rfl⟩ := ints_get hx
        have hj := (List.getElem?_eq_some_iff.mp hv).1
        have Sp := Same.new hp (.tup [.int j, .int v])
        have er7 := Sp _ _ er6
        have il : (innerN 0 (Rz.map (c * ·)) t (-d) other j).length = Rz.length := by rw [inner_len, List.length_map]
        have hk : t + j < (innerN 0 (Rz.map (c * ·)) t (-d) other j).length := by omega
        have hgk := List.getElem?_eq_getElem hk
        generalize hz : (innerN 0 (Rz.map (c * ·)) t (-d) other j)[t + j] = z at hgk
        have ej : (t : Int) + (j : Int) = ((t + j : Nat) : Int) := by omega
        have dbw : d.natAbs < 2 ^ (W1 + kst * (W2 + 1)) := by omega
        have hks : kst ≤ S := by rcases D.ks with z | z <;> omega
        have hkm := Nat.mul_le_mul_right (W2 + 1) hks
        subst_eqs
        refine ⟨_, SqT.of upd_same, rfl, _, _, rfl, _, _, rfl, rfl, _, rfl, _, SqL.of er7, .int z, by rw [ej]; exact atI_nat (by rw [List.getElem?_map, hgk]; rfl), v, rfl, mulOk dbw (hw2 v (List.mem_of_getElem? hv)) (by omega), z, rfl, _, er7, t + j, by rw [ej]; exact ixN_nat (by rw [List.length_map]; exact hk), (s6.trans Sp).over fr1 _, ?_, ?_⟩
        · rw [upd_ne nqr1]; exact Sp _ _ eq6
        · rw [upd_same, innerN, hv, Option.getD_some, ← addAt_set _ _ _ _ hgk, List.map_set, Int.neg_mul]
          rfl
      rintro σ H6 ⟨o9, o10, rfl, s6, eq6, er6⟩
      subst_eqs
      obtain ⟨R2, hR2⟩ : ∃ R2, R2 = innerN 0 (Rz.map (c * ·)) t (-d) other other.length := ⟨_, rfl⟩
      rw [← hR2] at er6
      have l2 : R2.length = Rz.length := by rw [hR2, inner_len, List.length_map]
      have hRk : ∀ k, aZ R2 k = c * aZ Rz k - if t ≤ k then d * aZ other (k - t) else 0 := fun k => by
        by_cases hk : k < Rz.length
        · have hy1 : (Rz.map (c * ·))[k]? = some (c * aZ Rz k) := by
            rw [List.getElem?_map]; unfold aZ
            rw [List.getElem?_eq_getElem hk]; rfl
          have := inner_getZ (Rz.map (c * ·)) t (-d) other _ hy1 other.length
          rw [← hR2] at this
          conv => lhs; unfold aZ
          rw [this, Option.getD_some]
          by_cases h1 : t ≤ k
          · rw [if_pos ⟨h1, by omega⟩, if_pos h1, Int.neg_mul]; rfl
          · rw [if_neg (fun z => h1 z.1), if_neg h1]; omega
        · have e1 : aZ R2 k = 0 := by unfold aZ; rw [List.getElem?_eq_none (by omega)]; rfl
          have e2 : aZ Rz k = 0 := by unfold aZ; rw [List.getElem?_eq_none (by omega)]; rfl
          have e3 : aZ other (k - t) = 0 := by unfold aZ; rw [List.getElem?_eq_none (by omega)]; rfl
          rw [e1, e2, e3]; simp
      have last0 : aZ R2 (Rz.length - 1) = 0 := by
        rw [hRk, if_pos (by omega), show Rz.length - 1 - t = n by omega, ← hlead]
        have : aZ Rz (Rz.length - 1) = y := by unfold aZ; rw [hy]; rfl
        rw [this, hcd]; omega
      have hkl := D.kl
      refine ⟨lr1, R2, rfl, SqL.of er6, by omega, fun m r tm hr' => ?_⟩
      have hmlt : m < Rz.length := by
        rcases Nat.lt_or_ge m Rz.length with z | z
        · exact z
        · have hm := tm.le
          have hm' : m = Rz.length := by omega
          have hg2 : R2[m - 1]? = some R2[m - 1] := List.getElem?_eq_getElem (by omega)
          refine absurd ?_ (tm.last (by omega) _ hg2)
          unfold aZ at last0
          rw [← hm', hg2] at last0
          exact last0
      have bits : ∀ v ∈ R2, Int.natAbs v < 2 ^ (W1 + (kst + 1) * (W2 + 1)) := fun v hv => by
        obtain ⟨k, hk⟩ := List.mem_iff_getElem?.mp hv
        have ev : v = aZ R2 k := by unfold aZ; rw [hk]; rfl
        rw [ev, hRk]
        have b1 : (c * aZ Rz k).natAbs < 2 ^ (W1 + kst * (W2 + 1) + W2) := by
          rw [Int.natAbs_mul, Nat.mul_comm, Nat.pow_add]
          exact Nat.mul_lt_mul'' (aZ_lt D.rb k) cb
        have b2 : (if t ≤ k then d * aZ other (k - t) else 0).natAbs < 2 ^ (W1 + kst * (W2 + 1) + W2) := by
          split
          · rw [Int.natAbs_mul, Nat.pow_add]
            exact Nat.mul_lt_mul'' (by omega) (aZ_lt hw2 _)
          · exact Nat.two_pow_pos _
        have e : W1 + (kst + 1) * (W2 + 1) = W1 + kst * (W2 + 1) + W2 + 1 := by rw [Nat.succ_mul]; omega
        rw [e, Nat.pow_succ]
        omega
      have Sr := Same.new hr' (.lst ((R2.take m).map V.int))
      have tml : (R2.take m).length = m := by rw [List.length_take]; have := tm.le; omega
      have bq : ∀ v ∈ (Qz.map (c * ·)).set t d, Int.natAbs v < 2 ^ (W1 + (kst + 1) * (W2 + 1)) := fun v hv => by
        have e : W1 + (kst + 1) * (W2 + 1) = W1 + kst * (W2 + 1) + (W2 + 1) := by rw [Nat.succ_mul]; omega
        rcases List.mem_or_eq_of_mem_set hv with h | h
        · obtain ⟨u, hu, rfl⟩ := List.mem_map.mp h
          rw [Int.natAbs_mul, Nat.mul_comm, e, Nat.pow_add]
          exact Nat.mul_lt_mul'' (D.qb u hu) (lt_up cb (by omega))
        · rw [h]
          exact Nat.lt_of_le_of_lt db (lt_up yb (by omega))
      refine WhN.mk ⟨kst + 1, lq1, r, many * c, _, R2.take m, _, _, _, _, _, rfl, ⟨s6.trans Sr, fq1, s6.free hr', ne_of_none eq6 hr', Sr _ _ eq6, upd_same, ?_, ?_, bq, fun v hv => bits v (List.mem_of_mem_take hv), by omega, .inr (by omega), fun z => absurd z (by omega), tm.self, by rw [List.length_set, List.length_map]; exact D.ql, fun i hi => ?_, fun _ v hv => ?_, ?_, fun hx => ?_⟩⟩ ?_
      · exact Int.le_trans (show (1 : Int) ≤ 1 * 1 by decide) (Int.mul_le_mul D.m1 c1 (by decide) (by have := D.m1; omega))
      · rw [Int.natAbs_mul, show (kst + 1) * W2 + 1 = (kst * W2 + 1) + W2 by rw [Nat.succ_mul]; omega, Nat.pow_add]
        exact Nat.mul_lt_mul'' D.mb cb
      · rw [tml] at hi
        unfold aZ
        rw [List.getElem?_set, if_neg (by omega), List.getElem?_map]
        have := D.qz i (by omega)
        unfold aZ at this
        cases g : Qz[i]? with
        | none => rfl
        | some u =>
          rw [g] at this
          simp only [Option.getD_some] at this
          simp [this]
      · rw [List.length_set, List.length_map, List.getElem?_set] at hv
        by_cases z : t = Qz.length - 1
        · rw [if_pos z, if_pos (by rw [List.length_map]; omega)] at hv
          cases hv; exact d0
        · rw [if_neg z, List.getElem?_map] at hv
          have hk0 : kst ≠ 0 := fun w => by
            have := D.k0 w
            have := D.ql
            omega
          cases g : Qz[Qz.length - 1]? with
          | none => rw [g] at hv; cases hv
          | some u =>
            rw [g] at hv
            cases hv
            exact Int.mul_ne_zero (by omega) (D.qlast hk0 u g)
      · refine dv_step D.dv htq (D.qz t (by omega)) fun k => ?_
        rw [aZ_take tm]; exact hRk k
      · have mm := D.ex hx
        have dv1 := D.dv
        rw [mm] at dv1
        have ey : y = aZ Rz (t + n) := by
          unfold aZ
          rw [show t + n = Rz.length - 1 by omega, hy]; rfl
        have cc := cl1 (by rw [hlead, ey]; exact lead_dvd hx dv1 hl2 h0 ht)
        rw [mm, cc]; rfl
      · rw [lenAt_of (r := r) rfl upd_same, lenAt_of (r := lr) rfl D.er, List.length_map, List.length_map, tml]
        exact hmlt
    · have hlt' : Rz.length ≤ n := by
        have : ¬ ((n + 1 : Nat) : Int) ≤ (Rz.length : Int) := by simpa using hlt
        omega
      have hkS : kst ≤ S := by rcases D.ks with z | z <;> omega
      refine hN _ _ ⟨lq, lr, many, Qz, Rz, o6, o7, o8, o9, o10, rfl, D.same, D.fq, D.fr, D.nqr, D.eq, D.er, D.m1, Nat.lt_of_lt_of_le D.mb (pow_le_pow2 (by have := Nat.mul_le_mul_right W2 hkS; omega)), fun v hv => Nat.lt_of_lt_of_le (D.qb v hv) (pow_le_pow2 (by have := Nat.mul_le_mul_right (W2 + 1) hkS; omega)), fun v hv => Nat.lt_of_lt_of_le (D.rb v hv) (pow_le_pow2 (by have := Nat.mul_le_mul_right (W2 + 1) hkS; omega)), hlt', D.rt, D.ql, ?_, D.dv, D.ex⟩
      refine ⟨Nat.le_refl _, (fun i v hi h => by rw [List.getElem?_eq_none hi] at h; cases h), fun hq v hv => ?_⟩
      by_cases z : kst = 0
      · have := D.k0 z
        rw [D.ql] at hq; omega
      · exact D.qlast z v hv
  rintro σ H3 ⟨lq, lr, many, Qz, Rz, o6, o7, o8, o9, o10, rfl, s3, fq, fr, nqr, eq, er, m1, mb, qb, rb, rl, rt, ql, qt, dv, ex⟩
  subst_eqs
  refine ⟨small3', fun p hp => ?_⟩
  have Sp := Same.new hp (.tup [.int many, .ref lq, .ref lr])
  exact k p lq lr many Qz Rz _ (s3.trans Sp) fq fr nqr upd_same (Sp _ _ eq) (Sp _ _ er) m1 mb qb rb rl rt ql qt dv ex
end
section
variable {P : Program} {w : World} {K : PySem.W.Frag} {mg : Str → Option Value} {base : Heap}
def spWScaled (K : PySem.W.Frag) : Sp := fun vs H Q _ => ∃ (c : Int) (a : Addr) (ws : List Int) (m m2 : Nat), vs = [.int c, .ref a] ∧ SqL K H a (ws.map V.int) ∧ ws.length ≤ 40 ∧ c.natAbs < 2 ^ m2 ∧ (∀ v ∈ ws, Int.natAbs v < 2 ^ m) ∧ m + m2 ≤ 20000 ∧
  ∀ r zs H', Same H H' → H r = none → H' r = some (.lst (zs.map V.int)) → IsTz zs zs.length → zs.length ≤ ws.length → (∀ k, aZ zs k = c * aZ ws k) → Q (.ref r) H'
abbrev s_whole_scaled : Stmt := top 35
theorem sc_whole_scaled : FnScope ["factor", "wholes"] ["factor", "wholes"] (defScope s_whole_scaled) := by and_intros
set_option maxHeartbeats 0 in
theorem ok_whole_scaled {f f1 : Addr} (d : Df K mg "whole_scaled" s_whole_scaled ["factor", "wholes"] f) (G_trimmed : Def P w K mg base CX0 1 "trimmed" f1 ["wholes"] (spTrimZ K)) : Def P w K mg base CX0 2 "whole_scaled" f ["factor", "wholes"] (spWScaled K) := by
  refine d.ok (N := ["factor", "wholes"]) sc_whole_scaled (by rintro vs H Q E ⟨_, _, _, _, _, h, _⟩; rw [h]; rfl) (fun cdv A outer s H vs Q E hr h => ?_)
  obtain ⟨c, a, ws, m, m2, rfl, hS, hl, hc, hw, hm, k⟩ := h
  refine ⟨_, (pss_one (ps_ret (pe_def G_trimmed hr (pa_cons (pe_comp (Nc := ["factor", "whole"]) (caps := [some 0, none]) rfl (Caps.of (osc := defScope s_whole_scaled) (N := ["factor", "wholes"]) (ks := ["factor"]) rfl rfl rfl rfl (sub_cons rfl sub_nil) (by decide +kernel)) (pi_list (pv 1)) (fun C s₂ H₂ fp pins => (pg_name (i := 1) (show List.Nodup (["factor", "whole"] : List Str) by decide +kernel) rfl (Or.inl rfl) (Or.inr rfl))) (fun C s₂ H₂ fp pins => (pe_op op_mulB (pv 0) (pv 1)))) pa_nil) pass0))), ?_⟩
  rw [show start ["factor", "wholes"] [.int c, .ref a] = [some (.int c), some (.ref a)] from rfl]
  subst_eqs
  refine ⟨⟨_, hS⟩, fun D hD => ?_⟩
  refine cw_list (ws.map V.int) (fun i σ H3 => ∃ o, σ = [some (.int c), o] ∧ Same H H3 ∧ H3 D = some (.lst (((ws.take i).map (c * ·)).map V.int))) ⟨_, rfl, Same.new hD _, upd_same⟩ (fun i σ H3 _ ⟨_, _, s3, _⟩ => s3.seq hS) ?_ ?_
  · rintro i y σ H3 hy ⟨o, rfl, s3, e3⟩
    have hi := (List.getElem?_eq_some_iff.mp hy).1
    obtain ⟨v, hv, rfl⟩ := ints_get hy
    subst_eqs
    refine ⟨mulOk hc (hw v (List.mem_of_getElem? hv)) (by omega), CompN.mk hi e3 ?_ ⟨_, rfl, s3.over hD _, ?_⟩⟩
    · simp only [List.length_map, List.length_take]
      exact Nat.lt_of_le_of_lt (show _ ≤ 100 by omega) (by decide)
    · rw [upd_same, List.take_succ, hv]
      simp
  · rintro σ H3 ⟨o, rfl, s3, e3⟩
    rw [List.length_map, List.take_length] at e3
    refine ⟨D, ws.map (c * ·), rfl, SqL.of e3, by rw [List.length_map]; omega, fun n r tn hr' => ?_⟩
    refine k r ((ws.map (c * ·)).take n) _ (s3.trans (Same.new hr' _)) (s3.free hr') upd_same tn.self (by rw [List.length_take, List.length_map]; omega) fun k => ?_
    rw [aZ_take tn]
    unfold aZ
    rw [List.getElem?_map]
    cases ws[k]? with
    | none => simp
    | some v => simp
def spWSum (K : PySem.W.Frag) : Sp := fun vs H Q _ => ∃ (a b : Addr) (ps qs : List Int), vs = [.ref a, .ref b] ∧ SqL K H a (ps.map V.int) ∧ SqL K H b (qs.map V.int) ∧ ps.length ≤ 40 ∧ qs.length ≤ 40 ∧
  ∀ r zs H', Same H H' → H r = none → H' r = some (.lst (zs.map V.int)) → IsTz zs zs.length → zs.length ≤ max ps.length qs.length → (∀ k, aZ zs k = aZ ps k + aZ qs k) → Q (.ref r) H'
def addN (f : List Int) (q : List Int) : Nat → List Int
  | 0 => f
  | j + 1 => addAt (addN f q j) j (aZ q j)
theorem addN_len (f q : List Int) : ∀ j, (addN f q j).length = f.length
  | 0 => rfl
  | j + 1 => by rw [addN, addAt_len, addN_len f q j]
theorem addN_get (f q : List Int) {k : Nat} (y : Int) (hy : f[k]? = some y) : ∀ j, (addN f q j)[k]? = some (y + if k < j then aZ q k else 0)
  | 0 => by rw [addN, hy, if_neg (by omega)]; congr 1; omega
  | j + 1 => by
    have ih := addN_get f q y hy j
    rw [addN]
    by_cases e : k = j
    · subst e
      rw [addAt_same _ _ _ _ ih, if_neg (by omega), if_pos (by omega)]
      congr 1; omega
    · rw [addAt_other _ _ _ _ e, ih]
      by_cases h : k < j
      · rw [if_pos h, if_pos (by omega)]
      · rw [if_neg h, if_neg (by omega)]
theorem addN_aZ {f q : List Int} (h : q.length ≤ f.length) (k : Nat) : aZ (addN f q q.length) k = aZ f k + aZ q k := by
  by_cases hk : k < f.length
  · have hg := List.getElem?_eq_getElem hk
    have := addN_get f q _ hg q.length
    unfold aZ
    rw [this, hg]
    simp only [Option.getD_some]
    by_cases h2 : k < q.length
    · rw [if_pos h2]; rfl
    · rw [if_neg h2, List.getElem?_eq_none (by omega)]; rfl
  · unfold aZ
    rw [List.getElem?_eq_none (by rw [addN_len]; omega), List.getElem?_eq_none (by omega), List.getElem?_eq_none (by omega)]; rfl
abbrev s_whole_sum : Stmt := top 34
theorem sc_whole_sum : FnScope ["one", "other", "total", "place", "whole"] ["one", "other"] (defScope s_whole_sum) := by and_intros
set_option maxHeartbeats 0 in
theorem ok_whole_sum {f f1 : Addr} (d : Df K mg "whole_sum" s_whole_sum ["one", "other"] f) (G_trimmed : Def P w K mg base CX0 1 "trimmed" f1 ["wholes"] (spTrimZ K)) (n_len : mg "len" = none) (n_list : mg "list" = none) (n_enumerate : mg "enumerate" = none) : Def P w K mg base CX0 2 "whole_sum" f ["one", "other"] (spWSum K) := by
  refine d.ok (N := ["one", "other", "total", "place", "whole"]) sc_whole_sum (by rintro vs H Q E ⟨_, _, _, _, h, _⟩; rw [h]; rfl) (fun cdv A outer s H vs Q E hr h => ?_)
  obtain ⟨a0, b0, ps0, qs0, rfl, hS0, hS0', hl0, hl0', k0⟩ := h
  refine ⟨_, (pss_cons (ps_if (pt_cmpR op_lt (pe_callB call_len_seq rfl n_len (by decide +kernel) (pa_cons (pv 0) pa_nil)) (pe_callB call_len_seq rfl n_len (by decide +kernel) (pa_cons (pv 1) pa_nil)) (nomark _)) (pss_one (ps_par (i := 0) (j := 1) rfl sc_whole_sum.nd rfl rfl (by decide) rfl rfl (pa_cons (pv 1) (pa_cons (pv 0) pa_nil)) rfl)) pss_nil)
      (pss_cons (ps_set (i := 2) sc_whole_sum.nd rfl (Or.inl rfl) (pe_callTy call_list_of rfl n_list (by decide +kernel) (pa_cons (pv 0) pa_nil)))
      (pss_cons (ps_for PassesOwn.never rfl (pi_enum rfl n_enumerate (pa_cons (pv 1) pa_nil)) (show PG _ _ (gTup K 2 (gCons (gName 3) (gCons (gName 4) gNil))) from by (refine pg_tup (n := 2) ?_ ?_ ?_ ?_; rfl; (refine pgs_cons ?_ ?_ ?_; (exact (pg_name (i := 3) sc_whole_sum.nd rfl (Or.inl rfl))); (refine pgs_cons ?_ ?_ ?_; (exact (pg_name (i := 4) sc_whole_sum.nd rfl (Or.inl rfl))); (exact pgs_nil); rfl); rfl); rfl; rfl)) (pss_one (ps_augS (pv 2) (pv 3) get_list (pv 4) ip_add set_list)))
      (pss_one (ps_ret (pe_def G_trimmed hr (pa_cons (pv 2) pa_nil) pass0)))))), ?_⟩
  rw [show start ["one", "other", "total", "place", "whole"] [.ref a0, .ref b0] = [some (.ref a0), some (.ref b0), none, none, none] from rfl]
  refine seq_cut (fun σ H1 => ∃ a b ps qs, σ = [some (.ref a), some (.ref b), none, none, none] ∧ H = H1 ∧ SqL K H a (ps.map V.int) ∧ SqL K H b (qs.map V.int) ∧ ps.length ≤ 40 ∧ qs.length ≤ ps.length ∧ ps.length ≤ max ps0.length qs0.length ∧ (∀ k, aZ ps k + aZ qs k = aZ ps0 k + aZ qs0 k)) (fun N hN => ?_) ?_
  · subst_eqs
    refine ⟨_, .inl hS0, _, .inl hS0', ite2 (fun h => ?_) (fun h => ?_)⟩
    · rw [List.length_map, List.length_map] at h
      exact hN _ _ ⟨b0, a0, qs0, ps0, rfl, rfl, hS0', hS0, hl0', by omega, by omega, fun k => Int.add_comm _ _⟩
    · rw [List.length_map, List.length_map] at h
      exact hN _ _ ⟨a0, b0, ps0, qs0, rfl, rfl, hS0, hS0', hl0, by omega, by omega, fun k => rfl⟩
  rintro σ H1 ⟨a, b, ps, qs, rfl, rfl, hS, hS', hl, hle, hmx, hsum⟩
  refine seq_cut (fun σ H1 => ∃ l, σ = [some (.ref a), some (.ref b), some (.ref l), none, none] ∧ Same H H1 ∧ H l = none ∧ H1 l = some (.lst (ps.map V.int))) (fun N hN => ?_) ?_
  · subst_eqs
    exact ⟨_, .inl hS, fun l hl => hN _ _ ⟨l, rfl, Same.new hl _, hl, upd_same⟩⟩
  rintro σ H1 ⟨l, rfl, s1, fl, el⟩
  refine seq_cut (fun σ H2 => ∃ o3 o4, σ = [some (.ref a), some (.ref b), some (.ref l), o3, o4] ∧ Same H H2 ∧ H2 l = some (.lst ((addN ps qs qs.length).map V.int))) (fun N hN => ?_) ?_
  · refine ⟨_, rfl, b, rfl, ⟨_, s1.seq hS'⟩, for_enum (qs.map V.int) (fun j σ H2 => ∃ o3 o4, σ = [some (.ref a), some (.ref b), some (.ref l), o3, o4] ∧ Same H H2 ∧ H2 l = some (.lst ((addN ps qs j).map V.int))) ⟨_, _, rfl, s1, el⟩ (by rintro j σ H2 ⟨_, _, _, s2, _⟩; exact s2.seq hS') ?_ (by rintro σ H2 ⟨o3, o4, rfl, s2, e2⟩; rw [List.length_map] at e2; exact hN _ _ ⟨o3, o4, rfl, s2, e2⟩)⟩
    rintro j x σ H2 p hx ⟨o3, o4, rfl, s2, e2⟩ hp
    obtain ⟨v, hv, rfl⟩ := ints_get hx
    have hj := (List.getElem?_eq_some_iff.mp hv).1
    have Sp := Same.new hp (.tup [.int j, .int v])
    have e3 := Sp _ _ e2
    have hk : j < (addN ps qs j).length := by rw [addN_len]; omega
    have hg := List.getElem?_eq_getElem hk
    generalize (addN ps qs j)[j] = z at hg
    subst_eqs
    refine ⟨_, SqT.of upd_same, rfl, _, _, rfl, _, _, rfl, rfl, _, _, rfl, SqL.of e3, .int z, atI_nat (by rw [List.getElem?_map, hg]; rfl), z, rfl, v, rfl, _, _, rfl, e3, j, ixN_nat (by rw [List.length_map]; exact hk), (s2.trans Sp).over fl _, ?_⟩
    have hv' : aZ qs j = v := by unfold aZ; rw [hv]; rfl
    rw [upd_same, addN, hv', ← addAt_set _ _ _ _ hg, List.map_set]
  rintro σ H2 ⟨o3, o4, rfl, s2, e2⟩
  subst_eqs
  refine ⟨l, _, rfl, SqL.of e2, by rw [addN_len]; omega, fun m r tm hr' => ?_⟩
  refine k0 r _ _ (s2.trans (Same.new hr' _)) (s2.free hr') upd_same tm.self (by rw [List.length_take, addN_len]; omega) fun k => ?_
  rw [aZ_take tm, addN_aZ hle, hsum]
end
section
variable {P : Program} {w : World} {K : PySem.W.Frag} {mg : Str → Option Value} {base : Heap}
def spWLess (K : PySem.W.Frag) : Sp := fun vs H Q _ => ∃ (a b : Addr) (ps qs : List Int) (W : Nat), vs = [.ref a, .ref b] ∧ SqL K H a (ps.map V.int) ∧ SqL K H b (qs.map V.int) ∧ ps.length ≤ 40 ∧ qs.length ≤ 40 ∧ (∀ v ∈ qs, Int.natAbs v < 2 ^ W) ∧ W ≤ 19000 ∧
  ∀ r zs H', Same H H' → H r = none → H' r = some (.lst (zs.map V.int)) → IsTz zs zs.length → zs.length ≤ max ps.length qs.length → (∀ k, aZ zs k = aZ ps k - aZ qs k) → Q (.ref r) H'
abbrev s_whole_less : Stmt := top 36
theorem sc_whole_less : FnScope ["one", "other"] ["one", "other"] (defScope s_whole_less) := by and_intros
set_option maxHeartbeats 0 in
theorem ok_whole_less {f f1 f2 : Addr} (d : Df K mg "whole_less" s_whole_less ["one", "other"] f) (G_whole_sum : Def P w K mg base CX0 2 "whole_sum" f1 ["one", "other"] (spWSum K)) (G_whole_scaled : Def P w K mg base CX0 2 "whole_scaled" f2 ["factor", "wholes"] (spWScaled K)) : Def P w K mg base CX0 3 "whole_less" f ["one", "other"] (spWLess K) := by
  refine d.ok (N := ["one", "other"]) sc_whole_less (by rintro vs H Q E ⟨_, _, _, _, _, h, _⟩; rw [h]; rfl) (fun cdv A outer s H vs Q E hr h => ?_)
  obtain ⟨a, b, ps, qs, W, rfl, hS, hS', hl, hl', hq, hW, k⟩ := h
  refine ⟨_, (pss_one (ps_ret (pe_def G_whole_sum hr (pa_cons (pv 0) (pa_cons (pe_def G_whole_scaled hr (pa_cons (pe_un un_neg pe_int) (pa_cons (pv 1) pa_nil)) pass0) pa_nil)) pass0))), ?_⟩
  rw [show start ["one", "other"] [.ref a, .ref b] = [some (.ref a), some (.ref b)] from rfl]
  subst_eqs
  refine ⟨-1, b, qs, W, 1, rfl, hS', hl', by decide, hq, by omega, fun r1 z1 H1 s1 f1 e1 t1 l1 h1 => ?_⟩
  refine ⟨a, r1, ps, z1, rfl, s1.seq hS, SqL.of e1, hl, by omega, fun r2 z2 H2 s2 f2 e2 t2 l2 h2 => ?_⟩
  exact k r2 z2 H2 (s1.trans s2) (s1.free f2) e2 t2 (by omega) fun k => by rw [h2, h1]; omega
theorem divC {K : PySem.W.Frag} {l D : Addr} {ws : List Int} {g : Int} {H1 : Hp} {Q : VK} (e : H1 l = some (.lst (ws.map V.int))) (hD : H1 D = none) (hl : ws.length ≤ 100) (hg : g ≠ 0) (hb : g.natAbs < 2 ^ 6000)
    (k : ∀ H2, Same H1 H2 → H2 D = some (.lst ((ws.map fun v => v.fdiv g).map V.int)) → Q (.ref D) H2) : CompW (Itl K l) D [some (.int g), none] (upd H1 D (.lst [])) (gName 1) (tOp (rI CDivB fun i j => V.int (i.fdiv j)) (tVar 1) (tVar 0)) Q := by
  refine cw_list (ws.map V.int) (fun i σ H3 => ∃ o, σ = [some (.int g), o] ∧ Same H1 H3 ∧ H3 D = some (.lst (((ws.take i).map fun v => v.fdiv g).map V.int))) ⟨_, rfl, Same.new hD _, upd_same⟩ (fun i σ H3 _ ⟨_, _, s3, _⟩ => SqL.of (s3 _ _ e)) ?_ ?_
  · rintro i y σ H3 hy ⟨o, rfl, s3, e3⟩
    have hi := (List.getElem?_eq_some_iff.mp hy).1
    obtain ⟨v, hv, rfl⟩ := ints_get hy
    subst_eqs
    refine ⟨divOk hg (lt_up hb (by decide)), CompN.mk hi e3 ?_ ⟨_, rfl, s3.over hD _, ?_⟩⟩
    · simp only [List.length_map, List.length_take]
      exact Nat.lt_of_le_of_lt (show _ ≤ 100 by omega) (by decide)
    · rw [upd_same, List.take_succ, hv]
      simp
  · rintro σ H3 ⟨o, rfl, s3, e3⟩
    rw [List.length_map, List.take_length] at e3
    exact k H3 s3 e3
end
theorem cancel_r {f g B : Pf} {n m : Nat} (hf : Dg f.f m) (hg : Dg g.f m) (hB : Dg B.f (n + 1)) (hn : B.f n ≠ 0) (h : f * B = g * B) : f = g := by
  have e : (f - g) * B = 0 := by grind
  have d : Dg (f - g).f m := fun k hk => by rw [pf_sub, hf k hk, hg k hk]; grind
  have back := dg_back (N := 0) d hB hn (fun k _ => by
    show ((f - g) * B).f k = 0
    rw [e, pf_zero])
  refine Pf.ext fun k => ?_
  have := back k (by omega)
  rw [pf_sub] at this
  grind
section
variable {P : Program} {w : World} {K : PySem.W.Frag} {mg : Str → Option Value} {base : Heap}
def spWOver (K : PySem.W.Frag) : Sp := fun vs H Q _ => ∃ (a b : Addr) (one other : List Int) (n S W1 W2 : Nat), vs = [.ref a, .ref b] ∧ SqL K H a (one.map V.int) ∧ SqL K H b (other.map V.int) ∧ one.length ≤ 30 ∧ other.length = n + 1 ∧ n ≤ 30 ∧ aZ other n ≠ 0 ∧ IsTz one one.length ∧ one.length ≤ n + S ∧ (∀ v ∈ one, Int.natAbs v < 2 ^ W1) ∧ (∀ v ∈ other, Int.natAbs v < 2 ^ W2) ∧ W1 + S * (W2 + 1) ≤ 5000 ∧ W2 ≤ 5000 ∧ ExZ one other ∧
  ∀ lq Qz H', Same H H' → H lq = none → H' lq = some (.lst (Qz.map V.int)) → Qz.length = one.length - n → IsTz Qz Qz.length → zp one = zp Qz * zp other → Q (.ref lq) H'
abbrev s_whole_over : Stmt := top 39
theorem sc_whole_over : FnScope ["one", "other"] ["one", "other"] (defScope s_whole_over) := by and_intros
set_option maxHeartbeats 0 in
theorem ok_whole_over {f f1 : Addr} (d : Df K mg "whole_over" s_whole_over ["one", "other"] f) (GD_whole_divided : Def P w K mg base CX0 2 "whole_divided" f1 ["one", "other"] (spWDX K)) : Def P w K mg base CX0 3 "whole_over" f ["one", "other"] (spWOver K) := by
  have G_whole_divided := GD_whole_divided
  refine d.ok (N := ["one", "other"]) sc_whole_over (by rintro vs H Q E ⟨_, _, _, _, _, _, _, _, h, _⟩; rw [h]; rfl) (fun cdv A outer s H vs Q E hr h => ?_)
  obtain ⟨a, b, one, other, n, S, W1, W2, rfl, hS, hS', hl1, hl2, hn, h0, ht1, hS1, hw1, hw2, hT, hT2, hx, k⟩ := h
  refine ⟨_, (pss_one (ps_ret (pe_ix ix_tup (pe_def G_whole_divided hr (pa_cons (pv 0) (pa_cons (pv 1) pa_nil)) pass0) pe_int (fun _ _ => rfl)))), ?_⟩
  rw [show start ["one", "other"] [.ref a, .ref b] = [some (.ref a), some (.ref b)] from rfl]
  subst_eqs
  refine ⟨a, b, one, other, n, S, W1, W2, rfl, hS, hS', hl1, hl2, hn, h0, ht1, hS1, hw1, hw2, hT, hT2, fun r lq lr many Qz Rz H1 s1 fq fr nqr er eq eR m1 mb qb rb rl rt ql qt dv ex => ?_⟩
  refine ⟨r, rfl, _, SqT.of er, _, rfl, k lq Qz H1 s1 fq eq ql qt ?_⟩
  have m1 := ex hx
  subst m1
  obtain ⟨V, nv, hV, e⟩ := hx
  have e1 : zp one = fz V * zp other := Pf.ext e
  have e2 : zp one = zp Qz * zp other + zp Rz := Pf.ext fun k => by
    have := dv k
    rw [show ((1 : Int) : Rat) = 1 from rfl] at this
    show zc one k = cv (zc Qz) (zc other) k + zc Rz k
    rw [← this]; grind
  have oD : Dg (zc other) (n + 1) := by rw [← hl2]; exact zc_dg other
  have eD : (fz V - zp Qz) * zp other = zp Rz := by grind
  have dD : Dg (fz V - zp Qz).f (max nv Qz.length) := fun k hk => by
    rw [pf_sub]
    show (V k : Rat) - zc Qz k = 0
    rw [hV k (by omega), zc_dg Qz k (by omega), Rat.intCast_zero]; grind
  have back := dg_back (f := (fz V - zp Qz).f) (B := zc other) (N := n) dD oD (zc_ne h0) (fun k hk => by
    show ((fz V - zp Qz) * zp other).f k = 0
    rw [eD]
    exact zc_dg Rz k (by omega))
  have z : fz V - zp Qz = 0 := Pf.ext fun k => by rw [pf_zero]; exact back k (by omega)
  rw [e1]
  grind
end
def dP (p : Pf) : Pf := ⟨fun k => ((k + 1 : Nat) : Rat) * p.f (k + 1)⟩
theorem dP_mul (p q : Pf) : dP (p * q) = dP p * q + p * dP q := Pf.ext fun k => by
  show ((k + 1 : Nat) : Rat) * cv p.f q.f (k + 1) = cv (fun i => ((i + 1 : Nat) : Rat) * p.f (i + 1)) q.f k + cv p.f (fun i => ((i + 1 : Nat) : Rat) * q.f (i + 1)) k
  unfold cv
  rw [sumTo_mul, sumTo_congr (g := fun i => ((i : Nat) : Rat) * (p.f i * q.f (k + 1 - i)) + ((k + 1 - i : Nat) : Rat) * (p.f i * q.f (k + 1 - i))) fun i hi => ?_, ← sumTo_add]
  · congr 1
    · rw [sumTo_first]
      have h0 : (((0 : Nat)) : Rat) = 0 := rfl
      simp only [h0]
      rw [sumTo_congr (g := fun i => ((i + 1 : Nat) : Rat) * p.f (i + 1) * q.f (k - i)) fun i hi => ?_]
      · grind
      · show ((i + 1 : Nat) : Rat) * (p.f (i + 1) * q.f (k + 1 - (i + 1))) = _
        rw [show k + 1 - (i + 1) = k - i by omega]; grind
    · rw [show k + 1 + 1 = (k + 1) + 1 from rfl]
      show sumTo _ (k + 1) + ((k + 1 - (k + 1) : Nat) : Rat) * (p.f (k + 1) * q.f (k + 1 - (k + 1))) = _
      have h0 : (((k + 1 - (k + 1) : Nat)) : Rat) = 0 := by rw [Nat.sub_self]; rfl
      rw [h0, sumTo_congr (g := fun i => p.f i * (((k - i + 1 : Nat) : Rat) * q.f (k - i + 1))) fun i hi => ?_]
      · grind
      · show ((k + 1 - i : Nat) : Rat) * (p.f i * q.f (k + 1 - i)) = _
        rw [show k + 1 - i = k - i + 1 by omega]; grind
  · have : ((k + 1 : Nat) : Rat) = ((i : Nat) : Rat) + ((k + 1 - i : Nat) : Rat) := by
      rw [← Rat.natCast_add]; congr 1; omega
    rw [this]; grind
theorem dP_add (p q : Pf) : dP (p + q) = dP p + dP q := Pf.ext fun k => by
  show _ * (p.f (k + 1) + q.f (k + 1)) = _ * p.f (k + 1) + _ * q.f (k + 1); grind
theorem dP_cst (c : Rat) : dP (pCst c) = 0 := Pf.ext fun k => by
  show _ * (if k + 1 = 0 then c else 0) = (0 : Pf).f k
  rw [if_neg (by omega), pf_zero]; grind
theorem dP_one : dP 1 = 0 := by rw [← pCst_one]; exact dP_cst 1
theorem dP_c (c : Rat) (p : Pf) : dP (pCst c * p) = pCst c * dP p := by
  have h := dP_cst c
  rw [dP_mul]; grind
def Fn (p : Pf) : Prop := ∃ n, Dg p.f n
theorem Fn.mul {p q : Pf} (h : Fn p) (k : Fn q) : Fn (p * q) := by
  obtain ⟨m, hm⟩ := h
  obtain ⟨n, hn⟩ := k
  exact ⟨_, hm.cv hn⟩
theorem Fn.add {p q : Pf} (h : Fn p) (k : Fn q) : Fn (p + q) := by
  obtain ⟨m, hm⟩ := h
  obtain ⟨n, hn⟩ := k
  exact ⟨max m n, fun i hi => by show p.f i + q.f i = 0; rw [hm i (by omega), hn i (by omega)]; grind⟩
theorem Fn.sub {p q : Pf} (h : Fn p) (k : Fn q) : Fn (p - q) := by
  obtain ⟨m, hm⟩ := h
  obtain ⟨n, hn⟩ := k
  exact ⟨max m n, fun i hi => by show p.f i - q.f i = 0; rw [hm i (by omega), hn i (by omega)]; grind⟩
theorem fn_cst (c : Rat) : Fn (pCst c) := ⟨1, fun i hi => by show (if i = 0 then c else 0) = 0; rw [if_neg (by omega)]⟩
theorem fn_one : Fn 1 := by rw [← pCst_one]; exact fn_cst 1
theorem fn_zero : Fn 0 := ⟨0, fun i _ => pf_zero i⟩
theorem Fn.d {p : Pf} (h : Fn p) : Fn (dP p) := by
  obtain ⟨m, hm⟩ := h
  exact ⟨m, fun i hi => by show _ * p.f (i + 1) = 0; rw [hm (i + 1) (by omega)]; grind⟩
theorem fn_zp (ws : List Int) : Fn (zp ws) := ⟨_, zc_dg ws⟩
theorem fn_qp (l : List Rat) : Fn (qp l) := ⟨_, qp_dg l⟩
def Cop (p q : Pf) : Prop := ∃ u v, Fn u ∧ Fn v ∧ u * p + v * q = 1
theorem Cop.symm {p q : Pf} (h : Cop p q) : Cop q p := by
  obtain ⟨u, v, hu, hv, e⟩ := h
  exact ⟨v, u, hv, hu, by grind⟩
theorem cop_one (p : Pf) : Cop p 1 := ⟨0, 1, fn_zero, fn_one, by grind⟩
theorem Cop.mul {a b c : Pf} (fa : Fn a) (fb : Fn b) (fc : Fn c) (h : Cop a b) (k : Cop a c) : Cop a (b * c) := by
  obtain ⟨u, v, hu, hv, e⟩ := h
  obtain ⟨u', v', hu', hv', e'⟩ := k
  refine ⟨u * u' * a + u * v' * c + v * b * u', v * v', (((hu.mul hu').mul fa).add ((hu.mul hv').mul fc)).add ((hv.mul fb).mul hu'), hv.mul hv', ?_⟩
  have : (u * a + v * b) * (u' * a + v' * c) = 1 := by rw [e, e']; grind
  grind
theorem Cop.addl {a b c : Pf} (fc : Fn c) (h : Cop a b) : Cop a (b + a * c) := by
  obtain ⟨u, v, hu, hv, e⟩ := h
  exact ⟨u - v * c, v, hu.sub (hv.mul fc), hv, by grind⟩
theorem Cop.scale {a b : Pf} {c : Rat} (hc : c ≠ 0) (h : Cop a b) : Cop a (pCst c * b) := by
  obtain ⟨u, v, hu, hv, e⟩ := h
  have ec := pCst_inv hc
  exact ⟨u, v * pCst c⁻¹, hu, hv.mul (fn_cst _), by grind⟩
theorem Cop.both {a b : Pf} {c d : Rat} (hc : c ≠ 0) (hd : d ≠ 0) (h : Cop a b) : Cop (pCst c * a) (pCst d * b) := ((h.scale hd).symm.scale hc).symm
def TF : List (Pf × Nat) → Prop
  | [] => True
  | x :: r => Fn x.1 ∧ Cop x.1 (dP x.1) ∧ (∀ y ∈ r, Cop x.1 y.1) ∧ TF r
def aP : List (Pf × Nat) → Nat → Pf
  | [], _ => 1
  | x :: r, j => if j ≤ x.2 then x.1 * aP r j else aP r j
def sP : List (Pf × Nat) → Nat → Pf
  | [], _ => 0
  | x :: r, j => if j ≤ x.2 then pCst ((x.2 + 1 - j : Nat) : Rat) * (dP x.1 * aP r j) + x.1 * sP r j else sP r j
def eP : List (Pf × Nat) → Nat → Pf
  | [], _ => 1
  | x :: r, j => if x.2 = j then x.1 * eP r j else eP r j
def wP (q : Pf) : Nat → Pf
  | 0 => 1
  | n + 1 => q * wP q n
def fP : List (Pf × Nat) → Pf
  | [] => 1
  | x :: r => wP x.1 x.2 * fP r
def gP1 : List (Pf × Nat) → Pf
  | [] => 1
  | x :: r => wP x.1 (x.2 - 1) * gP1 r
theorem fn_aP : ∀ {fs : List (Pf × Nat)}, (∀ x ∈ fs, Fn x.1) → ∀ j, Fn (aP fs j)
  | [], _, _ => fn_one
  | x :: r, h, j => by
    unfold aP
    have hr := fn_aP (fs := r) (fun y hy => h y (List.mem_cons_of_mem _ hy)) j
    split
    · exact (h x List.mem_cons_self).mul hr
    · exact hr
theorem fn_sP : ∀ {fs : List (Pf × Nat)}, (∀ x ∈ fs, Fn x.1) → ∀ j, Fn (sP fs j)
  | [], _, _ => fn_zero
  | x :: r, h, j => by
    unfold sP
    have hx := h x List.mem_cons_self
    have hr := fn_sP (fs := r) (fun y hy => h y (List.mem_cons_of_mem _ hy)) j
    have ha := fn_aP (fs := r) (fun y hy => h y (List.mem_cons_of_mem _ hy)) j
    split
    · exact ((fn_cst _).mul (hx.d.mul ha)).add (hx.mul hr)
    · exact hr
theorem TF.fn : ∀ {fs : List (Pf × Nat)}, TF fs → ∀ x ∈ fs, Fn x.1
  | [], _, x, hx => by simp at hx
  | y :: r, h, x, hx => by
    rcases List.mem_cons.mp hx with z | z
    · rw [z]; exact h.1
    · exact TF.fn h.2.2.2 x z
theorem cop_aP {q : Pf} (fq : Fn q) : ∀ {fs : List (Pf × Nat)}, (∀ x ∈ fs, Fn x.1) → (∀ x ∈ fs, Cop q x.1) → ∀ j, Cop q (aP fs j)
  | [], _, _, _ => cop_one q
  | x :: r, h, k, j => by
    unfold aP
    have fr := fn_aP (fs := r) (fun y hy => h y (List.mem_cons_of_mem _ hy)) j
    have hr := cop_aP fq (fs := r) (fun y hy => h y (List.mem_cons_of_mem _ hy)) (fun y hy => k y (List.mem_cons_of_mem _ hy)) j
    split
    · exact Cop.mul fq (h x List.mem_cons_self) fr (k x List.mem_cons_self) hr
    · exact hr
theorem as_cop : ∀ {fs : List (Pf × Nat)}, TF fs → ∀ j, Cop (aP fs j) (sP fs j)
  | [], _, _ => (cop_one _).symm
  | x :: r, h, j => by
    obtain ⟨fx, cx, ca, hr⟩ := h
    have ih := as_cop hr j
    have fr := hr.fn
    unfold aP sP
    split
    · rename_i hj
      have wz : ((x.2 + 1 - j : Nat) : Rat) ≠ 0 := fun z => by
        have z' : ((x.2 + 1 - j : Nat) : Rat) = ((0 : Nat) : Rat) := z
        have := Rat.natCast_inj.mp z'
        omega
      have FA := fn_aP fr j
      have FS := fn_sP fr j
      have cR := cop_aP fx fr ca j
      have k1 : Cop x.1 (pCst ((x.2 + 1 - j : Nat) : Rat) * (dP x.1 * aP r j) + x.1 * sP r j) := Cop.addl FS ((Cop.mul fx fx.d FA cx cR).scale wz)
      have k2 : Cop (aP r j) (x.1 * sP r j + aP r j * (pCst ((x.2 + 1 - j : Nat) : Rat) * dP x.1)) := Cop.addl ((fn_cst _).mul fx.d) (Cop.mul FA fx FS cR.symm ih)
      have e : x.1 * sP r j + aP r j * (pCst ((x.2 + 1 - j : Nat) : Rat) * dP x.1) = pCst ((x.2 + 1 - j : Nat) : Rat) * (dP x.1 * aP r j) + x.1 * sP r j := by grind
      rw [e] at k2
      have FT : Fn (pCst ((x.2 + 1 - j : Nat) : Rat) * (dP x.1 * aP r j) + x.1 * sP r j) := ((fn_cst _).mul (fx.d.mul FA)).add (fx.mul FS)
      exact (Cop.mul FT fx FA k1.symm k2.symm).symm
    · exact ih
theorem ae_eq : ∀ (fs : List (Pf × Nat)) (j : Nat), aP fs j = eP fs j * aP fs (j + 1)
  | [], _ => by show (1 : Pf) = 1 * 1; grind
  | x :: r, j => by
    have ih := ae_eq r j
    unfold aP eP
    by_cases h1 : x.2 = j
    · rw [if_pos h1, if_pos (by omega), if_neg (by omega), ih]; grind
    · rw [if_neg h1]
      by_cases h2 : j ≤ x.2
      · rw [if_pos h2, if_pos (by omega), ih]; grind
      · rw [if_neg h2, if_neg (by omega), ih]
theorem se_eq : ∀ (fs : List (Pf × Nat)) (j : Nat), sP fs j - dP (aP fs j) = eP fs j * sP fs (j + 1)
  | [], _ => by
    show (0 : Pf) - dP 1 = 1 * 0
    rw [dP_one]; grind
  | x :: r, j => by
    have ih := se_eq r j
    have ia := ae_eq r j
    unfold aP eP sP
    by_cases h1 : x.2 = j
    · rw [if_pos h1, if_pos (by omega), if_pos (by omega), if_neg (by omega), dP_mul, show x.2 + 1 - j = 1 by omega, show ((1 : Nat) : Rat) = 1 from rfl, pCst_one]
      grind
    · rw [if_neg h1]
      by_cases h2 : j ≤ x.2
      · simp only [if_pos h2, if_pos (show j + 1 ≤ x.2 by omega)]
        rw [dP_mul, show x.2 + 1 - j = (x.2 + 1 - (j + 1)) + 1 by omega, Rat.natCast_add]
        have e : pCst (((x.2 + 1 - (j + 1) : Nat) : Rat) + ((1 : Nat) : Rat)) = pCst ((x.2 + 1 - (j + 1) : Nat) : Rat) + 1 := by
          rw [← pCst_one]
          refine Pf.ext fun k => ?_
          show (if k = 0 then _ else 0) = (if k = 0 then _ else 0) + (if k = 0 then (1 : Rat) else 0)
          split
          · rfl
          · grind
        rw [e]
        generalize pCst ((x.2 + 1 - (j + 1) : Nat) : Rat) = w
        grind
      · simp only [if_neg h2, if_neg (show ¬ j + 1 ≤ x.2 by omega)]
        exact ih
theorem dwP (q : Pf) : ∀ n, dP (wP q (n + 1)) = pCst ((n + 1 : Nat) : Rat) * (wP q n * dP q)
  | 0 => by
    show dP (q * 1) = pCst ((1 : Nat) : Rat) * (1 * dP q)
    rw [dP_mul, dP_one, show ((1 : Nat) : Rat) = 1 from rfl, pCst_one]; grind
  | n + 1 => by
    have ih := dwP q n
    show dP (q * wP q (n + 1)) = pCst ((n + 1 + 1 : Nat) : Rat) * (wP q (n + 1) * dP q)
    rw [dP_mul, ih, Rat.natCast_add (n + 1) 1]
    have e : pCst (((n + 1 : Nat) : Rat) + ((1 : Nat) : Rat)) = pCst ((n + 1 : Nat) : Rat) + 1 := by
      rw [← pCst_one]
      refine Pf.ext fun k => ?_
      show (if k = 0 then _ else 0) = (if k = 0 then _ else 0) + (if k = 0 then (1 : Rat) else 0)
      split
      · rfl
      · grind
    rw [e]
    show dP q * (q * wP q n) + _ = _ * ((q * wP q n) * dP q)
    generalize pCst ((n + 1 : Nat) : Rat) = w
    grind
theorem fg_eq : ∀ {fs : List (Pf × Nat)}, (∀ x ∈ fs, 1 ≤ x.2) → fP fs = gP1 fs * aP fs 1 ∧ dP (fP fs) = gP1 fs * sP fs 1
  | [], _ => ⟨by show (1 : Pf) = 1 * 1; grind, by show dP 1 = 1 * 0; rw [dP_one]; grind⟩
  | x :: r, h => by
    obtain ⟨i1, i2⟩ := fg_eq (fs := r) fun y hy => h y (List.mem_cons_of_mem _ hy)
    have h1 := h x List.mem_cons_self
    obtain ⟨n, hn⟩ : ∃ n, x.2 = n + 1 := ⟨x.2 - 1, by omega⟩
    have dw := dwP x.1 n
    unfold fP gP1 aP sP
    rw [if_pos h1, if_pos h1, hn, Nat.add_sub_cancel]
    refine ⟨?_, ?_⟩
    · show x.1 * wP x.1 n * fP r = _
      rw [i1]; grind
    · rw [dP_mul, dw, i2, i1]
      show _ + x.1 * wP x.1 n * _ = _
      rw [show n + 1 + 1 - 1 = n + 1 by omega]
      generalize pCst ((n + 1 : Nat) : Rat) = w
      grind
theorem top_ex {p : Pf} : ∀ n, Dg p.f n → (∃ k, p.f k ≠ 0) → ∃ m, Dg p.f (m + 1) ∧ p.f m ≠ 0
  | 0, h, ⟨k, hk⟩ => absurd (h k (Nat.zero_le _)) hk
  | n + 1, h, hk => by
    by_cases z : p.f n = 0
    · exact top_ex n (fun k hkn => by
        rcases Nat.eq_or_lt_of_le hkn with y | y
        · rw [← y]; exact z
        · exact h k y) hk
    · exact ⟨n, h, z⟩
theorem dg_cst {p q : Pf} {d : Rat} (fp : Fn p) (fq : Fn q) (h : p * q = pCst d) (d0 : d ≠ 0) : Dg p.f 1 := by
  obtain ⟨n, hn⟩ := fq
  obtain ⟨m, hm⟩ := fp
  have e0 : (p * q).f 0 ≠ 0 := by rw [h]; exact d0
  have nz : ∃ k, q.f k ≠ 0 := Classical.byContradiction fun z => e0 (by
    have q0 : ∀ k, q.f k = 0 := fun k => Classical.byContradiction fun y => z ⟨k, y⟩
    show cv p.f q.f 0 = 0
    rw [cvf_comm]; exact cv_zero q0 _ _)
  obtain ⟨t, ht, tn⟩ := top_ex n hn nz
  have := dg_back hm ht tn (N := 1) (fun k hk => by
    have e : cv p.f q.f k = (pCst d).f k := by rw [← h]; rfl
    rw [e]; show (if k = 0 then d else 0) = 0; rw [if_neg (by omega)])
  exact fun k hk => this k (by omega)
structure CC (G P Q : List Int) (K c L g bG : Nat) : Prop where
  lG : G.length = g + 1
  tG : IsTz G G.length
  gG : gcdL G = 1
  bG : ∀ k, (aZ G k).natAbs < 2 ^ bG
  tP : IsTz P P.length
  tQ : IsTz Q Q.length
  lp : P.length ≤ L
  lq : Q.length < P.length
  kP : ∀ k, (aZ P k).natAbs ≤ K
  kQ : ∀ k, (aZ Q k).natAbs ≤ K
  k1 : 1 ≤ K
  hc : 4 * L * K ≤ 2 ^ c
  l9 : L ≤ 16
def wG (c L g bG la : Nat) : Nat := wL c L (la - g) + bG + 5
structure CS (G P Q : List Int) (c L g bG : Nat) (A B : List Int) : Prop where
  tA : IsTz A A.length
  tB : IsTz B B.length
  lt : B.length < A.length
  ex : ∃ A' B' fa ha fb hb : Pf, Fn A' ∧ Fn B' ∧ Fn fa ∧ Fn ha ∧ Fn fb ∧ Fn hb ∧ zp A = A' * zp G ∧ zp B = B' * zp G ∧ Ev (zp P) (zp Q) A' B' fa ha fb hb P.length Q.length (A.length - g) (B.length - g)
  bA : ∀ k, (aZ A k).natAbs < 2 ^ wG c L g bG A.length
  bB : ∀ k, (aZ B k).natAbs < 2 ^ wG c L g bG A.length
section
variable {G P Q : List Int} {K c L g bG : Nat}
theorem CC.gl (C : CC G P Q K c L g bG) : Dg (zp G).f (g + 1) ∧ (zp G).f g ≠ 0 := by
  have h := tz_lead C.tG (by rw [C.lG]; omega)
  rw [C.lG, Nat.add_sub_cancel] at h
  refine ⟨?_, zc_ne h⟩
  have := zc_dg G
  rw [C.lG] at this
  exact this
theorem CC.quo (C : CC G P Q K c L g bG) {A : List Int} {A' : Pf} (fA : Fn A') (e : zp A = A' * zp G) : Dg A'.f (A.length - g) := by
  obtain ⟨n, hn⟩ := fA
  obtain ⟨d1, d2⟩ := C.gl
  exact dg_back hn d1 d2 (fun k hk => by
    have : cv A'.f (zp G).f k = zc A k := by
      have h := congrArg (fun z => Pf.f z k) e
      exact h.symm
    rw [this]; exact zc_dg A k hk)
theorem CC.ld (C : CC G P Q K c L g bG) {A : List Int} {A' : Pf} (fA : Fn A') (e : zp A = A' * zp G) (tA : IsTz A A.length) (hA : A ≠ []) : g < A.length ∧ A'.f (A.length - g - 1) ≠ 0 := by
  have q := C.quo fA e
  have pos := List.length_pos_iff.mpr hA
  have lead := zc_ne (tz_lead tA pos)
  obtain ⟨d1, d2⟩ := C.gl
  have at' : ∀ k, zc A k = cv A'.f (zp G).f k := fun k => congrArg (fun z => Pf.f z k) e
  have hg : g < A.length := Classical.byContradiction fun z => lead (by
    rw [at']
    exact cv_zero (fun k => q k (by omega)) _ _)
  refine ⟨hg, fun z => lead ?_⟩
  rw [at', show A.length - 1 = (A.length - g - 1) + g by omega, cv_top (fun k hk => q k (by omega)) d1, z]; grind
theorem wG_mono {la lb : Nat} (h : lb ≤ la) : wG c L g bG la ≤ wG c L g bG lb := by
  unfold wG
  have := wL_mono (c := c) (L := L) (show lb - g ≤ la - g by omega)
  omega
theorem CS.init (C : CC G P Q K c L g bG) {P0 Q0 : List Int} (tP : IsTz P0 P0.length) (tQ : IsTz Q0 Q0.length) (eP : zp P0 = zp P * zp G) (eQ : zp Q0 = zp Q * zp G) : CS G P Q c L g bG P0 Q0 := by
  have qP := C.quo (fn_zp P) eP
  have pl : 0 < P.length := by have := C.lq; omega
  have P0n : P0 ≠ [] := fun z => by
    have lead := zc_ne (tz_lead C.tP pl)
    rw [z] at qP
    exact lead (qP _ (by simp))
  obtain ⟨h1, h2⟩ := C.ld (fn_zp P) eP tP P0n
  have lP : P0.length - g = P.length := by
    rcases Nat.lt_trichotomy (P0.length - g) P.length with z | z | z
    · exact absurd (qP (P.length - 1) (by omega)) (zc_ne (tz_lead C.tP pl))
    · exact z
    · exact absurd (zc_dg P (P0.length - g - 1) (by omega)) h2
  have lQ : Q0.length - g = Q.length := by
    have qQ := C.quo (fn_zp Q) eQ
    by_cases z : Q0 = []
    · rw [z]
      rw [z] at qQ
      rcases Nat.eq_zero_or_pos Q.length with y | y
      · simp; omega
      · exact absurd (qQ (Q.length - 1) (by simp)) (zc_ne (tz_lead C.tQ y))
    · obtain ⟨h1, h2⟩ := C.ld (fn_zp Q) eQ tQ z
      rcases Nat.lt_trichotomy (Q0.length - g) Q.length with y | y | y
      · exact absurd (qQ (Q.length - 1) (by omega)) (zc_ne (tz_lead C.tQ (by omega)))
      · exact y
      · exact absurd (zc_dg Q (Q0.length - g - 1) (by omega)) h2
  have lq := C.lq
  have kc : K < 2 ^ c := by
    have h1 := C.hc
    have h2 : 4 * 1 * K ≤ 4 * L * K := Nat.mul_le_mul_right _ (by have := C.lp; omega)
    have := C.k1
    omega
  have wge : c ≤ wL c L (P0.length - g) := by
    rw [lP]
    have := wL_ge (c := c) C.lp
    omega
  have bits : ∀ {R R0 : List Int}, zp R0 = zp R * zp G → R.length ≤ 32 → (∀ k, (aZ R k).natAbs ≤ K) → ∀ k, (aZ R0 k).natAbs < 2 ^ wG c L g bG P0.length := fun {R R0} e l h k => by
    have e2 : aZ R0 k = aZ (mulZ R G) k := zp_inj (by rw [e, zp_mul]) k
    rw [e2]
    refine Nat.lt_of_lt_of_le (mulZ_lt l (fun k => Nat.lt_of_le_of_lt (h k) kc) C.bG k) (pow_le_pow2 ?_)
    unfold wG
    omega
  have l9 := C.l9
  have lp := C.lp
  refine ⟨tP, tQ, by omega, ⟨zp P, zp Q, 1, 0, 0, 1, fn_zp P, fn_zp Q, fn_one, fn_zero, fn_zero, fn_one, eP, eQ, by rw [lP, lQ]; exact Ev.base⟩, bits eP (by omega) C.kP, bits eQ (by omega) C.kQ⟩
theorem CS.step (C : CC G P Q K c L g bG) {A B : List Int} (S : CS G P Q c L g bG A B) (hB : B ≠ []) {many : Int} {Qz Rz Cz : List Int} (m1 : 1 ≤ many) (dv : Dv A B Qz Rz many) (lR : Rz.length < B.length) (tR : IsTz Rz Rz.length) {h : Int} (h0 : h ≠ 0) (zR : ∀ k, aZ Rz k = h * aZ Cz k) (lC : Cz.length = Rz.length) (pr : Cz ≠ [] → gcdL Cz = 1) : CS G P Q c L g bG B Cz := by
  obtain ⟨A', B', fa, ha, fb, hb, FA, FB, Ffa, Fha, Ffb, Fhb, eA, eB, e⟩ := S.ex
  have mz : (many : Rat) ≠ 0 := icast_ne' (by omega)
  have hz : (h : Rat) ≠ 0 := icast_ne' h0
  have e1 : pCst (many : Rat) * zp A = zp Qz * zp B + zp Rz := Pf.ext fun k => by rw [pf_c]; exact dv k
  have eR : zp Rz = pCst (h : Rat) * zp Cz := Pf.ext fun k => by
    rw [pf_c]
    show zc Rz k = _ * zc Cz k
    unfold zc
    rw [zR, Rat.intCast_mul]
  have tC := tz_over tR lC zR
  obtain ⟨C', eC'⟩ : ∃ C', C' = pCst (h : Rat)⁻¹ * (pCst (many : Rat) * A' - zp Qz * B') := ⟨_, rfl⟩
  have ih := pCst_inv hz
  have FC : Fn C' := by rw [eC']; exact (fn_cst _).mul (((fn_cst _).mul FA).sub ((fn_zp _).mul FB))
  have eC : zp Cz = C' * zp G := by
    have h1 : pCst (h : Rat) * zp Cz = pCst (many : Rat) * zp A - zp Qz * zp B := by rw [← eR, e1]; grind
    have h2 : zp Cz = pCst (h : Rat)⁻¹ * (pCst (h : Rat) * zp Cz) := by grind
    rw [h2, h1, eC', eA, eB]; grind
  have qC := C.quo FC eC
  obtain ⟨gB, lB⟩ := C.ld FB eB S.tB hB
  have qB := C.quo FB eB
  have lCg : Cz.length - g < B.length - g := by omega
  have hst := e.step (c := (many : Rat)) (d := (h : Rat)) (C := C') (Q := zp Qz) (fc := pCst (h : Rat)⁻¹ * (pCst (many : Rat) * fa - zp Qz * fb)) (hc := pCst (h : Rat)⁻¹ * (pCst (many : Rat) * ha - zp Qz * hb)) (by have := S.lt; omega) qB (by omega) lB qC lCg mz hz (zc_dg Qz) (by rw [eC']; grind) (by grind) (by grind)
  have bB' : ∀ k, (aZ B k).natAbs < 2 ^ wG c L g bG B.length := fun k => Nat.lt_of_lt_of_le (S.bB k) (pow_le_pow2 (wG_mono (by have := S.lt; omega)))
  refine ⟨S.tB, tC, by omega, ⟨B', C', fb, hb, _, _, FB, FC, Ffb, Fhb, (fn_cst _).mul (((fn_cst _).mul Ffa).sub ((fn_zp _).mul Ffb)), (fn_cst _).mul (((fn_cst _).mul Fha).sub ((fn_zp _).mul Fhb)), eB, eC, hst⟩, bB', ?_⟩
  by_cases hC : Cz = []
  · intro k
    rw [hC]; exact Nat.two_pow_pos _
  obtain ⟨N, hN⟩ : ∃ N, N = (Q.length - (B.length - g - 1)) + (P.length - (B.length - g - 1)) := ⟨_, rfl⟩
  have hle := hst.le
  have lq := C.lq
  have lp := C.lp
  have l9 := C.l9
  obtain ⟨b0, u, v, s, b0n, _, _, e3, _, _, l3⟩ := hst.siegel lCg C.kP C.kQ C.k1 hN
  have N1 : 1 ≤ N := by omega
  have hc : 2 * N * K ≤ 2 ^ c := Nat.le_trans (Nat.mul_le_mul_right _ (show 2 * N ≤ 4 * L by omega)) C.hc
  obtain ⟨p1, _⟩ := pow_nk N1 C.k1 hc
  have sz : ∀ i, Cz.length - g ≤ i → s i = 0 := fun i hi => by
    have := e3 i
    rw [qC i hi] at this
    exact Rat.intCast_inj.mp (by rw [this, Rat.intCast_zero]; grind)
  have cN : c * N ≤ wL c L (B.length - g) := by
    unfold wL
    exact Nat.mul_le_mul_left _ (by omega)
  have key : ∀ k, (((sZ (fun i => s i * aZ G (k - i)) (k + 1) : Int)) : Rat) = b0 * zc Cz k := fun k => by
    rw [← cast_cv]
    have : zc Cz k = cv C'.f (zp G).f k := congrArg (fun z => Pf.f z k) eC
    rw [this, ← cv_mul]
    exact cv_congr (fun i _ => e3 i) (fun i _ => rfl)
  intro k
  have le := prim_le b0n (pr hC) key k
  refine Nat.lt_of_le_of_lt le ?_
  refine Nat.lt_of_lt_of_le (cvz_lt (n := Cz.length - g) (a := wL c L (B.length - g)) (b := bG) (by omega) sz (fun i => Nat.lt_of_le_of_lt (l3 i) (Nat.lt_of_lt_of_le p1 (pow_le_pow2 cN))) C.bG k (k + 1)) (pow_le_pow2 (by unfold wG; omega))
theorem CS.last (C : CC G P Q K c L g bG) {A : List Int} (S : CS G P Q c L g bG A []) (co : Cop (zp P) (zp Q)) : ∃ u : Rat, u ≠ 0 ∧ zp A = pCst u * zp G := by
  obtain ⟨A', B', fa, ha, fb, hb, FA, FB, Ffa, Fha, Ffb, Fhb, eA, eB, e⟩ := S.ex
  have An : A ≠ [] := fun z => by have := S.lt; rw [z] at this; simp at this
  have qB := C.quo FB eB
  have B0 : B' = 0 := Pf.ext fun k => by rw [pf_zero]; exact qB k (by simp)
  obtain ⟨δ, δ0, c1, c2⟩ := e.cr
  obtain ⟨x, y, Fx, Fy, exy⟩ := co
  rw [B0] at c1 c2
  have key : A' * (x * hb - y * fb) = pCst δ := by
    have : pCst δ * (x * zp P + y * zp Q) = pCst δ := by rw [exy]; grind
    rw [← this]
    have h1 : pCst δ * (x * zp P + y * zp Q) = x * (pCst δ * zp P) + y * (pCst δ * zp Q) := by grind
    rw [h1, c1, c2]; grind
  have d1 := dg_cst FA ((Fx.mul Fhb).sub (Fy.mul Ffb)) key δ0
  have eq : A' = pCst (A'.f 0) := Pf.ext fun k => by
    show A'.f k = if k = 0 then A'.f 0 else 0
    by_cases z : k = 0
    · rw [if_pos z, z]
    · rw [if_neg z]; exact d1 k (by omega)
  refine ⟨A'.f 0, fun z => ?_, by rw [eA]; rw [← eq]⟩
  obtain ⟨hg, hl⟩ := C.ld FA eA S.tA An
  exact hl (by
    rcases Nat.eq_zero_or_pos (A.length - g - 1) with y | y
    · rw [y]; exact z
    · exact d1 _ y)
end
theorem prim_one {R G : List Int} {u : Rat} (tR : IsTz R R.length) (tG : IsTz G G.length) (gR : gcdL R = 1) (gG : gcdL G = 1) (u0 : 0 < u) (e : zp R = pCst u * zp G) : R = G := by
  have un : u ≠ 0 := fun z => by rw [z] at u0; exact absurd u0 (by decide)
  obtain ⟨a, ha⟩ := prim_int gG (s := fun k => aZ R k) (b := u) fun k => by
    have h := congrArg (fun z => Pf.f z k) e
    have h2 : zc R k = u * zc G k := by
      have : (pCst u * zp G).f k = u * (zp G).f k := pf_c u (zp G) k
      exact h.trans this
    exact h2
  obtain ⟨b, hb⟩ := prim_int gR (s := fun k => aZ G k) (b := u⁻¹) fun k => by
    have h := congrArg (fun z => Pf.f z k) e
    have h2 : zc R k = u * zc G k := h.trans (pf_c u (zp G) k)
    show zc G k = u⁻¹ * zc R k
    have := Rat.mul_inv_cancel _ un
    rw [h2]
    generalize u⁻¹ = x at *
    grind
  have ab : a * b = 1 := Rat.intCast_inj.mp (by
    rw [Rat.intCast_mul, ← ha, ← hb, Rat.mul_inv_cancel _ un]; rfl)
  have a0 : 0 < a := Rat.intCast_pos.mp (by rw [← ha]; exact u0)
  have a1 : a = 1 := by
    have hd : a ∣ 1 := ⟨b, ab.symm⟩
    have := Int.le_of_dvd (by decide) hd
    omega
  rw [ha, a1] at e
  refine tz_ext tR tG fun k => zp_inj (by rw [e, show ((1 : Int) : Rat) = 1 from rfl, pCst_one]; grind) k
def WgN (J : Nat → L2.St → Hp → Prop) (m : Nat) : L2.St → Hp → Prop := fun σ' H' => ∃ m', m' < m ∧ J m' σ' H'
def WhG (tb : TS) (D : Ends) (J : Nat → L2.St → Hp → Prop) (m : Nat) (σ : L2.St) (H1 : Hp) : Prop :=
  ∃ N : L2.St → Hp → Prop, (∀ σ' H', N σ' H' → ∃ m', m' < m ∧ J m' σ' H') ∧ tb { D with nx := N, ct := N, bk := D.nx } σ H1
theorem WhG.mk {tb : TS} {D : Ends} {J : Nat → L2.St → Hp → Prop} {m : Nat} {σ : L2.St} {H1 : Hp} (h : tb { D with nx := WgN J m, ct := WgN J m, bk := D.nx } σ H1) : WhG tb D J m σ H1 := ⟨_, fun _ _ n => n, h⟩
theorem WgN.mk {J : Nat → L2.St → Hp → Prop} {m m' : Nat} {σ : L2.St} {H : Hp} (l : m' < m) (h : J m' σ H) : WgN J m σ H := ⟨_, l, h⟩
theorem while_g {c : TT} {tb : TS} {D : Ends} {σ : L2.St} {H : Hp} (J : Nat → L2.St → Hp → Prop) (m0 : Nat) (h0 : J m0 σ H)
    (hs : ∀ m σ H, J m σ H → c σ H fun b H1 => if b = true then WhG tb D J m σ H1 else D.nx σ H1) : tWhile c tb D σ H := ⟨J, ⟨_, h0⟩, hs⟩
theorem gcdL_pos {ws : List Int} (t : IsTz ws ws.length) (h : ws ≠ []) : gcdL ws ≠ 0 := fun z => by
  have pos := List.length_pos_iff.mpr h
  refine tz_lead t pos ?_
  have hl : ws.length - 1 < ws.length := by omega
  have hm : ws[ws.length - 1] ∈ ws := List.getElem_mem hl
  have := gcdL_dvd hm
  rw [z] at this
  unfold aZ
  rw [List.getElem?_eq_getElem hl]
  exact Int.zero_dvd.mp this
theorem gcdL_le {ws : List Int} {m : Nat} (h0 : gcdL ws ≠ 0) (hb : ∀ v ∈ ws, Int.natAbs v < 2 ^ m) : gcdL ws < 2 ^ m := by
  obtain ⟨v, hv, v0⟩ : ∃ v ∈ ws, v ≠ 0 := by
    refine Classical.byContradiction fun z => h0 ?_
    have all : ∀ v ∈ ws, v = 0 := fun v hv => Classical.byContradiction fun h => z ⟨v, hv, h⟩
    have : 0 ∣ gcdL ws := dvd_gcdL _ 0 (Nat.dvd_zero _) fun v hv => by rw [all v hv]; exact Int.dvd_zero _
    exact Nat.eq_zero_of_zero_dvd this
  have := Int.natAbs_dvd_natAbs.mpr (gcdL_dvd hv)
  exact Nat.lt_of_le_of_lt (Nat.le_of_dvd (by omega) this) (hb v hv)
section
variable {P : Program} {w : World} {K : PySem.W.Frag} {mg : Str → Option Value} {base : Heap}
def spOverC (K : PySem.W.Frag) : Sp := fun vs H Q _ => ∃ (a : Addr) (ws : List Int), vs = [.ref a] ∧ H a = some (.lst (ws.map V.int)) ∧ (∀ v ∈ ws, Int.natAbs v < 2 ^ 6000) ∧ ws.length ≤ 40 ∧ IsTz ws ws.length ∧
  ∀ r zs h H', Same H H' → H r = none → H' r = some (.lst (zs.map V.int)) → zs.length = ws.length → 1 ≤ h → (∀ k, aZ ws k = h * aZ zs k) → (ws ≠ [] → gcdL zs = 1) → Q (.ref r) H'
abbrev s_over_content : Stmt := top 29
theorem sc_over_content : FnScope ["wholes", "content"] ["wholes"] (defScope s_over_content) := by and_intros
set_option maxHeartbeats 0 in
theorem ok_over_content {f f1 : Addr} (d : Df K mg "over_content" s_over_content ["wholes"] f) (G_content_of : Def P w K mg base CX0 2 "content_of" f1 ["wholes"] (spContent K)) (n_list : mg "list" = none) : Def P w K mg base CX0 3 "over_content" f ["wholes"] (spOverC K) := by
  refine d.ok (N := ["wholes", "content"]) sc_over_content (by rintro vs H Q E ⟨_, _, h, _⟩; rw [h]; rfl) (fun cdv A outer s H vs Q E hr h => ?_)
  obtain ⟨a, ws, rfl, hS, hb, l40, tz, k⟩ := h
  refine ⟨_, (pss_cons (ps_set (i := 1) sc_over_content.nd rfl (Or.inr rfl) (pe_def G_content_of hr (pa_cons (pv 0) pa_nil) pass0))
      (pss_cons (ps_if (pt_cmpR op_lt (pv 1) pe_int (nomark _)) (pss_one (ps_ret (pe_callTy call_list_of rfl n_list (by decide +kernel) (pa_cons (pv 0) pa_nil)))) pss_nil)
      (pss_one (ps_ret (pe_comp (Nc := ["content", "whole"]) (caps := [some 1, none]) rfl (Caps.of (osc := defScope s_over_content) (N := ["wholes", "content"]) (ks := ["content"]) rfl rfl rfl rfl (sub_cons rfl sub_nil) (by decide +kernel)) (pi_list (pv 0)) (fun C s₂ H₂ fp pins => (pg_name (i := 1) (show List.Nodup (["content", "whole"] : List Str) by decide +kernel) rfl (Or.inl rfl) (Or.inr rfl))) (fun C s₂ H₂ fp pins => (pe_op op_fdivB (pv 1) (pv 0)))))))), ?_⟩
  rw [show start ["wholes", "content"] [.ref a] = [some (.ref a), none] from rfl]
  subst_eqs
  refine ⟨a, ws, rfl, SqL.of hS, hb, _, rfl, ite2 (fun h2 => ⟨_, .inl (SqL.of hS), fun p hp => ?_⟩) (fun h2 => ⟨⟨_, SqL.of hS⟩, fun D hD => ?_⟩)⟩
  · refine k p ws 1 _ (Same.new hp _) hp upd_same rfl (Int.le_refl _) (fun k => by omega) fun hw => ?_
    have := gcdL_pos tz hw
    omega
  · have g0 : gcdL ws ≠ 0 := fun z => by rw [z] at h2; exact h2 (by decide)
    have gb : (((gcdL ws : Nat)) : Int).natAbs < 2 ^ 6000 := by rw [Int.natAbs_natCast]; exact gcdL_le g0 hb
    refine divC hS hD (by omega) (by omega) gb fun H2 s2 e2 => ?_
    have zR : ∀ k, aZ ws k = ((gcdL ws : Nat) : Int) * aZ (ws.map fun v => v.fdiv ((gcdL ws : Nat) : Int)) k := fdiv_all g0 fun v hv => gcdL_dvd hv
    exact k D _ _ H2 s2 hD e2 (List.length_map _) (by omega) zR fun _ => gcdL_over rfl g0 (List.length_map _) zR
def spSlopeZ (K : PySem.W.Frag) : Sp := fun vs H Q _ => ∃ (a : Addr) (ws : List Int), vs = [.ref a] ∧ SqL K H a (ws.map V.int) ∧ (∀ v ∈ ws, Int.natAbs v < 2 ^ 6000) ∧ ws.length ≤ 40 ∧ IsTz ws ws.length ∧
  ∀ r zs H', Same H H' → H r = none → H' r = some (.lst (zs.map V.int)) → zs.length = ws.length - 1 → IsTz zs zs.length → (∀ k, aZ zs k = ((k + 1 : Nat) : Int) * aZ ws (k + 1)) → zp zs = dP (zp ws) → Q (.ref r) H'
abbrev s_whole_slope : Stmt := top 37
theorem sc_whole_slope : FnScope ["wholes"] ["wholes"] (defScope s_whole_slope) := by and_intros
set_option maxHeartbeats 0 in
theorem ok_whole_slope {f : Addr} (d : Df K mg "whole_slope" s_whole_slope ["wholes"] f) (n_len : mg "len" = none) (n_range : mg "range" = none) : Def P w K mg base CX0 1 "whole_slope" f ["wholes"] (spSlopeZ K) := by
  refine d.ok (N := ["wholes"]) sc_whole_slope (by rintro vs H Q E ⟨_, _, h, _⟩; rw [h]; rfl) (fun cdv A outer s H vs Q E hr h => ?_)
  obtain ⟨a, ws, rfl, hS, hb, l40, tz, k⟩ := h
  refine ⟨_, (pss_one (ps_ret (pe_comp (Nc := ["wholes", "place"]) (caps := [some 0, none]) rfl (Caps.of (osc := defScope s_whole_slope) (N := ["wholes"]) (ks := ["wholes"]) rfl rfl rfl rfl (sub_cons rfl sub_nil) (by decide +kernel)) (pi_range2 rfl n_range (pa_cons pe_int (pa_cons (pe_callB call_len_seq rfl n_len (by decide +kernel) (pa_cons (pv 0) pa_nil)) pa_nil))) (fun C s₂ H₂ fp pins => (pg_name (i := 1) (show List.Nodup (["wholes", "place"] : List Str) by decide +kernel) rfl (Or.inl rfl) (Or.inr rfl))) (fun C s₂ H₂ fp pins => (pe_op op_mulB (pv 1) (pe_ix (by exact ix_list : IxR _ (rIxL K)) (pv 0) (pv 1) (fun _ _ => rfl))))))), ?_⟩
  rw [show start ["wholes"] [.ref a] = [some (.ref a)] from rfl]
  subst_eqs
  refine ⟨_, .inl hS, by omega, by omega, by rw [List.length_map]; omega, by rw [List.length_map]; omega, fun D hD => ?_⟩
  have ln : ((((ws.map V.int).length : Nat) : Int) - 1).toNat = ws.length - 1 := by rw [List.length_map]; omega
  rw [ln]
  obtain ⟨zs, hzs⟩ : ∃ zs : List Int, zs = (List.range (ws.length - 1)).map fun i => ((i + 1 : Nat) : Int) * aZ ws (i + 1) := ⟨_, rfl⟩
  have lz : zs.length = ws.length - 1 := by rw [hzs, List.length_map, List.length_range]
  have gz : ∀ j, j < ws.length - 1 → zs[j]? = some (((j + 1 : Nat) : Int) * aZ ws (j + 1)) := fun j hj => by rw [hzs, List.getElem?_map, List.getElem?_range hj]; rfl
  have az : ∀ j, aZ zs j = ((j + 1 : Nat) : Int) * aZ ws (j + 1) := fun j => by
    unfold aZ
    rcases Nat.lt_or_ge j (ws.length - 1) with y | y
    · rw [gz j y]; rfl
    · rw [List.getElem?_eq_none (by omega), List.getElem?_eq_none (by omega)]
      show (0 : Int) = _ * 0
      omega
  refine cw_range (fun j σ H2 => ∃ o, σ = [some (.ref a), o] ∧ Same H H2 ∧ H2 D = some (.lst ((zs.take j).map V.int))) ⟨_, rfl, Same.new hD _, upd_same⟩ ?_ ?_
  · rintro j σ H2 hj ⟨o, rfl, s2, e2⟩
    subst_eqs
    have hl : j + 1 < ws.length := by omega
    have ew : (ws.map V.int)[j + 1]? = some (.int (aZ ws (j + 1))) := by
      rw [List.getElem?_map, List.getElem?_eq_getElem hl]
      unfold aZ
      rw [List.getElem?_eq_getElem hl]; rfl
    rw [show (1 : Int) + (j : Int) = ((j + 1 : Nat) : Int) by omega]
    have bw := aZ_lt hb (j + 1)
    refine ⟨_, s2.seq hS, _, atI_nat ew, _, rfl, mulOk (m := 10) (n := 6000) (by rw [Int.natAbs_natCast]; omega) bw (by decide), ?_⟩
    refine CompN.mk hj e2 (len_ok (by rw [List.length_map, List.length_take]; omega)) ⟨_, rfl, s2.over hD _, ?_⟩
    rw [upd_same, take_snoc_get (gz j (by omega)), List.map_append]; rfl
  · rintro σ H2 ⟨o, rfl, s2, e2⟩
    rw [List.take_of_length_le (by omega)] at e2
    refine k D zs H2 s2 hD e2 lz ⟨Nat.le_refl _, fun i v hi e => ?_, fun hn v e => ?_⟩ az (Pf.ext fun j => ?_)
    · have := (List.getElem?_eq_some_iff.mp e).1; omega
    · have lp : 0 < zs.length := by omega
      rw [gz _ (by omega)] at e
      cases e
      have lead := tz_lead tz (by omega)
      rw [show zs.length - 1 + 1 = ws.length - 1 by omega]
      exact Int.mul_ne_zero (by omega) lead
    · show zc zs j = ((j + 1 : Nat) : Rat) * zc ws (j + 1)
      unfold zc
      rw [az, Rat.intCast_mul]; rfl
def wcOk (c L bG : Nat) : Bool := (List.range (L + 1)).all fun la => decide (la = 0 ∨ (la + 1) * (wL c L la + bG + 6) ≤ 5000)
theorem wc_get {c L bG la : Nat} (h : wcOk c L bG = true) (h1 : 1 ≤ la) (h2 : la ≤ L) : (la + 1) * (wL c L la + bG + 6) ≤ 5000 := by
  have := of_decide_eq_true (List.all_eq_true.mp h la (List.mem_range.mpr (by omega)))
  omega
def spWCom (K : PySem.W.Frag) : Sp := fun vs H Q _ => ∃ (a b : Addr) (P0 Q0 G P' Q' : List Int) (M c L g bG : Nat), vs = [.ref a, .ref b] ∧ H a = some (.lst (P0.map V.int)) ∧ H b = some (.lst (Q0.map V.int)) ∧ CC G P' Q' M c L g bG ∧ IsTz P0 P0.length ∧ IsTz Q0 Q0.length ∧ zp P0 = zp P' * zp G ∧ zp Q0 = zp Q' * zp G ∧ Cop (zp P') (zp Q') ∧ 0 < aZ G g ∧ wcOk c L bG = true ∧ g + L ≤ 22 ∧ ∀ r H', Same H H' → H r = none → H' r = some (.lst (G.map V.int)) → Q (.ref r) H'
abbrev s_whole_common : Stmt := top 40
theorem sc_whole_common : FnScope ["one", "other"] ["one", "other"] (defScope s_whole_common) := by and_intros
set_option maxHeartbeats 0 in
theorem ok_whole_common {f f1 f2 f3 : Addr} (d : Df K mg "whole_common" s_whole_common ["one", "other"] f) (GD_whole_divided : Def P w K mg base CX0 2 "whole_divided" f1 ["one", "other"] (spWDX K)) (G_over_content : Def P w K mg base CX0 3 "over_content" f2 ["wholes"] (spOverC K)) (G_whole_scaled : Def P w K mg base CX0 2 "whole_scaled" f3 ["factor", "wholes"] (spWScaled K)) : Def P w K mg base CX0 4 "whole_common" f ["one", "other"] (spWCom K) := by
  have G_whole_divided := GD_whole_divided
  refine d.ok (N := ["one", "other"]) sc_whole_common (by rintro vs H Q E ⟨_, _, _, _, _, _, _, _, _, _, _, _, h, _⟩; rw [h]; rfl) (fun cdv A' outer s H vs Q E hr h => ?_)
  obtain ⟨a, b, P0, Q0, G, P', Q', M, c, L, g, bG, rfl, ea, eb, C, tP, tQ, eP, eQ, co, lead, ok, gL, k⟩ := h
  refine ⟨_, (pss_cons (ps_while PassesOwn.never (pt_truth (pv 1) (fun _ => rfl)) (pss_one (ps_par (i := 0) (j := 1) rfl sc_whole_common.nd rfl rfl (by decide) rfl rfl (pa_cons (pv 1) (pa_cons (pe_def G_over_content hr (pa_cons (pe_ix ix_tup (pe_def G_whole_divided hr (pa_cons (pv 0) (pa_cons (pv 1) pa_nil)) pass0) pe_int (fun _ _ => rfl)) pa_nil) pass0) pa_nil)) rfl)))
      (pss_cons (ps_if (PW.pt (pw_and (pt_truth (pv 0) (fun _ => rfl)) (pw_and1 (pt_cmpR op_lt (pe_ix ix_list (pv 0) (pe_un un_neg pe_int) (fun _ _ => rfl)) pe_int (nomark _))))) (pss_one (ps_set (i := 0) sc_whole_common.nd rfl (Or.inl rfl) (pe_def G_whole_scaled hr (pa_cons (pe_un un_neg pe_int) (pa_cons (pv 0) pa_nil)) pass0))) pss_nil)
      (pss_one (ps_ret (pe_def G_over_content hr (pa_cons (pv 0) pa_nil) pass0))))), ?_⟩
  rw [show start ["one", "other"] [.ref a, .ref b] = [some (.ref a), some (.ref b)] from rfl]
  have lp := C.lp
  have lG := C.lG
  refine seq_cut (fun σ H1 => ∃ la lb A, σ = [some (.ref la), some (.ref lb)] ∧ Same H H1 ∧ H1 la = some (.lst (A.map V.int)) ∧ CS G P' Q' c L g bG A []) (fun N hN => ?_) ?_
  · show tWhile _ _ _ _ _
    obtain ⟨J, hJ⟩ : ∃ J : Nat → L2.St → Hp → Prop, ∀ m σ H1, J m σ H1 ↔ ∃ la lb A B, σ = [some (.ref la), some (.ref lb)] ∧ Same H H1 ∧ H1 la = some (.lst (A.map V.int)) ∧ H1 lb = some (.lst (B.map V.int)) ∧ CS G P' Q' c L g bG A B ∧ m = B.length := ⟨_, fun _ _ _ => Iff.rfl⟩
    refine while_g J Q0.length ((hJ _ _ _).mpr ⟨a, b, P0, Q0, rfl, Same.refl _, ea, eb, CS.init C tP tQ eP eQ, rfl⟩) ?_
    intro m σ H1 hm
    obtain ⟨la, lb, A, B, rfl, s1, eA, eB, S, rfl⟩ := (hJ _ _ _).mp hm
    subst_eqs
    refine ⟨_, .inl ⟨_, SqL.of eB, rfl⟩, ite2 (fun hB => WhG.mk ?_) (fun hB => ?_)⟩
    · have hB' : B ≠ [] := fun z => by rw [z] at hB; simp at hB
      have bpos : 0 < B.length := List.length_pos_iff.mpr hB'
      obtain ⟨A1, B1, fa, ha, fb, hb, FA, FB, _, _, _, _, e1, e2, ev⟩ := S.ex
      obtain ⟨gB, _⟩ := C.ld FB e2 S.tB hB'
      have le := ev.le
      have lq := C.lq
      have lt := S.lt
      obtain ⟨n, hn⟩ : ∃ n, B.length = n + 1 := ⟨B.length - 1, by omega⟩
      have sz := wc_get ok (la := A.length - g) (by omega) (by omega)
      obtain ⟨w', hw'⟩ : ∃ w', w' = wG c L g bG A.length := ⟨_, rfl⟩
      have hw2 : wL c L (A.length - g) + bG + 6 = w' + 1 := by rw [hw']; unfold wG; omega
      rw [hw2] at sz
      obtain ⟨Sv, hSv⟩ : ∃ Sv, Sv = A.length - n := ⟨_, rfl⟩
      have m1 : (Sv + 1) * (w' + 1) ≤ (A.length - g + 1) * (w' + 1) := Nat.mul_le_mul_right _ (by omega)
      rw [Nat.add_mul, Nat.one_mul] at m1
      have bA := S.bA
      have bB := S.bB
      rw [← hw'] at bA bB
      subst_eqs
      refine ⟨la, lb, A, B, n, Sv, w', w', rfl, SqL.of eA, SqL.of eB, by omega, hn, by omega, by rw [show n = B.length - 1 by omega]; exact tz_lead S.tB bpos, S.tA, by omega, aZ_mem bA, aZ_mem bB, by omega, by omega, fun r lq lR many Qz Rz H3 s3 fq fr nqr err eq eR m1 mb qb rb rl rt ql qt dv ex => ?_⟩
      refine ⟨r, rfl, _, SqT.of err, _, rfl, ?_⟩
      refine ⟨lR, Rz, rfl, eR, fun v hv => Nat.lt_of_lt_of_le (rb v hv) (pow_le_pow2 (by omega)), by omega, rt, fun r4 Cz h4 H4 s4 f4 e4 l4 h1 z4 p4 => ?_⟩
      have S' := S.step C hB' m1 dv (by omega) rt (h := h4) (by omega) z4 l4 (fun hC => p4 fun z => hC (List.eq_nil_of_length_eq_zero (by rw [l4, z]; rfl)))
      exact WgN.mk (m' := Cz.length) (by omega) ((hJ _ _ _).mpr ⟨lb, r4, B, Cz, rfl, s1.trans (s3.trans s4), s4 _ _ (s3 _ _ eB), e4, S', rfl⟩)
    · have hB0 : B = [] := by
        cases B with
        | nil => rfl
        | cons => simp at hB
      subst hB0
      exact hN _ _ ⟨la, lb, A, rfl, s1, eA, S⟩
  rintro σ H1 ⟨la, lb, A, rfl, s1, eA, S⟩
  obtain ⟨u, u0, eu⟩ := S.last C co
  have An : A ≠ [] := fun z => by have := S.lt; rw [z] at this; simp at this
  have apos := List.length_pos_iff.mpr An
  obtain ⟨A1, B1, fa, ha, fb, hb, FA, FB, _, _, _, _, e1, e2, ev⟩ := S.ex
  obtain ⟨gA, _⟩ := C.ld FA e1 S.tA An
  have le := ev.le
  have lq := C.lq
  have sz := wc_get ok (la := A.length - g) (by omega) (by omega)
  have w6 : wG c L g bG A.length ≤ 5000 := by
    unfold wG
    have : 1 * (wL c L (A.length - g) + bG + 6) ≤ (A.length - g + 1) * (wL c L (A.length - g) + bG + 6) := Nat.mul_le_mul_right _ (by omega)
    omega
  have bA : ∀ v ∈ A, Int.natAbs v < 2 ^ 5000 := fun v hv => Nat.lt_of_lt_of_le (aZ_mem S.bA v hv) (pow_le_pow2 w6)
  refine seq_cut (fun σ H2 => ∃ l2 A2 u2, σ = [some (.ref l2), some (.ref lb)] ∧ Same H H2 ∧ H2 l2 = some (.lst (A2.map V.int)) ∧ IsTz A2 A2.length ∧ A2 ≠ [] ∧ A2.length ≤ A.length ∧ (∀ v ∈ A2, Int.natAbs v < 2 ^ 6000) ∧ 0 < u2 ∧ zp A2 = pCst u2 * zp G) (fun N hN => ?_) ?_
  · have lastv : (A.map V.int)[(A.map V.int).length - 1]? = some (.int (aZ A (A.length - 1))) := by
      rw [List.length_map, List.getElem?_map, List.getElem?_eq_getElem (by omega)]
      unfold aZ
      rw [List.getElem?_eq_getElem (by omega)]; rfl
    have lA : A.length - 1 = g := by
      have hA : ∀ k, zc A k = u * zc G k := fun k => (congrArg (fun z => Pf.f z k) eu).trans (pf_c u (zp G) k)
      rcases Nat.lt_trichotomy (A.length - 1) g with z | z | z
      · omega
      · exact z
      · exact absurd (by rw [hA, zc_dg G _ (by omega)]; grind) (zc_ne (tz_lead S.tA apos))
    have ul : ((aZ A g : Int) : Rat) = u * ((aZ G g : Int) : Rat) := (congrArg (fun z => Pf.f z g) eu).trans (pf_c u (zp G) g)
    have lG0 : (0 : Rat) < ((aZ G g : Int) : Rat) := Rat.intCast_pos.mpr lead
    simp! [TruV]
    refine ⟨_, .inl ⟨_, SqL.of eA, rfl⟩, ite2 (fun _ => ?_) (fun z => ?_)⟩
    · refine ⟨_, SqL.of eA, _, lastAt lastv, _, rfl, ite2 (fun hneg => ?_) (fun hpos => ?_)⟩
      · rw [lA] at hneg
        refine ⟨-1, la, A, 5000, 1, rfl, SqL.of eA, by omega, by decide, bA, by decide, fun r zs H2 s2 f2 e2 tz2 l2 h2 => ?_⟩
        have ez : zp zs = pCst (-u) * zp G := Pf.ext fun k => by
          rw [pf_c]
          show zc zs k = -u * zc G k
          have hA : zc A k = u * zc G k := (congrArg (fun z => Pf.f z k) eu).trans (pf_c u (zp G) k)
          unfold zc at hA ⊢
          rw [h2, Rat.intCast_mul, hA, show ((-1 : Int) : Rat) = -1 from rfl]; grind
        have un : 0 < -u := by
          refine Classical.byContradiction fun z => ?_
          have u1 : 0 ≤ u := by grind
          have := Rat.mul_nonneg u1 (Rat.le_of_lt lG0)
          rw [← ul] at this
          have := Rat.intCast_nonneg.mp this
          omega
        refine hN _ _ ⟨r, zs, -u, rfl, s1.trans s2, e2, tz2, fun z => ?_, l2, fun v hv => ?_, un, ez⟩
        · have h3 := h2 g
          rw [z] at h3
          have : aZ ([] : List Int) g = 0 := rfl
          omega
        · obtain ⟨k, hk, ek⟩ := List.getElem_of_mem hv
          have h3 : aZ zs k = v := by unfold aZ; rw [List.getElem?_eq_getElem hk, ek]; rfl
          rw [← h3, h2, Int.neg_mul, Int.one_mul, Int.natAbs_neg]
          exact Nat.lt_of_lt_of_le (aZ_lt bA k) (pow_le_pow2 (by decide))
      · rw [lA] at hpos
        have up : 0 < u := by
          refine Classical.byContradiction fun z => ?_
          have u1 : 0 < -u := by grind
          have := Rat.mul_pos u1 lG0
          have h5 : ((aZ A g : Int) : Rat) < 0 := by rw [ul]; grind
          have := Rat.intCast_lt_intCast.mp (show ((aZ A g : Int) : Rat) < ((0 : Int) : Rat) from h5)
          omega
        exact hN _ _ ⟨la, A, u, rfl, s1, eA, S.tA, An, Nat.le_refl _, fun v hv => Nat.lt_of_lt_of_le (bA v hv) (pow_le_pow2 (by decide)), up, eu⟩
    · exfalso
      cases A with
      | nil => exact An rfl
      | cons => exact z rfl
  rintro σ H2 ⟨l2, A2, u2, rfl, s2, e2, t2, n2, ln2, b2, u20, eu2⟩
  subst_eqs
  refine ⟨l2, A2, rfl, e2, b2, by omega, t2, fun r zs h H3 s3 f3 e3 l3 h1 z3 p3 => ?_⟩
  have h0 : (h : Rat) ≠ 0 := icast_ne' (by omega)
  have ez : zp zs = pCst ((h : Rat)⁻¹ * u2) * zp G := by
    have hA : zp A2 = pCst (h : Rat) * zp zs := Pf.ext fun k => by
      rw [pf_c]
      show zc A2 k = _ * zc zs k
      unfold zc
      rw [z3, Rat.intCast_mul]
    have ih := pCst_inv h0
    have : zp zs = pCst (h : Rat)⁻¹ * zp A2 := by rw [hA]; grind
    rw [this, eu2, pCst_m]; grind
  have tz := tz_over t2 l3 z3
  have eG := prim_one tz C.tG (p3 n2) C.gG (Rat.mul_pos (Rat.inv_pos.mpr (Rat.intCast_pos.mpr (by omega))) u20) ez
  rw [eG] at e3
  exact k r H3 (s2.trans s3) (s2.free f3) e3
end
theorem ovp_int {B W : Nat} (hB : 0 < B) {a : Pf} (h : OvP B W a) : ∃ z : Nat → Int, (∀ k, a.f k = ((B : Int) : Rat)⁻¹ * (z k : Rat)) ∧ ∀ k, (z k).natAbs < 2 ^ W := by
  have ex : ∀ k, ∃ z : Int, a.f k = ((B : Int) : Rat)⁻¹ * (z : Rat) ∧ z.natAbs < 2 ^ W := fun k => by
    obtain ⟨v, e, b⟩ := h k
    refine ⟨v, ?_, b⟩
    rw [e, Rat.divInt_eq_div, Rat.div_def]; grind
  exact ⟨fun k => Classical.choose (ex k), fun k => (Classical.choose_spec (ex k)).1, fun k => (Classical.choose_spec (ex k)).2⟩
theorem bz_ne {B : Nat} (hB : 0 < B) : ((B : Int) : Rat) ≠ 0 := icast_ne' (by omega)
def ltz (z : Nat → Int) (n : Nat) : List Int := (List.range n).map z
theorem ltz_len (z : Nat → Int) (n : Nat) : (ltz z n).length = n := by unfold ltz; rw [List.length_map, List.length_range]
theorem ltz_get {z : Nat → Int} {n : Nat} (h : ∀ k, n ≤ k → z k = 0) (k : Nat) : aZ (ltz z n) k = z k := by
  unfold aZ ltz
  rcases Nat.lt_or_ge k n with y | y
  · rw [List.getElem?_map, List.getElem?_range y]; rfl
  · rw [List.getElem?_eq_none (by rw [List.length_map, List.length_range]; exact y), h k y]; rfl
theorem ltz_tz {z : Nat → Int} {n : Nat} (h : ∀ k, n + 1 ≤ k → z k = 0) (h0 : z n ≠ 0) : IsTz (ltz z (n + 1)) (ltz z (n + 1)).length := by
  refine ⟨Nat.le_refl _, fun i v hi e => ?_, fun hn v e => ?_⟩
  · have := (List.getElem?_eq_some_iff.mp e).1; omega
  · rw [ltz_len, Nat.add_sub_cancel] at e
    have h2 := ltz_get h n
    unfold aZ at h2
    rw [e] at h2
    have h3 : v = z n := h2
    rw [h3]; exact h0
theorem lst_ex {a : Pf} {y : Nat → Int} (e : ∀ k, a.f k = (y k : Rat)) : ∀ n, Dg a.f n → ∃ ws, IsTz ws ws.length ∧ zp ws = a ∧ ws.length ≤ n ∧ ∀ k, aZ ws k = y k
  | 0, h => ⟨[], tz_nil, Pf.ext fun k => by rw [zp_nil, pf_zero, h k (Nat.zero_le _)], Nat.le_refl _, fun k => by
      have := e k
      rw [h k (Nat.zero_le _)] at this
      exact (Rat.intCast_inj.mp (by rw [← this]; rfl))⟩
  | n + 1, h => by
    have y0 : ∀ k, n + 1 ≤ k → y k = 0 := fun k hk => Rat.intCast_inj.mp (by rw [← e k, h k hk, Rat.intCast_zero])
    by_cases z : y n = 0
    · obtain ⟨ws, t, ez, l, g⟩ := lst_ex e n (fun k hk => by
        rcases Nat.eq_or_lt_of_le hk with x | x
        · rw [← x, e, z, Rat.intCast_zero]
        · exact h k x)
      exact ⟨ws, t, ez, by omega, g⟩
    · refine ⟨ltz y (n + 1), ltz_tz y0 z, Pf.ext fun k => ?_, by rw [ltz_len]; exact Nat.le_refl _, ltz_get y0⟩
      show zc _ k = _
      unfold zc
      rw [ltz_get y0, e]
theorem prim_ex {a : Pf} {B W n : Nat} (hB : 0 < B) (h : OvP B W a) (dg : Dg a.f (n + 1)) (ld : 0 < a.f n) : ∃ (G : List Int) (u : Rat), IsTz G G.length ∧ G.length = n + 1 ∧ gcdL G = 1 ∧ 0 < aZ G n ∧ (∀ k, (aZ G k).natAbs < 2 ^ W) ∧ 0 < u ∧ zp G = pCst u * a := by
  obtain ⟨z, ez, bz⟩ := ovp_int hB h
  have Bn := bz_ne hB
  have Bi := Rat.mul_inv_cancel _ Bn
  have ez' : ∀ k, (z k : Rat) = ((B : Int) : Rat) * a.f k := fun k => by
    have := ez k
    generalize (((B : Int) : Rat))⁻¹ = x at *
    generalize ((B : Int) : Rat) = b at *
    grind
  have z0 : ∀ k, n + 1 ≤ k → z k = 0 := fun k hk => Rat.intCast_inj.mp (by rw [ez' k, dg k hk, Rat.intCast_zero]; grind)
  have Bp : (0 : Rat) < ((B : Int) : Rat) := Rat.intCast_pos.mpr (by omega)
  have zn : 0 < z n := Rat.intCast_pos.mp (by rw [ez']; exact Rat.mul_pos Bp ld)
  obtain ⟨w0, hw0⟩ : ∃ w0, w0 = ltz z (n + 1) := ⟨_, rfl⟩
  have t0 : IsTz w0 w0.length := by rw [hw0]; exact ltz_tz z0 (by omega)
  have l0 : w0.length = n + 1 := by rw [hw0, ltz_len]
  have g0 : ∀ k, aZ w0 k = z k := by rw [hw0]; exact ltz_get z0
  have gp : gcdL w0 ≠ 0 := fun y => by
    have hm : w0[n]'(by omega) ∈ w0 := List.getElem_mem _
    have hd := gcdL_dvd hm
    rw [y] at hd
    have h1 : w0[n]'(by omega) = 0 := Int.zero_dvd.mp hd
    have h2 := g0 n
    unfold aZ at h2
    rw [List.getElem?_eq_getElem (by omega), h1] at h2
    have h3 : (0 : Int) = z n := h2
    omega
  have zR : ∀ k, aZ w0 k = ((gcdL w0 : Nat) : Int) * aZ (w0.map fun v => v.fdiv ((gcdL w0 : Nat) : Int)) k := fdiv_all gp fun v hv => gcdL_dvd hv
  have pr : gcdL (w0.map fun v => v.fdiv ((gcdL w0 : Nat) : Int)) = 1 := gcdL_over rfl gp (List.length_map _) zR
  have lw : (w0.map fun v => v.fdiv ((gcdL w0 : Nat) : Int)).length = w0.length := List.length_map _
  have tw := tz_over t0 lw zR
  generalize (w0.map fun v => v.fdiv ((gcdL w0 : Nat) : Int)) = G at *
  obtain ⟨g, hg⟩ : ∃ g : Nat, g = gcdL w0 := ⟨_, rfl⟩
  rw [← hg] at gp zR
  have gq : (0 : Rat) < ((g : Int) : Rat) := Rat.intCast_pos.mpr (by omega)
  have gn : ((g : Int) : Rat) ≠ 0 := icast_ne' (by omega)
  have gi := Rat.mul_inv_cancel _ gn
  refine ⟨G, ((B : Int) : Rat) * ((g : Int) : Rat)⁻¹, tw, by omega, pr, ?_, fun k => ?_, Rat.mul_pos Bp (Rat.inv_pos.mpr gq), Pf.ext fun k => ?_⟩
  · have h1 := zR n
    rw [g0] at h1
    refine Classical.byContradiction fun y => ?_
    have : (g : Int) * aZ G n ≤ 0 := Int.mul_nonpos_of_nonneg_of_nonpos (by omega) (by omega)
    omega
  · have h1 := zR k
    rw [g0] at h1
    have h2 := bz k
    rw [h1, Int.natAbs_mul, Int.natAbs_natCast] at h2
    have : 1 * (aZ G k).natAbs ≤ g * (aZ G k).natAbs := Nat.mul_le_mul_right _ (by omega)
    omega
  · rw [pf_c]
    show zc G k = _
    unfold zc
    have h1 := zR k
    rw [g0] at h1
    have h2 : (z k : Rat) = ((g : Int) : Rat) * ((aZ G k : Int) : Rat) := by rw [h1, Rat.intCast_mul]
    have h3 := ez' k
    generalize (((g : Int) : Rat))⁻¹ = x at *
    generalize ((g : Int) : Rat) = g' at *
    generalize ((B : Int) : Rat) = b at *
    grind
theorem lam_le {R : List Int} {l : Rat} {a : Pf} {B W : Nat} (hB : 0 < B) (h : OvP B W a) (e : zp R = pCst l * a) (l0 : l ≠ 0) (gR : gcdL R = 1) : ∃ g : Int, g ≠ 0 ∧ ((B : Int) : Rat) = l * (g : Rat) := by
  obtain ⟨z, ez, _⟩ := ovp_int hB h
  have Bn := bz_ne hB
  have Bi := Rat.mul_inv_cancel _ Bn
  have li := Rat.mul_inv_cancel _ l0
  obtain ⟨g, hg⟩ := prim_int gR (s := z) (b := ((B : Int) : Rat) * l⁻¹) fun k => by
    have h1 : zc R k = l * a.f k := (congrArg (fun y => Pf.f y k) e).trans (pf_c l a k)
    rw [h1, ez k]
    generalize (((B : Int) : Rat))⁻¹ = x at *
    generalize ((B : Int) : Rat) = b at *
    generalize l⁻¹ = y at *
    grind
  refine ⟨g, fun z => ?_, ?_⟩
  · rw [z, Rat.intCast_zero] at hg
    rcases Rat.mul_eq_zero.mp hg with y | y
    · exact Bn y
    · rw [y] at li; grind
  · rw [← hg]
    generalize ((B : Int) : Rat) = b at *
    generalize l⁻¹ = y at *
    grind
theorem lam_bits {l : Rat} {s : Pf} {B W : Nat} {g : Int} (hB : 0 < B) (h : OvP B W s) (g0 : g ≠ 0) (e : ((B : Int) : Rat) = l * (g : Rat)) {y : Nat → Int} (ey : ∀ k, (y k : Rat) = l * s.f k) (k : Nat) : (y k).natAbs < 2 ^ W := by
  obtain ⟨z, ez, bz⟩ := ovp_int hB h
  have Bn := bz_ne hB
  have Bi := Rat.mul_inv_cancel _ Bn
  have : (z k : Rat) = (g : Rat) * (y k : Rat) := by
    rw [ey k, ez k]
    generalize (((B : Int) : Rat))⁻¹ = x at *
    generalize ((B : Int) : Rat) = b at *
    grind
  exact Nat.lt_of_le_of_lt (int_le (icast_ne' g0) this) (bz k)
theorem prim_fac {R P G : List Int} (e : zp R = zp P * zp G) (gR : gcdL R = 1) : gcdL P = 1 := by
  have hd : gcdL P ∣ gcdL R := dvd_gcdL _ 0 (Nat.dvd_zero _) fun v hv => by
    obtain ⟨k, hk, ek⟩ := List.getElem_of_mem hv
    have h2 : aZ R k = v := by unfold aZ; rw [List.getElem?_eq_getElem hk, ek]; rfl
    have h3 : ((aZ R k : Int) : Rat) = ((sZ (fun i => aZ P i * aZ G (k - i)) (k + 1) : Int) : Rat) := by
      rw [← cast_cv]
      exact congrArg (fun y => Pf.f y k) e
    rw [← h2, Rat.intCast_inj.mp h3]
    refine dvd_sZ fun i _ => Int.dvd_trans ?_ (Int.dvd_mul_right _ _)
    unfold aZ
    cases hp : P[i]? with
    | none => exact Int.dvd_zero _
    | some v => exact gcdL_dvd (List.mem_of_getElem? hp)
  rw [gR] at hd
  exact Nat.dvd_one.mp hd
structure Spl (R Z : List Int) (e a s : Pf) (ne na We Wa Ws : Nat) (G P Q : List Int) (m : Rat) : Prop where
  tG : IsTz G G.length
  lG : G.length = ne + 1
  gG : gcdL G = 1
  ld : 0 < aZ G ne
  bG : ∀ k, (aZ G k).natAbs < 2 ^ We
  eG : ∃ u : Rat, 0 < u ∧ zp G = pCst u * e
  eR : zp R = zp P * zp G
  eZ : zp Z = zp Q * zp G
  eP : zp P = pCst m * a
  eQ : zp Q = pCst m * s
  gP : gcdL P = 1
  m0 : m ≠ 0
  tP : IsTz P P.length
  tQ : IsTz Q Q.length
  lP : P.length = na + 1
  lQ : Q.length ≤ na
  bP : ∀ k, (aZ P k).natAbs < 2 ^ Wa
  bQ : ∀ k, (aZ Q k).natAbs < 2 ^ Ws
theorem split {R Z : List Int} {l : Rat} {e a s : Pf} {ne na Be Ba We Wa Ws : Nat} (eR : zp R = pCst l * (e * a)) (gR : gcdL R = 1) (eZ : zp Z = pCst l * (e * s)) (l0 : l ≠ 0) (hBe : 0 < Be) (hBa : 0 < Ba) (oe : OvP Be We e) (de : Dg e.f (ne + 1)) (le : e.f ne = 1) (oa : OvP Ba Wa a) (da : Dg a.f (na + 1)) (la : a.f na = 1) (os : OvP Ba Ws s) (ds : Dg s.f na) : ∃ G P Q m, Spl R Z e a s ne na We Wa Ws G P Q m := by
  obtain ⟨G, u, tG, lG, gG, ld, bG, u0, eG⟩ := prim_ex hBe oe de (by rw [le]; decide)
  have un : u ≠ 0 := fun z => by rw [z] at u0; exact absurd u0 (by decide)
  have ui := pCst_inv un
  have un' : u⁻¹ ≠ 0 := fun z => by have := Rat.mul_inv_cancel _ un; rw [z] at this; grind
  have m0 : l * u⁻¹ ≠ 0 := fun z => by rcases Rat.mul_eq_zero.mp z with y | y; exact l0 y; exact un' y
  have hR : pCst (l * u⁻¹) * a * zp G = zp R := by rw [eG, eR, pCst_m]; grind
  have hZ : pCst (l * u⁻¹) * s * zp G = zp Z := by rw [eG, eZ, pCst_m]; grind
  have dgc : ∀ {x : Pf} {n : Nat}, Dg x.f n → Dg (pCst (l * u⁻¹) * x).f n := fun {x n} h k hk => by rw [pf_c, h k hk]; grind
  obtain ⟨y, ey⟩ := gauss gG (dgc da) (z := fun k => aZ R k) fun k => by rw [hR]; rfl
  obtain ⟨y', ey'⟩ := gauss gG (dgc ds) (z := fun k => aZ Z k) fun k => by rw [hZ]; rfl
  obtain ⟨P, tP, zP, lP, gP⟩ := lst_ex ey _ (dgc da)
  obtain ⟨Q, tQ, zQ, lQ, gQ⟩ := lst_ex ey' _ (dgc ds)
  have eR' : zp R = zp P * zp G := by rw [zP, hR]
  have gPP := prim_fac eR' gR
  obtain ⟨g, g0, eg⟩ := lam_le hBa oa zP m0 gPP
  have lP' : P.length = na + 1 := by
    rcases Nat.lt_or_ge na P.length with x | x
    · omega
    · exfalso
      have h1 : zc P na = 0 := zc_dg P na x
      have h2 : zc P na = l * u⁻¹ * a.f na := (congrArg (fun y => Pf.f y na) zP).trans (pf_c _ a na)
      rw [h1, la] at h2
      exact m0 (by grind)
  refine ⟨G, P, Q, l * u⁻¹, tG, lG, gG, ld, bG, ⟨u, u0, eG⟩, eR', by rw [zQ, hZ], zP, zQ, gPP, m0, tP, tQ, lP', lQ, fun k => ?_, fun k => ?_⟩
  · rw [gP k]
    exact lam_bits hBa oa g0 eg (fun k => by rw [← ey k, pf_c]) k
  · rw [gQ k]
    exact lam_bits hBa os g0 eg (fun k => by rw [← ey' k, pf_c]) k
theorem Spl.cc {R Z : List Int} {e a s : Pf} {ne na We Wa Ws W c L : Nat} {G P Q : List Int} {m : Rat} (S : Spl R Z e a s ne na We Wa Ws G P Q m) (h1 : Wa ≤ W) (h2 : Ws ≤ W) (hL : na + 1 ≤ L) (l16 : L ≤ 16) (hc : 4 * L * 2 ^ W ≤ 2 ^ c) : CC G P Q (2 ^ W) c L ne We := by
  refine ⟨S.lG, S.tG, S.gG, S.bG, S.tP, S.tQ, by rw [S.lP]; exact hL, by rw [S.lP]; have := S.lQ; omega, fun k => Nat.le_of_lt (Nat.lt_of_lt_of_le (S.bP k) (pow_le_pow2 h1)), fun k => Nat.le_of_lt (Nat.lt_of_lt_of_le (S.bQ k) (pow_le_pow2 h2)), Nat.one_le_two_pow, hc, l16⟩
def pX : Pf := qp [0, 1]
theorem aq3 (l : List Rat) (k : Nat) (h : l.length ≤ k) : (qp l).f k = 0 := qp_dg l k h
theorem lin_x (c : Rat) : qp [c, 1] = pX + pCst c := Pf.ext fun k => by
  rw [pf_add]
  match k with
  | 0 => show c = 0 + c; grind
  | 1 => show (1 : Rat) = 1 + 0; grind
  | k + 2 =>
    rw [aq3 _ _ (by simp)]
    show (0 : Rat) = (qp [0, 1]).f (k + 2) + (if k + 2 = 0 then c else 0)
    rw [aq3 _ _ (by simp), if_neg (by omega)]; grind
theorem xx_eq : pX * pX = qp [0, 0, 1] := Pf.ext fun k => by
  unfold pX
  rw [lin_f]
  unfold at'
  match k with
  | 0 => show (0 : Rat) * 0 + (if 1 ≤ 0 then _ else 0) = 0; rw [if_neg (by omega)]; grind
  | 1 => rw [if_pos (by omega)]; show (0 : Rat) * 1 + 0 = 0; grind
  | 2 => rw [if_pos (by omega)]; show (0 : Rat) * 0 + 1 = 1; grind
  | k + 3 => rw [if_pos (by omega), aq3 _ _ (by simp), aq3 _ _ (by simp), aq3 _ _ (by simp)]; grind
theorem quad_x (c b : Rat) : qp [c, b, 1] = pX * pX + pCst b * pX + pCst c := Pf.ext fun k => by
  rw [pf_add, pf_add, xx_eq, pf_c]
  unfold pX
  match k with
  | 0 => show c = 0 + b * 0 + c; grind
  | 1 => show b = 0 + b * 1 + 0; grind
  | 2 => show (1 : Rat) = 1 + b * 0 + 0; grind
  | k + 3 =>
    rw [aq3 _ _ (by simp), aq3 _ _ (by simp), aq3 _ _ (by simp)]
    show (0 : Rat) = 0 + b * 0 + (if k + 3 = 0 then c else 0)
    rw [if_neg (by omega)]; grind
theorem dX : dP pX = 1 := Pf.ext fun k => by
  show ((k + 1 : Nat) : Rat) * (qp [0, 1]).f (k + 1) = (1 : Pf).f k
  rw [pf_one]
  match k with
  | 0 => rw [if_pos rfl]; show ((1 : Nat) : Rat) * 1 = 1; rw [show ((1 : Nat) : Rat) = 1 from rfl]; grind
  | k + 1 => rw [if_neg (by omega), aq3 _ _ (by simp)]; grind
theorem fn_X : Fn pX := fn_qp _
theorem pCst_add (a b : Rat) : pCst (a + b) = pCst a + pCst b := Pf.ext fun k => by
  show (if k = 0 then a + b else 0) = (if k = 0 then a else 0) + (if k = 0 then b else 0)
  split
  · rfl
  · grind
theorem pCst_sub (a b : Rat) : pCst (a - b) = pCst a - pCst b := Pf.ext fun k => by
  show (if k = 0 then a - b else 0) = (if k = 0 then a else 0) - (if k = 0 then b else 0)
  split
  · rfl
  · grind
theorem cop_cst {p q : Pf} {c : Rat} (hc : c ≠ 0) (h : ∃ u v, Fn u ∧ Fn v ∧ u * p + v * q = pCst c) : Cop p q := by
  obtain ⟨u, v, hu, hv, e⟩ := h
  have i := pCst_inv hc
  exact ⟨pCst c⁻¹ * u, pCst c⁻¹ * v, (fn_cst _).mul hu, (fn_cst _).mul hv, by
    have : pCst c⁻¹ * u * p + pCst c⁻¹ * v * q = pCst c⁻¹ * (u * p + v * q) := by grind
    rw [this, e]; grind⟩
inductive Fct : List Rat → Prop where
  | lin (r : Rat) : Fct [-r, 1]
  | quad (u v : Rat) (hv : 0 < v) : Fct [u * u + v, -2 * u, 1]
theorem fct_d {q : List Rat} (h : Fct q) : Cop (qp q) (dP (qp q)) := by
  cases h with
  | lin r =>
    rw [lin_x, dP_add, dX, dP_cst]
    exact ⟨0, 1, fn_zero, fn_one, by grind⟩
  | quad u v hv =>
    have vn : v ≠ 0 := fun z => by rw [z] at hv; exact absurd hv (by decide)
    rw [quad_x, dP_add, dP_add, dP_c, dP_cst, dP_mul, dX]
    refine cop_cst (c := v) vn ⟨1, pCst (-1/2) * (pX - pCst u), fn_one, (fn_cst _).mul (fn_X.sub (fn_cst _)), ?_⟩
    have e1 : pCst (u * u + v) = pCst u * pCst u + pCst v := by rw [pCst_add, pCst_m]
    have e2 : pCst (-2 * u) = pCst (-2) * pCst u := pCst_m _ _
    have e3 : pCst (-1/2) * pCst (-2) = 1 := by rw [← pCst_m, ← pCst_one]; congr 1; decide +kernel
    have e4 : pCst (-2) = -2 := by
      refine Pf.ext fun k => ?_
      show (if k = 0 then (-2 : Rat) else 0) = -(if k = 0 then ((2 : Nat) : Rat) else 0)
      split
      · rfl
      · rfl
    rw [e1, e2, e4]
    rw [e4] at e3
    generalize pCst (-1/2) = t at *
    generalize pCst u = U at *
    generalize pCst v = W at *
    grind
theorem cop_at {r : Rat} {c b : Rat} (h : r * r + b * r + c ≠ 0) : Cop (qp [-r, 1]) (qp [c, b, 1]) := by
  rw [lin_x, quad_x]
  refine cop_cst h ⟨- (pX + pCst (r + b)), 1, ?_, fn_one, ?_⟩
  · have : -(pX + pCst (r + b)) = 0 - (pX + pCst (r + b)) := by grind
    rw [this]; exact fn_zero.sub (fn_X.add (fn_cst _))
  · rw [pCst_neg, pCst_add, pCst_add, pCst_add, pCst_m, pCst_m]
    grind
theorem sq_pos {u v r : Rat} (hv : 0 < v) : r * r + -2 * u * r + (u * u + v) ≠ 0 := fun z => by
  have h1 := rsq (r - u)
  have : (r - u) * (r - u) + v = 0 := by grind
  grind
theorem fct_cop {p q : List Rat} (hp : Fct p) (hq : Fct q) (ne : p ≠ q) : Cop (qp p) (qp q) := by
  cases hp with
  | lin r =>
    cases hq with
    | lin s =>
      have rs : r - s ≠ 0 := fun z => ne (by rw [show r = s by grind])
      rw [lin_x, lin_x]
      refine cop_cst rs ⟨-1, 1, ?_, fn_one, ?_⟩
      · have : (-1 : Pf) = 0 - 1 := by grind
        rw [this]; exact fn_zero.sub fn_one
      · rw [pCst_neg, pCst_neg, pCst_sub]; grind
    | quad u v hv => exact cop_at (sq_pos hv)
  | quad u v hv =>
    cases hq with
    | lin s => exact (cop_at (sq_pos hv)).symm
    | quad u' v' hv' =>
      by_cases h : u = u'
      · subst h
        have vs : v' - v ≠ 0 := fun z => ne (by rw [show v = v' by grind])
        rw [quad_x, quad_x]
        refine cop_cst vs ⟨-1, 1, ?_, fn_one, ?_⟩
        · have : (-1 : Pf) = 0 - 1 := by grind
          rw [this]; exact fn_zero.sub fn_one
        · rw [pCst_add, pCst_add, pCst_sub]; grind
      · obtain ⟨α, hα⟩ : ∃ α, α = -2 * u' - -2 * u := ⟨_, rfl⟩
        have α0 : α ≠ 0 := fun z => h (by grind)
        obtain ⟨r, hr⟩ : ∃ r, r = (u * u + v - (u' * u' + v')) * α⁻¹ := ⟨_, rfl⟩
        have ai := Rat.mul_inv_cancel _ α0
        have e : α * r = u * u + v - (u' * u' + v') := by
          rw [hr]
          generalize α⁻¹ = y at *
          grind
        have k1 := (cop_at (r := r) (sq_pos (u := u) (r := r) hv)).symm.scale (c := α) α0
        have k2 := Cop.addl (c := 1) fn_one k1
        have e2 : pCst α * qp [-r, 1] + qp [u * u + v, -2 * u, 1] * 1 = qp [u' * u' + v', -2 * u', 1] := by
          rw [lin_x, quad_x, quad_x]
          have h1 : pCst α * pCst r = pCst (u * u + v) - pCst (u' * u' + v') := by rw [← pCst_m, e, pCst_sub]
          have h2 : pCst α = pCst (-2 * u') - pCst (-2 * u) := by rw [hα, pCst_sub]
          rw [pCst_neg]
          generalize pCst (-2 * u') = b' at *
          generalize pCst (-2 * u) = b at *
          generalize pCst (u * u + v) = cc at *
          generalize pCst (u' * u' + v') = c' at *
          generalize pCst α = A at *
          generalize pCst r = R at *
          grind
        rw [e2] at k2
        exact k2
def pfs (fs : List (List Rat × Nat)) : List (Pf × Nat) := fs.map fun x => (qp x.1, x.2)
structure FOk1 (x : List Rat × Nat) : Prop where
  fc : Fct x.1
  m1 : 1 ≤ x.2
  m4 : x.2 ≤ 4
  ov : ∃ e, e + x.1.length ≤ 12 * (x.1.length - 1) ∧ ∀ q ∈ x.1, OvB (60 ^ (x.1.length - 1)) e q
theorem fct_len {q : List Rat} (h : Fct q) : (q.length = 2 ∨ q.length = 3) ∧ (qp q).f (q.length - 1) = 1 := by
  cases h with
  | lin r => exact ⟨.inl rfl, rfl⟩
  | quad u v hv => exact ⟨.inr rfl, rfl⟩
def nA : List (List Rat × Nat) → Nat → Nat
  | [], _ => 0
  | x :: r, j => (if j ≤ x.2 then x.1.length - 1 else 0) + nA r j
def nE : List (List Rat × Nat) → Nat → Nat
  | [], _ => 0
  | x :: r, j => (if x.2 = j then x.1.length - 1 else 0) + nE r j
def nG : List (List Rat × Nat) → Nat
  | [] => 0
  | x :: r => (x.2 - 1) * (x.1.length - 1) + nG r
def nF : List (List Rat × Nat) → Nat
  | [] => 0
  | x :: r => x.2 * (x.1.length - 1) + nF r
structure Mon (p : Pf) (n : Nat) : Prop where
  dg : Dg p.f (n + 1)
  ld : p.f n = 1
  ov : OvP (60 ^ n) (12 * n + 1) p
theorem mon_one : Mon 1 0 := by
  refine ⟨fun k hk => by rw [pf_one, if_neg (by omega)], by rw [pf_one, if_pos rfl], fun k => ?_⟩
  rw [pf_one]
  split
  · exact ⟨1, by decide +kernel, by decide⟩
  · exact OvB.zero _ _
theorem Mon.fac {p : Pf} {n : Nat} (h : Mon p n) {x : List Rat × Nat} (F : FOk1 x) : Mon (qp x.1 * p) (x.1.length - 1 + n) := by
  obtain ⟨hl, h1⟩ := fct_len F.fc
  obtain ⟨e, he, ov⟩ := F.ov
  have dq : Dg (qp x.1).f (x.1.length - 1 + 1) := by rw [show x.1.length - 1 + 1 = x.1.length by omega]; exact qp_dg _
  refine ⟨fun k hk => (Dg.cv dq h.dg) k (by omega), ?_, fun k => ?_⟩
  · show cv _ _ _ = 1
    rw [cv_top dq h.dg, h1, h.ld]; decide +kernel
  · have := OvP.mul (Nat.pow_pos (by decide)) (Nat.pow_pos (by decide)) (qp_ovp ov) h.ov (qp_dg x.1) k
    rw [← Nat.pow_add] at this
    exact this.mono (by omega)
theorem mon_a : ∀ {fs : List (List Rat × Nat)}, (∀ x ∈ fs, FOk1 x) → ∀ j, Mon (aP (pfs fs) j) (nA fs j)
  | [], _, _ => mon_one
  | x :: r, h, j => by
    have ih := mon_a (fs := r) (fun y hy => h y (List.mem_cons_of_mem _ hy)) j
    show Mon (if j ≤ x.2 then qp x.1 * aP (pfs r) j else aP (pfs r) j) ((if j ≤ x.2 then x.1.length - 1 else 0) + nA r j)
    split
    · exact ih.fac (h x List.mem_cons_self)
    · rw [Nat.zero_add]; exact ih
theorem mon_e : ∀ {fs : List (List Rat × Nat)}, (∀ x ∈ fs, FOk1 x) → ∀ j, Mon (eP (pfs fs) j) (nE fs j)
  | [], _, _ => mon_one
  | x :: r, h, j => by
    have ih := mon_e (fs := r) (fun y hy => h y (List.mem_cons_of_mem _ hy)) j
    show Mon (if x.2 = j then qp x.1 * eP (pfs r) j else eP (pfs r) j) ((if x.2 = j then x.1.length - 1 else 0) + nE r j)
    split
    · exact ih.fac (h x List.mem_cons_self)
    · rw [Nat.zero_add]; exact ih
theorem mon_w {x : List Rat × Nat} (F : FOk1 x) {p : Pf} {n : Nat} (h : Mon p n) : ∀ m, Mon (wP (qp x.1) m * p) (m * (x.1.length - 1) + n)
  | 0 => by
    have : wP (qp x.1) 0 * p = p := by show (1 : Pf) * p = p; grind
    rw [this, Nat.zero_mul, Nat.zero_add]; exact h
  | m + 1 => by
    have := (mon_w F h m).fac F
    have e : wP (qp x.1) (m + 1) * p = qp x.1 * (wP (qp x.1) m * p) := by show qp x.1 * wP (qp x.1) m * p = _; grind
    rw [e, Nat.add_mul, Nat.one_mul, show m * (x.1.length - 1) + (x.1.length - 1) + n = x.1.length - 1 + (m * (x.1.length - 1) + n) by omega]
    exact this
theorem mon_g : ∀ {fs : List (List Rat × Nat)}, (∀ x ∈ fs, FOk1 x) → Mon (gP1 (pfs fs)) (nG fs)
  | [], _ => mon_one
  | x :: r, h => mon_w (h x List.mem_cons_self) (mon_g (fs := r) fun y hy => h y (List.mem_cons_of_mem _ hy)) (x.2 - 1)
theorem s_ok : ∀ {fs : List (List Rat × Nat)}, (∀ x ∈ fs, FOk1 x) → ∀ j, 1 ≤ j → Dg (sP (pfs fs) j).f (nA fs j) ∧ OvP (60 ^ nA fs j) (12 * nA fs j + 9 + fs.length) (sP (pfs fs) j)
  | [], _, _, _ => ⟨fun k _ => pf_zero k, fun k => by show OvB _ _ ((0 : Pf).f k); rw [pf_zero]; exact OvB.zero _ _⟩
  | x :: r, h, j, j1 => by
    have hr := fun y hy => h y (List.mem_cons_of_mem x hy)
    obtain ⟨i1, i2⟩ := s_ok (fs := r) hr j j1
    have ia := mon_a (fs := r) hr j
    have F := h x List.mem_cons_self
    obtain ⟨hl, h1⟩ := fct_len F.fc
    obtain ⟨e, he, ov⟩ := F.ov
    show Dg (if j ≤ x.2 then pCst ((x.2 + 1 - j : Nat) : Rat) * (dP (qp x.1) * aP (pfs r) j) + qp x.1 * sP (pfs r) j else sP (pfs r) j).f ((if j ≤ x.2 then x.1.length - 1 else 0) + nA r j) ∧ OvP (60 ^ ((if j ≤ x.2 then x.1.length - 1 else 0) + nA r j)) (12 * ((if j ≤ x.2 then x.1.length - 1 else 0) + nA r j) + 9 + (r.length + 1)) (if j ≤ x.2 then pCst ((x.2 + 1 - j : Nat) : Rat) * (dP (qp x.1) * aP (pfs r) j) + qp x.1 * sP (pfs r) j else sP (pfs r) j)
    split
    · rename_i hj
      have d1 : Dg (dP (qp x.1)).f (x.1.length - 1) := fun k hk => by
        show _ * (qp x.1).f (k + 1) = 0
        rw [qp_dg x.1 (k + 1) (by omega)]; grind
      have o1 : OvP (60 ^ (x.1.length - 1)) (e + 4) (dP (qp x.1)) := fun k => by
        show OvB _ _ (((k + 1 : Nat) : Rat) * (qp x.1).f (k + 1))
        rcases Nat.lt_or_ge k 3 with y | y
        · exact cl_mulk (qp_ovp ov (k + 1)) (by omega)
        · rw [qp_dg x.1 (k + 1) (by omega)]
          have : ((k + 1 : Nat) : Rat) * 0 = 0 := by grind
          rw [this]; exact OvB.zero _ _
      have o2 := OvP.mul (Nat.pow_pos (by decide)) (Nat.pow_pos (by decide)) o1 ia.ov d1
      have o3 : OvP (60 ^ (x.1.length - 1) * 60 ^ nA r j) (e + 4 + (12 * nA r j + 1) + (x.1.length - 1) + 4) (pCst ((x.2 + 1 - j : Nat) : Rat) * (dP (qp x.1) * aP (pfs r) j)) := fun k => by
        rw [pf_c]
        have m4 := F.m4
        exact cl_mulk (o2 k) (by omega)
      have o4 := OvP.mul (Nat.pow_pos (by decide)) (Nat.pow_pos (by decide)) (qp_ovp ov) i2 (qp_dg x.1)
      have pp : 0 < 60 ^ (x.1.length - 1) * 60 ^ nA r j := Nat.mul_pos (Nat.pow_pos (by decide)) (Nat.pow_pos (by decide))
      refine ⟨fun k hk => ?_, fun k => ?_⟩
      · rw [pf_add, pf_c]
        have z1 : (dP (qp x.1) * aP (pfs r) j).f k = 0 := Dg.cv d1 ia.dg k (by omega)
        have z2 : (qp x.1 * sP (pfs r) j).f k = 0 := Dg.cv (qp_dg x.1) i1 k (by omega)
        rw [z1, z2]; grind
      · rw [pf_add, Nat.pow_add]
        have a1 := (o3 k).mono (show e + 4 + (12 * nA r j + 1) + (x.1.length - 1) + 4 ≤ 12 * (x.1.length - 1 + nA r j) + 9 + r.length by omega)
        have a2 := (o4 k).mono (show e + (12 * nA r j + 9 + r.length) + x.1.length ≤ 12 * (x.1.length - 1 + nA r j) + 9 + r.length by omega)
        exact (OvB.add pp a1 a2).mono (by omega)
    · rw [Nat.zero_add]
      exact ⟨i1, fun k => (i2 k).mono (by omega)⟩
theorem tf_of : ∀ {fs : List (List Rat × Nat)}, (∀ x ∈ fs, FOk1 x) → (fs.map (·.1)).Nodup → TF (pfs fs)
  | [], _, _ => trivial
  | x :: r, h, nd => by
    rw [List.map_cons, List.nodup_cons] at nd
    refine ⟨fn_qp _, fct_d (h x List.mem_cons_self).fc, fun y hy => ?_, tf_of (fun y hy => h y (List.mem_cons_of_mem _ hy)) nd.2⟩
    obtain ⟨z, hz, rfl⟩ := List.mem_map.mp hy
    exact fct_cop (h x List.mem_cons_self).fc (h z (List.mem_cons_of_mem _ hz)).fc fun e => nd.1 (by rw [e]; exact List.mem_map.mpr ⟨z, hz, rfl⟩)
theorem na_le : ∀ (fs : List (List Rat × Nat)) (j : Nat), nA fs j = nE fs j + nA fs (j + 1)
  | [], _ => rfl
  | x :: r, j => by
    have ih := na_le r j
    unfold nA nE
    rw [ih]
    by_cases h1 : x.2 = j
    · rw [if_pos (by omega), if_pos h1, if_neg (by omega)]; omega
    · rw [if_neg h1]
      by_cases h2 : j ≤ x.2
      · rw [if_pos h2, if_pos (by omega)]; omega
      · rw [if_neg h2, if_neg (by omega)]; omega
theorem nf_eq : ∀ {fs : List (List Rat × Nat)}, (∀ x ∈ fs, 1 ≤ x.2) → nF fs = nG fs + nA fs 1
  | [], _ => rfl
  | x :: r, h => by
    have ih := nf_eq (fs := r) fun y hy => h y (List.mem_cons_of_mem _ hy)
    have h1 := h x List.mem_cons_self
    unfold nF nG nA
    rw [ih, if_pos h1]
    obtain ⟨m, hm⟩ : ∃ m, x.2 = m + 1 := ⟨x.2 - 1, by omega⟩
    rw [hm, Nat.add_sub_cancel, Nat.add_mul, Nat.one_mul]; omega
theorem na_5 : ∀ {fs : List (List Rat × Nat)}, (∀ x ∈ fs, x.2 ≤ 4) → nA fs 5 = 0
  | [], _ => rfl
  | x :: r, h => by
    have h1 := h x List.mem_cons_self
    unfold nA
    rw [if_neg (by omega), na_5 (fs := r) fun y hy => h y (List.mem_cons_of_mem _ hy)]
theorem len_na : ∀ {fs : List (List Rat × Nat)}, (∀ x ∈ fs, FOk1 x) → fs.length ≤ nA fs 1
  | [], _ => Nat.le_refl _
  | x :: r, h => by
    have ih := len_na (fs := r) fun y hy => h y (List.mem_cons_of_mem _ hy)
    have F := h x List.mem_cons_self
    have := (fct_len F.fc).1
    unfold nA
    rw [if_pos F.m1, List.length_cons]; omega
def bnd (B : Mt) (k i j : Nat) : Mt := fun r c => B (if r = k then i else r) (if c = k then j else c)
def mi (B : Mt) (k i j : Nat) : Rat := dt (k + 1) (bnd B k i j)
inductive RwZ (H : Hp) : List Addr → List (List Int) → Prop where
  | nil : RwZ H [] []
  | cons {p : Addr} {ps : List Addr} {L : List Int} {Ls : List (List Int)} (h : H p = some (.lst (L.map V.int))) (t : RwZ H ps Ls) : RwZ H (p :: ps) (L :: Ls)
def zz (M : List (List Int)) (i j : Nat) : Int := aZ ((M[i]?).getD []) j
structure Eb (n : Nat) (A B : Mt) (at' : Nat) (M : List (List Int)) (dv : Int) : Prop where
  len : M.length = n
  row : ∀ L ∈ M, L.length = n
  ent : ∀ i j, at' ≤ i → i < n → at' ≤ j → j < n → ((zz M i j : Int) : Rat) = mi B at' i j
  zer : ∀ i j, at' ≤ i → i < n → j < at' → zz M i j = 0
  int : ∀ r c, IsI (B r c)
  det : dt n B = dt n A
  led : ∀ m, 1 ≤ m → m ≤ at' → dt m B ≠ 0
  div : ((dv : Int) : Rat) = dt at' B
def Sc (W : Nat) (B : Mt) : Prop := ∃ b : Nat → Int, ∀ r, 0 < b r ∧ (b r).natAbs < 2 ^ W ∧ ∀ c, ∃ z : Int, ((b r : Int) : Rat) * B r c = (z : Rat) ∧ z.natAbs < 2 ^ W
def qq (M : List (List Rat)) (i j : Nat) : Rat := aQ ((M[i]?).getD []) j
structure Ld (W n : Nat) (A B : Mt) (sg : Rat) (k : Nat) (M : List (List Rat)) (fd : Rat) : Prop where
  len : M.length = n
  row : ∀ L ∈ M, L.length = n
  ent : ∀ i j, k ≤ i → i < n → k ≤ j → j < n → qq M i j * dt k B = mi B k i j
  zer : ∀ i j, k ≤ i → i < n → j < k → qq M i j = 0
  sc : Sc W B
  sgn : sg = 1 ∨ sg = -1
  det : dt n A = sg * dt n B
  led : ∀ m, 1 ≤ m → m ≤ k → dt m B ≠ 0
  fnd : fd = sg * dt k B
end R
set_option maxRecDepth 100000
namespace L2
open PySem PySem.Spec PyProof.Rows
end L2
namespace R
open PySem L2 PyProof.Rows
def invN (n : Nat) (h : n ≠ 0) : Rat := ⟨1, n, h, by simp [Nat.Coprime]⟩
theorem invN_mul {n : Nat} (h : n ≠ 0) : invN n h * ((n : Int) : Rat) = 1 := by
  have e : invN n h = Rat.divInt 1 (n : Int) := (Rat.num_divInt_den (invN n h)).symm
  have nn : ((n : Int) : Rat) ≠ 0 := icast_ne' (by omega)
  rw [e, Rat.divInt_eq_div, Rat.div_def]
  have := Rat.mul_inv_cancel _ nn
  rw [show ((1 : Int) : Rat) = 1 from rfl]
  generalize (((n : Int) : Rat))⁻¹ = x at *
  grind
def eL (fs : List (List Rat × Nat)) (j : Nat) : List Rat := (List.range (nE fs j + 1)).map fun k => (eP (pfs fs) j).f k
theorem eL_len (fs : List (List Rat × Nat)) (j : Nat) : (eL fs j).length = nE fs j + 1 := by unfold eL; rw [List.length_map, List.length_range]
theorem eL_qp {fs : List (List Rat × Nat)} (h : ∀ x ∈ fs, FOk1 x) (j : Nat) : qp (eL fs j) = eP (pfs fs) j := Pf.ext fun k => by
  show aQ (eL fs j) k = _
  unfold aQ eL
  rcases Nat.lt_or_ge k (nE fs j + 1) with y | y
  · rw [List.getElem?_map, List.getElem?_range y]; rfl
  · rw [List.getElem?_eq_none (by rw [List.length_map, List.length_range]; exact y), (mon_e h j).dg k y]; rfl
theorem eL_tl {fs : List (List Rat × Nat)} (h : ∀ x ∈ fs, FOk1 x) (j : Nat) : IsTl (eL fs j) (eL fs j).length := tl_of_last fun x hx => by
  rw [eL_len, Nat.add_sub_cancel] at hx
  unfold eL at hx
  rw [List.getElem?_map, List.getElem?_range (by omega)] at hx
  cases hx
  show (eP (pfs fs) j).f (nE fs j) ≠ 0
  rw [(mon_e h j).ld]; decide
def dueL (fs : List (List Rat × Nat)) : Nat → List (List Rat × Nat)
  | 0 => []
  | j + 1 => dueL fs j ++ if nE fs (j + 1) = 0 then [] else [(eL fs (j + 1), j + 1)]
inductive Prts (X : Addr → Prop) (H : Hp) : List V → List (List Rat × Nat) → Prop where
  | nil : Prts X H [] []
  | cons {p l : Addr} {xs : List V} {L : List Rat} {m : Nat} {vs : List V} {fs : List (List Rat × Nat)} (h : H p = some (.tup [.ref l, .int (m : Int)])) (e : H l = some (.lst xs)) (n : Nums H xs L) (f : X l) (t : Prts X H vs fs) : Prts X H (.ref p :: vs) ((L, m) :: fs)
theorem Prts.same {X : Addr → Prop} {H H' : Hp} (s : Same H H') : ∀ {vs : List V} {fs : List (List Rat × Nat)}, Prts X H vs fs → Prts X H' vs fs
  | _, _, .nil => .nil
  | _, _, .cons h e n f t => .cons (s _ _ h) (s _ _ e) (n.mono s.tups) f (t.same s)
theorem Prts.length {X : Addr → Prop} {H : Hp} : ∀ {vs : List V} {fs : List (List Rat × Nat)}, Prts X H vs fs → vs.length = fs.length
  | _, _, .nil => rfl
  | _, _, .cons _ _ _ _ t => congrArg (· + 1) t.length
theorem Prts.snoc {X : Addr → Prop} {H : Hp} {p l : Addr} {xs : List V} {L : List Rat} {m : Nat} (h : H p = some (.tup [.ref l, .int (m : Int)])) (e : H l = some (.lst xs)) (n : Nums H xs L) (f : X l) : ∀ {vs : List V} {fs : List (List Rat × Nat)}, Prts X H vs fs → Prts X H (vs ++ [.ref p]) (fs ++ [(L, m)])
  | _, _, .nil => .cons h e n f .nil
  | _, _, .cons h' e' n' f' t => .cons h' e' n' f' (t.snoc h e n f)
theorem Prts.over {X : Addr → Prop} {H : Hp} {D : Addr} {ys : List V} {o : HO} (hD : H D = some (.lst ys)) (nD : ∀ l, X l → l ≠ D) : ∀ {vs : List V} {fs : List (List Rat × Nat)}, Prts X H vs fs → Prts X (upd H D o) vs fs
  | _, _, .nil => .nil
  | _, _, .cons h e n f t => .cons (by rw [upd_ne (fun z => by rw [z, hD] at h; cases h)]; exact h) (by rw [upd_ne (nD _ f)]; exact e) (n.mono (TupS.lst hD)) f (t.over hD nD)
theorem due_len (fs : List (List Rat × Nat)) : ∀ j, (dueL fs j).length ≤ j
  | 0 => Nat.le_refl _
  | j + 1 => by
    have := due_len fs j
    show (dueL fs j ++ _).length ≤ _
    rw [List.length_append]
    split <;> simp <;> omega
theorem due_stop {fs : List (List Rat × Nat)} {j : Nat} (h : nA fs (j + 1) = 0) : ∀ m, dueL fs (j + m) = dueL fs j
  | 0 => rfl
  | m + 1 => by
    have ih := due_stop h m
    have z : ∀ i, nA fs (j + 1 + i) = 0 := fun i => by
      induction i with
      | zero => exact h
      | succ i ih2 => have := na_le fs (j + 1 + i); rw [show j + 1 + (i + 1) = j + 1 + i + 1 by omega]; omega
    have e := na_le fs (j + 1 + m)
    have := z m
    show dueL fs (j + m) ++ _ = _
    have hz : nE fs (j + m + 1) = 0 := by rw [show j + m + 1 = j + 1 + m by omega]; omega
    have hz' : nE fs (j.add m + 1) = 0 := hz
    rw [if_pos hz', List.append_nil]; exact ih
theorem exz_of {R P G : List Int} (e : zp R = zp P * zp G) : ExZ R G := ⟨fun k => aZ P k, P.length, fun k hk => by show aZ P k = 0; unfold aZ; rw [List.getElem?_eq_none hk]; rfl, fun k => congrArg (fun z => Pf.f z k) e⟩
theorem quo_eq {Qz P G : List Int} {n : Nat} (lG : G.length = n + 1) (h0 : aZ G n ≠ 0) (t1 : IsTz Qz Qz.length) (t2 : IsTz P P.length) (e : zp Qz * zp G = zp P * zp G) : Qz = P := by
  have dG : Dg (zp G).f (n + 1) := by rw [← lG]; exact zc_dg G
  have := cancel_r (f := zp Qz) (g := zp P) (m := max Qz.length P.length) (fun k hk => zc_dg Qz k (by omega)) (fun k hk => zc_dg P k (by omega)) dG (zc_ne h0) e
  exact tz_ext t1 t2 fun k => zp_inj this k
theorem Spl.cc2 {R Z : List Int} {e a s : Pf} {ne na We Wa Ws bG : Nat} {G P Q : List Int} {m : Rat} (S : Spl R Z e a s ne na We Wa Ws G P Q m) (h1 : Wa ≤ 88) (h2 : Ws ≤ 88) (h3 : We ≤ bG) (hL : na + 1 ≤ 7) : CC G P Q (2 ^ 88) 93 7 ne bG := by
  have C := S.cc (W := 88) (c := 93) (L := 7) h1 h2 hL (by decide) (by decide)
  exact { C with bG := fun k => Nat.lt_of_lt_of_le (C.bG k) (pow_le_pow2 h3) }
theorem scl_eL {fs : List (List Rat × Nat)} (h : ∀ x ∈ fs, FOk1 x) {i : Nat} {G : List Int} {n : Nat} (lG : G.length = nE fs i + 1) (eG : ∃ u : Rat, 0 < u ∧ zp G = pCst u * eP (pfs fs) i) (hn : aZ G (nE fs i) = (n : Int)) (n0 : n ≠ 0) : scl (invN n n0) G = eL fs i := by
  obtain ⟨u, u0, e⟩ := eG
  have at' : ∀ k, zc G k = u * (eP (pfs fs) i).f k := fun k => (congrArg (fun z => Pf.f z k) e).trans (pf_c u _ k)
  have hu : ((n : Int) : Rat) = u := by
    have := at' (nE fs i)
    rw [(mon_e h i).ld] at this
    unfold zc at this
    rw [hn] at this
    rw [this]; grind
  have one := invN_mul n0
  rw [hu] at one
  refine List.ext_getElem? fun k => ?_
  unfold scl eL
  rw [List.getElem?_map, List.getElem?_map]
  rcases Nat.lt_or_ge k (nE fs i + 1) with y | y
  · rw [List.getElem?_range y, List.getElem?_eq_getElem (by omega)]
    have h1 := at' k
    unfold zc aZ at h1
    rw [List.getElem?_eq_getElem (by omega)] at h1
    show some (invN n n0 * ((G[k]'(by omega) : Int) : Rat)) = some _
    have h2 : ((G[k]'(by omega) : Int) : Rat) = u * (eP (pfs fs) i).f k := h1
    rw [h2]
    congr 1
    generalize invN n n0 = x at *
    grind
  · rw [List.getElem?_eq_none (by omega), List.getElem?_eq_none (by rw [List.length_range]; exact y)]; rfl
structure Tld (fs : List (List Rat × Nat)) : Prop where
  ok : ∀ x ∈ fs, FOk1 x
  nd : (fs.map (·.1)).Nodup
  f14 : nF fs ≤ 14
  a6 : nA fs 1 ≤ 6
theorem Tld.aj {fs : List (List Rat × Nat)} (T : Tld fs) : ∀ j, nA fs (j + 1) ≤ 6
  | 0 => T.a6
  | j + 1 => by have := T.aj j; have := na_le fs (j + 1); omega
theorem wc170 : wcOk 93 7 170 = true := by decide +kernel
section
variable {P : Program} {w : World} {K : PySem.W.Frag} {mg : Str → Option Value} {base : Heap}
def spParted (K : PySem.W.Frag) (C : Addr) : Sp := fun vs H Q E => ∃ (a : Addr) (xs : List V) (ps : List Rat), vs = [.ref a] ∧ SqL K H a xs ∧ NumsC K H xs ps ∧ (ps = [] → E (.ref C) none H) ∧ (ps ≠ [] → ∃ (fs : List (List Rat × Nat)) (κ : Rat), Tld fs ∧ κ ≠ 0 ∧ qp ps = pCst κ * fP (pfs fs) ∧ IsTl ps ps.length ∧ ClN 180 ps ∧ ps.length ≤ 15 ∧ ∀ r ts H', Same H H' → H r = none → H' r = some (.lst ts) → Prts (fun l => H l = none ∧ l ≠ r) H' ts (dueL fs 4) → Q (.ref r) H')
abbrev s_parted : Stmt := top 42
theorem sc_parted : FnScope ["p", "wholes", "incline", "shared", "left", "along", "parts", "often", "part"] ["p"] (defScope s_parted) := by and_intros
set_option maxHeartbeats 0 in
theorem ok_parted {f f1 f2 f3 f4 f5 f6 C : Addr} (d : Df K mg "parted" s_parted ["p"] f) (GD_lifted : Def P w K mg base CX0 3 "lifted" f1 ["p"] (spLiftedG K)) (G_whole_slope : Def P w K mg base CX0 1 "whole_slope" f2 ["wholes"] (spSlopeZ K)) (G_whole_common : Def P w K mg base CX0 4 "whole_common" f3 ["one", "other"] (spWCom K)) (G_whole_over : Def P w K mg base CX0 3 "whole_over" f4 ["one", "other"] (spWOver K)) (G_whole_less : Def P w K mg base CX0 3 "whole_less" f5 ["one", "other"] (spWLess K)) (G_lowered : Def P w K mg base CX0 3 "lowered" f6 ["scale", "wholes"] (spLowered K)) (x_NoPolynomial : ExT K mg "NoPolynomial" C) (n_len : mg "len" = none) : Def P w K mg base (CXR P w) 5 "parted" f ["p"] (spParted K C) := by
  have G_lifted := GD_lifted
  refine d.okR (N := ["p", "wholes", "incline", "shared", "left", "along", "parts", "often", "part"]) sc_parted (by rintro vs H Q E ⟨_, _, _, h, _⟩; rw [h]; rfl) (fun cdv A outer s H vs Q E hr h => ?_)
  obtain ⟨a, xs, ps, rfl, hS, hN, kE, kQ⟩ := h
  refine ⟨_, (pss_cons (ps_if (pt_not (pt_truth (pv 0) (fun _ => rfl))) (pss_one (ps_raise x_NoPolynomial.ox PySem.F.excBase_ValueError rfl rfl x_NoPolynomial.m raises_cx (pa_cons pe_str pa_nil))) pss_nil)
      (pss_cons (ps_set (i := 1) sc_parted.nd rfl (Or.inl rfl) (pe_ix ix_tup (pe_def G_lifted hr (pa_cons (pv 0) pa_nil) pass0) pe_int (fun _ _ => rfl)))
      (pss_cons (ps_set (i := 2) sc_parted.nd rfl (Or.inl rfl) (pe_def G_whole_slope hr (pa_cons (pv 1) pa_nil) pass0))
      (pss_cons (ps_set (i := 3) sc_parted.nd rfl (Or.inl rfl) (pe_def G_whole_common hr (pa_cons (pv 1) (pa_cons (pv 2) pa_nil)) pass0))
      (pss_cons (ps_set (i := 4) sc_parted.nd rfl (Or.inl rfl) (pe_def G_whole_over hr (pa_cons (pv 1) (pa_cons (pv 3) pa_nil)) pass0))
      (pss_cons (ps_set (i := 5) sc_parted.nd rfl (Or.inl rfl) (pe_def G_whole_over hr (pa_cons (pv 2) (pa_cons (pv 3) pa_nil)) pass0))
      (pss_cons (ps_set (i := 6) sc_parted.nd rfl (Or.inl rfl) (pe_lst pa_nil))
      (pss_cons (ps_set (i := 7) sc_parted.nd rfl (Or.inl rfl) pe_int)
      (pss_cons (PS.nox (ps_while PassesOwn.never (pt_cmpR op_gt (pe_callB call_len_seq rfl n_len (by decide +kernel) (pa_cons (pv 4) pa_nil)) pe_int (nomark _)) (pss_cons (ps_aug (i := 7) sc_parted.nd rfl (Or.inl rfl) pe_int ip_add)
      (pss_cons (ps_set (i := 5) sc_parted.nd rfl (Or.inl rfl) (pe_def G_whole_less hr (pa_cons (pv 5) (pa_cons (pe_def G_whole_slope hr (pa_cons (pv 4) pa_nil) pass0) pa_nil)) pass0))
      (pss_cons (ps_set (i := 8) sc_parted.nd rfl (Or.inl rfl) (pe_def G_whole_common hr (pa_cons (pv 4) (pa_cons (pv 5) pa_nil)) pass0))
      (pss_cons (ps_if (pt_cmpR op_gt (pe_callB call_len_seq rfl n_len (by decide +kernel) (pa_cons (pv 8) pa_nil)) pe_int (nomark _)) (pss_one (ps_expr (pe_bm PySem.F.plainAttrs_list PySem.F.slot_list_append PySem.F.type_list_append mt_append (pv 6) (pa_cons (pe_tup (pa_cons (pe_def G_lowered hr (pa_cons (pe_tup (pa_cons pe_int (pa_cons (pe_ix ix_list (pv 8) (pe_un un_neg pe_int) (fun _ _ => rfl)) pa_nil))) (pa_cons (pv 8) pa_nil)) pass0) (pa_cons (pv 7) pa_nil))) pa_nil)))) pss_nil)
      (pss_cons (ps_set (i := 4) sc_parted.nd rfl (Or.inl rfl) (pe_def G_whole_over hr (pa_cons (pv 4) (pa_cons (pv 8) pa_nil)) pass0))
      (pss_one (ps_set (i := 5) sc_parted.nd rfl (Or.inl rfl) (pe_def G_whole_over hr (pa_cons (pv 5) (pa_cons (pv 8) pa_nil)) pass0))))))))))
      (pss_one (ps_ret (pv 6)))))))))))), ?_⟩
  rw [show start ["p", "wholes", "incline", "shared", "left", "along", "parts", "often", "part"] [.ref a] = [some (.ref a), none, none, none, none, none, none, none, none] from rfl]
  have lx := hN.length
  refine seq_cut (fun σ H1 => σ = [some (.ref a), none, none, none, none, none, none, none, none] ∧ H1 = H ∧ ps ≠ []) (fun N hN' => ?_) ?_
  · simp! [TruV]
    refine ⟨_, .inl ⟨_, hS, rfl⟩, ite2 (fun h0 => ⟨small1, kE ?_⟩) (fun h0 => hN' _ _ ⟨rfl, rfl, fun z => h0 ?_⟩)⟩
    · cases xs with
      | nil => exact List.eq_nil_of_length_eq_zero lx.symm
      | cons => cases h0
    · rw [z] at lx
      rw [List.eq_nil_of_length_eq_zero lx]; rfl
  rintro σ H1 ⟨rfl, rfl, pn⟩
  obtain ⟨fs, κ, T, κ0, eq, tl, cl, l15, k⟩ := kQ pn
  refine seq_cut (fun σ H2 => ∃ lw ws s', σ = [some (.ref a), some (.ref lw), none, none, none, none, none, none, none] ∧ Same H1 H2 ∧ H2 lw = some (.lst (ws.map V.int)) ∧ (∀ v ∈ ws, Int.natAbs v < 2 ^ 180) ∧ ws.length = ps.length ∧ s' ≠ 0 ∧ ps = scl s' ws ∧ gcdL ws = 1) (fun N hN' => ?_) ?_
  · subst_eqs
    refine ⟨a, xs, ps, rfl, hS, hN, 180, cl, by decide, by decide, by omega, tl, fun r rs l s' ws H2 s2 fl er ers el bs s0 wb wl e g => ?_⟩
    exact ⟨r, rfl, _, SqT.of er, _, rfl, hN' _ _ ⟨l, ws, s', rfl, s2, el, wb, wl, s0, e, g fun z => pn (List.eq_nil_of_length_eq_zero (by rw [← wl, z]; rfl))⟩⟩
  rintro σ H2 ⟨lw, ws, s', rfl, S2, ew, bw, wl, s0, es, gw⟩
  have lps := List.length_pos_iff.mpr pn
  have wn : ws ≠ [] := fun z => by rw [z] at wl; simp at wl; omega
  have tw : IsTz ws ws.length := by
    refine ⟨Nat.le_refl _, fun i v hi e => ?_, fun hn v e => ?_⟩
    · have := (List.getElem?_eq_some_iff.mp e).1; omega
    · have h1 : ps[ps.length - 1]? = some (s' * (v : Rat)) := by
        rw [es]
        unfold scl
        rw [List.length_map, List.getElem?_map, e]; rfl
      have h2 := tl.last (by omega) _ h1
      exact fun z => h2 (by rw [z, Rat.intCast_zero]; grind)
  obtain ⟨fg1, fg2⟩ := fg_eq (fs := pfs fs) fun x hx => by
    obtain ⟨y, hy, rfl⟩ := List.mem_map.mp hx
    exact (T.ok y hy).m1
  have si := pCst_inv s0
  have sn : s'⁻¹ ≠ 0 := fun z => by have := Rat.mul_inv_cancel _ s0; rw [z] at this; grind
  obtain ⟨l0, hl0⟩ : ∃ l0, l0 = κ * s'⁻¹ := ⟨_, rfl⟩
  have l00 : l0 ≠ 0 := fun z => by rw [hl0] at z; rcases Rat.mul_eq_zero.mp z with y | y; exact κ0 y; exact sn y
  have ezw : zp ws = pCst l0 * (gP1 (pfs fs) * aP (pfs fs) 1) := by
    have h1 : pCst s' * zp ws = pCst κ * fP (pfs fs) := by rw [← eq, es, qp_scl]
    rw [← fg1, hl0, pCst_m]
    generalize pCst s'⁻¹ = y at *
    generalize pCst s' = x at *
    have : zp ws = y * (x * zp ws) := by grind
    rw [this, h1]; grind
  have ezi : dP (zp ws) = pCst l0 * (gP1 (pfs fs) * sP (pfs fs) 1) := by
    rw [ezw, dP_c, ← fg1, fg2]
  have n1 := nf_eq (fs := fs) fun x hx => (T.ok x hx).m1
  have f14 := T.f14
  have a6 := T.a6
  have lenf := len_na T.ok
  refine seq_cut (fun σ H3 => ∃ li iz, σ = [some (.ref a), some (.ref lw), some (.ref li), none, none, none, none, none, none] ∧ Same H1 H3 ∧ H3 lw = some (.lst (ws.map V.int)) ∧ H3 li = some (.lst (iz.map V.int)) ∧ IsTz iz iz.length ∧ iz.length = ws.length - 1 ∧ zp iz = dP (zp ws) ∧ ∀ v ∈ iz, Int.natAbs v < 2 ^ 185) (fun N hN' => ?_) ?_
  · subst_eqs
    refine ⟨lw, ws, rfl, SqL.of ew, fun v hv => Nat.lt_of_lt_of_le (bw v hv) (pow_le_pow2 (by decide)), by omega, tw, fun r zs H3 s3 f3 e3 l3 t3 a3 d3 => hN' _ _ ⟨r, zs, rfl, S2.trans s3, s3 _ _ ew, e3, t3, l3, d3, fun v hv => ?_⟩⟩
    obtain ⟨k', hk, ek⟩ := List.getElem_of_mem hv
    have h2 : aZ zs k' = v := by unfold aZ; rw [List.getElem?_eq_getElem hk, ek]; rfl
    rw [← h2, a3, Int.natAbs_mul, Int.natAbs_natCast, show 185 = 5 + 180 from rfl, Nat.pow_add]
    exact Nat.mul_lt_mul'' (by omega) (aZ_lt bw _)
  rintro σ H3 ⟨li, iz, rfl, S3, ew3, ei, ti, lii, zi, bi⟩
  rw [ezi] at zi
  have mG := mon_g T.ok
  have mA := mon_a T.ok 1
  obtain ⟨sd, so⟩ := s_ok T.ok 1 (by decide)
  obtain ⟨G, P', Q', m, S⟩ := split ezw gw zi l00 (Nat.pow_pos (by decide)) (Nat.pow_pos (by decide)) mG.ov mG.dg mG.ld mA.ov mA.dg mA.ld so sd
  have CCg := S.cc2 (bG := 170) (by omega) (by omega) (by omega) (by omega)
  have coP : Cop (zp P') (zp Q') := by rw [S.eP, S.eQ]; exact (as_cop (tf_of T.ok T.nd) 1).both S.m0 S.m0
  have bG : ∀ v ∈ G, Int.natAbs v < 2 ^ 170 := aZ_mem CCg.bG
  have lG := S.lG
  have gn : aZ G (nG fs) ≠ 0 := by have := S.ld; omega
  refine seq_cut (fun σ H4 => ∃ lg, σ = [some (.ref a), some (.ref lw), some (.ref li), some (.ref lg), none, none, none, none, none] ∧ Same H3 H4 ∧ H4 lg = some (.lst (G.map V.int))) (fun N hN' => ?_) ?_
  · subst_eqs
    exact ⟨lw, li, ws, iz, G, P', Q', _, _, _, _, 170, rfl, ew3, ei, CCg, tw, ti, S.eR, S.eZ, coP, S.ld, wc170, by omega, fun r H4 s4 f4 e4 => hN' _ _ ⟨r, rfl, s4, e4⟩⟩
  rintro σ H4 ⟨lg, rfl, s4, eg⟩
  refine seq_cut (fun σ H5 => ∃ ll, σ = [some (.ref a), some (.ref lw), some (.ref li), some (.ref lg), some (.ref ll), none, none, none, none] ∧ Same H4 H5 ∧ H5 ll = some (.lst (P'.map V.int))) (fun N hN' => ?_) ?_
  · subst_eqs
    refine ⟨lw, lg, ws, G, nG fs, 15, 180, 170, rfl, SqL.of (s4 _ _ ew3), SqL.of eg, by omega, lG, by omega, gn, tw, by omega, bw, bG, by decide, by decide, exz_of S.eR, fun lq Qz H5 s5 f5 e5 ql qt ez => ?_⟩
    have := quo_eq lG gn qt S.tP (by rw [← ez]; exact S.eR)
    rw [this] at e5
    exact hN' _ _ ⟨lq, rfl, s5, e5⟩
  rintro σ H5 ⟨ll, rfl, s5, el⟩
  refine seq_cut (fun σ H6 => ∃ la, σ = [some (.ref a), some (.ref lw), some (.ref li), some (.ref lg), some (.ref ll), some (.ref la), none, none, none] ∧ Same H5 H6 ∧ H6 la = some (.lst (Q'.map V.int))) (fun N hN' => ?_) ?_
  · subst_eqs
    have s45 := s4.trans s5
    refine ⟨li, lg, iz, G, nG fs, 15, 185, 170, rfl, SqL.of (s45 _ _ ei), SqL.of (s5 _ _ eg), by omega, lG, by omega, gn, ti, by omega, bi, bG, by decide, by decide, exz_of S.eZ, fun lq Qz H6 s6 f6 e6 ql qt ez => ?_⟩
    have := quo_eq lG gn qt S.tQ (by rw [← ez]; exact S.eZ)
    rw [this] at e6
    exact hN' _ _ ⟨lq, rfl, s6, e6⟩
  rintro σ H6 ⟨la, rfl, s6, eal⟩
  refine seq_cut (fun σ H7 => ∃ lp, σ = [some (.ref a), some (.ref lw), some (.ref li), some (.ref lg), some (.ref ll), some (.ref la), some (.ref lp), none, none] ∧ Same H6 H7 ∧ H6 lp = none ∧ H7 lp = some (.lst [])) (fun N hN' => ?_) ?_
  · subst_eqs
    exact ⟨by decide, fun p hp => hN' _ _ ⟨p, rfl, Same.new hp _, hp, upd_same⟩⟩
  rintro σ H7 ⟨lp, rfl, s7, flp, elp⟩
  refine seq_cut (fun σ H8 => σ = [some (.ref a), some (.ref lw), some (.ref li), some (.ref lg), some (.ref ll), some (.ref la), some (.ref lp), some (.int 0), none] ∧ H8 = H7) (fun N hN' => ?_) ?_
  · subst_eqs
    exact hN' _ _ ⟨rfl, rfl⟩
  rintro σ H8 ⟨rfl, rfl⟩
  have S6 := S3.trans (s4.trans (s5.trans s6))
  have S8 := S6.trans s7
  have H1lp : H1 lp = none := S6.free flp
  have llp : ll ≠ lp := ne_of_none (s6 _ _ el) flp
  have lap : la ≠ lp := ne_of_none eal flp
  obtain ⟨J, hJ⟩ : ∃ J : Nat → L2.St → Hp → Prop, ∀ n σ H9, J n σ H9 ↔ ∃ (j : Nat) (ll la : Addr) (lf al : List Int) (l : Rat) (ts : List V) (o8 : Option V), σ = [some (.ref a), some (.ref lw), some (.ref li), some (.ref lg), some (.ref ll), some (.ref la), some (.ref lp), some (.int (j : Int)), o8] ∧ Same H1 H9 ∧ (H9 ll = some (.lst (lf.map V.int)) ∧ ll ≠ lp) ∧ (H9 la = some (.lst (al.map V.int)) ∧ la ≠ lp) ∧ IsTz lf lf.length ∧ IsTz al al.length ∧ zp lf = pCst l * aP (pfs fs) (j + 1) ∧ zp al = pCst l * sP (pfs fs) (j + 1) ∧ gcdL lf = 1 ∧ l ≠ 0 ∧ lf.length = nA fs (j + 1) + 1 ∧ al.length ≤ nA fs (j + 1) ∧ (∀ k, (aZ lf k).natAbs < 2 ^ 88) ∧ (∀ k, (aZ al k).natAbs < 2 ^ 88) ∧ H9 lp = some (.lst ts) ∧ Prts (fun l => H1 l = none ∧ l ≠ lp) H9 ts (dueL fs j) ∧ j ≤ 4 ∧ n = 5 - j := ⟨_, fun _ _ _ => Iff.rfl⟩
  refine seq_cut (fun σ H9 => ∃ n j, nA fs (j + 1) = 0 ∧ n = 5 - j ∧ j ≤ 4 ∧ J n σ H9) (fun N hN' => ?_) ?_
  · show tWhile _ _ _ _ _
    refine while_g J 5 ((hJ _ _ _).mpr ⟨0, ll, la, P', Q', m, [], none, rfl, S8, ⟨s7 _ _ (s6 _ _ el), llp⟩, ⟨s7 _ _ eal, lap⟩, S.tP, S.tQ, S.eP, S.eQ, S.gP, S.m0, S.lP, S.lQ, fun k => Nat.lt_of_lt_of_le (S.bP k) (pow_le_pow2 (by omega)), fun k => Nat.lt_of_lt_of_le (S.bQ k) (pow_le_pow2 (by omega)), elp, .nil, by decide, rfl⟩) ?_
    intro n σ H9 hm
    obtain ⟨j, ll, la, lf, al, l, ts, o8, rfl, S9, ⟨e1, n1'⟩, ⟨e2, n2'⟩, t1, t2, z1, z2, g1, l0', len1, len2, b1, b2, ep, pr, j4, rfl⟩ := (hJ _ _ _).mp hm
    subst_eqs
    have aj := T.aj j
    have aj1 := T.aj (j + 1)
    have nle := na_le fs (j + 1)
    refine ⟨_, .inl (SqL.of e1), ite2 (fun hgt => WhG.mk ?_) (fun hgt => hN' _ _ ⟨_, j, by rw [List.length_map] at hgt; omega, rfl, j4, hm⟩)⟩
    rw [List.length_map] at hgt
    have j3 : j ≤ 3 := by
      rcases Nat.lt_or_ge j 4 with y | y
      · omega
      · have h5 : nA fs (4 + 1) = 0 := na_5 (fs := fs) fun x hx => (T.ok x hx).m4
        rw [show j = 4 by omega] at len1
        omega
    have ptl := pr.length
    have dl := due_len fs j
    obtain ⟨e, he⟩ : ∃ e, e = eP (pfs fs) (j + 1) := ⟨_, rfl⟩
    have z1' : zp lf = pCst l * (eP (pfs fs) (j + 1) * aP (pfs fs) (j + 1 + 1)) := by rw [z1, ae_eq]
    refine seq_cut (fun σ H => σ = [some (.ref a), some (.ref lw), some (.ref li), some (.ref lg), some (.ref ll), some (.ref la), some (.ref lp), some (.int ((j + 1 : Nat) : Int)), o8] ∧ H = H9) (fun N hN' => ?_) ?_
    · subst_eqs
      exact hN' _ _ ⟨by rw [Int.natCast_add]; rfl, rfl⟩
    rintro σ H ⟨rfl, rfl⟩
    refine seq_cut (fun σ HA => ∃ lz zz, σ = [some (.ref a), some (.ref lw), some (.ref li), some (.ref lg), some (.ref ll), some (.ref lz), some (.ref lp), some (.int ((j + 1 : Nat) : Int)), o8] ∧ Same H HA ∧ H lz = none ∧ HA lz = some (.lst (zz.map V.int)) ∧ IsTz zz zz.length ∧ zz.length ≤ nA fs (j + 1) ∧ zp zz = pCst l * (eP (pfs fs) (j + 1) * sP (pfs fs) (j + 1 + 1)) ∧ ∀ k, (aZ zz k).natAbs < 2 ^ 95) (fun N hN' => ?_) ?_
    · subst_eqs
      refine ⟨ll, lf, rfl, SqL.of e1, fun v hv => Nat.lt_of_lt_of_le (aZ_mem b1 v hv) (pow_le_pow2 (by decide)), by omega, t1, fun r zs H' s' f' e' l' t' a' d' => ?_⟩
      have bz : ∀ k, (aZ zs k).natAbs < 2 ^ 94 := fun k => by
        rcases Nat.lt_or_ge k lf.length with y | y
        · rw [a', Int.natAbs_mul, Int.natAbs_natCast, show 94 = 6 + 88 from rfl, Nat.pow_add]
          exact Nat.mul_lt_mul'' (by omega) (b1 _)
        · rw [a']
          have : aZ lf (k + 1) = 0 := by unfold aZ; rw [List.getElem?_eq_none (by omega)]; rfl
          rw [this, Int.mul_zero]; exact Nat.two_pow_pos _
      refine ⟨la, r, al, zs, 94, rfl, SqL.of (s' _ _ e2), SqL.of e', by omega, by omega, aZ_mem bz, by decide, fun r2 zz H2' s2' f2' e2' tz2 lz2 az2 => ?_⟩
      refine hN' _ _ ⟨r2, zz, rfl, s'.trans s2', s'.free f2', e2', tz2, by omega, ?_, fun k => ?_⟩
      · have hz : zp zz = zp al - zp zs := Pf.ext fun k => by
          rw [pf_sub]
          show zc zz k = zc al k - zc zs k
          unfold zc
          rw [az2, Rat.intCast_sub]
        rw [hz, d', z1, z2, dP_c, ← se_eq]; grind
      · rw [az2]
        have h1 := b2 k
        have h2 := bz k
        have h3 : (2 : Nat) ^ 88 ≤ 2 ^ 94 := pow_le_pow2 (by decide)
        have h4 : (2 : Nat) ^ 95 = 2 * 2 ^ 94 := by rw [show 95 = 94 + 1 from rfl, Nat.pow_succ, Nat.mul_comm]
        rw [h4]
        generalize (2 : Nat) ^ 94 = y at *
        generalize (2 : Nat) ^ 88 = y' at *
        omega
    rintro σ HA ⟨lz, zz, rfl, sA, fz', ez, tz', lz', zz', bz'⟩
    have mE := mon_e T.ok (j + 1)
    have mA2 := mon_a T.ok (j + 1 + 1)
    obtain ⟨sd2, so2⟩ := s_ok T.ok (j + 1 + 1) (by omega)
    obtain ⟨G2, P2, Q2, m2, S2'⟩ := split z1' g1 zz' l0' (Nat.pow_pos (by decide)) (Nat.pow_pos (by decide)) mE.ov mE.dg mE.ld mA2.ov mA2.dg mA2.ld so2 sd2
    have CC2 := S2'.cc2 (bG := 170) (by omega) (by omega) (by omega) (by omega)
    have coP2 : Cop (zp P2) (zp Q2) := by rw [S2'.eP, S2'.eQ]; exact (as_cop (tf_of T.ok T.nd) (j + 1 + 1)).both S2'.m0 S2'.m0
    have bG2 : ∀ v ∈ G2, Int.natAbs v < 2 ^ 170 := aZ_mem CC2.bG
    have lG2 := S2'.lG
    have gn2 : aZ G2 (nE fs (j + 1)) ≠ 0 := by have := S2'.ld; omega
    have lzp : lz ≠ lp := (ne_of_none ep fz').symm
    refine seq_cut (fun σ HB => ∃ lpt, σ = [some (.ref a), some (.ref lw), some (.ref li), some (.ref lg), some (.ref ll), some (.ref lz), some (.ref lp), some (.int ((j + 1 : Nat) : Int)), some (.ref lpt)] ∧ Same HA HB ∧ HA lpt = none ∧ HB lpt = some (.lst (G2.map V.int))) (fun N hN' => ?_) ?_
    · subst_eqs
      exact ⟨ll, lz, lf, zz, G2, P2, Q2, _, _, _, _, 170, rfl, sA _ _ e1, ez, CC2, t1, tz', S2'.eR, S2'.eZ, coP2, S2'.ld, wc170, by omega, fun r HB sB fB eB => hN' _ _ ⟨r, rfl, sB, fB, eB⟩⟩
    rintro σ HB ⟨lpt, rfl, sB, fB, eB⟩
    have SB := sA.trans sB
    have lptp : lpt ≠ lp := (ne_of_none (sA _ _ ep) fB).symm
    refine seq_cut (fun σ HC => ∃ ts', σ = [some (.ref a), some (.ref lw), some (.ref li), some (.ref lg), some (.ref ll), some (.ref lz), some (.ref lp), some (.int ((j + 1 : Nat) : Int)), some (.ref lpt)] ∧ Same H1 HC ∧ HC ll = some (.lst (lf.map V.int)) ∧ HC lz = some (.lst (zz.map V.int)) ∧ HC lpt = some (.lst (G2.map V.int)) ∧ HC lp = some (.lst ts') ∧ Prts (fun l => H1 l = none ∧ l ≠ lp) HC ts' (dueL fs (j + 1))) (fun N hN' => ?_) ?_
    · have lastv : (G2.map V.int)[(G2.map V.int).length - 1]? = some (.int (aZ G2 (nE fs (j + 1)))) := by
        rw [List.length_map, lG2, Nat.add_sub_cancel, List.getElem?_map, List.getElem?_eq_getElem (by omega)]
        unfold aZ
        rw [List.getElem?_eq_getElem (by omega)]; rfl
      have pB := pr.same SB
      subst_eqs
      refine ⟨_, .inl (SqL.of eB), ite2 (fun hgt2 => ?_) (fun hgt2 => ?_)⟩
      · rw [List.length_map] at hgt2
        obtain ⟨nl, hnl⟩ : ∃ n : Nat, aZ G2 (nE fs (j + 1)) = (n : Int) := ⟨(aZ G2 (nE fs (j + 1))).toNat, by have := S2'.ld; omega⟩
        have nl0 : nl ≠ 0 := by have := S2'.ld; omega
        have nlb : nl < 2 ^ 170 := by have := CC2.bG (nE fs (j + 1)); rw [hnl, Int.natAbs_natCast] at this; exact this
        have eLL : scl (invN nl nl0) G2 = eL fs (j + 1) := scl_eL T.ok lG2 S2'.eG hnl nl0
        refine ⟨.inl ⟨_, SqL.of (SB _ _ ep)⟩, _, SqL.of eB, _, lastAt lastv, small2, fun p hp => ?_⟩
        have X1 := Same.new hp (.tup [.int 1, .int (aZ G2 (nE fs (j + 1)))])
        have g1' : upd HB p (.tup [.int 1, .int (aZ G2 (nE fs (j + 1)))]) p = some (.tup (numV (invN nl nl0))) := by rw [upd_same, hnl]; rfl
        refine ⟨_, invN nl nl0, lpt, G2, rfl, ⟨p, rfl, SqT.of g1'⟩, SqL.of (X1 _ _ eB), Nat.lt_of_lt_of_le (show (invN nl nl0).den < 2 ^ 170 from nlb) (pow_le_pow2 (by decide)), Nat.lt_of_lt_of_le (show (1 : Int).natAbs < 2 ^ 1 by decide) (pow_le_pow2 (by decide)), fun v hv => Nat.lt_of_lt_of_le (bG2 v hv) (pow_le_pow2 (by decide)), by omega, fun r xs' H' s' f' e' nu => ⟨small2, fun p2 hp2 => ?_⟩⟩
        have X2 := Same.new hp2 (.tup [.ref r, .int ((j + 1 : Nat) : Int)])
        have g2' : upd H' p2 (.tup [.ref r, .int ((j + 1 : Nat) : Int)]) p2 = some (.tup [.ref r, .int ((j + 1 : Nat) : Int)]) := upd_same
        have SX := SB.trans (X1.trans (s'.trans X2))
        have er' := X2 _ _ e'
        have nu' := nu.mono X2.tups
        have ep' := SX _ _ ep
        have rlp : r ≠ lp := (ne_of_none ((SB.trans X1) _ _ ep) f').symm
        have H1r : H1 r = none := S9.free (SB.free (X1.free f'))
        have gl1 := SX _ _ e1
        have gl2 := (sB.trans (X1.trans (s'.trans X2))) _ _ ez
        have gl3 := (X1.trans (s'.trans X2)) _ _ eB
        have p2lp : p2 ≠ lp := (ne_of_none ((SB.trans (X1.trans s')) _ _ ep) hp2).symm
        have pX := pr.same SX
        have SN := S9.trans SX
        generalize upd H' p2 (.tup [.ref r, .int ((j + 1 : Nat) : Int)]) = HX at *
        refine ⟨ts, ep', len_ok (by omega), hN' _ _ ⟨ts ++ [.ref p2], rfl, SN.over H1lp _, by rw [upd_ne n1']; exact gl1, by rw [upd_ne lzp]; exact gl2, by rw [upd_ne lptp]; exact gl3, upd_same, ?_⟩⟩
        show Prts _ _ _ (dueL fs j ++ _)
        rw [if_neg (by omega), ← eLL]
        exact Prts.snoc (by rw [upd_ne p2lp]; exact g2') (by rw [upd_ne rlp]; exact er') (nu'.mono (TupS.lst ep')) ⟨H1r, rlp⟩ (pX.over ep' fun l hl => hl.2)
      · rw [List.length_map] at hgt2
        refine hN' _ _ ⟨ts, rfl, S9.trans SB, SB _ _ e1, sB _ _ ez, eB, SB _ _ ep, ?_⟩
        show Prts _ _ _ (dueL fs j ++ _)
        rw [if_pos (by omega), List.append_nil]; exact pB
    rintro σ HC ⟨ts', rfl, SC, c1, c2, c3, c4, prC⟩
    refine seq_cut (fun σ HD => ∃ ll2, σ = [some (.ref a), some (.ref lw), some (.ref li), some (.ref lg), some (.ref ll2), some (.ref lz), some (.ref lp), some (.int ((j + 1 : Nat) : Int)), some (.ref lpt)] ∧ Same HC HD ∧ HC ll2 = none ∧ HD ll2 = some (.lst (P2.map V.int))) (fun N hN' => ?_) ?_
    · subst_eqs
      refine ⟨ll, lpt, lf, G2, nE fs (j + 1), 15, 88, 170, rfl, SqL.of c1, SqL.of c3, by omega, lG2, by omega, gn2, t1, by omega, aZ_mem b1, bG2, by decide, by decide, exz_of S2'.eR, fun lq Qz H5 s5 f5 e5 ql qt ez => ?_⟩
      have := quo_eq lG2 gn2 qt S2'.tP (by rw [← ez]; exact S2'.eR)
      rw [this] at e5
      exact hN' _ _ ⟨lq, rfl, s5, f5, e5⟩
    rintro σ HD ⟨ll2, rfl, sD, fD, eD⟩
    subst_eqs
    refine ⟨lz, lpt, zz, G2, nE fs (j + 1), 15, 95, 170, rfl, SqL.of (sD _ _ c2), SqL.of (sD _ _ c3), by omega, lG2, by omega, gn2, tz', by omega, aZ_mem bz', bG2, by decide, by decide, exz_of S2'.eZ, fun lq Qz HE sE fE eE ql qt ez => ?_⟩
    have := quo_eq lG2 gn2 qt S2'.tQ (by rw [← ez]; exact S2'.eZ)
    rw [this] at eE
    have SDE := sD.trans sE
    exact WgN.mk (m' := 5 - (j + 1)) (by omega) ((hJ _ _ _).mpr ⟨j + 1, ll2, lq, P2, Q2, m2, ts', _, rfl, SC.trans SDE, ⟨sE _ _ eD, (ne_of_none c4 fD).symm⟩, ⟨eE, (ne_of_none (sD _ _ c4) fE).symm⟩, S2'.tP, S2'.tQ, S2'.eP, S2'.eQ, S2'.gP, S2'.m0, S2'.lP, S2'.lQ, fun k => Nat.lt_of_lt_of_le (S2'.bP k) (pow_le_pow2 (by omega)), fun k => Nat.lt_of_lt_of_le (S2'.bQ k) (pow_le_pow2 (by omega)), SDE _ _ c4, prC.same SDE, by omega, rfl⟩)
  rintro σ H9 ⟨n, j, nz, hn, jj4, h⟩
  obtain ⟨j', ll, la, lf, al, l, ts, o8, rfl, S9, _, _, _, _, _, _, _, _, _, _, _, _, ep, pr, j4, hn'⟩ := (hJ _ _ _).mp h
  subst_eqs
  have jj : j' = j := by omega
  rw [jj] at pr
  have ds := due_stop nz (4 - j)
  rw [show j + (4 - j) = 4 by omega] at ds
  rw [← ds] at pr
  exact k lp ts H9 S9 H1lp ep pr
end
open PySem L2 PyProof.Rows PyProof
theorem num_inj {p q : Rat} (h : numV p = numV q) : p = q := by
  unfold numV at h
  simp only [List.cons.injEq, V.int.injEq, and_true] at h
  exact Rat.ext h.1 (by have := h.2; omega)
theorem nums_one {H : Hp} : ∀ {xs : List V} {L M : List Rat}, Nums H xs L → Nums H xs M → L = M
  | _, _, _, .nil, .nil => rfl
  | _, _, _, .cons h t, .cons h' t' => by
    rw [h] at h'
    injection h' with h'
    injection h' with h'
    rw [num_inj h', nums_one t t']
def rNotInL (K : PySem.W.Frag) : R2 := fun x y H Q => ∃ px xs0 L0 p ts M, x = .ref px ∧ H px = some (.lst xs0) ∧ Nums H xs0 L0 ∧ y = .ref p ∧ SqL K H p (ts.map V.ref) ∧ Rws H ts M ∧ Q (.bl (!(M.any fun L => decide (L = L0)))) H
open Classical in
noncomputable def inE (H : Hp) (L0 : List Rat) : Value → Bool
  | .ref t => decide (∃ xs, H t = some (.lst xs) ∧ Nums H xs L0)
  | _ => false
theorem inE_at {H : Hp} {L0 L : List Rat} {t : Addr} {xs : List V} (e : H t = some (.lst xs)) (n : Nums H xs L) : inE H L0 (.ref t) = decide (L = L0) := by
  unfold inE
  rw [decide_eq_decide]
  refine ⟨fun ⟨ys, e', n'⟩ => ?_, fun h => ⟨xs, e, by rw [← h]; exact n⟩⟩
  rw [e] at e'
  cases e'
  exact nums_one n n'
theorem any_inE {H : Hp} {L0 : List Rat} : ∀ {ts : List Addr} {M : List (List Rat)} {us : List Value}, Rws H ts M → Vals (ts.map V.ref) us → us.any (inE H L0) = M.any fun L => decide (L = L0)
  | _, _, _, .nil, .nil => rfl
  | _, _, _, .cons e n t, .cons r rr => by
    cases (show _ = Value.ref _ from r)
    rw [List.any_cons, List.any_cons, inE_at e n, any_inE t rr]
theorem op_notInL {X : Cx} (hu : X.A.units + 64 < cLine) : OpR X (compareOp .NotIn) (rNotInL X.K) := by
  intro pins s σ H x y v u Q I rx ry h
  obtain ⟨px, xs0, L0, p, ts, M, rfl, e0, n0, rfl, hq, hR, q⟩ := h
  cases ry
  cases (show v = Value.ref px from rx)
  obtain ⟨its, r, pl, hz⟩ := I.list hq
  refine SeqAt.notIn_listAt (inE H L0) pl.isList (fun w hw => ?_) ⟨.bl _, H, I, rfl, ?_⟩
  · have key : ∀ {ts : List Addr} {M : List (List Rat)} {us : List Value}, Rws H ts M → Vals (ts.map V.ref) us → w ∈ us → ∃ t xs L, w = .ref t ∧ H t = some (.lst xs) ∧ Nums H xs L := fun {ts M us} R V' hw => by
      induction R generalizing us with
      | nil => cases V'; cases hw
      | cons e n t ih =>
        cases V' with
        | cons r rr =>
          rcases List.mem_cons.mp hw with z | z
          · rw [z]
            cases (show _ = Value.ref _ from r)
            exact ⟨_, _, _, rfl, e, n⟩
          · exact ih rr z
    obtain ⟨t, xs, L, rfl, e, n⟩ := key hR r (by simpa using hw)
    rw [inE_at e n]
    have := eqAt_D (A := X.A.in1) I (isD_list (SqL.of e) n) (isD_list (SqL.of e0) n0) (okD_list _ _) (u := .ref t) (v := .ref px) rfl rfl (by
      have := dp_list L
      show X.A.units + 1 + _ < _
      omega)
    rw [eqD_list] at this
    exact this
  · rw [show its.toArray.any (inE H L0) = its.any (inE H L0) by simp, any_inE hR r]
    exact q
theorem Prts.samex {X : Addr → Prop} {u : Addr} {H H' : Hp} (hX : ∀ l, X l → l ≠ u) (s : SameX u H H') (hu : UrnAt H u) : ∀ {vs : List V} {fs : List (List Rat × Nat)}, Prts X H vs fs → Prts X H' vs fs
  | _, _, .nil => .nil
  | _, _, .cons h e n f t => .cons (s.tups hu _ _ h) (s _ _ e (hX _ f)) (n.mono (s.tups hu)) f (t.samex hX s hu)
theorem Prts.get {X : Addr → Prop} {H : Hp} : ∀ {vs : List V} {fs : List (List Rat × Nat)} {i : Nat} {v : V}, Prts X H vs fs → vs[i]? = some v → ∃ p l xs L m, v = .ref p ∧ fs[i]? = some (L, m) ∧ H p = some (.tup [.ref l, .int (m : Int)]) ∧ H l = some (.lst xs) ∧ Nums H xs L ∧ X l
  | _, _, _, _, .nil, e => by simp at e
  | _, _, 0, _, .cons h e n f _, ev => by cases ev; exact ⟨_, _, _, _, _, rfl, rfl, h, e, n, f⟩
  | _, _, i + 1, _, .cons _ _ _ _ t, ev => t.get (i := i) (by simpa using ev)
def FBits (q : List Rat) : Prop := ∃ e, e + q.length ≤ 12 * (q.length - 1) ∧ ∀ x ∈ q, OvB (60 ^ (q.length - 1)) e x
theorem na_app (x : List Rat × Nat) : ∀ (fs : List (List Rat × Nat)) (j : Nat), nA (fs ++ [x]) j = nA fs j + (if j ≤ x.2 then x.1.length - 1 else 0)
  | [], j => by show _ + 0 = 0 + _; omega
  | y :: r, j => by
    have := na_app x r j
    show _ + nA (r ++ [x]) j = _ + nA r j + _
    omega
theorem nf_app (x : List Rat × Nat) : ∀ (fs : List (List Rat × Nat)), nF (fs ++ [x]) = nF fs + x.2 * (x.1.length - 1)
  | [] => by show _ + 0 = 0 + _; omega
  | y :: r => by
    have := nf_app x r
    show _ + nF (r ++ [x]) = _ + nF r + _
    omega
theorem ep_app (x : List Rat × Nat) : ∀ (fs : List (List Rat × Nat)) (j : Nat), eP (pfs (fs ++ [x])) j = (if x.2 = j then eP (pfs fs) j * qp x.1 else eP (pfs fs) j)
  | [], j => by
    show (if x.2 = j then qp x.1 * 1 else 1) = _
    split
    · show qp x.1 * 1 = 1 * qp x.1; grind
    · rfl
  | y :: r, j => by
    have ih := ep_app x r j
    show (if y.2 = j then qp y.1 * eP (pfs (r ++ [x])) j else eP (pfs (r ++ [x])) j) = if x.2 = j then (if y.2 = j then qp y.1 * eP (pfs r) j else eP (pfs r) j) * qp x.1 else (if y.2 = j then qp y.1 * eP (pfs r) j else eP (pfs r) j)
    rw [ih]
    split <;> split <;> grind
theorem fp_app (x : List Rat × Nat) : ∀ (fs : List (List Rat × Nat)), fP (pfs (fs ++ [x])) = fP (pfs fs) * wP (qp x.1) x.2
  | [] => by show wP (qp x.1) x.2 * 1 = 1 * wP (qp x.1) x.2; grind
  | y :: r => by
    have ih := fp_app x r
    show wP (qp y.1) y.2 * fP (pfs (r ++ [x])) = wP (qp y.1) y.2 * fP (pfs r) * wP (qp x.1) x.2
    rw [ih]; grind
section
variable {P : Program} {w : World} {K : PySem.W.Frag} {mg : Str → Option Value} {base : Heap}
def spDFac : Sp := fun vs H Q _ => ∃ u kd, vs = [.ref u, .int kd] ∧ UrnAt H u ∧ (kd = 0 ∨ kd = 1) ∧ ∀ r ys q H', SameX u H H' → UrnAt H' u → LsX u H' r ys q → Fct q → FBits q → H r = none → Q (.ref r) H'
abbrev s__law_drawn_factor : Stmt := top 59
theorem sc__law_drawn_factor : FnScope ["_law_urn_here", "_law_kind_here", "_law_way", "_law_u", "_law_v"] ["_law_urn_here", "_law_kind_here"] (defScope s__law_drawn_factor) := by and_intros
set_option maxHeartbeats 0 in
theorem ok__law_drawn_factor {f f1 f2 f4 f5 f6 : Addr} (d : Df K mg "_law_drawn_factor" s__law_drawn_factor ["_law_urn_here", "_law_kind_here"] f) (G__law_draw : Def P w K mg base CX0 1 "_law_draw" f1 ["_law_urn_here", "_law_many"] spDraw) (GD__law_number : Def P w K mg base CX0 2 "_law_number" f2 ["_law_urn_here", "_law_kind_here"] spNumberC) (G__law_above : Def P w K mg base CX0 4 "_law_above" f4 ["_law_urn_here", "_law_kind_here"] spAbove) (G__law_plus : Def P w K mg base CX0 2 "_law_plus" f5 ["_law_one", "_law_other_here"] (spLBin K (· + ·))) (G__law_times : Def P w K mg base CX0 2 "_law_times" f6 ["_law_one", "_law_other_here"] (spLBin K (· * ·))) : Def P w K mg base CX0 5 "_law_drawn_factor" f ["_law_urn_here", "_law_kind_here"] spDFac := by
  have G__law_number := GD__law_number
  refine d.ok (N := ["_law_urn_here", "_law_kind_here", "_law_way", "_law_u", "_law_v"]) sc__law_drawn_factor (by rintro vs H Q E ⟨_, _, h, _⟩; rw [h]; rfl) (fun cdv A outer s H vs Q E hr h => ?_)
  obtain ⟨u, kd, rfl, hu, hk, k⟩ := h
  refine ⟨_, (pss_cons (ps_set (i := 2) sc__law_drawn_factor.nd rfl (Or.inl rfl) (pe_def G__law_draw hr (pa_cons (pv 0) (pa_cons pe_int pa_nil)) pass0))
      (pss_cons (ps_set (i := 3) sc__law_drawn_factor.nd rfl (Or.inl rfl) (pe_def G__law_number hr (pa_cons (pv 0) (pa_cons (pv 1) pa_nil)) pass0))
      (pss_cons (ps_set (i := 4) sc__law_drawn_factor.nd rfl (Or.inl rfl) (pe_def G__law_above hr (pa_cons (pv 0) (pa_cons (pv 1) pa_nil)) pass0))
      (pss_cons (ps_if (pt_cmpR op_lt (pv 2) pe_int (nomark _)) (pss_one (ps_ret (pe_lst (pa_cons (pe_tup (pa_cons (pe_op op_sub pe_int (pe_ix ix_tup (pv 3) pe_int (fun _ _ => rfl))) (pa_cons (pe_ix ix_tup (pv 3) pe_int (fun _ _ => rfl)) pa_nil))) (pa_cons (pe_tup (pa_cons pe_int (pa_cons pe_int pa_nil))) pa_nil))))) pss_nil)
      (pss_one (ps_ret (pe_lst (pa_cons (pe_def G__law_plus hr (pa_cons (pe_def G__law_times hr (pa_cons (pv 3) (pa_cons (pv 3) pa_nil)) pass0) (pa_cons (pv 4) pa_nil)) pass0) (pa_cons (pe_def G__law_times hr (pa_cons (pe_tup (pa_cons (pe_un un_neg pe_int) (pa_cons pe_int pa_nil))) (pa_cons (pv 3) pa_nil)) pass0) (pa_cons (pe_tup (pa_cons pe_int (pa_cons pe_int pa_nil))) pa_nil)))))))))), ?_⟩
  rw [show start ["_law_urn_here", "_law_kind_here", "_law_way", "_law_u", "_law_v"] [.ref u, .int kd] = [some (.ref u), some (.int kd), none, none, none] from rfl]
  refine seq_cut (fun σ H1 => ∃ way : Int, σ = [some (.ref u), some (.int kd), some (.int way), none, none] ∧ SameX u H H1 ∧ UrnAt H1 u) (fun N hN => ?_) ?_
  · simp! [spDraw]
    exact ⟨hu, by decide, by decide, fun r H1 _ _ s1 u1 => hN _ _ ⟨r, rfl, s1, u1⟩⟩
  rintro σ H1 ⟨way, rfl, s1, u1⟩
  refine seq_cut (fun σ H2 => ∃ pu q, σ = [some (.ref u), some (.int kd), some (.int way), some (.ref pu), none] ∧ SameX u H H2 ∧ UrnAt H2 u ∧ H2 pu = some (.tup (numV q)) ∧ NK kd q) (fun N hN => ?_) ?_
  · subst_eqs
    exact ⟨u, kd, rfl, u1, fun r q H2 nq s2 u2 e2 => hN _ _ ⟨r, q, rfl, s1.trans s2, u2, e2, nq⟩⟩
  clear s1 u1
  rintro σ H2 ⟨pu, q, rfl, s2, u2, e2, nq⟩
  refine seq_cut (fun σ H3 => ∃ rv v, σ = [some (.ref u), some (.int kd), some (.int way), some (.ref pu), some (.ref rv)] ∧ SameX u H H3 ∧ UrnAt H3 u ∧ H3 pu = some (.tup (numV q)) ∧ H3 rv = some (.tup (numV v)) ∧ NK kd v ∧ 0 < v) (fun N hN => ?_) ?_
  · subst_eqs
    exact ⟨u, kd, rfl, u2, fun r v H3 nv v0 s3 u3 e3 => hN _ _ ⟨r, v, rfl, s2.trans s3, u3, s3.tups u2 _ _ e2, e3, nv, v0⟩⟩
  clear s2 u2 e2
  rintro σ H3 ⟨rv, v, rfl, s3, u3, e3, ev, nv, v0⟩
  have oq := nq.o60 hk
  have ov := nv.o60 hk
  subst_eqs
  refine ite2 (fun h2 => ?_) (fun h2 => ?_)
  · refine ⟨_, SqT.of e3, _, at0 q, _, rfl, _, SqT.of e3, _, at1 q, small2, fun p1 h1 => ?_⟩
    obtain ⟨A1, y1, S1, g1, U1, _⟩ := new_u (.tup [.int (0 - q.num), .int q.den]) h1 u3
    rw [y1]
    refine ⟨small2, fun p2 h2 => ?_⟩
    obtain ⟨A2, y2, S2, g2, U2, _⟩ := new_u (.tup [.int 1, .int 1]) h2 U1
    rw [y2]
    refine ⟨small2, fun p3 h3' => ?_⟩
    obtain ⟨A3, y3, S3, g3, U3, n3⟩ := new_u (.lst [.ref p1, .ref p2]) h3' U2
    rw [y3]
    rw [Int.zero_sub] at g1
    have S := S1.trans (S2.trans S3)
    refine k p3 _ [-q, 1] _ (s3.trans (Same.x S u)) U3 ⟨n3, g3, .cons ((S2.trans S3) p1 _ g1) (.cons (show _ = some (.tup (numV 1)) from S3 p2 _ g2) .nil)⟩ (.lin q) ⟨10, (show 10 + 2 ≤ 12 * 1 by decide), ?_⟩ (s3.free u3 (S1.free (S2.free h3')))
    intro x hx
    show OvB (60 ^ 1) 10 x
    simp only [List.mem_cons, List.not_mem_nil, or_false] at hx
    rcases hx with rfl | rfl
    · exact oq.neg
    · exact ovb_int 1 (by decide) (by decide)
  · have bq : BtN 6 q := oq.bt (by decide) (by decide) (by decide)
    have bv : BtN 6 v := ov.bt (by decide) (by decide) (by decide)
    have bqq : BtN 12 (q * q) := (oq.mul oq).bt (by decide) (by decide) (by decide)
    refine ⟨_, _, q, q, 6, 6, rfl, ⟨pu, rfl, SqT.of e3⟩, ⟨pu, rfl, SqT.of e3⟩, bq, bq, by decide, fun r6 H6 s6 e6 => ⟨_, _, _, v, 12, 6, rfl, ⟨r6, rfl, SqT.of e6⟩, ⟨rv, rfl, SqT.of (s6 _ _ ev)⟩, bqq, bv, by decide, fun r7 H7 s7 e7 => ⟨small2, fun p8 h8 => ?_⟩⟩⟩
    have u6 := Same.urn s6 u3
    have u7 := Same.urn s7 u6
    obtain ⟨H8, y8, S8, g8, u8, _⟩ := new_u (.tup [.int (-2), .int 1]) h8 u7
    rw [y8]
    refine ⟨_, _, (-2 : Rat), q, 1, 6, rfl, ⟨p8, rfl, SqT.of g8⟩, ⟨pu, rfl, SqT.of (S8 _ _ (s7 _ _ (s6 _ _ e3)))⟩, ⟨by decide, by decide⟩, bq, by decide, fun r9 H9 s9 e9 => ⟨small2, fun p1 h1 => ?_⟩⟩
    have u9 := Same.urn s9 u8
    obtain ⟨A1, y1, S1, g1, U1, _⟩ := new_u (.tup [.int 1, .int 1]) h1 u9
    rw [y1]
    refine ⟨small3, fun p3 h3' => ?_⟩
    obtain ⟨A3, y3, S3, g3, U3, n3⟩ := new_u (.lst [.ref r7, .ref r9, .ref p1]) h3' U1
    rw [y3]
    have S' := s6.trans (s7.trans (S8.trans (s9.trans (S1.trans S3))))
    refine k p3 _ [q * q + v, -2 * q, 1] _ (s3.trans (Same.x S' u)) U3 ⟨n3, g3, .cons ((S8.trans (s9.trans (S1.trans S3))) _ _ e7) (.cons ((S1.trans S3) _ _ e9) (.cons (show _ = some (.tup (numV 1)) from S3 _ _ g1) .nil))⟩ (.quad q v v0) ⟨21, (show 21 + 3 ≤ 12 * 2 by decide), ?_⟩ (s3.free u3 (s6.free (s7.free (S8.free (s9.free (S1.free h3'))))))
    intro x hx
    show OvB (60 ^ 2) 21 x
    simp only [List.mem_cons, List.not_mem_nil, or_false] at hx
    rcases hx with rfl | rfl | rfl
    · exact OvB.add (by decide) ((oq.mul oq).mono (by decide)) ((ov.up (C := 60) (c := 6) (by decide) (by decide) (by decide)).mono (by decide))
    · have := (ovb_int (B := 60) (-2) (W := 7) (by decide) (by decide)).mul oq
      exact this.mono (by decide)
    · exact ovb_int 1 (by decide) (by decide)
end
structure FDr (fs : List (List Rat × Nat)) (room few : Int) : Prop where
  ok : ∀ x ∈ fs, FOk1 x
  nd : (fs.map (·.1)).Nodup
  rm : (nF fs : Int) + room = 14
  fw : (nA fs 1 : Int) + few = 6
  r0 : 0 ≤ room
  f0 : 0 ≤ few
theorem FDr.tld {fs : List (List Rat × Nat)} {room few : Int} (h : FDr fs room few) : Tld fs := ⟨h.ok, h.nd, by have := h.rm; have := h.r0; omega, by have := h.fw; have := h.f0; omega⟩
theorem FDr.add {fs : List (List Rat × Nat)} {room few : Int} (h : FDr fs room few) {q : List Rat} {m : Nat} (fq : Fct q) (bq : FBits q) (m1 : 1 ≤ m) (m4 : m ≤ 4) (nin : q ∉ fs.map (·.1)) (h1 : (((q.length - 1 : Nat) * m : Nat) : Int) ≤ room) (h2 : ((q.length - 1 : Nat) : Int) ≤ few) : FDr (fs ++ [(q, m)]) (room - (((q.length - 1 : Nat) * m : Nat) : Int)) (few - ((q.length - 1 : Nat) : Int)) := by
  refine ⟨fun x hx => ?_, ?_, ?_, ?_, by omega, by omega⟩
  · rcases List.mem_append.mp hx with z | z
    · exact h.ok x z
    · rw [List.mem_singleton.mp z]; exact ⟨fq, m1, m4, bq⟩
  · rw [List.map_append, List.nodup_append]
    refine ⟨h.nd, by simp, fun a ha b hb e => ?_⟩
    have : b = q := by simpa using hb
    rw [this] at e
    rw [e] at ha
    exact nin ha
  · rw [nf_app]
    have := h.rm
    show ((nF fs + m * (q.length - 1) : Nat) : Int) + _ = 14
    rw [Nat.mul_comm (q.length - 1) m]
    omega
  · rw [na_app, if_pos m1]
    have := h.fw
    show ((nA fs 1 + (q.length - 1) : Nat) : Int) + _ = 6
    omega
section
variable {P : Program} {w : World} {K : PySem.W.Frag} {mg : Str → Option Value} {base : Heap}
def spDFacs (K : PySem.W.Frag) : Sp := fun vs H Q _ => ∃ u kd, vs = [.ref u, .int kd] ∧ UrnAt H u ∧ (kd = 0 ∨ kd = 1) ∧ ∀ r ts fs H', SameX u H H' → UrnAt H' u → r ≠ u → H' r = some (.lst ts) → Prts (fun l => l ≠ u ∧ l ≠ r) H' ts fs → Tld fs → Q (.ref r) H'
abbrev s__law_drawn_factors : Stmt := top 60
theorem sc__law_drawn_factors : FnScope ["_law_urn_here", "_law_kind_here", "_law_found", "_law_turn", "_law_room", "_law_few", "_law_often", "_law_factor", "_law_degree"] ["_law_urn_here", "_law_kind_here"] (defScope s__law_drawn_factors) := by and_intros
set_option maxHeartbeats 0 in
theorem ok__law_drawn_factors {f f1 f2 : Addr} (d : Df K mg "_law_drawn_factors" s__law_drawn_factors ["_law_urn_here", "_law_kind_here"] f) (G__law_draw : Def P w K mg base CX0 1 "_law_draw" f1 ["_law_urn_here", "_law_many"] spDraw) (G__law_drawn_factor : Def P w K mg base CX0 5 "_law_drawn_factor" f2 ["_law_urn_here", "_law_kind_here"] spDFac) (n_range : mg "range" = none) (n_len : mg "len" = none) : Def P w K mg base CX0 6 "_law_drawn_factors" f ["_law_urn_here", "_law_kind_here"] (spDFacs K) := by
  refine d.ok (N := ["_law_urn_here", "_law_kind_here", "_law_found", "_law_turn", "_law_room", "_law_few", "_law_often", "_law_factor", "_law_degree"]) sc__law_drawn_factors (by rintro vs H Q E ⟨_, _, h, _⟩; rw [h]; rfl) (fun cdv A outer s H vs Q E hr h => ?_)
  obtain ⟨u, kd, rfl, hU, hk, k⟩ := h
  have hu := hr.units
  refine ⟨_, (pss_cons (ps_set (i := 2) sc__law_drawn_factors.nd rfl (Or.inl rfl) (pe_lst pa_nil))
      (pss_cons (ps_asg (pe_tup (pa_cons pe_int (pa_cons pe_int pa_nil))) (show PG _ _ (gTup K 2 (gCons (gName 4) (gCons (gName 5) gNil))) from by (refine pg_tup (n := 2) ?_ ?_ ?_ ?_; rfl; (refine pgs_cons ?_ ?_ ?_; (exact (pg_name (i := 4) sc__law_drawn_factors.nd rfl (Or.inl rfl))); (refine pgs_cons ?_ ?_ ?_; (exact (pg_name (i := 5) sc__law_drawn_factors.nd rfl (Or.inl rfl))); (exact pgs_nil); rfl); rfl); rfl; rfl)))
      (pss_cons (ps_for PassesOwn.never rfl (pi_range1 rfl n_range (pa_cons (pe_def G__law_draw hr (pa_cons (pv 0) (pa_cons pe_int pa_nil)) pass0) pa_nil)) (pg_name (i := 3) sc__law_drawn_factors.nd rfl (Or.inl rfl)) (pss_cons (ps_set (i := 6) sc__law_drawn_factors.nd rfl (Or.inl rfl) (pe_op op_add pe_int (pe_def G__law_draw hr (pa_cons (pv 0) (pa_cons pe_int pa_nil)) pass0)))
      (pss_cons (ps_set (i := 7) sc__law_drawn_factors.nd rfl (Or.inl rfl) (pe_def G__law_drawn_factor hr (pa_cons (pv 0) (pa_cons (pv 1) pa_nil)) pass0))
      (pss_cons (ps_set (i := 8) sc__law_drawn_factors.nd rfl (Or.inl rfl) (pe_op op_sub (pe_callB call_len_seq rfl n_len (by decide +kernel) (pa_cons (pv 7) pa_nil)) pe_int))
      (pss_one (ps_if (PW.pt (pw_and (pt_cmpR (op_notInL hu) (pv 7) (pe_comp (Nc := ["_law_one", "_law_other_here"]) (caps := [none, none]) rfl (Caps.of (osc := defScope s__law_drawn_factors) (N := ["_law_urn_here", "_law_kind_here", "_law_found", "_law_turn", "_law_room", "_law_few", "_law_often", "_law_factor", "_law_degree"]) (ks := []) rfl rfl rfl rfl sub_nil (by decide +kernel)) (pi_list (pv 2)) (fun C s₂ H₂ fp pins => (show PG _ _ (gTup K 2 (gCons (gName 0) (gCons (gName 1) gNil))) from by (refine pg_tup (n := 2) ?_ ?_ ?_ ?_; rfl; (refine pgs_cons ?_ ?_ ?_; (exact (pg_name (i := 0) (show List.Nodup (["_law_one", "_law_other_here"] : List Str) by decide +kernel) rfl (Or.inl rfl) (Or.inr rfl))); (refine pgs_cons ?_ ?_ ?_; (exact (pg_name (i := 1) (show List.Nodup (["_law_one", "_law_other_here"] : List Str) by decide +kernel) rfl (Or.inl rfl) (Or.inr rfl))); (exact pgs_nil); rfl); rfl); rfl; rfl))) (fun C s₂ H₂ fp pins => (pv 0))) rfl) (pw_and (pt_cmpR op_le (pe_op op_mulB (pv 8) (pv 6)) (pv 4) (nomark _)) (pw_and1 (pt_cmpR op_le (pv 8) (pv 5) (nomark _)))))) (pss_cons (ps_par (i := 4) (j := 5) rfl sc__law_drawn_factors.nd rfl rfl (by decide) rfl rfl (pa_cons (pe_op op_sub (pv 4) (pe_op op_mulB (pv 8) (pv 6))) (pa_cons (pe_op op_sub (pv 5) (pv 8)) pa_nil)) rfl)
      (pss_one (ps_expr (pe_bm PySem.F.plainAttrs_list PySem.F.slot_list_append PySem.F.type_list_append mt_append (pv 2) (pa_cons (pe_tup (pa_cons (pv 7) (pa_cons (pv 6) pa_nil))) pa_nil))))) pss_nil))))))
      (pss_one (ps_ret (pv 2)))))), ?_⟩
  rw [show start ["_law_urn_here", "_law_kind_here", "_law_found", "_law_turn", "_law_room", "_law_few", "_law_often", "_law_factor", "_law_degree"] [.ref u, .int kd] = [some (.ref u), some (.int kd), none, none, none, none, none, none, none] from rfl]
  refine seq_cut (fun σ H1 => ∃ lf, σ = [some (.ref u), some (.int kd), some (.ref lf), none, none, none, none, none, none] ∧ SameX u H H1 ∧ UrnAt H1 u ∧ H lf = none ∧ lf ≠ u ∧ H1 lf = some (.lst [])) (fun N hN => ?_) ?_
  · subst_eqs
    exact ⟨by decide, fun p hp => hN _ _ ⟨p, rfl, Same.x (Same.new hp _) u, urn_new hU hp, hp, urn_ne hU hp, upd_same⟩⟩
  rintro σ H1 ⟨lf, rfl, s1, u1, flf, lfu, e1⟩
  refine seq_cut (fun σ H2 => σ = [some (.ref u), some (.int kd), some (.ref lf), none, some (.int 14), some (.int 6), none, none, none] ∧ Same H1 H2) (fun N hN => ?_) ?_
  · subst_eqs
    exact ⟨small2, fun p hp => ⟨_, SqT.of upd_same, rfl, _, _, rfl, _, _, rfl, rfl, hN _ _ ⟨rfl, Same.new hp _⟩⟩⟩
  rintro σ H2 ⟨rfl, s2⟩
  obtain ⟨I, hI⟩ : ∃ I : Nat → L2.St → Hp → Prop, ∀ i σ H3, I i σ H3 ↔ ∃ (o3 o6 o7 o8 : Option V) (room few : Int) (ts : List V) (fs : List (List Rat × Nat)), σ = [some (.ref u), some (.int kd), some (.ref lf), o3, some (.int room), some (.int few), o6, o7, o8] ∧ SameX u H H3 ∧ UrnAt H3 u ∧ H3 lf = some (.lst ts) ∧ Prts (fun l => l ≠ u ∧ l ≠ lf) H3 ts fs ∧ FDr fs room few ∧ fs.length ≤ i := ⟨_, fun _ _ _ => Iff.rfl⟩
  refine seq_cut (fun σ H3 => ∃ i, I i σ H3) (fun N hN => ?_) ?_
  · refine ⟨_, rfl, u, _, rfl, Same.urn s2 u1, by decide, by decide, fun r H3 r0 r7 s3 u3 => ⟨r, rfl, by omega, by omega, for_range I ((hI _ _ _).mpr ⟨_, _, _, _, 14, 6, [], [], rfl, s1.trans ((Same.x s2 u).trans s3), u3, s3 _ _ (s2 _ _ e1) lfu, .nil, ⟨by simp, by simp, rfl, rfl, by decide, by decide⟩, Nat.le_refl _⟩) ?_ (fun σ H4 h => hN _ _ ⟨_, h⟩)⟩⟩
    rintro i σ H4 hi h
    obtain ⟨o3, o6, o7, o8, room, few, ts, fs, rfl, s4, u4, e4, p4, F4, lfs⟩ := (hI _ _ _).mp h
    simp only [gName, List.set_cons_zero, List.set_cons_succ]
    have hX : ∀ l, (l ≠ u ∧ l ≠ lf) → l ≠ u := fun l h => h.1
    refine seq_cut (fun σ H5 => ∃ m : Nat, σ = [some (.ref u), some (.int kd), some (.ref lf), some (.int (0 + (i : Int))), some (.int room), some (.int few), some (.int (m : Int)), o7, o8] ∧ SameX u H4 H5 ∧ UrnAt H5 u ∧ 1 ≤ m ∧ m ≤ 4) (fun N hN => ?_) ?_
    · simp! [spDraw]
      refine ⟨u4, by decide, by decide, fun r H5 r0 r4 s5 u5 => ?_⟩
      obtain ⟨m, rfl⟩ : ∃ m : Nat, r = (m : Int) := ⟨r.toNat, by omega⟩
      exact hN _ _ ⟨m + 1, by rw [show (1 : Int) + (m : Int) = ((m + 1 : Nat) : Int) by omega], s5, u5, by omega, by omega⟩
    rintro σ H5 ⟨m, rfl, s5, u5, m1, m4⟩
    refine seq_cut (fun σ H6 => ∃ (lq : Addr) (ys : List V) (q : List Rat), σ = [some (.ref u), some (.int kd), some (.ref lf), some (.int (0 + (i : Int))), some (.int room), some (.int few), some (.int (m : Int)), some (.ref lq), o8] ∧ SameX u H4 H6 ∧ UrnAt H6 u ∧ LsX u H6 lq ys q ∧ Fct q ∧ FBits q ∧ lq ≠ lf) (fun N hN => ?_) ?_
    · subst_eqs
      exact ⟨u, kd, rfl, u5, hk, fun r ys q H6 s6 u6 X6 fq bq fr => hN _ _ ⟨r, ys, q, rfl, s5.trans s6, u6, X6, fq, bq, fun z => by rw [z, s5 _ _ e4 lfu] at fr; cases fr⟩⟩
    clear s5 u5
    rintro σ H6 ⟨lq, ys, q, rfl, s6, u6, X6, fq, bq, lqf⟩
    have ly := X6.nums.length
    have lq3 := (fct_len fq).1
    have e6 := s6 _ _ e4 lfu
    have p6 := p4.samex hX s6 u4
    have lts := p6.length
    refine seq_cut (fun σ H7 => σ = [some (.ref u), some (.int kd), some (.ref lf), some (.int (0 + (i : Int))), some (.int room), some (.int few), some (.int (m : Int)), some (.ref lq), some (.int ((q.length - 1 : Nat) : Int))] ∧ H7 = H6) (fun N hN => ?_) ?_
    · subst_eqs
      exact ⟨_, .inl (SqL.of X6.at'), hN _ _ ⟨by rw [show ((ys.length : Int) - 1) = ((q.length - 1 : Nat) : Int) by omega], rfl⟩⟩
    rintro σ H7 ⟨rfl, rfl⟩
    subst_eqs
    have i7 : i < 7 := by omega
    refine ⟨⟨_, SqL.of e6⟩, fun D hD => ?_⟩
    refine cw_list ts (fun j σ H8 => ∃ o1 o2, σ = [o1, o2] ∧ Same H7 H8 ∧ ∃ rs : List Addr, H8 D = some (.lst (rs.map V.ref)) ∧ Rws H7 rs ((fs.take j).map (·.1))) ⟨_, _, rfl, Same.new hD _, [], upd_same, .nil⟩ (by rintro j σ H8 _ ⟨_, _, _, s8, _⟩; exact SqL.of (s8 _ _ e6)) ?_ ?_
    · rintro j x σ H8 hx ⟨o1, o2, rfl, s8, rs, e8, R8⟩
      have hj := (List.getElem?_eq_some_iff.mp hx).1
      obtain ⟨p, l, xs, L, m', rfl, ef, hp, hl, nL, _⟩ := p6.get hx
      subst_eqs
      refine ⟨_, SqT.of (s8 _ _ hp), rfl, _, _, rfl, _, _, rfl, rfl, ?_⟩
      have lr := R8.length
      rw [List.length_map, List.length_take] at lr
      refine CompN.mk hj e8 (len_ok (by rw [List.length_map]; omega)) ⟨_, _, rfl, s8.over hD _, rs ++ [l], ?_, ?_⟩
      · rw [upd_same, List.map_append]; rfl
      · rw [take_snoc_get ef, List.map_append]
        exact R8.append (.cons hl nL .nil)
    · rintro σ H8 ⟨o1, o2, rfl, s8, rs, e8, R8⟩
      rw [lts, List.take_length] at R8
      refine ⟨lq, ys, q, D, rs, _, rfl, s8 _ _ X6.at', X6.nums.mono s8.tups, rfl, SqL.of e8, R8.same s8, ?_⟩
      have s48 := s4.trans (s6.trans (Same.x s8 u))
      have u8 := Same.urn s8 u6
      have e8' := s8 _ _ e6
      have p8 := p6.same s8
      have stay : I (i + 1) [some (.ref u), some (.int kd), some (.ref lf), some (.int (0 + (i : Int))), some (.int room), some (.int few), some (.int (m : Int)), some (.ref lq), some (.int ((q.length - 1 : Nat) : Int))] H8 := (hI _ _ _).mpr ⟨_, _, _, _, room, few, ts, fs, rfl, s48, u8, e8', p8, F4, by omega⟩
      have mo : IntMulOk ((q.length - 1 : Nat) : Int) (m : Int) := mulOk (m := 10) (n := 10) (by rw [Int.natAbs_natCast]; omega) (by rw [Int.natAbs_natCast]; omega) (by decide)
      refine ⟨_, rfl, ite2 (fun hin => ⟨mo, ite2 (fun h1 => ite2 (fun h2 => ?_) (fun _ => stay)) (fun _ => stay)⟩) (fun _ => stay)⟩
      have nin : q ∉ fs.map (·.1) := fun z => by
        rw [Bool.not_eq_true', List.any_eq_false] at hin
        exact hin q z (by simp)
      refine ⟨mo, .inl ⟨_, SqL.of e8'⟩, small2, fun p hp => ?_⟩
      obtain ⟨H9, y9, S9, g9, u9, _⟩ := new_u (.tup [.ref lq, .int (m : Int)]) hp u8
      rw [y9]
      have e9 := S9 _ _ e8'
      refine ⟨ts, e9, len_ok (by omega), (hI _ _ _).mpr ⟨_, _, _, _, room - (((q.length - 1 : Nat) * m : Nat) : Int), few - ((q.length - 1 : Nat) : Int), ts ++ [.ref p], fs ++ [(q, m)], by rw [Int.natCast_mul], (s48.trans (Same.x S9 u)).over flf _, u9.other lfu, upd_same, ?_, F4.add fq bq m1 m4 nin (by rw [Int.natCast_mul]; exact h1) h2, by rw [List.length_append, List.length_singleton]; omega⟩⟩
      have plf : p ≠ lf := (ne_of_none e8' hp).symm
      exact Prts.snoc (by rw [upd_ne plf]; exact g9) (by rw [upd_ne lqf]; exact S9 _ _ (s8 _ _ X6.at')) ((X6.nums.mono (s8.trans S9).tups).mono (TupS.lst e9)) ⟨X6.au, lqf⟩ ((p8.same S9).over e9 fun l hl => hl.2)
  rintro σ H3 ⟨i, h⟩
  obtain ⟨o3, o6, o7, o8, room, few, ts, fs, rfl, s3, u3, e3, p3, F3, _⟩ := (hI _ _ _).mp h
  subst_eqs
  exact k lf ts fs H3 s3 u3 lfu e3 p3 F3.tld
end
theorem qpTk {l : List Rat} {m : Nat} (t : IsTl l m) : qp (l.take m) = qp l := Pf.ext fun k => aQ_take t k
theorem Tld.take {fs : List (List Rat × Nat)} (T : ∀ x ∈ fs, FOk1 x) (i : Nat) : ∀ x ∈ fs.take i, FOk1 x := fun x hx => T x (List.mem_of_mem_take hx)
theorem ne_take : ∀ (fs : List (List Rat × Nat)) (i j : Nat), nE (fs.take i) j ≤ nE fs j
  | [], i, j => by simp
  | x :: r, 0, j => Nat.zero_le _
  | x :: r, i + 1, j => by
    have := ne_take r i j
    show _ + nE (r.take i) j ≤ _ + nE r j
    omega
theorem Tld.e6 {fs : List (List Rat × Nat)} (T : Tld fs) (j : Nat) : nE fs (j + 1) ≤ 6 := by
  have := T.aj j
  have := na_le fs (j + 1)
  omega
theorem p60 {n : Nat} (h : n ≤ 16) : 60 ^ n < 2 ^ 100 := Nat.lt_of_le_of_lt (Nat.pow_le_pow_right (by decide) h) (by decide)
structure MdE (fs : List (List Rat × Nat)) (i j : Nat) (L : List Rat) : Prop where
  tl : IsTl L L.length
  e : qp L = eP (pfs (fs.take i)) j
theorem MdE.len {fs : List (List Rat × Nat)} {i j : Nat} {L : List Rat} (ok : ∀ x ∈ fs, FOk1 x) (h : MdE fs i j L) : L.length = nE (fs.take i) j + 1 := by
  have m := mon_e (Tld.take ok i) j
  rw [← h.e] at m
  have g2 : nE (fs.take i) j < L.length := Classical.byContradiction fun z => by
    have := m.ld
    rw [qp_dg L _ (by omega)] at this
    exact absurd this (by decide)
  rcases Nat.lt_or_ge (nE (fs.take i) j + 1) L.length with y | y
  · exfalso
    have h1 := List.getElem?_eq_getElem (l := L) (i := L.length - 1) (by omega)
    refine h.tl.last (by omega) _ h1 ?_
    have h2 := m.dg (L.length - 1) (by omega)
    have h3 : aQ L (L.length - 1) = 0 := h2
    unfold aQ at h3
    rw [h1] at h3
    exact h3
  · omega
theorem MdE.ov {fs : List (List Rat × Nat)} {i j : Nat} {L : List Rat} (ok : ∀ x ∈ fs, FOk1 x) (h : MdE fs i j L) : ∀ q ∈ L, OvB (60 ^ nE (fs.take i) j) (12 * nE (fs.take i) j + 1) q := by
  have m := mon_e (Tld.take ok i) j
  rw [← h.e] at m
  exact ovp_qp m.ov
theorem MdE.all {fs : List (List Rat × Nat)} {j : Nat} {L : List Rat} (ok : ∀ x ∈ fs, FOk1 x) (h : MdE fs fs.length j L) : L = eL fs j := by
  have e := h.e
  rw [List.take_length] at e
  refine tl_ext h.tl (eL_tl ok j) fun k => ?_
  have h1 := congrArg (fun z => Pf.f z k) e
  have h2 := congrArg (fun z => Pf.f z k) (eL_qp ok j)
  exact h1.trans h2.symm
section
variable {P : Program} {w : World} {K : PySem.W.Frag} {mg : Str → Option Value} {base : Heap}
def spLDue (K : PySem.W.Frag) : Sp := fun vs H Q _ => ∃ (a : Addr) (ts : List V) (fs : List (List Rat × Nat)) (X : Addr → Prop), vs = [.ref a] ∧ H a = some (.lst ts) ∧ Prts X H ts fs ∧ Tld fs ∧ ∀ r us H', Same H H' → H r = none → H' r = some (.lst us) → Prts (fun l => H l = none ∧ l ≠ r) H' us (dueL fs 4) → Q (.ref r) H'
abbrev s__law_due : Stmt := top 61
theorem sc__law_due : FnScope ["_law_factors", "_law_found", "_law_often", "_law_made", "_law_factor", "_law_many"] ["_law_factors"] (defScope s__law_due) := by and_intros
set_option maxHeartbeats 0 in
theorem ok__law_due {f f1 : Addr} (d : Df K mg "_law_due" s__law_due ["_law_factors"] f) (G__law_poly_times : Def P w K mg base CX0 3 "_law_poly_times" f1 ["_law_p", "_law_q"] (spLMulG K)) (n_range : mg "range" = none) (n_len : mg "len" = none) : Def P w K mg base CX0 4 "_law_due" f ["_law_factors"] (spLDue K) := by
  refine d.ok (N := ["_law_factors", "_law_found", "_law_often", "_law_made", "_law_factor", "_law_many"]) sc__law_due (by rintro vs H Q E ⟨_, _, _, _, h, _⟩; rw [h]; rfl) (fun cdv A outer s H vs Q E hr h => ?_)
  obtain ⟨a, ts, fs, X, rfl, ea, pr, T, k⟩ := h
  refine ⟨_, (pss_cons (ps_set (i := 1) sc__law_due.nd rfl (Or.inl rfl) (pe_lst pa_nil))
      (pss_cons (ps_for PassesOwn.never rfl (pi_range2 rfl n_range (pa_cons pe_int (pa_cons pe_int pa_nil))) (pg_name (i := 2) sc__law_due.nd rfl (Or.inl rfl)) (pss_cons (ps_set (i := 3) sc__law_due.nd rfl (Or.inl rfl) (pe_lst (pa_cons (pe_tup (pa_cons pe_int (pa_cons pe_int pa_nil))) pa_nil)))
      (pss_cons (ps_for PassesOwn.never rfl (pi_list (pv 0)) (show PG _ _ (gTup K 2 (gCons (gName 4) (gCons (gName 5) gNil))) from by (refine pg_tup (n := 2) ?_ ?_ ?_ ?_; rfl; (refine pgs_cons ?_ ?_ ?_; (exact (pg_name (i := 4) sc__law_due.nd rfl (Or.inl rfl))); (refine pgs_cons ?_ ?_ ?_; (exact (pg_name (i := 5) sc__law_due.nd rfl (Or.inl rfl))); (exact pgs_nil); rfl); rfl); rfl; rfl)) (pss_one (ps_if (pt_cmpR op_eq (pv 5) (pv 2) (nomark _)) (pss_one (ps_set (i := 3) sc__law_due.nd rfl (Or.inl rfl) (pe_def G__law_poly_times hr (pa_cons (pv 3) (pa_cons (pv 4) pa_nil)) pass0))) pss_nil)))
      (pss_one (ps_if (pt_cmpR op_gt (pe_callB call_len_seq rfl n_len (by decide +kernel) (pa_cons (pv 3) pa_nil)) pe_int (nomark _)) (pss_one (ps_expr (pe_bm PySem.F.plainAttrs_list PySem.F.slot_list_append PySem.F.type_list_append mt_append (pv 1) (pa_cons (pe_tup (pa_cons (pv 3) (pa_cons (pv 2) pa_nil))) pa_nil)))) pss_nil)))))
      (pss_one (ps_ret (pv 1))))), ?_⟩
  rw [show start ["_law_factors", "_law_found", "_law_often", "_law_made", "_law_factor", "_law_many"] [.ref a] = [some (.ref a), none, none, none, none, none] from rfl]
  have lts := pr.length
  refine seq_cut (fun σ H1 => ∃ lf, σ = [some (.ref a), some (.ref lf), none, none, none, none] ∧ Same H H1 ∧ H lf = none ∧ H1 lf = some (.lst [])) (fun N hN => ?_) ?_
  · subst_eqs
    exact ⟨by decide, fun p hp => hN _ _ ⟨p, rfl, Same.new hp _, hp, upd_same⟩⟩
  rintro σ H1 ⟨lf, rfl, S1, flf, e1⟩
  obtain ⟨I, hI⟩ : ∃ I : Nat → L2.St → Hp → Prop, ∀ j σ H2, I j σ H2 ↔ ∃ (o2 o3 o4 o5 : Option V) (us : List V), σ = [some (.ref a), some (.ref lf), o2, o3, o4, o5] ∧ Same H H2 ∧ H2 lf = some (.lst us) ∧ Prts (fun l => H l = none ∧ l ≠ lf) H2 us (dueL fs j) := ⟨_, fun _ _ _ => Iff.rfl⟩
  refine seq_cut (fun σ H2 => I 4 σ H2) (fun N hN => ?_) ?_
  · refine ⟨1, 5, rfl, ⟨by decide, by decide, by decide, by decide⟩, for_range I ((hI _ _ _).mpr ⟨_, _, _, _, [], rfl, S1, e1, .nil⟩) ?_ (fun σ H2 h => hN _ _ h)⟩
    rintro j σ H2 hj h
    obtain ⟨o2, o3, o4, o5, us, rfl, S2, e2, p2⟩ := (hI _ _ _).mp h
    have lus := p2.length
    have dl := due_len fs j
    simp only [gName, List.set_cons_zero, List.set_cons_succ]
    rw [show (1 : Int) + (j : Int) = ((j + 1 : Nat) : Int) by omega]
    refine seq_cut (fun σ H3 => ∃ lm ms, σ = [some (.ref a), some (.ref lf), some (.int ((j + 1 : Nat) : Int)), some (.ref lm), o4, o5] ∧ Same H2 H3 ∧ H2 lm = none ∧ H3 lm = some (.lst ms) ∧ Nums H3 ms [1]) (fun N hN => ?_) ?_
    · subst_eqs
      refine ⟨small2, fun p0 h0 => ⟨small1, fun p1 h1 => ?_⟩⟩
      have X0 := Same.new h0 (.tup [.int 1, .int 1])
      have X1 := Same.new h1 (.lst [.ref p0])
      exact hN _ _ ⟨p1, _, rfl, X0.trans X1, X0.free h1, upd_same, .cons (X1 _ _ (show upd H2 p0 (.tup [.int 1, .int 1]) p0 = some (.tup (numV 1)) from upd_same)) .nil⟩
    rintro σ H3 ⟨lm, ms, rfl, S3, flm, em, nm⟩
    have t1 : IsTl [(1 : Rat)] [(1 : Rat)].length := tl_of_last fun x hx => by cases hx; decide
    have q1 : qp [(1 : Rat)] = 1 := Pf.ext fun k => by
      rw [pf_one]
      match k with
      | 0 => rfl
      | k + 1 => rw [if_neg (by omega)]; rfl
    obtain ⟨J, hJ⟩ : ∃ J : Nat → L2.St → Hp → Prop, ∀ i σ H4, J i σ H4 ↔ ∃ (o4 o5 : Option V) (lm : Addr) (ms : List V) (L : List Rat), σ = [some (.ref a), some (.ref lf), some (.int ((j + 1 : Nat) : Int)), some (.ref lm), o4, o5] ∧ Same H2 H4 ∧ H2 lm = none ∧ H4 lm = some (.lst ms) ∧ Nums H4 ms L ∧ MdE fs i (j + 1) L := ⟨_, fun _ _ _ => Iff.rfl⟩
    refine seq_cut (fun σ H4 => J ts.length σ H4) (fun N hN => ?_) ?_
    · refine ⟨_, rfl, a, rfl, ⟨_, SqL.of ((S2.trans S3) _ _ ea)⟩, for_list (xs := ts) J ((hJ _ _ _).mpr ⟨_, _, lm, ms, [1], rfl, S3, flm, em, nm, ⟨t1, q1⟩⟩) (by intro i σ H4 _ h; obtain ⟨_, _, _, _, _, _, s4, _⟩ := (hJ _ _ _).mp h; exact SqL.of ((S2.trans s4) _ _ ea)) ?_ (fun σ H4 h => hN _ _ h)⟩
      intro i x σ H4 hx h
      obtain ⟨o4, o5, lm, ms, L, rfl, S4, flm, em, nm, M⟩ := (hJ _ _ _).mp h
      have hi := (List.getElem?_eq_some_iff.mp hx).1
      obtain ⟨p, l, xs, q, m, rfl, ef, hp, hl, nq, _⟩ := (pr.same (S2.trans S4)).get hx
      have F := T.ok _ (List.mem_of_getElem? ef)
      have tk : fs.take (i + 1) = fs.take i ++ [(q, m)] := take_snoc_get ef
      subst_eqs
      refine ⟨_, SqT.of hp, rfl, _, _, rfl, _, _, rfl, rfl, ?_⟩
      refine ⟨rfl, ite2 (fun hm => ?_) (fun hm => ?_)⟩
      · have hm : m = j + 1 := by have := V.int.inj hm; omega
        obtain ⟨hl3, _⟩ := fct_len F.fc
        have hl3 : q.length = 2 ∨ q.length = 3 := hl3
        obtain ⟨e, he, ov⟩ := F.ov
        have he : e + q.length ≤ 12 * (q.length - 1) := he
        have e6 := T.e6 j
        have nt := ne_take fs i (j + 1)
        have lL := M.len T.ok
        have b1 : 0 < 60 ^ nE (fs.take i) (j + 1) := Nat.pow_pos (by decide)
        have b2 : 0 < 60 ^ (q.length - 1) := Nat.pow_pos (by decide)
        refine ⟨lm, l, ms, xs, L, q, _, _, _, e, 100, rfl, SqL.of em, SqL.of hl, nm, nq, M.ov T.ok, ov, b1, b2, by rw [← Nat.pow_add]; exact p60 (by omega), by decide, by decide, by omega, by omega, by omega, fun m' r zs H' tm _ s' f' e' n' => ?_⟩
        refine (hJ _ _ _).mpr ⟨_, _, r, zs, _, rfl, S4.trans s', S4.free f', e', n', tl_take tm, ?_⟩
        rw [qpTk tm, qp_mul, M.e, tk, ep_app, if_pos hm]
      · have hm : m ≠ j + 1 := fun z => hm (by rw [z])
        refine (hJ _ _ _).mpr ⟨_, _, lm, ms, L, rfl, S4, flm, em, nm, M.tl, ?_⟩
        rw [M.e, tk, ep_app, if_neg hm]
    rintro σ H4 h
    obtain ⟨o4, o5, lm, ms, L, rfl, S4, flm, em, nm, M⟩ := (hJ _ _ _).mp h
    rw [lts] at M
    have eL' := M.all T.ok
    subst eL'
    have ll := nm.length
    rw [eL_len] at ll
    have e4 := S4 _ _ e2
    have p4 := p2.same S4
    subst_eqs
    refine ⟨_, .inl (SqL.of em), ite2 (fun hgt => ?_) (fun hgt => ?_)⟩
    · refine ⟨.inl ⟨_, SqL.of e4⟩, small2, fun p hp => ?_⟩
      have X1 := Same.new hp (.tup [.ref lm, .int ((j + 1 : Nat) : Int)])
      have g1 : upd H4 p (.tup [.ref lm, .int ((j + 1 : Nat) : Int)]) p = some (.tup [.ref lm, .int ((j + 1 : Nat) : Int)]) := upd_same
      have e5 := X1 _ _ e4
      have em5 := X1 _ _ em
      have nm5 := nm.mono X1.tups
      have p5 := p4.same X1
      have plf : p ≠ lf := (ne_of_none e4 hp).symm
      have lmf : lm ≠ lf := (ne_of_none e2 flm).symm
      have SS := S2.trans (S4.trans X1)
      generalize upd H4 p (.tup [.ref lm, .int ((j + 1 : Nat) : Int)]) = H5 at *
      refine ⟨us, e5, len_ok (by omega), (hI _ _ _).mpr ⟨_, _, _, _, us ++ [.ref p], rfl, SS.over flf _, upd_same, ?_⟩⟩
      show Prts _ _ _ (dueL fs j ++ _)
      rw [if_neg (by omega)]
      exact Prts.snoc (by rw [upd_ne plf]; exact g1) (by rw [upd_ne lmf]; exact em5) (nm5.mono (TupS.lst e5)) ⟨S2.free flm, lmf⟩ (p5.over e5 fun l hl => hl.2)
    · refine (hI _ _ _).mpr ⟨_, _, _, _, us, rfl, S2.trans S4, e4, ?_⟩
      show Prts _ _ _ (dueL fs j ++ _)
      rw [if_pos (by omega), List.append_nil]; exact p4
  rintro σ H2 h
  obtain ⟨o2, o3, o4, o5, us, rfl, S2, e2, p2⟩ := (hI _ _ _).mp h
  subst_eqs
  exact k lf us H2 S2 flf e2 p2
end
section
variable {P : Program} {w : World} {K : PySem.W.Frag} {mg : Str → Option Value} {base : Heap}
def told4 (j i : Nat) : List V := [V.bl (decide (j = i)), V.bl (decide (j = i + 1)), V.bl (decide (j = i + 2)), V.bl (decide (j = i + 3))]
abbrev s__law_which : Stmt := top 58
theorem sc__law_which : FnScope ["_law_e", "_law_told", "_law_names"] ["_law_e"] (defScope s__law_which) := by and_intros
set_option maxHeartbeats 0 in
theorem ok__law_which {a : CAd} {f : Addr} (d : Df K mg "_law_which" s__law_which ["_law_e"] f) (X : XTx K mg a) (n_isinstance : mg "isinstance" = none) (n_ValueError : mg "ValueError" = none) : DefX P w K mg base 1 "_law_which" f ["_law_e"] (spWhich K a) := by
  obtain ⟨x_NoFraction, x_NoPolynomial, x_NoStretch, x_NoRow, x_NoPair, x_NoBack, x_NoForm, x_NoParts, x_NoDegree, x_NoSteps, x_NoBox, x_NoGain, x_NoText, x_NoLine, x_NoName, x_NoDeed⟩ := X
  refine d.okX (N := ["_law_e", "_law_told", "_law_names"]) sc__law_which (fun vs H Q E ⟨u, q, j, h, _⟩ => by rw [h]; rfl) (fun cdv A outer s H vs Q E hr h => ?_)
  obtain ⟨e, C, j, rfl, kt, hj, he, k⟩ := h
  refine ⟨_, (pss_cons (ps_set (i := 1) sc__law_which.nd rfl (Or.inl rfl) (pe_lst (pa_cons (pe_callB call_isinst rfl n_isinstance (by decide +kernel) (pa_cons (pv 0) (pa_cons (pe_glob (v := .ref _) rfl x_NoFraction.m rfl) pa_nil))) (pa_cons (pe_callB call_isinst rfl n_isinstance (by decide +kernel) (pa_cons (pv 0) (pa_cons (pe_glob (v := .ref _) rfl x_NoPolynomial.m rfl) pa_nil))) (pa_cons (pe_callB call_isinst rfl n_isinstance (by decide +kernel) (pa_cons (pv 0) (pa_cons (pe_glob (v := .ref _) rfl x_NoStretch.m rfl) pa_nil))) (pa_cons (pe_callB call_isinst rfl n_isinstance (by decide +kernel) (pa_cons (pv 0) (pa_cons (pe_glob (v := .ref _) rfl x_NoRow.m rfl) pa_nil))) pa_nil))))))
      (pss_cons (ps_set (i := 1) sc__law_which.nd rfl (Or.inl rfl) (pe_op op_cat (pv 1) (pe_lst (pa_cons (pe_callB call_isinst rfl n_isinstance (by decide +kernel) (pa_cons (pv 0) (pa_cons (pe_glob (v := .ref _) rfl x_NoPair.m rfl) pa_nil))) (pa_cons (pe_callB call_isinst rfl n_isinstance (by decide +kernel) (pa_cons (pv 0) (pa_cons (pe_glob (v := .ref _) rfl x_NoBack.m rfl) pa_nil))) (pa_cons (pe_callB call_isinst rfl n_isinstance (by decide +kernel) (pa_cons (pv 0) (pa_cons (pe_glob (v := .ref _) rfl x_NoForm.m rfl) pa_nil))) (pa_cons (pe_callB call_isinst rfl n_isinstance (by decide +kernel) (pa_cons (pv 0) (pa_cons (pe_glob (v := .ref _) rfl x_NoParts.m rfl) pa_nil))) pa_nil)))))))
      (pss_cons (ps_set (i := 1) sc__law_which.nd rfl (Or.inl rfl) (pe_op op_cat (pv 1) (pe_lst (pa_cons (pe_callB call_isinst rfl n_isinstance (by decide +kernel) (pa_cons (pv 0) (pa_cons (pe_glob (v := .ref _) rfl x_NoDegree.m rfl) pa_nil))) (pa_cons (pe_callB call_isinst rfl n_isinstance (by decide +kernel) (pa_cons (pv 0) (pa_cons (pe_glob (v := .ref _) rfl x_NoSteps.m rfl) pa_nil))) (pa_cons (pe_callB call_isinst rfl n_isinstance (by decide +kernel) (pa_cons (pv 0) (pa_cons (pe_glob (v := .ref _) rfl x_NoBox.m rfl) pa_nil))) (pa_cons (pe_callB call_isinst rfl n_isinstance (by decide +kernel) (pa_cons (pv 0) (pa_cons (pe_glob (v := .ref _) rfl x_NoGain.m rfl) pa_nil))) pa_nil)))))))
      (pss_cons (ps_set (i := 1) sc__law_which.nd rfl (Or.inl rfl) (pe_op op_cat (pv 1) (pe_lst (pa_cons (pe_callB call_isinst rfl n_isinstance (by decide +kernel) (pa_cons (pv 0) (pa_cons (pe_glob (v := .ref _) rfl x_NoText.m rfl) pa_nil))) (pa_cons (pe_callB call_isinst rfl n_isinstance (by decide +kernel) (pa_cons (pv 0) (pa_cons (pe_glob (v := .ref _) rfl x_NoLine.m rfl) pa_nil))) (pa_cons (pe_callB call_isinst rfl n_isinstance (by decide +kernel) (pa_cons (pv 0) (pa_cons (pe_glob (v := .ref _) rfl x_NoName.m rfl) pa_nil))) (pa_cons (pe_callB call_isinst rfl n_isinstance (by decide +kernel) (pa_cons (pv 0) (pa_cons (pe_glob (v := .ref _) rfl x_NoDeed.m rfl) pa_nil))) pa_nil)))))))
      (pss_cons (ps_set (i := 2) sc__law_which.nd rfl (Or.inl rfl) pe_str)
      (pss_cons (ps_if (PW.pt (pw_or (pt_cmpR op_ne (pe_bm PySem.F.plainAttrs_list PySem.F.slot_list_count PySem.F.type_list_count mt_count (pv 1) (pa_cons pe_bl pa_nil)) pe_int (nomark _)) (pw_or1 (pt_not (pt_val (pe_callB call_isinst rfl n_isinstance (by decide +kernel) (pa_cons (pv 0) (pa_cons (pe_bltn (v := .ty "ValueError") rfl n_ValueError (by decide +kernel) rfl) pa_nil)))))))) (pss_one (ps_ret pe_str)) pss_nil)
      (pss_one (ps_ret (pe_ix ix_list (pe_bm PySem.F.plainAttrs_str PySem.F.slot_str_split PySem.F.type_str_split mt_split (pv 2) (pa_cons pe_str pa_nil)) (pe_bm PySem.F.plainAttrs_list PySem.F.slot_list_index PySem.F.type_list_index mt_index (pv 1) (pa_cons pe_bl pa_nil)) (fun _ _ => rfl)))))))))), ?_⟩
  rw [show start ["_law_e", "_law_told", "_law_names"] [.ref e] = [some (.ref e), none, none] from rfl]
  have ty : ∀ {H' : Hp}, Same H H' → TyX K H' (.ref e) (.ref C) := fun sm => .exc (sm _ _ he) kt.ec
  refine seq_cut (fun σ H1 => ∃ l, σ = [some (.ref e), some (.ref l), none] ∧ Same H H1 ∧ H1 l = some (.lst (told4 j 0))) (fun N hN => ?_) ?_
  · subst_eqs
    exact ⟨trivial, _, ty (Same.refl _), _, kt.k_NoFraction, trivial, _, ty (Same.refl _), _, kt.k_NoPolynomial, trivial, _, ty (Same.refl _), _, kt.k_NoStretch, trivial, _, ty (Same.refl _), _, kt.k_NoRow, by decide, fun l h => hN _ _ ⟨l, rfl, Same.new h _, upd_same⟩⟩
  rintro σ H1 ⟨l1, rfl, sA1, eA1⟩
  refine seq_cut (fun σ H2 => ∃ l, σ = [some (.ref e), some (.ref l), none] ∧ Same H H2 ∧ H2 l = some (.lst (told4 j 0 ++ told4 j 4))) (fun N hN => ?_) ?_
  · subst_eqs
    exact ⟨trivial, _, ty sA1, _, kt.k_NoPair, trivial, _, ty sA1, _, kt.k_NoBack, trivial, _, ty sA1, _, kt.k_NoForm, trivial, _, ty sA1, _, kt.k_NoParts, by decide, fun p hp => ⟨_, (upd_ne (ne_of_none eA1 hp)).trans eA1, _, upd_same, (show (8 : Nat) ≤ sizeLine from by decide), fun l h => hN _ _ ⟨l, rfl, (sA1.trans (Same.new hp _)).trans (Same.new h _), upd_same⟩⟩⟩
  rintro σ H2 ⟨l2, rfl, sA2, eA2⟩
  refine seq_cut (fun σ H2 => ∃ l, σ = [some (.ref e), some (.ref l), none] ∧ Same H H2 ∧ H2 l = some (.lst (told4 j 0 ++ told4 j 4 ++ told4 j 8))) (fun N hN => ?_) ?_
  · subst_eqs
    exact ⟨trivial, _, ty sA2, _, kt.k_NoDegree, trivial, _, ty sA2, _, kt.k_NoSteps, trivial, _, ty sA2, _, kt.k_NoBox, trivial, _, ty sA2, _, kt.k_NoGain, by decide, fun p hp => ⟨_, (upd_ne (ne_of_none eA2 hp)).trans eA2, _, upd_same, (show (12 : Nat) ≤ sizeLine from by decide), fun l h => hN _ _ ⟨l, rfl, (sA2.trans (Same.new hp _)).trans (Same.new h _), upd_same⟩⟩⟩
  rintro σ H3 ⟨l3, rfl, sA3, eA3⟩
  refine seq_cut (fun σ H2 => ∃ l, σ = [some (.ref e), some (.ref l), none] ∧ Same H H2 ∧ H2 l = some (.lst (told4 j 0 ++ told4 j 4 ++ told4 j 8 ++ told4 j 12))) (fun N hN => ?_) ?_
  · subst_eqs
    exact ⟨trivial, _, ty sA3, _, kt.k_NoText, trivial, _, ty sA3, _, kt.k_NoLine, trivial, _, ty sA3, _, kt.k_NoName, trivial, _, ty sA3, _, kt.k_NoDeed, by decide, fun p hp => ⟨_, (upd_ne (ne_of_none eA3 hp)).trans eA3, _, upd_same, (show (16 : Nat) ≤ sizeLine from by decide), fun l h => hN _ _ ⟨l, rfl, (sA3.trans (Same.new hp _)).trans (Same.new h _), upd_same⟩⟩⟩
  rintro σ H4 ⟨l4, rfl, sA4, eA4⟩
  have eT : H4 l4 = some (.lst (told j)) := eA4
  clear eA4
  subst_eqs
  refine ⟨.inl ⟨_, SqL.of eT⟩, _, eT, rfl, told_flat j hj, rfl, ?_⟩
  rw [told_count j hj]
  refine ite2 (fun hh => absurd rfl hh) (fun _ => ?_)
  refine ⟨trivial, _, ty sA4, _, kt.kV, ?_⟩
  refine ite2 (fun hh => absurd hh (by decide)) (fun _ => ?_)
  refine ⟨by decide +kernel, by decide +kernel, by decide +kernel, by decide +kernel, by rw [parts_names]; decide, fun l hl => ?_⟩
  have eT' : (upd H4 l (.lst ((partsOf "fraction polynomial stretch row pair back form parts degree steps box gain text line name deed" " ").map V.str))) l4 = some (.lst (told j)) := (upd_ne (ne_of_none eT hl)).trans eT
  refine ⟨.inl ⟨_, SqL.of eT'⟩, _, eT', rfl, told_flat j hj, _, told_idx j hj, _, SqL.of upd_same, _, name_at hj, ?_⟩
  exact k _ (sA4.trans (Same.new hl _))
end
def dPt (x : List Rat × Nat) : D := .tup [dList x.1, .v (.int (x.2 : Int))]
def dPts (fs : List (List Rat × Nat)) : D := .lst (fs.map dPt)
theorem Prts.isDs {K : PySem.W.Frag} {X : Addr → Prop} {H : Hp} : ∀ {vs : List V} {fs : List (List Rat × Nat)}, Prts X H vs fs → IsDs K H vs (fs.map dPt)
  | _, _, .nil => .nil
  | _, _, .cons h e n _ t => .cons (.tup (SqT.of h) (.cons (isD_list (SqL.of e) n) (.cons (.v rfl) .nil))) t.isDs
theorem eqD_pt (x : List Rat × Nat) : eqD (dPt x) (dPt x) = true := by
  unfold dPt
  rw [eqD, eqDs, eqDs, eqDs, eqD_list]
  simp [eqD, eqV]
theorem eqDs_pts : ∀ fs : List (List Rat × Nat), eqDs (fs.map dPt) (fs.map dPt) = true
  | [] => by simp [eqDs]
  | x :: r => by rw [List.map_cons, eqDs, eqD_pt, eqDs_pts r]; rfl
theorem eqD_pts (fs : List (List Rat × Nat)) : eqD (dPts fs) (dPts fs) = true := by unfold dPts; rw [eqD, eqDs_pts]
theorem dp_pt (x : List Rat × Nat) : dpD (dPt x) ≤ 3 := by
  unfold dPt
  have := dp_list x.1
  rw [dpD, dpDs, dpDs, dpDs, dpD]; omega
theorem dpDs_pts : ∀ fs : List (List Rat × Nat), dpDs (fs.map dPt) ≤ 3
  | [] => by simp [dpDs]
  | x :: r => by
    have := dpDs_pts r
    have := dp_pt x
    rw [List.map_cons, dpDs]; omega
theorem dp_pts (fs : List (List Rat × Nat)) : dpD (dPts fs) ≤ 60 := by
  unfold dPts
  rw [dpD]
  have := dpDs_pts fs
  omega
section
variable {P : Program} {w : World} {K : PySem.W.Frag} {mg : Str → Option Value} {base : Heap}
def spAreP (K : PySem.W.Frag) : Sp := fun vs H Q _ => ∃ (r : Addr) (ts : List V) (X : Addr → Prop) (ds : List (List Rat × Nat)), vs = [.ref r] ∧ H r = some (.lst ts) ∧ Prts X H ts ds ∧ (∀ x ∈ ds, IsTl x.1 x.1.length ∧ x.1.length ≤ 20 ∧ ∀ q ∈ x.1, BdN 200 q) ∧ ∀ H', Same H H' → Q (.bl true) H'
abbrev s__law_are_parts : Stmt := top 62
theorem sc__law_are_parts : FnScope ["_law_found", "_law_one"] ["_law_found"] (defScope s__law_are_parts) := by and_intros
set_option maxHeartbeats 0 in
theorem ok__law_are_parts {f f1 f2 : Addr} (d : Df K mg "_law_are_parts" s__law_are_parts ["_law_found"] f) (G__law_is_poly : Def P w K mg base CX0 3 "_law_is_poly" f1 ["_law_thing"] (spIsPoly K)) (G__law_whole : Def P w K mg base CX0 1 "_law_whole" f2 ["_law_thing"] spWhole) (n_isinstance : mg "isinstance" = none) (n_list : mg "list" = none) (n_tuple : mg "tuple" = none) (n_len : mg "len" = none) : Def P w K mg base CX0 4 "_law_are_parts" f ["_law_found"] (spAreP K) := by
  refine d.ok (N := ["_law_found", "_law_one"]) sc__law_are_parts (by rintro vs H Q E ⟨_, _, _, _, h, _⟩; rw [h]; rfl) (fun cdv A outer s H vs Q E hr h => ?_)
  obtain ⟨r, ts, X, ds, rfl, er, pr, ok, k⟩ := h
  refine ⟨_, (pss_cons (ps_if (pt_not (pt_val (pe_callB call_isinst rfl n_isinstance (by decide +kernel) (pa_cons (pv 0) (pa_cons (pe_bltn (v := .ty "list") rfl n_list (by decide +kernel) rfl) pa_nil))))) (pss_one (ps_ret pe_bl)) pss_nil)
      (pss_cons (ps_for PassesOwn.never rfl (pi_list (pv 0)) (pg_name (i := 1) sc__law_are_parts.nd rfl (Or.inl rfl)) (pss_one (ps_if (PW.pt (pw_or (pt_not (pt_val (pe_callB call_isinst rfl n_isinstance (by decide +kernel) (pa_cons (pv 1) (pa_cons (pe_bltn (v := .ty "tuple") rfl n_tuple (by decide +kernel) rfl) pa_nil))))) (pw_or (pt_cmpR op_ne (pe_callB call_len_seq rfl n_len (by decide +kernel) (pa_cons (pv 1) pa_nil)) pe_int (nomark _)) (pw_or (pt_not (pt_val (pe_def G__law_is_poly hr (pa_cons (pe_ix ix_tup (pv 1) pe_int (fun _ _ => rfl)) pa_nil) pass0))) (pw_or1 (pt_not (pt_val (pe_def G__law_whole hr (pa_cons (pe_ix ix_tup (pv 1) pe_int (fun _ _ => rfl)) pa_nil) pass0)))))))) (pss_one (ps_ret pe_bl)) pss_nil)))
      (pss_one (ps_ret pe_bl)))), ?_⟩
  rw [show start ["_law_found", "_law_one"] [.ref r] = [some (.ref r), none] from rfl]
  have idr : IsD K H (.ref r) (dPts ds) := .lst (SqL.of er) pr.isDs
  refine seq_cut (fun σ H1 => σ = [some (.ref r), none] ∧ H1 = H) (fun N hN => ?_) ?_
  · subst_eqs
    exact ⟨trivial, _, idr.ty, _, kit_D_list idr, ite2 (fun h => by cases h) (fun _ => hN _ _ ⟨rfl, rfl⟩)⟩
  rintro σ H1 ⟨rfl, rfl⟩
  obtain ⟨I, hI⟩ : ∃ I : Nat → L2.St → Hp → Prop, ∀ i σ H2, I i σ H2 ↔ ∃ o, σ = [some (.ref r), o] ∧ Same H1 H2 := ⟨_, fun _ _ _ => Iff.rfl⟩
  refine seq_cut (fun σ H2 => Same H1 H2) (fun N hN => ?_) ?_
  · refine ⟨_, rfl, r, rfl, ⟨_, SqL.of er⟩, for_list (xs := ts) I ((hI _ _ _).mpr ⟨_, rfl, Same.refl _⟩) (by intro i σ H2 _ h; obtain ⟨_, _, s2⟩ := (hI _ _ _).mp h; exact SqL.of (s2 _ _ er)) ?_ (fun σ H2 h => by obtain ⟨_, _, s2⟩ := (hI _ _ _).mp h; exact hN _ _ s2)⟩
    intro i x σ H2 hx h
    obtain ⟨o, rfl, s2⟩ := (hI _ _ _).mp h
    obtain ⟨p, l, xs, L, m, rfl, ef, hp, hl, nL, _⟩ := (pr.same s2).get hx
    obtain ⟨tl, l20, bq⟩ := ok _ (List.mem_of_getElem? ef)
    have l20 : L.length ≤ 20 := l20
    have ll := nL.length
    have idp : IsD K H2 (.ref p) (dPt (L, m)) := .tup (SqT.of hp) (.cons (isD_list (SqL.of hl) nL) (.cons (.v rfl) .nil))
    subst_eqs
    refine ⟨trivial, _, idp.ty, _, kit_D_tuple idp, ite2 (fun h => by cases h) (fun _ => ⟨_, .inr (SqT.of hp), rfl, ite2 (fun h => absurd rfl h) (fun _ => ?_)⟩)⟩
    refine ⟨_, SqT.of hp, _, rfl, l, xs, L, rfl, hl, nL, fun q hq => Nat.lt_of_lt_of_le (bq q hq).d (pow_le_pow2 (by decide)), by omega, tl, fun H3 s3 => ⟨_, rfl, ite2 (fun h => by cases h) (fun _ => ?_)⟩⟩
    exact ⟨_, SqT.of (s3 _ _ hp), _, rfl, _, rfl, true, rfl, ite2 (fun h => by cases h) (fun _ => (hI _ _ _).mpr ⟨_, rfl, s2.trans s3⟩)⟩
  rintro σ H2 S2
  subst_eqs
  exact k H2 S2
def spSaid6 (K : PySem.W.Frag) : Sp := fun vs H Q _ => ∃ (a : Addr) (xs : List V) (ps : List Rat), vs = [.ref a] ∧ SqL K H a xs ∧ NumsC K H xs ps ∧ (ps = [] → ∀ r H', Same H H' → H' r = some (.tup [.str "refused", .str "polynomial"]) → Q (.ref r) H') ∧ (ps ≠ [] → ∃ (fs : List (List Rat × Nat)) (κ : Rat), Tld fs ∧ κ ≠ 0 ∧ qp ps = pCst κ * fP (pfs fs) ∧ IsTl ps ps.length ∧ ClN 180 ps ∧ ps.length ≤ 15 ∧ ∀ q r ts H', Same H H' → H' q = some (.tup [.str "told", .ref r]) → H r = none → H' r = some (.lst ts) → Prts (fun l => H l = none ∧ l ≠ r) H' ts (dueL fs 4) → Q (.ref q) H')
abbrev s__law_said : Stmt := top 63
theorem sc__law_said : FnScope ["_law_p", "_law_e", "_law_found"] ["_law_p"] (defScope s__law_said) := by and_intros
set_option maxHeartbeats 0 in
theorem ok__law_said {a : CAd} {f fw fg : Addr} (d : Df K mg "_law_said" s__law_said ["_law_p"] f) (G_parted : Def P w K mg base (CXR P w) 5 "parted" fg ["p"] (spParted K a.c_NoPolynomial)) (G__law_which : DefX P w K mg base 1 "_law_which" fw ["_law_e"] (spWhich K a)) (x_RestError : ExT K mg "RestError" a.c_RestError) (kt : Kits K a a.c_NoPolynomial 1) : Def P w K mg base CX0 6 "_law_said" f ["_law_p"] (spSaid6 K) := by
  refine d.ok (N := ["_law_p", "_law_e", "_law_found"]) sc__law_said (by rintro vs H Q E ⟨_, _, _, h, _⟩; rw [h]; rfl) (fun cdv A outer s H vs Q E hr h => ?_)
  obtain ⟨b, xs, ps, rfl, hS, hN, k2, k1⟩ := h
  refine ⟨_, (pss_cons (ps_try (i := 1) (C := a.c_RestError) rfl rfl rfl sc__law_said.nd rfl rfl rfl x_RestError.m (fun E xe pn hx => (pss_one (ps_set (i := 2) sc__law_said.nd rfl (Or.inl rfl) (pe_def G_parted hr (pa_cons (pv 0) pa_nil) hx)))) (fun b => (pss_one (ps_ret (pe_tup (pa_cons pe_str (pa_cons (pe_defX G__law_which (hr.toX.mark _) (pa_cons (pv 1) pa_nil)) pa_nil)))))))
      (pss_one (ps_ret (pe_tup (pa_cons pe_str (pa_cons (pv 2) pa_nil)))))), ?_⟩
  rw [show start ["_law_p", "_law_e", "_law_found"] [.ref b] = [some (.ref b), none, none] from rfl]
  simp! [tTry, spWhich]
  refine ⟨b, xs, ps, rfl, hS, hN, fun p0 => ⟨kt.ex, fun e he => ⟨_, rfl, e, rfl, _, 1, kt, by decide, upd_same, fun H2 s2 => ⟨small2, fun p hp => k2 p0 p _ ((Same.new he _).trans (s2.trans (Same.new hp _))) upd_same⟩⟩⟩, fun pn => ?_⟩
  obtain ⟨fs, κ, T, κ0, eq, tl, cl, l15, k⟩ := k1 pn
  refine ⟨fs, κ, T, κ0, eq, tl, cl, l15, fun r ts H1 s1 f1 e1 p1 => ⟨small2, fun p hp => ?_⟩⟩
  have S := Same.new hp (.tup [.str "told", .ref r])
  exact k p r ts _ (s1.trans S) upd_same f1 (S _ _ e1) (p1.same S)
end
end R
set_option maxRecDepth 100000
local macro_rules | `(tactic| simp_wf) => `(tactic| first | rfl | decide | exact .inl rfl | (intro _; rfl))
namespace R
open PySem L2 PyProof.Rows
theorem due_mem {fs : List (List Rat × Nat)} {x : List Rat × Nat} : ∀ n, x ∈ dueL fs n → ∃ j, x = (eL fs (j + 1), j + 1)
  | 0, h => by cases h
  | n + 1, h => by
    rcases List.mem_append.mp h with z | z
    · exact due_mem n z
    · split at z
      · cases z
      · exact ⟨n, List.mem_singleton.mp z⟩
theorem Tld.due {fs : List (List Rat × Nat)} (T : Tld fs) : ∀ x ∈ dueL fs 4, IsTl x.1 x.1.length ∧ x.1.length ≤ 20 ∧ ∀ q ∈ x.1, BdN 200 q := fun x hx => by
  obtain ⟨j, rfl⟩ := due_mem 4 hx
  have e6 := T.e6 j
  refine ⟨eL_tl T.ok _, by show (eL fs (j + 1)).length ≤ 20; rw [eL_len]; omega, fun q hq => ?_⟩
  have m := mon_e T.ok (j + 1)
  rw [← eL_qp T.ok] at m
  have o := ovp_qp m.ov q hq
  exact ((o.mono (show 12 * nE fs (j + 1) + 1 ≤ 100 by omega)).bdN (Nat.pow_pos (by decide)) (p60 (by omega))).mono (by decide)
structure PrQ (κ : Rat) (p : Pf) (n : Nat) (L : List Rat) : Prop where
  tl : IsTl L L.length
  e : qp L = pCst κ * p
  mon : Mon p n
theorem PrQ.len {κ : Rat} {p : Pf} {n : Nat} {L : List Rat} (h : PrQ κ p n L) (k0 : κ ≠ 0) : L.length = n + 1 := by
  have ld : (qp L).f n = κ := by rw [h.e, pf_c, h.mon.ld]; grind
  have g2 : n < L.length := Classical.byContradiction fun z => by
    rw [qp_dg L _ (by omega)] at ld
    exact k0 ld.symm
  rcases Nat.lt_or_ge (n + 1) L.length with y | y
  · exfalso
    have h1 := List.getElem?_eq_getElem (l := L) (i := L.length - 1) (by omega)
    refine h.tl.last (by omega) _ h1 ?_
    have h2 : (qp L).f (L.length - 1) = 0 := by rw [h.e, pf_c, h.mon.dg _ (by omega)]; grind
    have h3 : aQ L (L.length - 1) = 0 := h2
    unfold aQ at h3
    rw [h1] at h3
    exact h3
  · omega
theorem PrQ.ov {κ : Rat} {p : Pf} {n : Nat} {L : List Rat} (h : PrQ κ p n L) (ok : OvB 60 10 κ) : ∀ q ∈ L, OvB (60 ^ (n + 1)) (12 * (n + 1)) q := by
  have o : OvP (60 ^ (n + 1)) (12 * (n + 1)) (qp L) := fun k => by
    rw [h.e, pf_c]
    have := ok.mul (h.mon.ov k)
    rw [Nat.mul_comm 60, ← Nat.pow_succ] at this
    exact this.mono (by omega)
  exact ovp_qp o
def dTB6 : D := .tup [.v (.str "told"), .lst []]
theorem nf_take : ∀ (fs : List (List Rat × Nat)) (i : Nat), nF (fs.take i) ≤ nF fs
  | [], i => by simp
  | x :: r, 0 => Nat.zero_le _
  | x :: r, i + 1 => by
    have := nf_take r i
    show _ + nF (r.take i) ≤ _ + nF r
    omega
section
variable {P : Program} {w : World} {K : PySem.W.Frag} {mg : Str → Option Value} {base : Heap}
abbrev s_law : Stmt := top 64
theorem sc_law : FnScope ["_law_script", "_law_at", "_law_urn_here", "_law_kind_here", "_law_factors", "_law_p", "_law_due_here", "_law_handed", "_law_turn", "_law_factor", "_law_often", "_law_word", "_law_found", "_law_one"] ["_law_script"] (defScope s_law) := by and_intros
set_option maxHeartbeats 0 in
theorem ok_law {f g1 g2 g3 g4 g5 g6 g7 g8 : Addr} {fd : FuncData} (F : Fun K "law" "law" s_law f fd) (G__law_urn : Def P w K mg base CX0 1 "_law_urn" g1 ["_law_script", "_law_at"] (spUrn K)) (G__law_kind : Def P w K mg base CX0 2 "_law_kind" g2 ["_law_urn_here"] spKind) (G__law_drawn_factors : Def P w K mg base CX0 6 "_law_drawn_factors" g3 ["_law_urn_here", "_law_kind_here"] (spDFacs K)) (GD__law_other : Def P w K mg base CX0 3 "_law_other" g4 ["_law_urn_here", "_law_kind_here"] spOtherC) (G__law_poly_times : Def P w K mg base CX0 3 "_law_poly_times" g5 ["_law_p", "_law_q"] (spLMulG K)) (G__law_due : Def P w K mg base CX0 4 "_law_due" g6 ["_law_factors"] (spLDue K)) (G__law_said : Def P w K mg base CX0 6 "_law_said" g7 ["_law_p"] (spSaid6 K)) (G__law_are_parts : Def P w K mg base CX0 4 "_law_are_parts" g8 ["_law_found"] (spAreP K))
    (n_range : mg "range" = none) (n_max : mg "max" = none) (n_min : mg "min" = none) (n_len : mg "len" = none) (n_list : mg "list" = none) : FnOk P w K mg base CX0 7 f fd ["_law_script"] (spLaw K) := by
  have G__law_other := GD__law_other
  refine F.ok (N := ["_law_script", "_law_at", "_law_urn_here", "_law_kind_here", "_law_factors", "_law_p", "_law_due_here", "_law_handed", "_law_turn", "_law_factor", "_law_often", "_law_word", "_law_found", "_law_one"]) sc_law (fun vs H Q E ⟨x, y, h, _⟩ => by rw [h]; rfl) (fun cdv A outer s H vs Q E hr h => ?_)
  obtain ⟨as, ns, rfl, hS, h63, k⟩ := h
  have hu := hr.units
  refine ⟨_, (@pss_cons _ _ _ _ _ (@ps_for _ _ _ _ _ _ _ _ PassesOwn.never rfl (@pi_range1 _ _ _ _ _ _ rfl n_range (@pa_cons _ _ _ _ _ (@pe_callB _ _ _ _ _ _ _ _ _ (call_max2 rfl) rfl n_max (by decide +kernel) (@pa_cons _ _ _ _ _ pe_int (@pa_cons _ _ _ _ _ (@pe_callB _ _ _ _ _ _ _ _ _ (call_min2 rfl) rfl n_min (by decide +kernel) (@pa_cons _ _ _ _ _ pe_int (@pa_cons _ _ _ _ _ (@pe_callB _ _ _ _ _ _ _ _ _ call_len_seq rfl n_len (by decide +kernel) (@pa_cons _ _ _ _ _ (pv 0) pa_nil (by simp_wf)) (by simp_wf) (by simp_wf) (by simp_wf) (by simp_wf)) pa_nil (by simp_wf)) (by simp_wf)) (by simp_wf) (by simp_wf) (by simp_wf) (by simp_wf)) pa_nil (by simp_wf)) (by simp_wf)) (by simp_wf) (by simp_wf) (by simp_wf) (by simp_wf)) pa_nil (by simp_wf)) (by simp_wf)) (pg_name (i := 1) sc_law.nd rfl (Or.inl rfl)) (@pss_cons _ _ _ _ _ (@ps_set _ _ 2 _ _ _ _ sc_law.nd rfl (Or.inl rfl) (@pe_def _ _ _ _ _ _ _ _ _ _ _ _ _ _ G__law_urn hr (@pa_cons _ _ _ _ _ (pv 0) (@pa_cons _ _ _ _ _ (pv 1) pa_nil (by simp_wf)) (by simp_wf)) pass0 (by simp_wf) (by simp_wf) (by simp_wf) (by simp_wf) (by simp_wf)) (by simp_wf) (by simp_wf)) (@pss_cons _ _ _ _ _ (@ps_set _ _ 3 _ _ _ _ sc_law.nd rfl (Or.inl rfl) (@pe_op _ _ _ _ _ _ _ _ op_modN (@pe_def _ _ _ _ _ _ _ _ _ _ _ _ _ _ G__law_kind hr (@pa_cons _ _ _ _ _ (pv 2) pa_nil (by simp_wf)) pass0 (by simp_wf) (by simp_wf) (by simp_wf) (by simp_wf) (by simp_wf)) pe_int) (by simp_wf) (by simp_wf)) (@pss_cons _ _ _ _ _ (@ps_set _ _ 4 _ _ _ _ sc_law.nd rfl (Or.inl rfl) (@pe_def _ _ _ _ _ _ _ _ _ _ _ _ _ _ G__law_drawn_factors hr (@pa_cons _ _ _ _ _ (pv 2) (@pa_cons _ _ _ _ _ (pv 3) pa_nil (by simp_wf)) (by simp_wf)) pass0 (by simp_wf) (by simp_wf) (by simp_wf) (by simp_wf) (by simp_wf)) (by simp_wf) (by simp_wf)) (@pss_cons _ _ _ _ _ (@ps_set _ _ 5 _ _ _ _ sc_law.nd rfl (Or.inl rfl) (@pe_lst _ _ _ _ (@pa_cons _ _ _ _ _ (@pe_def _ _ _ _ _ _ _ _ _ _ _ _ _ _ G__law_other hr (@pa_cons _ _ _ _ _ (pv 2) (@pa_cons _ _ _ _ _ (pv 3) pa_nil (by simp_wf)) (by simp_wf)) pass0 (by simp_wf) (by simp_wf) (by simp_wf) (by simp_wf) (by simp_wf)) pa_nil (by simp_wf))) (by simp_wf) (by simp_wf)) (@pss_cons _ _ _ _ _ (@ps_for _ _ _ _ _ _ _ _ PassesOwn.never rfl (@pi_list _ _ _ _ (pv 4)) (show PG _ _ (gTup K 2 (gCons (gName 9) (gCons (gName 10) gNil))) from by (refine pg_tup (n := 2) ?_ ?_ ?_ ?_; rfl; (refine pgs_cons ?_ ?_ ?_; (exact (pg_name (i := 9) sc_law.nd rfl (Or.inl rfl))) ; (refine pgs_cons ?_ ?_ ?_; (exact (pg_name (i := 10) sc_law.nd rfl (Or.inl rfl))) ; (exact pgs_nil) ; rfl) ; rfl) ; rfl; rfl)) (@pss_one _ _ _ (@ps_for _ _ _ _ _ _ _ _ PassesOwn.never rfl (@pi_range1 _ _ _ _ _ _ rfl n_range (@pa_cons _ _ _ _ _ (pv 10) pa_nil (by simp_wf)) (by simp_wf)) (pg_name (i := 8) sc_law.nd rfl (Or.inl rfl)) (@pss_one _ _ _ (@ps_set _ _ 5 _ _ _ _ sc_law.nd rfl (Or.inl rfl) (@pe_def _ _ _ _ _ _ _ _ _ _ _ _ _ _ G__law_poly_times hr (@pa_cons _ _ _ _ _ (pv 5) (@pa_cons _ _ _ _ _ (pv 9) pa_nil (by simp_wf)) (by simp_wf)) pass0 (by simp_wf) (by simp_wf) (by simp_wf) (by simp_wf) (by simp_wf)) (by simp_wf) (by simp_wf))) (by simp_wf))) (by simp_wf)) (@pss_cons _ _ _ _ _ (@ps_set _ _ 6 _ _ _ _ sc_law.nd rfl (Or.inl rfl) (@pe_def _ _ _ _ _ _ _ _ _ _ _ _ _ _ G__law_due hr (@pa_cons _ _ _ _ _ (pv 4) pa_nil (by simp_wf)) pass0 (by simp_wf) (by simp_wf) (by simp_wf) (by simp_wf) (by simp_wf)) (by simp_wf) (by simp_wf)) (@pss_cons _ _ _ _ _ (@ps_set _ _ 7 _ _ _ _ sc_law.nd rfl (Or.inl rfl) (@pe_callTy _ _ _ _ _ _ _ _ _ call_list_of rfl n_list (by decide +kernel) (@pa_cons _ _ _ _ _ (pv 5) pa_nil (by simp_wf)) (by simp_wf) (by simp_wf) (by simp_wf) (by simp_wf)) (by simp_wf) (by simp_wf)) (@pss_one _ _ _ (@ps_for _ _ _ _ _ _ _ _ PassesOwn.never rfl (@pi_range1 _ _ _ _ _ _ rfl n_range (@pa_cons _ _ _ _ _ pe_int pa_nil (by simp_wf)) (by simp_wf)) (pg_name (i := 8) sc_law.nd rfl (Or.inl rfl)) (@pss_cons _ _ _ _ _ (@ps_asg _ _ _ _ _ _ (@pe_def _ _ _ _ _ _ _ _ _ _ _ _ _ _ G__law_said hr (@pa_cons _ _ _ _ _ (pv 7) pa_nil (by simp_wf)) pass0 (by simp_wf) (by simp_wf) (by simp_wf) (by simp_wf) (by simp_wf)) (show PG _ _ (gTup K 2 (gCons (gName 11) (gCons (gName 12) gNil))) from by (refine pg_tup (n := 2) ?_ ?_ ?_ ?_; rfl; (refine pgs_cons ?_ ?_ ?_; (exact (pg_name (i := 11) sc_law.nd rfl (Or.inl rfl))) ; (refine pgs_cons ?_ ?_ ?_; (exact (pg_name (i := 12) sc_law.nd rfl (Or.inl rfl))) ; (exact pgs_nil) ; rfl) ; rfl) ; rfl; rfl)) (by simp_wf) (by simp_wf) (by simp_wf)) (@pss_cons _ _ _ _ _ (@ps_if _ _ _ _ _ _ _ _ (@PW.pt _ _ _ (@pw_or _ _ _ _ _ _ _ (@pt_cmpR _ _ _ _ _ _ _ _ op_ne (pv 11) pe_str (nomark _)) (@pw_or _ _ _ _ _ _ _ (@pt_not _ _ _ _ (@pt_val _ _ _ (@pe_def _ _ _ _ _ _ _ _ _ _ _ _ _ _ G__law_are_parts hr (@pa_cons _ _ _ _ _ (pv 12) pa_nil (by simp_wf)) pass0 (by simp_wf) (by simp_wf) (by simp_wf) (by simp_wf) (by simp_wf)) (by simp_wf))) (@pw_or1 _ _ _ _ (@pt_cmpR _ _ _ _ _ _ _ _ (op_neD hu) (pv 12) (pv 6) (nomark _)))))) (@pss_one _ _ _ (@ps_ret _ _ _ _ pe_bl)) pss_nil) (@pss_cons _ _ _ _ _ (@ps_for _ _ _ _ _ _ _ _ PassesOwn.never rfl (@pi_list _ _ _ _ (pv 12)) (show PG _ _ (gTup K 2 (gCons (gName 13) (gCons (gName 10) gNil))) from by (refine pg_tup (n := 2) ?_ ?_ ?_ ?_; rfl; (refine pgs_cons ?_ ?_ ?_; (exact (pg_name (i := 13) sc_law.nd rfl (Or.inl rfl))) ; (refine pgs_cons ?_ ?_ ?_; (exact (pg_name (i := 10) sc_law.nd rfl (Or.inl rfl))) ; (exact pgs_nil) ; rfl) ; rfl) ; rfl; rfl)) (@pss_one _ _ _ (@ps_expr _ _ _ _ (@pe_bm _ _ _ _ _ _ _ _ _ _ _ _ PySem.F.plainAttrs_list PySem.F.slot_list_append PySem.F.type_list_append mt_append (pv 13) (@pa_cons _ _ _ _ _ (@pe_tup _ _ _ _ _ (@pa_cons _ _ _ _ _ pe_int (@pa_cons _ _ _ _ _ pe_int pa_nil (by simp_wf)) (by simp_wf))) pa_nil (by simp_wf)) (by simp_wf) (by simp_wf) (by simp_wf) (by simp_wf) (by simp_wf)) (by simp_wf))) (by simp_wf)) (@pss_cons _ _ _ _ _ (@ps_expr _ _ _ _ (@pe_bm _ _ _ _ _ _ _ _ _ _ _ _ PySem.F.plainAttrs_list PySem.F.slot_list_append PySem.F.type_list_append mt_append (pv 12) (@pa_cons _ _ _ _ _ (@pe_tup _ _ _ _ _ (@pa_cons _ _ _ _ _ (@pe_lst _ _ _ _ (@pa_cons _ _ _ _ _ (@pe_tup _ _ _ _ _ (@pa_cons _ _ _ _ _ pe_int (@pa_cons _ _ _ _ _ pe_int pa_nil (by simp_wf)) (by simp_wf))) (@pa_cons _ _ _ _ _ (@pe_tup _ _ _ _ _ (@pa_cons _ _ _ _ _ pe_int (@pa_cons _ _ _ _ _ pe_int pa_nil (by simp_wf)) (by simp_wf))) pa_nil (by simp_wf)) (by simp_wf))) (@pa_cons _ _ _ _ _ pe_int pa_nil (by simp_wf)) (by simp_wf))) pa_nil (by simp_wf)) (by simp_wf) (by simp_wf) (by simp_wf) (by simp_wf) (by simp_wf)) (by simp_wf)) (@pss_one _ _ _ (@ps_if _ _ _ _ _ _ _ _ (@PW.pt _ _ _ (@pw_or _ _ _ _ _ _ _ (@pt_cmpR _ _ _ _ _ _ _ _ (op_neD hu) (pv 7) (pv 5) (nomark _)) (@pw_or _ _ _ _ _ _ _ (@pt_cmpR _ _ _ _ _ _ _ _ (op_neD hu) (@pe_def _ _ _ _ _ _ _ _ _ _ _ _ _ _ G__law_said hr (@pa_cons _ _ _ _ _ (@pe_lst _ _ _ _ pa_nil) pa_nil (by simp_wf)) pass0 (by simp_wf) (by simp_wf) (by simp_wf) (by simp_wf) (by simp_wf)) (@pe_tup _ _ _ _ _ (@pa_cons _ _ _ _ _ pe_str (@pa_cons _ _ _ _ _ pe_str pa_nil (by simp_wf)) (by simp_wf))) (nomark _)) (@pw_or1 _ _ _ _ (@pt_cmpR _ _ _ _ _ _ _ _ (op_neD hu) (@pe_def _ _ _ _ _ _ _ _ _ _ _ _ _ _ G__law_said hr (@pa_cons _ _ _ _ _ (@pe_lst _ _ _ _ (@pa_cons _ _ _ _ _ (@pe_tup _ _ _ _ _ (@pa_cons _ _ _ _ _ pe_int (@pa_cons _ _ _ _ _ pe_int pa_nil (by simp_wf)) (by simp_wf))) pa_nil (by simp_wf))) pa_nil (by simp_wf)) pass0 (by simp_wf) (by simp_wf) (by simp_wf) (by simp_wf) (by simp_wf)) (@pe_tup _ _ _ _ _ (@pa_cons _ _ _ _ _ pe_str (@pa_cons _ _ _ _ _ (@pe_lst _ _ _ _ pa_nil) pa_nil (by simp_wf)) (by simp_wf))) (nomark _)))))) (@pss_one _ _ _ (@ps_ret _ _ _ _ pe_bl)) pss_nil)))))) (by simp_wf)))))))))) (by simp_wf)) (@pss_one _ _ _ (@ps_ret _ _ _ _ pe_bl))), ?_⟩
  rw [show start ["_law_script", "_law_at", "_law_urn_here", "_law_kind_here", "_law_factors", "_law_p", "_law_due_here", "_law_handed", "_law_turn", "_law_factor", "_law_often", "_law_word", "_law_found", "_law_one"] [.ref as] = [some (.ref as), none, none, none, none, none, none, none, none, none, none, none, none, none] from rfl]
  have hlen : (((ns.map V.int).length : Nat) : Int) = (ns.length : Int) := by rw [List.length_map]
  obtain ⟨I, hI⟩ : ∃ I : Nat → L2.St → Hp → Prop, ∀ i σ H1, I i σ H1 ↔ ∃ o1 o2 o3 o4 o5 o6 o7 o8 o9 o10 o11 o12 o13, σ = [some (.ref as), o1, o2, o3, o4, o5, o6, o7, o8, o9, o10, o11, o12, o13] ∧ SqL K H1 as (ns.map V.int) := ⟨_, fun _ _ _ => Iff.rfl⟩
  refine ⟨_, rfl, as, _, rfl, .inl hS, 4, _, rfl, 1, _, rfl, _, rfl, ?_, ?_, for_range I ((hI _ _ _).mpr ⟨_, _, _, _, _, _, _, _, _, _, _, _, _, rfl, hS⟩) ?_ ?_⟩
  · rw [hlen]; split <;> split <;> omega
  · rw [hlen]; split <;> split <;> omega
  · intro i σ H1 hi hI1
    obtain ⟨o1, o2, o3, o4, o5, o6, o7, o8, o9, o10, o11, o12, o13, rfl, hS1⟩ := (hI _ _ _).mp hI1
    rw [hlen] at hi
    have hi4 : i < 4 := by
      revert hi
      split <;> split <;> omega
    simp only [gName, List.set_cons_zero, List.set_cons_succ]
    refine seq_cut (fun σ H2 => ∃ u, σ = [some (.ref as), some (.int (0 + (i : Int))), some (.ref u), o3, o4, o5, o6, o7, o8, o9, o10, o11, o12, o13] ∧ Same H1 H2 ∧ H1 u = none ∧ UrnAt H2 u) (fun N hN => ?_) ?_
    · subst_eqs
      exact ⟨as, ns, _, rfl, hS1, by omega, by omega, fun u H2 s2 hu0 hu2 => hN _ _ ⟨u, rfl, s2, hu0, hu2⟩⟩
    rintro σ H2 ⟨u, rfl, s2, fu, u2⟩
    have sx2 := Same.x s2 u
    refine seq_cut (fun σ H3 => ∃ kd : Int, σ = [some (.ref as), some (.int (0 + (i : Int))), some (.ref u), some (.int kd), o4, o5, o6, o7, o8, o9, o10, o11, o12, o13] ∧ SameX u H1 H3 ∧ UrnAt H3 u ∧ (kd = 0 ∨ kd = 1)) (fun N hN => ?_) ?_
    · subst_eqs
      refine ⟨u, rfl, u2, fun r H3 hr3 s3 u3 => ⟨r, rfl, by decide, hN _ _ ⟨_, rfl, sx2.trans s3, u3, ?_⟩⟩⟩
      rcases hr3 with rfl | rfl | rfl
      · exact .inl rfl
      · exact .inr rfl
      · exact .inl rfl
    clear sx2 u2 s2
    rintro σ H3 ⟨kd, rfl, s3, u3, hk⟩
    refine seq_cut (fun σ H4 => ∃ (lf : Addr) (ts : List V) (fs : List (List Rat × Nat)), σ = [some (.ref as), some (.int (0 + (i : Int))), some (.ref u), some (.int kd), some (.ref lf), o5, o6, o7, o8, o9, o10, o11, o12, o13] ∧ SameX u H1 H4 ∧ UrnAt H4 u ∧ lf ≠ u ∧ H4 lf = some (.lst ts) ∧ Prts (fun l => l ≠ u ∧ l ≠ lf) H4 ts fs ∧ Tld fs) (fun N hN => ?_) ?_
    · subst_eqs
      exact ⟨u, kd, rfl, u3, hk, fun r ts fs H4 s4 u4 ru e4 p4 T => hN _ _ ⟨r, ts, fs, rfl, s3.trans s4, u4, ru, e4, p4, T⟩⟩
    clear s3 u3
    rintro σ H4 ⟨lf, ts, fs, rfl, s4, u4, lfu, e4, p4, T⟩
    refine seq_cut (fun σ H5 => ∃ (lp : Addr) (xs : List V) (κ : Rat), σ = [some (.ref as), some (.int (0 + (i : Int))), some (.ref u), some (.int kd), some (.ref lf), some (.ref lp), o6, o7, o8, o9, o10, o11, o12, o13] ∧ SameX u H1 H5 ∧ H5 lf = some (.lst ts) ∧ Prts (fun l => l ≠ u ∧ l ≠ lf) H5 ts fs ∧ H5 lp = some (.lst xs) ∧ Nums H5 xs [κ] ∧ κ ≠ 0 ∧ OvB 60 10 κ) (fun N hN => ?_) ?_
    · subst_eqs
      refine ⟨u, kd, rfl, u4, fun r q H5 nq q0 s5 u5 e5 => ⟨small1, fun p hp => ?_⟩⟩
      have S := Same.new hp (.lst [.ref r])
      exact hN _ _ ⟨p, _, q, rfl, s4.trans (s5.trans (Same.x S u)), S _ _ (s5 _ _ e4 lfu), (p4.samex (fun l h => h.1) s5 u4).same S, upd_same, .cons (S _ _ e5) .nil, q0, nq.o60 hk⟩
    clear s4 u4 e4 p4
    rintro σ H5 ⟨lp, xs, κ, rfl, s5, e5, p5, ep5, np5, κ0, oκ⟩
    have lts := p5.length
    obtain ⟨J, hJ⟩ : ∃ J : Nat → L2.St → Hp → Prop, ∀ m σ H6, J m σ H6 ↔ ∃ (o8 o9 o10 : Option V) (lp : Addr) (xs : List V) (L : List Rat), σ = [some (.ref as), some (.int (0 + (i : Int))), some (.ref u), some (.int kd), some (.ref lf), some (.ref lp), o6, o7, o8, o9, o10, o11, o12, o13] ∧ Same H5 H6 ∧ H6 lp = some (.lst xs) ∧ Nums H6 xs L ∧ PrQ κ (fP (pfs (fs.take m))) (nF (fs.take m)) L := ⟨_, fun _ _ _ => Iff.rfl⟩
    have t1 : IsTl [κ] [κ].length := tl_of_last fun x hx => by cases hx; exact κ0
    have q1 : qp [κ] = pCst κ * 1 := Pf.ext fun k => by
      rw [pf_c, pf_one]
      match k with
      | 0 => show κ = κ * 1; grind
      | k + 1 => rw [if_neg (by omega)]; show (0 : Rat) = κ * 0; grind
    refine seq_cut (fun σ H6 => J ts.length σ H6) (fun N hN => ?_) ?_
    · refine ⟨_, rfl, lf, rfl, ⟨_, SqL.of e5⟩, for_list (xs := ts) J ((hJ _ _ _).mpr ⟨_, _, _, lp, xs, [κ], rfl, Same.refl _, ep5, np5, ⟨t1, q1, mon_one⟩⟩) (by intro m σ H6 _ h; obtain ⟨_, _, _, _, _, _, _, s6, _⟩ := (hJ _ _ _).mp h; exact SqL.of (s6 _ _ e5)) ?_ (fun σ H6 h => hN _ _ h)⟩
      intro m x σ H6 hx h
      obtain ⟨o8, o9, o10, lp, xs, L, rfl, s6, e6, n6, M⟩ := (hJ _ _ _).mp h
      obtain ⟨p, l, ys, q, mm, rfl, ef, hp, hl, nq, _⟩ := (p5.same s6).get hx
      have Fx := T.ok _ (List.mem_of_getElem? ef)
      have tk : fs.take (m + 1) = fs.take m ++ [(q, mm)] := take_snoc_get ef
      obtain ⟨hl3, _⟩ := fct_len Fx.fc
      have hl3 : q.length = 2 ∨ q.length = 3 := hl3
      obtain ⟨e, he, ov⟩ := Fx.ov
      have he : e + q.length ≤ 12 * (q.length - 1) := he
      have nft := nf_take fs (m + 1)
      rw [tk, nf_app] at nft
      have nft : nF (fs.take m) + mm * (q.length - 1) ≤ nF fs := nft
      have f14 := T.f14
      have m4 := Fx.m4
      have m4 : mm ≤ 4 := m4
      obtain ⟨L2, hL2⟩ : ∃ L2 : Nat → L2.St → Hp → Prop, ∀ t σ H7, L2 t σ H7 ↔ ∃ (o8 : Option V) (lp : Addr) (xs : List V) (L : List Rat), σ = [some (.ref as), some (.int (0 + (i : Int))), some (.ref u), some (.int kd), some (.ref lf), some (.ref lp), o6, o7, o8, some (.ref l), some (.int (mm : Int)), o11, o12, o13] ∧ Same H6 H7 ∧ H7 lp = some (.lst xs) ∧ Nums H7 xs L ∧ PrQ κ (wP (qp q) t * fP (pfs (fs.take m))) (t * (q.length - 1) + nF (fs.take m)) L := ⟨_, fun _ _ _ => Iff.rfl⟩
      have w0 : wP (qp q) 0 * fP (pfs (fs.take m)) = fP (pfs (fs.take m)) := by show (1 : Pf) * _ = _; grind
      refine ⟨_, _, rfl, SqT.of hp, rfl, _, _, rfl, _, _, rfl, rfl, _, rfl, _, rfl, by omega, by omega, for_range L2 ((hL2 _ _ _).mpr ⟨_, lp, xs, L, rfl, Same.refl _, e6, n6, by rw [w0, Nat.zero_mul, Nat.zero_add]; exact M⟩) ?_ ?_⟩
      · intro t σ H7 ht h7
        obtain ⟨o8, lp, xs, L, rfl, s7, e7, n7, M7⟩ := (hL2 _ _ _).mp h7
        have ht : t < mm := by omega
        subst_eqs
        have lL := M7.len κ0
        have tm : (t + 1) * (q.length - 1) ≤ mm * (q.length - 1) := Nat.mul_le_mul_right _ ht
        rw [Nat.add_mul, Nat.one_mul] at tm
        have b1 : 0 < 60 ^ (t * (q.length - 1) + nF (fs.take m) + 1) := Nat.pow_pos (by decide)
        have b2 : 0 < 60 ^ (q.length - 1) := Nat.pow_pos (by decide)
        refine ⟨lp, l, xs, ys, L, q, _, _, _, e, 100, rfl, SqL.of e7, SqL.of (s7 _ _ hl), n7, nq.mono s7.tups, M7.ov oκ, ov, b1, b2, by rw [← Nat.pow_add]; exact p60 (by omega), by decide, by decide, by omega, by omega, by omega, fun m' r zs H' tm' _ s' f' e' n' => ?_⟩
        have ew : wP (qp q) (t + 1) * fP (pfs (fs.take m)) = qp q * (wP (qp q) t * fP (pfs (fs.take m))) := by show qp q * wP (qp q) t * _ = _; grind
        have mw := M7.mon.fac Fx
        refine (hL2 _ _ _).mpr ⟨_, r, zs, _, rfl, s7.trans s', e', n', tl_take tm', ?_, ?_⟩
        · rw [qpTk tm', qp_mul, M7.e, ew]; grind
        · rw [ew, Nat.add_mul, Nat.one_mul, show t * (q.length - 1) + (q.length - 1) + nF (fs.take m) = q.length - 1 + (t * (q.length - 1) + nF (fs.take m)) by omega]
          exact mw
      · intro σ H7 h7
        obtain ⟨o8, lp, xs, L, rfl, s7, e7, n7, M7⟩ := (hL2 _ _ _).mp h7
        refine (hJ _ _ _).mpr ⟨_, _, _, lp, xs, L, rfl, s6.trans s7, e7, n7, ?_⟩
        have ef' : fP (pfs (fs.take (m + 1))) = wP (qp q) mm * fP (pfs (fs.take m)) := by rw [tk, fp_app]; grind
        have en' : nF (fs.take (m + 1)) = mm * (q.length - 1) + nF (fs.take m) := by rw [tk, nf_app]; show _ + mm * (q.length - 1) = _; omega
        rw [ef', en']; exact M7
    rintro σ H6 h6
    obtain ⟨o8, o9, o10, lp, xs, L, rfl, s6, e6, n6, M⟩ := (hJ _ _ _).mp h6
    rw [lts, List.take_length] at M
    have lL := M.len κ0
    have lx := n6.length
    have f14 := T.f14
    have Ln : L ≠ [] := fun z => by rw [z] at lL; cases lL
    have cl : ClN 180 L := cl_of_ovb (B := 60 ^ (nF fs + 1)) (W := 180) (Nat.pow_pos (by decide)) (Nat.lt_of_lt_of_le (p60 (by omega)) (pow_le_pow2 (by decide))) fun q hq => (M.ov oκ q hq).mono (by omega)
    refine seq_cut (fun σ H7 => ∃ ld us, σ = [some (.ref as), some (.int (0 + (i : Int))), some (.ref u), some (.int kd), some (.ref lf), some (.ref lp), some (.ref ld), o7, o8, o9, o10, o11, o12, o13] ∧ Same H6 H7 ∧ H7 ld = some (.lst us) ∧ Prts (fun l => H6 l = none ∧ l ≠ ld) H7 us (dueL fs 4)) (fun N hN => ?_) ?_
    · subst_eqs
      exact ⟨lf, ts, fs, _, rfl, s6 _ _ e5, p5.same s6, T, fun r us H7 s7 f7 e7 p7 => hN _ _ ⟨r, us, rfl, s7, e7, p7⟩⟩
    rintro σ H7 ⟨ld, us, rfl, s7, e7, p7⟩
    refine seq_cut (fun σ H8 => ∃ lh, σ = [some (.ref as), some (.int (0 + (i : Int))), some (.ref u), some (.int kd), some (.ref lf), some (.ref lp), some (.ref ld), some (.ref lh), o8, o9, o10, o11, o12, o13] ∧ Same H7 H8 ∧ H8 lh = some (.lst xs)) (fun N hN => ?_) ?_
    · subst_eqs
      exact ⟨xs, .inl (SqL.of (s7 _ _ e6)), fun p0 hp0 => hN _ _ ⟨p0, rfl, Same.new hp0 _, upd_same⟩⟩
    rintro σ H8 ⟨lh, rfl, s8, e8⟩
    have S58 := s6.trans (s7.trans s8)
    have e68 := (s7.trans s8) _ _ e6
    have n68 := n6.mono (s7.trans s8).tups
    have e78 := s8 _ _ e7
    have p78 := p7.same s8
    obtain ⟨B, hB⟩ : ∃ B : Nat → L2.St → Hp → Prop, ∀ t σ H9, B t σ H9 ↔ ∃ o8 o9 o10 o11 o12 o13, σ = [some (.ref as), some (.int (0 + (i : Int))), some (.ref u), some (.int kd), some (.ref lf), some (.ref lp), some (.ref ld), some (.ref lh), o8, o9, o10, o11, o12, o13] ∧ Same H8 H9 := ⟨_, fun _ _ _ => Iff.rfl⟩
    refine ⟨2, rfl, by decide, by decide, for_range B ((hB _ _ _).mpr ⟨_, _, _, _, _, _, rfl, Same.refl _⟩) ?_ ?_⟩
    · intro t σ H9 ht hB9
      obtain ⟨o8, o9, o10, o11, o12, o13, rfl, s9⟩ := (hB _ _ _).mp hB9
      simp only [gName, List.set_cons_zero, List.set_cons_succ]
      refine seq_cut (fun σ HA => ∃ r ws, σ = [some (.ref as), some (.int (0 + (i : Int))), some (.ref u), some (.int kd), some (.ref lf), some (.ref lp), some (.ref ld), some (.ref lh), some (.int (0 + (t : Int))), o9, o10, some (.str "told"), some (.ref r), o13] ∧ Same H9 HA ∧ H9 r = none ∧ HA r = some (.lst ws) ∧ Prts (fun l => H9 l = none ∧ l ≠ r) HA ws (dueL fs 4)) (fun N hN => ?_) ?_
      · subst_eqs
        refine ⟨lh, xs, L, rfl, SqL.of (s9 _ _ e8), (n68.mono s9.tups).toC, fun z => absurd z Ln, fun _ => ⟨fs, κ, T, κ0, M.e, M.tl, cl, by omega, fun q r ws HA sA eq fr er pA => ?_⟩⟩
        exact ⟨q, rfl, _, SqT.of eq, rfl, _, _, rfl, _, _, rfl, rfl, hN _ _ ⟨r, ws, rfl, sA, fr, er, pA⟩⟩
      rintro σ HA ⟨r, ws, rfl, sA, fr, erA, pA⟩
      refine seq_cut (fun σ HB => σ = [some (.ref as), some (.int (0 + (i : Int))), some (.ref u), some (.int kd), some (.ref lf), some (.ref lp), some (.ref ld), some (.ref lh), some (.int (0 + (t : Int))), o9, o10, some (.str "told"), some (.ref r), o13] ∧ Same HA HB) (fun N hN => ?_) ?_
      · subst_eqs
        refine ⟨rfl, ?_⟩
        refine ⟨r, ws, _, _, rfl, erA, pA, T.due, fun HB sB => ⟨true, rfl, ite2 (fun z => by cases z) (fun _ => ?_)⟩⟩
        have S := s9.trans (sA.trans sB)
        refine ⟨dPts (dueL fs 4), dPts (dueL fs 4), rfl, .lst (SqL.of (sB _ _ erA)) (pA.same sB).isDs, .lst (SqL.of (S _ _ e78)) (p78.same S).isDs, okD_refl _, dp_pts _, ?_⟩
        rw [eqD_pts]
        exact ⟨false, rfl, ite2 (fun h => absurd h (by decide)) (fun _ => hN _ _ ⟨rfl, sB⟩)⟩
      rintro σ HB ⟨rfl, sB⟩
      have erB := sB _ _ erA
      have pB := pA.same sB
      have lws := pB.length
      have dl := due_len fs 4
      have S9B := sA.trans sB
      refine seq_cut (fun σ HC => ∃ o10 o9 o13, σ = [some (.ref as), some (.int (0 + (i : Int))), some (.ref u), some (.int kd), some (.ref lf), some (.ref lp), some (.ref ld), some (.ref lh), some (.int (0 + (t : Int))), o9, o10, some (.str "told"), some (.ref r), o13] ∧ Same H9 HC ∧ HC r = some (.lst ws)) (fun N hN => ?_) ?_
      · obtain ⟨C, hC⟩ : ∃ C : Nat → L2.St → Hp → Prop, ∀ v σ HC, C v σ HC ↔ ∃ o10 o9 o13, σ = [some (.ref as), some (.int (0 + (i : Int))), some (.ref u), some (.int kd), some (.ref lf), some (.ref lp), some (.ref ld), some (.ref lh), some (.int (0 + (t : Int))), o9, o10, some (.str "told"), some (.ref r), o13] ∧ Same H9 HC ∧ TupS HB HC ∧ HC r = some (.lst ws) ∧ ∀ l xs, H9 l = none → l ≠ r → HB l = some (.lst xs) → ∃ ys, HC l = some (.lst ys) ∧ ys.length ≤ xs.length + v := ⟨_, fun _ _ _ => Iff.rfl⟩
        refine ⟨_, rfl, r, rfl, ⟨_, SqL.of erB⟩, for_list (xs := ws) C ((hC _ _ _).mpr ⟨_, _, _, rfl, S9B, TupS.refl _, erB, fun l xs _ _ e => ⟨xs, e, by omega⟩⟩) (by intro v σ HC _ h; obtain ⟨_, _, _, _, _, _, e, _⟩ := (hC _ _ _).mp h; exact SqL.of e) ?_ (fun σ HC h => by obtain ⟨o10, o9, o13, rfl, sC, _, eC, _⟩ := (hC _ _ _).mp h; exact hN _ _ ⟨_, _, _, rfl, sC, eC⟩)⟩
        intro v x σ HC hx hC'
        obtain ⟨o10, o9, o13, rfl, sC, tpC, eC, allC⟩ := (hC _ _ _).mp hC'
        have hv := (List.getElem?_eq_some_iff.mp hx).1
        obtain ⟨p, l, zs, q, mm, rfl, ef, hp, hl, nq, fl⟩ := pB.get hx
        obtain ⟨ys, ey, ly⟩ := allC l zs fl.1 fl.2 hl
        have lz := nq.length
        have lq20 := (T.due _ (List.mem_of_getElem? ef)).2.1
        have lq20 : q.length ≤ 20 := lq20
        subst_eqs
        refine ⟨_, SqT.of (tpC _ _ hp), rfl, _, _, rfl, _, _, rfl, rfl, .inl ⟨_, SqL.of ey⟩, small2, fun p6 hp6 => ?_⟩
        have X6 := Same.new hp6 (.tup [.int 6, .int 1])
        have ey' := X6 _ _ ey
        refine ⟨l, rfl, ys, ey', len_ok (by omega), (hC _ _ _).mpr ⟨_, _, _, rfl, (sC.trans X6).over fl.1 _, (tpC.trans X6.tups).trans (TupS.lst ey'), by rw [upd_ne fl.2.symm]; exact X6 _ _ eC, fun l' xs' f' n' e' => ?_⟩⟩
        by_cases hll : l' = l
        · subst hll
          rw [hl] at e'
          cases e'
          exact ⟨_, upd_same, by rw [List.length_append, List.length_singleton]; omega⟩
        · obtain ⟨ys', ey2, ly2⟩ := allC l' xs' f' n' e'
          exact ⟨ys', by rw [upd_ne hll]; exact X6 _ _ ey2, by omega⟩
      rintro σ HC ⟨o10, o9, o13, rfl, sC, eC⟩
      refine seq_cut (fun σ HD => σ = [some (.ref as), some (.int (0 + (i : Int))), some (.ref u), some (.int kd), some (.ref lf), some (.ref lp), some (.ref ld), some (.ref lh), some (.int (0 + (t : Int))), o9, o10, some (.str "told"), some (.ref r), o13] ∧ Same H9 HD) (fun N hN => ?_) ?_
      · subst_eqs
        refine ⟨.inl ⟨_, SqL.of eC⟩, small2, fun p0 h0 => ⟨small2, fun p1 h1 => ⟨small2, fun p2 h2 => ⟨small2, fun p3 h3 => ?_⟩⟩⟩⟩
        have X0 := Same.new h0 (.tup [.int 0, .int 1])
        have X1 := Same.new h1 (.tup [.int 1, .int 1])
        have X2 := Same.new h2 (.lst [.ref p0, .ref p1])
        have X3 := Same.new h3 (.tup [.ref p2, .int 9])
        have XX := X0.trans (X1.trans (X2.trans X3))
        exact ⟨ws, XX _ _ eC, len_ok (by omega), hN _ _ ⟨rfl, (sC.trans XX).over fr _⟩⟩
      rintro σ HD ⟨rfl, sD⟩
      have S8D := s9.trans sD
      have idh : IsD K HD (.ref lh) (dList L) := isD_list (SqL.of (S8D _ _ e8)) (n68.mono S8D.tups)
      have idp : IsD K HD (.ref lp) (dList L) := isD_list (SqL.of (S8D _ _ e68)) (n68.mono S8D.tups)
      subst_eqs
      refine ⟨dList L, dList L, rfl, idh, idp, okD_list _ _, Nat.le_trans (dp_list _) (by decide), ?_⟩
      rw [eqD_list, decide_eq_true rfl]
      refine ⟨false, rfl, ite2 (fun h => absurd h (by decide)) (fun _ => ⟨by decide, fun p0 h0 => ?_⟩)⟩
      have X0 := Same.new h0 (.lst [])
      refine ⟨p0, [], [], rfl, SqL.of upd_same, .nil, fun _ q HE sE eE => ⟨small2, fun p1 h1 => ?_⟩, fun z => absurd rfl z⟩
      have X1 := Same.new h1 (.tup [.str "refused", .str "polynomial"])
      refine ⟨dStr2 "refused" "polynomial", dStr2 "refused" "polynomial", rfl, isD_str2 (SqT.of (X1 _ _ eE)), isD_str2 (SqT.of upd_same), okD_str2 _ _ _ _, dp_str2 _ _, ?_⟩
      rw [eqD_str2]
      refine ⟨false, rfl, ite2 (fun h => absurd h (by decide)) (fun _ => ⟨small2, fun p2 h2 => ⟨small1, fun p3 h3 => ?_⟩⟩)⟩
      have X2 := Same.new h2 (.tup [.int 3, .int 1])
      have X3 := Same.new h3 (.lst [.ref p2])
      have g2 := X3 _ _ (show (upd _ p2 (.tup [.int 3, .int 1])) p2 = some (.tup (numV 3)) from upd_same)
      have q3 : qp [(3 : Rat)] = pCst 3 * fP (pfs []) := Pf.ext fun k => by
        rw [pf_c]
        show aQ [3] k = 3 * (1 : Pf).f k
        rw [pf_one]
        match k with
        | 0 => decide +kernel
        | k + 1 => rw [if_neg (by omega)]; show (0 : Rat) = 3 * 0; grind
      refine ⟨p3, [.ref p2], [3], rfl, SqL.of upd_same, (Nums.cons g2 .nil).toC, fun z => (by cases z), fun _ => ⟨[], 3, ⟨by simp, by simp, by decide, by decide⟩, by decide, q3, tl_of_last fun x hx => (by cases hx; decide), ?_, by decide, fun q' r' ts' HF sF eq' fr' er' pF => ⟨by decide, fun p4 h4 => ⟨small2, fun p5 h5 => ?_⟩⟩⟩⟩
      · exact cl_of_ovb (B := 1) (W := 180) (by decide) (Nat.one_lt_two_pow (by decide)) fun x hx => by rw [List.mem_singleton.mp hx]; exact (show OvB 1 2 3 from ⟨3, by decide +kernel, by decide⟩).mono (by decide)
      have X4 := Same.new h4 (.lst [])
      have X5 := Same.new h5 (.tup [.str "told", .ref p4])
      have pnil : ts' = [] := List.eq_nil_of_length_eq_zero (by rw [pF.length]; rfl)
      subst pnil
      have X45 := X4.trans X5
      refine ⟨dTB6, dTB6, rfl, .tup (SqT.of (X45 _ _ eq')) (.cons (.v rfl) (.cons (.lst (SqL.of (X45 _ _ er')) .nil) .nil)), .tup (SqT.of upd_same) (.cons (.v rfl) (.cons (.lst (SqL.of (X5 _ _ upd_same)) .nil) .nil)), by decide, by decide, ?_⟩
      refine ⟨false, by decide, ite2 (fun h => absurd h (by decide)) (fun _ => (hB _ _ _).mpr ⟨_, _, _, _, _, _, rfl, S8D.trans (X0.trans (sE.trans (X1.trans (X2.trans (X3.trans (sF.trans X45))))))⟩)⟩
    · intro σ H9 h9
      obtain ⟨o8, o9, o10, o11, o12, o13, rfl, s9⟩ := (hB _ _ _).mp h9
      exact (hI _ _ _).mpr ⟨_, _, _, _, _, _, _, _, _, _, _, _, _, rfl, (s5.trans (Same.x (S58.trans s9) u)).seq fu hS1⟩
  · intro σ H1 hI1
    obtain ⟨o1, o2, o3, o4, o5, o6, o7, o8, o9, o10, o11, o12, o13, rfl, _⟩ := (hI _ _ _).mp hI1
    subst_eqs
    exact k _
end
end R
set_option maxRecDepth 100000
def PySem.W.Fast.tw5074442140527140465 : Unit := ()
def PySem.W.Fast.tw5696235926995685318 : Unit := ()
def PySem.W.Fast.tw16122797177720738019 : Unit := ()
def PySem.W.Fast.tw10150246612939812538 : Unit := ()
def PySem.W.Fast.tw12487615920918762763 : Unit := ()
def PySem.W.Fast.tw12332080079490749116 : Unit := ()
def PySem.W.Fast.tw14428504529017967527 : Unit := ()
def PySem.W.Fast.tw1344562090898203489 : Unit := ()
def PySem.W.Fast.tw3344743715472656115 : Unit := ()
def PySem.W.Fast.tw3588033047180169310 : Unit := ()
def PySem.W.Fast.tw12256219738789059318 : Unit := ()
def PySem.W.Fast.tw9743673082159323731 : Unit := ()
def PySem.W.Fast.tw4094529542947953489 : Unit := ()
def PySem.W.Fast.tw3307329743643903668 : Unit := ()
def PySem.W.Fast.tw14239078959910439382 : Unit := ()
def PySem.W.Fast.tw13419048158432404630 : Unit := ()
def PySem.W.Fast.tw9657176135264296363 : Unit := ()
def PySem.W.Fast.tw2701007001177058028 : Unit := ()
def PySem.W.Fast.tw18085717763911330790 : Unit := ()
def PySem.W.Fast.tw3259362775913629205 : Unit := ()
def PySem.W.Fast.tw7281665433332109340 : Unit := ()
def PySem.W.Fast.tw9053534902061009949 : Unit := ()
def PySem.W.Fast.tw5132147112287726312 : Unit := ()
def PySem.W.Fast.tw16675395314022333946 : Unit := ()
def PySem.W.Fast.tw1239625921627869794 : Unit := ()
def PySem.W.Fast.tw15854527994200724277 : Unit := ()
def PySem.W.Fast.tw6901145680995661624 : Unit := ()
def PySem.W.Fast.tw16570589276808496005 : Unit := ()
def PySem.W.Fast.tw1070618294659224194 : Unit := ()
def PySem.W.Fast.tw6482825581492369764 : Unit := ()
def PySem.W.Fast.tw16867375726376023802 : Unit := ()
def PySem.W.Fast.tw10240285020227850285 : Unit := ()
def PySem.W.Fast.tw2638782344062911431 : Unit := ()
def PySem.W.Fast.tw10984318318606690534 : Unit := ()
def PySem.W.Fast.tw17950051520644688094 : Unit := ()
def PySem.W.Fast.tw8686275133801628825 : Unit := ()
def PySem.W.Fast.tw10375391841299290726 : Unit := ()
def PySem.W.Fast.tw2205116308030616967 : Unit := ()
def PySem.W.Fast.tw12489583823051238638 : Unit := ()
def PySem.W.Fast.tw8960598963836777640 : Unit := ()
def PySem.W.Fast.tw12456673997914512597 : Unit := ()
def PySem.W.Fast.tw7159552947627827097 : Unit := ()
def PySem.W.Fast.tw12391469535965019156 : Unit := ()
def PySem.W.Fast.tw4633944038342782038 : Unit := ()
def PySem.W.Fast.tw14146589738780195154 : Unit := ()
def PySem.W.Fast.tw14161070875741843542 : Unit := ()
def PySem.W.Fast.tw5548725645606054410 : Unit := ()
def PySem.W.Fast.tw8784313239401788119 : Unit := ()
def PySem.W.Fast.tw2556148718292794637 : Unit := ()
def PySem.W.Fast.tw5844658974770941053 : Unit := ()
def PySem.W.Fast.tw4853446994980059440 : Unit := ()
def PySem.W.Fast.tw12340571308042551745 : Unit := ()
def PySem.W.Fast.tw620588484060332734 : Unit := ()
def PySem.W.Fast.tw1676167825566100557 : Unit := ()
def PySem.W.Fast.tw15429333071658546792 : Unit := ()
def PySem.W.Fast.tw11688179554399151920 : Unit := ()
def PySem.W.Fast.tw4407207024747936647 : Unit := ()
def PySem.W.Fast.tw7004125365062603101 : Unit := ()
def PySem.W.Fast.tw11321082756816167963 : Unit := ()
def PySem.W.Fast.tw17157610347624056665 : Unit := ()
def PySem.W.Fast.tw5541815478775432157 : Unit := ()
def PySem.W.Fast.tw14136161037046681179 : Unit := ()
def PySem.W.Fast.tw5159975090892033686 : Unit := ()
def PySem.W.Fast.tw1465545842533786641 : Unit := ()
def PySem.W.Fast.tw15320888645975931444 : Unit := ()
def PySem.W.Fast.tw7792705574581675787 : Unit := ()
def PySem.W.Fast.tw9702299022585605458 : Unit := ()
def PySem.W.Fast.tw12265527815273035812 : Unit := ()
def PySem.W.Fast.tw18118788781111767532 : Unit := ()
def PySem.W.Fast.tw4850387874301761813 : Unit := ()
def PySem.W.Fast.tw4845451478651986580 : Unit := ()
def PySem.W.Fast.tw4514553021042316013 : Unit := ()
def PySem.W.Fast.tw18108736124676690057 : Unit := ()
def PySem.W.Fast.tw906805210841883395 : Unit := ()
def PySem.W.Fast.tw11333802920115872323 : Unit := ()
def PySem.W.Fast.tw614144264843668371 : Unit := ()
def PySem.W.Fast.tw15396922298833478214 : Unit := ()
def PySem.W.Fast.tw185061030772946515 : Unit := ()
def PySem.W.Fast.tw5313269673255492226 : Unit := ()
def PySem.W.Fast.tw1530133589075781593 : Unit := ()
def PySem.W.Fast.tw11463729818608716561 : Unit := ()
def PySem.W.Fast.tw6763324993540048733 : Unit := ()
def PySem.W.Fast.tw16070180978744079673 : Unit := ()
def PySem.W.Fast.tw14447949597191268935 : Unit := ()
def PySem.W.Fast.tw11593265475500989338 : Unit := ()
def PySem.W.Fast.tw783668454034558515 : Unit := ()
def PySem.W.Fast.tw11435679344624196756 : Unit := ()
def PySem.W.Fast.tw8422941158904338392 : Unit := ()
def PySem.W.Fast.tw3298323661805595298 : Unit := ()
def PySem.W.Fast.tw12928553930385126402 : Unit := ()
def PySem.W.Fast.tw1959682630590508141 : Unit := ()
def PySem.W.Fast.tw1649852141449562932 : Unit := ()
def PySem.W.Fast.tw3342578140981474428 : Unit := ()
def PySem.W.Fast.tw9847859322464251080 : Unit := ()
def PySem.W.Fast.tw13561531233775594459 : Unit := ()
def PySem.W.Fast.tw10427969462980771121 : Unit := ()
def PySem.W.Fast.tw14044239294605638637 : Unit := ()
def PySem.W.Fast.tw11239544294544759853 : Unit := ()
def PySem.W.Fast.tw5922678997786968127 : Unit := ()
def PySem.W.Fast.tw287774611552844652 : Unit := ()
def PySem.W.Fast.tw14766281334295634575 : Unit := ()
def PySem.W.Fast.tw1592146315568102466 : Unit := ()
def PySem.W.Fast.tw5653705169513318420 : Unit := ()
def PySem.W.Fast.tw13988412275278517366 : Unit := ()
def PySem.W.Fast.tw5917476694239706121 : Unit := ()
def PySem.W.Fast.tw15287591054545887755 : Unit := ()
def PySem.W.Fast.tw10624309030199426285 : Unit := ()
def PySem.W.Fast.tw16410014018857822792 : Unit := ()
def PySem.W.Fast.tw17491435570753871252 : Unit := ()
def PySem.W.Fast.tw10172107709028635340 : Unit := ()
def PySem.W.Fast.tw8523148328238357958 : Unit := ()
def PySem.W.Fast.tw8972713273347737109 : Unit := ()
def PySem.W.Fast.tw9600902328832858234 : Unit := ()
def PySem.W.Fast.tw10128030148783952711 : Unit := ()
def PySem.W.Fast.tw15304049554320803983 : Unit := ()
def PySem.W.Fast.tw2510592707616788442 : Unit := ()
def PySem.W.Fast.tw13077119971370507401 : Unit := ()
def PySem.W.Fast.tw15283598979041326562 : Unit := ()
def PySem.W.Fast.tw4174123747122556486 : Unit := ()
def PySem.W.Fast.tw12177880724341989614 : Unit := ()
def PySem.W.Fast.tw6596096851155378307 : Unit := ()
def PySem.W.Fast.tw1451429106494789105 : Unit := ()
def PySem.W.Fast.tw12151677158315070584 : Unit := ()
def PySem.W.Fast.tw1982048738428111820 : Unit := ()
def PySem.W.Fast.tw8438390603072451083 : Unit := ()
def PySem.W.Fast.tw10150654278345032731 : Unit := ()
def PySem.W.Fast.tw11865794681622626772 : Unit := ()
def PySem.W.Fast.tw1763268639688852286 : Unit := ()
def PySem.W.Fast.tw11211703750369220062 : Unit := ()
def PySem.W.Fast.tw5180246104329578867 : Unit := ()
def PySem.W.Fast.tw4172479454894096054 : Unit := ()
def PySem.W.Fast.tw4699267602510435261 : Unit := ()
def PySem.W.Fast.tw17165256896948098864 : Unit := ()
def PySem.W.Fast.tw1197236828751597119 : Unit := ()
def PySem.W.Fast.tw15559758282708103410 : Unit := ()
def PySem.W.Fast.tw10470708754305433993 : Unit := ()
def PySem.W.Fast.tw4369577845403550476 : Unit := ()
def PySem.W.Fast.tw3815763770693895033 : Unit := ()
def PySem.W.Fast.tw9121530620657058653 : Unit := ()
def PySem.W.Fast.tw12773310031153508672 : Unit := ()
def PySem.W.Fast.tw9308235680361295355 : Unit := ()
def PySem.W.Fast.tw4116184856447780140 : Unit := ()
def PySem.W.Fast.tw18022128553971437064 : Unit := ()
def PySem.W.Fast.tw16468278347681262115 : Unit := ()
def PySem.W.Fast.tw627037931211638337 : Unit := ()
def PySem.W.Fast.tw2261263973320655394 : Unit := ()
def PySem.W.Fast.tw2564349184405436621 : Unit := ()
def PySem.W.Fast.tw4157271488220455204 : Unit := ()
def PySem.W.Fast.tw4773272021523764079 : Unit := ()
def PySem.W.Fast.tw10310516176124988201 : Unit := ()
def PySem.W.Fast.tw5070261276416362811 : Unit := ()
def PySem.W.Fast.tw14777182738734751978 : Unit := ()
def PySem.W.Fast.tw1204108097237996520 : Unit := ()
def PySem.W.Fast.tw18024876461396225628 : Unit := ()
def PySem.W.Fast.tw6526375818583040515 : Unit := ()
def PySem.W.Fast.tw11486693419211454300 : Unit := ()
def PySem.W.Fast.tw15364593744556610892 : Unit := ()
def PySem.W.Fast.tw14513878192491999606 : Unit := ()
def PySem.W.Fast.tw8717245493773258578 : Unit := ()
def PySem.W.Fast.tw17234589352259797116 : Unit := ()
def PySem.W.Fast.tw17244242919977898508 : Unit := ()
def PySem.W.Fast.tw10142753133409124490 : Unit := ()
def PySem.W.Fast.tw17248743353131557473 : Unit := ()
def PySem.W.Fast.tw7048910912736367053 : Unit := ()
def PySem.W.Fast.tw4728074461851070794 : Unit := ()
def PySem.W.Fast.tw13578353157247494995 : Unit := ()
def PySem.W.Fast.tw11079154186834754747 : Unit := ()
def PySem.W.Fast.tw12856492110187233453 : Unit := ()
def PySem.W.Fast.tw16945660967073745316 : Unit := ()
def PySem.W.Fast.tw8240492754758806893 : Unit := ()
def PySem.W.Fast.tw11984616650190595579 : Unit := ()
def PySem.W.Fast.tw16472127647305316452 : Unit := ()
def PySem.W.Fast.tw9335043673938687581 : Unit := ()
def PySem.W.Fast.tw12022590642750271060 : Unit := ()
def PySem.W.Fast.tw14211815333624040291 : Unit := ()
def PySem.W.Fast.tw1589787994284950657 : Unit := ()
def PySem.W.Fast.tw938981507219380845 : Unit := ()
def PySem.W.Fast.tw11131228724234865658 : Unit := ()
def PySem.W.Fast.tw16777493414953462824 : Unit := ()
def PySem.W.Fast.tw15411092688215554698 : Unit := ()
def PySem.W.Fast.tw12749039256946957535 : Unit := ()
def PySem.W.Fast.tw14759228331343434071 : Unit := ()
def PySem.W.Fast.tw3081847171871382011 : Unit := ()
def PySem.W.Fast.tw1560654184842810006 : Unit := ()
def PySem.W.Fast.tw13868998251534763503 : Unit := ()
def PySem.W.Fast.tw11623898194096251174 : Unit := ()
def PySem.W.Fast.tw4596525792102113760 : Unit := ()
def PySem.W.Fast.tw417566377197437611 : Unit := ()
def PySem.W.Fast.tw10728334294655786813 : Unit := ()
def PySem.W.Fast.tw17442107453574717350 : Unit := ()
def PySem.W.Fast.tw132761614849197562 : Unit := ()
def PySem.W.Fast.tw2567874139249751291 : Unit := ()
def PySem.W.Fast.tw6314934561108973645 : Unit := ()
def PySem.W.Fast.tw4471295686240399627 : Unit := ()
def PySem.W.Fast.tw6451269930372250141 : Unit := ()
def PySem.W.Fast.tw1111756365530939529 : Unit := ()
def PySem.W.Fast.tw6030623074596978209 : Unit := ()
def PySem.W.Fast.tw13132885664490534859 : Unit := ()
def PySem.W.Fast.tw830873286855836999 : Unit := ()
def PySem.W.Fast.tw14599842193365834939 : Unit := ()
def PySem.W.Fast.tw755597237934691859 : Unit := ()
def PySem.W.Fast.tw16784305880497384885 : Unit := ()
def PySem.W.Fast.tw3979329367370033671 : Unit := ()
def PySem.W.Fast.tw8715497653970197562 : Unit := ()
def PySem.W.Fast.tw14607418794761903191 : Unit := ()
def PySem.W.Fast.tw12969655001968493663 : Unit := ()
def PySem.W.Fast.tw18236283488274560559 : Unit := ()
def PySem.W.Fast.tw2461417054770745891 : Unit := ()
def PySem.W.Fast.tw8096337801195329965 : Unit := ()
def PySem.W.Fast.tw16818916057012832420 : Unit := ()
def PySem.W.Fast.tw12235599152879352889 : Unit := ()
def PySem.W.Fast.tw16897537544981203896 : Unit := ()
def PySem.W.Fast.tw6908557940189367009 : Unit := ()
def PySem.W.Fast.tw8522383229725873137 : Unit := ()
def PySem.W.Fast.tw2868338672289382278 : Unit := ()
def PySem.W.Fast.tw6839602354472470466 : Unit := ()
def PySem.W.Fast.tw11389804938999241708 : Unit := ()
def PySem.W.Fast.tw11788983037013627002 : Unit := ()
def PySem.W.Fast.tw5905538374476950903 : Unit := ()
def PySem.W.Fast.tw14582473300796955669 : Unit := ()
def PySem.W.Fast.tw13275686866858022898 : Unit := ()
def PySem.W.Fast.tw16676201881948003163 : Unit := ()
def PySem.W.Fast.tw5329921269538222347 : Unit := ()
def PySem.W.Fast.tw12194226862226160530 : Unit := ()
def PySem.W.Fast.tw14641395057392626330 : Unit := ()
def PySem.W.Fast.tw8814197641662432581 : Unit := ()
def PySem.W.Fast.tw2932203795119848906 : Unit := ()
def PySem.W.Fast.tw7178144682095404904 : Unit := ()
def PySem.W.Fast.tw1058886180817271203 : Unit := ()
def PySem.W.Fast.tw11138668886102214763 : Unit := ()
def PySem.W.Fast.tw1665020737928774708 : Unit := ()
def PySem.W.Fast.tw10023848067534673742 : Unit := ()
def PySem.W.Fast.tw833052600204801287 : Unit := ()
def PySem.W.Fast.tw4022610331549371301 : Unit := ()
def PySem.W.Fast.tw6199749665002524176 : Unit := ()
def PySem.W.Fast.tw9417543557569797939 : Unit := ()
def PySem.W.Fast.tw3914052305253200066 : Unit := ()
def PySem.W.Fast.tw14802214774006357503 : Unit := ()
def PySem.W.Fast.tw16257093154162661291 : Unit := ()
def PySem.W.Fast.tw9047039889808838567 : Unit := ()
def PySem.W.Fast.tw407939653189549482 : Unit := ()
def PySem.W.Fast.tw10291382025786771266 : Unit := ()
def PySem.W.Fast.tw12362477616782462899 : Unit := ()
def PySem.W.Fast.tw7886875890730437305 : Unit := ()
def PySem.W.Fast.tw1473151541502424234 : Unit := ()
def PySem.W.Fast.tw14196682157596043288 : Unit := ()
def PySem.W.Fast.tw7861394434975332360 : Unit := ()
def PySem.W.Fast.tw1459685023736977123 : Unit := ()
def PySem.W.Fast.tw9038440600995221673 : Unit := ()
def PySem.W.Fast.tw202670576012801721 : Unit := ()
def PySem.W.Fast.tw14971381129239763240 : Unit := ()
def PySem.W.Fast.tw13070122776276905718 : Unit := ()
def PySem.W.Fast.tw10547068573685779184 : Unit := ()
def PySem.W.Fast.tw9580575650667533412 : Unit := ()
def PySem.W.Fast.tw5622323169847707001 : Unit := ()
def PySem.W.Fast.tw8571210795479554638 : Unit := ()
def PySem.W.Fast.tw1986965247549635133 : Unit := ()
def PySem.W.Fast.tw6961828517851293271 : Unit := ()
def PySem.W.Fast.tw2867448272679940630 : Unit := ()
def PySem.W.Fast.tw15053991811641486035 : Unit := ()
def PySem.W.Fast.tw8696795491611544000 : Unit := ()
def PySem.W.Fast.tw1242381375547076551 : Unit := ()
def PySem.W.Fast.tw8770811743339095293 : Unit := ()
def PySem.W.Fast.tw6139112075460049454 : Unit := ()
def PySem.W.Fast.tw2609808832117446264 : Unit := ()
def PySem.W.Fast.tw16739023488459991878 : Unit := ()
def PySem.W.Fast.tw891962075575213528 : Unit := ()
def PySem.W.Fast.tw9481852785119801286 : Unit := ()
def PySem.W.Fast.tw16445532299786901846 : Unit := ()
def PySem.W.Fast.tw18063060952107340533 : Unit := ()
def PySem.W.Fast.tw1158257209941318966 : Unit := ()
def PySem.W.Fast.tw11719521995028138243 : Unit := ()
def PySem.W.Fast.tw12810321335904882893 : Unit := ()
def PySem.W.Fast.tw40694661412211285 : Unit := ()
def PySem.W.Fast.tw5673046062375249007 : Unit := ()
def PySem.W.Fast.tw17101845447331922862 : Unit := ()
def PySem.W.Fast.tw11394197258381460834 : Unit := ()
def PySem.W.Fast.tw13115230603108455442 : Unit := ()
def PySem.W.Fast.tw481385788477383725 : Unit := ()
def PySem.W.Fast.tw14312287996632557084 : Unit := ()
def PySem.W.Fast.tw17000798421276342843 : Unit := ()
def PySem.W.Fast.tw12092386649324567213 : Unit := ()
def PySem.W.Fast.tw12061552982036595612 : Unit := ()
def PySem.W.Fast.tw5941480257554546289 : Unit := ()
def PySem.W.Fast.tw16885900907386769897 : Unit := ()
def PySem.W.Fast.tw8160178128849879875 : Unit := ()
def PySem.W.Fast.tw2478182772639415956 : Unit := ()
def PySem.W.Fast.tw12995858120127629776 : Unit := ()
def PySem.W.Fast.tw16186625204147181655 : Unit := ()
def PySem.W.Fast.tw5306285537941604367 : Unit := ()
def PySem.W.Fast.tw14546654384472773253 : Unit := ()
def PySem.W.Fast.tw166994904665669595 : Unit := ()
def PySem.W.Fast.tw5730581842317705224 : Unit := ()
def PySem.W.Fast.tw1116678164481074848 : Unit := ()
def PySem.W.Fast.tw8613693379567941684 : Unit := ()
def PySem.W.Fast.tw6977361283061738029 : Unit := ()
def PySem.W.Fast.tw10330018714575432730 : Unit := ()
def PySem.W.Fast.tw11091815748024939484 : Unit := ()
def PySem.W.Fast.tw9119202536898410846 : Unit := ()
def PySem.W.Fast.tw955797135736551512 : Unit := ()
def PySem.W.Fast.tw2106188809095024620 : Unit := ()
def PySem.W.Fast.tw3196453676305862555 : Unit := ()
def PySem.W.Fast.tw6308509409654191724 : Unit := ()
def PySem.W.Fast.tw2436934247513252469 : Unit := ()
def PySem.W.Fast.tw14615459141065175381 : Unit := ()
def PySem.W.Fast.tw4334497370888961475 : Unit := ()
def PySem.W.Fast.tw1797913979742563974 : Unit := ()
def PySem.W.Fast.tw2223035233227720293 : Unit := ()
def PySem.W.Fast.tw445225506551003163 : Unit := ()
def PySem.W.Fast.tw4515024074230763998 : Unit := ()
def PySem.W.Fast.tw4631675164819340274 : Unit := ()
def PySem.W.Fast.tw17754420602390887174 : Unit := ()
namespace R
open PySem L2 PyProof.Rows
section
variable {l : PySem.W.OpenLaw} {w : World} {K : PySem.W.Frag} {h : Heap} {mg : Str → Option Value}
set_option maxHeartbeats 0 in
theorem all_mk {fa f0 f1 f2 f3 f4 f5 f6 f7 f8 f9 f10 f11 f12 f13 f14 f15 f16 f17 f18 f19 f20 f21 f22 f23 f24 f25 f26 f27 f28 f29 f30 f31 f32 f33 f34 f35 f36 : Addr} {C_NoFraction C_NoPolynomial C_NoStretch C_NoRow C_NoPair C_NoBack C_NoForm C_NoParts C_NoDegree C_NoSteps C_NoBox C_NoGain C_NoText C_NoLine C_NoName C_NoDeed C_RestError : Addr} {od0 an0 : Option Addr} {sl0 : Array (Option Value)} {oc0 kV0 dc0 pm0 cd0 ct0 : Value} {od1 an1 : Option Addr} {sl1 : Array (Option Value)} {oc1 kV1 dc1 pm1 cd1 ct1 : Value} {od2 an2 : Option Addr} {sl2 : Array (Option Value)} {oc2 kV2 dc2 pm2 cd2 ct2 : Value} {od3 an3 : Option Addr} {sl3 : Array (Option Value)} {oc3 kV3 dc3 pm3 cd3 ct3 : Value} {od4 an4 : Option Addr} {sl4 : Array (Option Value)} {oc4 kV4 dc4 pm4 cd4 ct4 : Value} {od5 an5 : Option Addr} {sl5 : Array (Option Value)} {oc5 kV5 dc5 pm5 cd5 ct5 : Value} {od6 an6 : Option Addr} {sl6 : Array (Option Value)} {oc6 kV6 dc6 pm6 cd6 ct6 : Value} {od7 an7 : Option Addr} {sl7 : Array (Option Value)} {oc7 kV7 dc7 pm7 cd7 ct7 : Value} {od8 an8 : Option Addr} {sl8 : Array (Option Value)} {oc8 kV8 dc8 pm8 cd8 ct8 : Value} {od9 an9 : Option Addr} {sl9 : Array (Option Value)} {oc9 kV9 dc9 pm9 cd9 ct9 : Value} {od10 an10 : Option Addr} {sl10 : Array (Option Value)} {oc10 kV10 dc10 pm10 cd10 ct10 : Value} {od11 an11 : Option Addr} {sl11 : Array (Option Value)} {oc11 kV11 dc11 pm11 cd11 ct11 : Value} {od12 an12 : Option Addr} {sl12 : Array (Option Value)} {oc12 kV12 dc12 pm12 cd12 ct12 : Value} {od13 an13 : Option Addr} {sl13 : Array (Option Value)} {oc13 kV13 dc13 pm13 cd13 ct13 : Value} {od14 an14 : Option Addr} {sl14 : Array (Option Value)} {oc14 kV14 dc14 pm14 cd14 ct14 : Value} {od15 an15 : Option Addr} {sl15 : Array (Option Value)} {oc15 kV15 dc15 pm15 cd15 ct15 : Value} {od16 an16 : Option Addr} {sl16 : Array (Option Value)} {oc16 kV16 dc16 pm16 cd16 ct16 : Value} {od17 an17 : Option Addr} {sl17 : Array (Option Value)} {oc17 kV17 dc17 pm17 cd17 ct17 : Value} {od18 an18 : Option Addr} {sl18 : Array (Option Value)} {oc18 kV18 dc18 pm18 cd18 ct18 : Value} {od19 an19 : Option Addr} {sl19 : Array (Option Value)} {oc19 kV19 dc19 pm19 cd19 ct19 : Value} {od20 an20 : Option Addr} {sl20 : Array (Option Value)} {oc20 kV20 dc20 pm20 cd20 ct20 : Value} {od21 an21 : Option Addr} {sl21 : Array (Option Value)} {oc21 kV21 dc21 pm21 cd21 ct21 : Value} {od22 an22 : Option Addr} {sl22 : Array (Option Value)} {oc22 kV22 dc22 pm22 cd22 ct22 : Value} {od23 an23 : Option Addr} {sl23 : Array (Option Value)} {oc23 kV23 dc23 pm23 cd23 ct23 : Value} {od24 an24 : Option Addr} {sl24 : Array (Option Value)} {oc24 kV24 dc24 pm24 cd24 ct24 : Value} {od25 an25 : Option Addr} {sl25 : Array (Option Value)} {oc25 kV25 dc25 pm25 cd25 ct25 : Value} {od26 an26 : Option Addr} {sl26 : Array (Option Value)} {oc26 kV26 dc26 pm26 cd26 ct26 : Value} {od27 an27 : Option Addr} {sl27 : Array (Option Value)} {oc27 kV27 dc27 pm27 cd27 ct27 : Value} {od28 an28 : Option Addr} {sl28 : Array (Option Value)} {oc28 kV28 dc28 pm28 cd28 ct28 : Value} {od29 an29 : Option Addr} {sl29 : Array (Option Value)} {oc29 kV29 dc29 pm29 cd29 ct29 : Value} {od30 an30 : Option Addr} {sl30 : Array (Option Value)} {oc30 kV30 dc30 pm30 cd30 ct30 : Value} {od31 an31 : Option Addr} {sl31 : Array (Option Value)} {oc31 kV31 dc31 pm31 cd31 ct31 : Value} {od32 an32 : Option Addr} {sl32 : Array (Option Value)} {oc32 kV32 dc32 pm32 cd32 ct32 : Value} {od33 an33 : Option Addr} {sl33 : Array (Option Value)} {oc33 kV33 dc33 pm33 cd33 ct33 : Value} {od34 an34 : Option Addr} {sl34 : Array (Option Value)} {oc34 kV34 dc34 pm34 cd34 ct34 : Value} {od35 an35 : Option Addr} {sl35 : Array (Option Value)} {oc35 kV35 dc35 pm35 cd35 ct35 : Value} {od36 an36 : Option Addr} {sl36 : Array (Option Value)} {oc36 kV36 dc36 pm36 cd36 ct36 : Value} {t_SHORT : Tok} {t_LONG : Tok} {A_ONE : Addr} {td_ONE : Option Addr} {ts_ONE : Array (Option Value)} {tn_ONE : Nat} {tt0_ONE tt1_ONE : Tok}
    (X : K.In h) (G : h.Ns mainGlobals mg) (hfa : mg "law" = some (.ref fa))
    (a0 : PySem.W.nsIn K mainGlobals "_law_low" = some (some (.ref f0)))
    (l0 : K.lookup f0 = some ⟨oc0, od0, .func (PySem.W.fnOf "_law_low" "_law_low" (defArgs s__law_low) (defBody s__law_low) (defScope s__law_low) .none kV0 dc0 pm0 an0 cd0 ct0), sl0⟩)
    (c0 : PySem.W.codeIn K cd0 "_law_low" = true) (k0 : PySem.W.keepIn K (.ref f0) = true)
    (a1 : PySem.W.nsIn K mainGlobals "_law_urn" = some (some (.ref f1)))
    (l1 : K.lookup f1 = some ⟨oc1, od1, .func (PySem.W.fnOf "_law_urn" "_law_urn" (defArgs s__law_urn) (defBody s__law_urn) (defScope s__law_urn) .none kV1 dc1 pm1 an1 cd1 ct1), sl1⟩)
    (c1 : PySem.W.codeIn K cd1 "_law_urn" = true) (k1 : PySem.W.keepIn K (.ref f1) = true)
    (a2 : PySem.W.nsIn K mainGlobals "_law_draw" = some (some (.ref f2)))
    (l2 : K.lookup f2 = some ⟨oc2, od2, .func (PySem.W.fnOf "_law_draw" "_law_draw" (defArgs s__law_draw) (defBody s__law_draw) (defScope s__law_draw) .none kV2 dc2 pm2 an2 cd2 ct2), sl2⟩)
    (c2 : PySem.W.codeIn K cd2 "_law_draw" = true) (k2 : PySem.W.keepIn K (.ref f2) = true)
    (a3 : PySem.W.nsIn K mainGlobals "_law_kind" = some (some (.ref f3)))
    (l3 : K.lookup f3 = some ⟨oc3, od3, .func (PySem.W.fnOf "_law_kind" "_law_kind" (defArgs s__law_kind) (defBody s__law_kind) (defScope s__law_kind) .none kV3 dc3 pm3 an3 cd3 ct3), sl3⟩)
    (c3 : PySem.W.codeIn K cd3 "_law_kind" = true) (k3 : PySem.W.keepIn K (.ref f3) = true)
    (a4 : PySem.W.nsIn K mainGlobals "_law_number" = some (some (.ref f4)))
    (l4 : K.lookup f4 = some ⟨oc4, od4, .func (PySem.W.fnOf "_law_number" "_law_number" (defArgs s__law_number) (defBody s__law_number) (defScope s__law_number) .none kV4 dc4 pm4 an4 cd4 ct4), sl4⟩)
    (c4 : PySem.W.codeIn K cd4 "_law_number" = true) (k4 : PySem.W.keepIn K (.ref f4) = true)
    (a5 : PySem.W.nsIn K mainGlobals "_law_whole" = some (some (.ref f5)))
    (l5 : K.lookup f5 = some ⟨oc5, od5, .func (PySem.W.fnOf "_law_whole" "_law_whole" (defArgs s__law_whole) (defBody s__law_whole) (defScope s__law_whole) .none kV5 dc5 pm5 an5 cd5 ct5), sl5⟩)
    (c5 : PySem.W.codeIn K cd5 "_law_whole" = true) (k5 : PySem.W.keepIn K (.ref f5) = true)
    (a6 : PySem.W.nsIn K mainGlobals "_law_is_number" = some (some (.ref f6)))
    (l6 : K.lookup f6 = some ⟨oc6, od6, .func (PySem.W.fnOf "_law_is_number" "_law_is_number" (defArgs s__law_is_number) (defBody s__law_is_number) (defScope s__law_is_number) .none kV6 dc6 pm6 an6 cd6 ct6), sl6⟩)
    (c6 : PySem.W.codeIn K cd6 "_law_is_number" = true) (k6 : PySem.W.keepIn K (.ref f6) = true)
    (a7 : PySem.W.nsIn K mainGlobals "_law_other" = some (some (.ref f7)))
    (l7 : K.lookup f7 = some ⟨oc7, od7, .func (PySem.W.fnOf "_law_other" "_law_other" (defArgs s__law_other) (defBody s__law_other) (defScope s__law_other) .none kV7 dc7 pm7 an7 cd7 ct7), sl7⟩)
    (c7 : PySem.W.codeIn K cd7 "_law_other" = true) (k7 : PySem.W.keepIn K (.ref f7) = true)
    (a8 : PySem.W.nsIn K mainGlobals "_law_trim" = some (some (.ref f8)))
    (l8 : K.lookup f8 = some ⟨oc8, od8, .func (PySem.W.fnOf "_law_trim" "_law_trim" (defArgs s__law_trim) (defBody s__law_trim) (defScope s__law_trim) .none kV8 dc8 pm8 an8 cd8 ct8), sl8⟩)
    (c8 : PySem.W.codeIn K cd8 "_law_trim" = true) (k8 : PySem.W.keepIn K (.ref f8) = true)
    (a9 : PySem.W.nsIn K mainGlobals "_law_is_poly" = some (some (.ref f9)))
    (l9 : K.lookup f9 = some ⟨oc9, od9, .func (PySem.W.fnOf "_law_is_poly" "_law_is_poly" (defArgs s__law_is_poly) (defBody s__law_is_poly) (defScope s__law_is_poly) .none kV9 dc9 pm9 an9 cd9 ct9), sl9⟩)
    (c9 : PySem.W.codeIn K cd9 "_law_is_poly" = true) (k9 : PySem.W.keepIn K (.ref f9) = true)
    (a10 : PySem.W.nsIn K mainGlobals "_law_above" = some (some (.ref f10)))
    (l10 : K.lookup f10 = some ⟨oc10, od10, .func (PySem.W.fnOf "_law_above" "_law_above" (defArgs s__law_above) (defBody s__law_above) (defScope s__law_above) .none kV10 dc10 pm10 an10 cd10 ct10), sl10⟩)
    (c10 : PySem.W.codeIn K cd10 "_law_above" = true) (k10 : PySem.W.keepIn K (.ref f10) = true)
    (a11 : PySem.W.nsIn K mainGlobals "_law_plus" = some (some (.ref f11)))
    (l11 : K.lookup f11 = some ⟨oc11, od11, .func (PySem.W.fnOf "_law_plus" "_law_plus" (defArgs s__law_plus) (defBody s__law_plus) (defScope s__law_plus) .none kV11 dc11 pm11 an11 cd11 ct11), sl11⟩)
    (c11 : PySem.W.codeIn K cd11 "_law_plus" = true) (k11 : PySem.W.keepIn K (.ref f11) = true)
    (a12 : PySem.W.nsIn K mainGlobals "_law_times" = some (some (.ref f12)))
    (l12 : K.lookup f12 = some ⟨oc12, od12, .func (PySem.W.fnOf "_law_times" "_law_times" (defArgs s__law_times) (defBody s__law_times) (defScope s__law_times) .none kV12 dc12 pm12 an12 cd12 ct12), sl12⟩)
    (c12 : PySem.W.codeIn K cd12 "_law_times" = true) (k12 : PySem.W.keepIn K (.ref f12) = true)
    (a13 : PySem.W.nsIn K mainGlobals "_law_poly_times" = some (some (.ref f13)))
    (l13 : K.lookup f13 = some ⟨oc13, od13, .func (PySem.W.fnOf "_law_poly_times" "_law_poly_times" (defArgs s__law_poly_times) (defBody s__law_poly_times) (defScope s__law_poly_times) .none kV13 dc13 pm13 an13 cd13 ct13), sl13⟩)
    (c13 : PySem.W.codeIn K cd13 "_law_poly_times" = true) (k13 : PySem.W.keepIn K (.ref f13) = true)
    (a14 : PySem.W.nsIn K mainGlobals "common_divisor" = some (some (.ref f14)))
    (l14 : K.lookup f14 = some ⟨oc14, od14, .func (PySem.W.fnOf "common_divisor" "common_divisor" (defArgs s_common_divisor) (defBody s_common_divisor) (defScope s_common_divisor) .none kV14 dc14 pm14 an14 cd14 ct14), sl14⟩)
    (c14 : PySem.W.codeIn K cd14 "common_divisor" = true) (k14 : PySem.W.keepIn K (.ref f14) = true)
    (a15 : PySem.W.nsIn K mainGlobals "content_of" = some (some (.ref f15)))
    (l15 : K.lookup f15 = some ⟨oc15, od15, .func (PySem.W.fnOf "content_of" "content_of" (defArgs s_content_of) (defBody s_content_of) (defScope s_content_of) .none kV15 dc15 pm15 an15 cd15 ct15), sl15⟩)
    (c15 : PySem.W.codeIn K cd15 "content_of" = true) (k15 : PySem.W.keepIn K (.ref f15) = true)
    (a16 : PySem.W.nsIn K mainGlobals "cleared" = some (some (.ref f16)))
    (l16 : K.lookup f16 = some ⟨oc16, od16, .func (PySem.W.fnOf "cleared" "cleared" (defArgs s_cleared) (defBody s_cleared) (defScope s_cleared) .none kV16 dc16 pm16 an16 cd16 ct16), sl16⟩)
    (c16 : PySem.W.codeIn K cd16 "cleared" = true) (k16 : PySem.W.keepIn K (.ref f16) = true)
    (a17 : PySem.W.nsIn K mainGlobals "lifted" = some (some (.ref f17)))
    (l17 : K.lookup f17 = some ⟨oc17, od17, .func (PySem.W.fnOf "lifted" "lifted" (defArgs s_lifted) (defBody s_lifted) (defScope s_lifted) .none kV17 dc17 pm17 an17 cd17 ct17), sl17⟩)
    (c17 : PySem.W.codeIn K cd17 "lifted" = true) (k17 : PySem.W.keepIn K (.ref f17) = true)
    (a18 : PySem.W.nsIn K mainGlobals "divisor_for_all" = some (some (.ref f18)))
    (l18 : K.lookup f18 = some ⟨oc18, od18, .func (PySem.W.fnOf "divisor_for_all" "divisor_for_all" (defArgs s_divisor_for_all) (defBody s_divisor_for_all) (defScope s_divisor_for_all) .none kV18 dc18 pm18 an18 cd18 ct18), sl18⟩)
    (c18 : PySem.W.codeIn K cd18 "divisor_for_all" = true) (k18 : PySem.W.keepIn K (.ref f18) = true)
    (a19 : PySem.W.nsIn K mainGlobals "lowered" = some (some (.ref f19)))
    (l19 : K.lookup f19 = some ⟨oc19, od19, .func (PySem.W.fnOf "lowered" "lowered" (defArgs s_lowered) (defBody s_lowered) (defScope s_lowered) .none kV19 dc19 pm19 an19 cd19 ct19), sl19⟩)
    (c19 : PySem.W.codeIn K cd19 "lowered" = true) (k19 : PySem.W.keepIn K (.ref f19) = true)
    (a20 : PySem.W.nsIn K mainGlobals "trimmed" = some (some (.ref f20)))
    (l20 : K.lookup f20 = some ⟨oc20, od20, .func (PySem.W.fnOf "trimmed" "trimmed" (defArgs s_trimmed) (defBody s_trimmed) (defScope s_trimmed) .none kV20 dc20 pm20 an20 cd20 ct20), sl20⟩)
    (c20 : PySem.W.codeIn K cd20 "trimmed" = true) (k20 : PySem.W.keepIn K (.ref f20) = true)
    (a21 : PySem.W.nsIn K mainGlobals "whole_divided" = some (some (.ref f21)))
    (l21 : K.lookup f21 = some ⟨oc21, od21, .func (PySem.W.fnOf "whole_divided" "whole_divided" (defArgs s_whole_divided) (defBody s_whole_divided) (defScope s_whole_divided) .none kV21 dc21 pm21 an21 cd21 ct21), sl21⟩)
    (c21 : PySem.W.codeIn K cd21 "whole_divided" = true) (k21 : PySem.W.keepIn K (.ref f21) = true)
    (a22 : PySem.W.nsIn K mainGlobals "whole_scaled" = some (some (.ref f22)))
    (l22 : K.lookup f22 = some ⟨oc22, od22, .func (PySem.W.fnOf "whole_scaled" "whole_scaled" (defArgs s_whole_scaled) (defBody s_whole_scaled) (defScope s_whole_scaled) .none kV22 dc22 pm22 an22 cd22 ct22), sl22⟩)
    (c22 : PySem.W.codeIn K cd22 "whole_scaled" = true) (k22 : PySem.W.keepIn K (.ref f22) = true)
    (a23 : PySem.W.nsIn K mainGlobals "whole_sum" = some (some (.ref f23)))
    (l23 : K.lookup f23 = some ⟨oc23, od23, .func (PySem.W.fnOf "whole_sum" "whole_sum" (defArgs s_whole_sum) (defBody s_whole_sum) (defScope s_whole_sum) .none kV23 dc23 pm23 an23 cd23 ct23), sl23⟩)
    (c23 : PySem.W.codeIn K cd23 "whole_sum" = true) (k23 : PySem.W.keepIn K (.ref f23) = true)
    (a24 : PySem.W.nsIn K mainGlobals "whole_less" = some (some (.ref f24)))
    (l24 : K.lookup f24 = some ⟨oc24, od24, .func (PySem.W.fnOf "whole_less" "whole_less" (defArgs s_whole_less) (defBody s_whole_less) (defScope s_whole_less) .none kV24 dc24 pm24 an24 cd24 ct24), sl24⟩)
    (c24 : PySem.W.codeIn K cd24 "whole_less" = true) (k24 : PySem.W.keepIn K (.ref f24) = true)
    (a25 : PySem.W.nsIn K mainGlobals "whole_over" = some (some (.ref f25)))
    (l25 : K.lookup f25 = some ⟨oc25, od25, .func (PySem.W.fnOf "whole_over" "whole_over" (defArgs s_whole_over) (defBody s_whole_over) (defScope s_whole_over) .none kV25 dc25 pm25 an25 cd25 ct25), sl25⟩)
    (c25 : PySem.W.codeIn K cd25 "whole_over" = true) (k25 : PySem.W.keepIn K (.ref f25) = true)
    (a26 : PySem.W.nsIn K mainGlobals "over_content" = some (some (.ref f26)))
    (l26 : K.lookup f26 = some ⟨oc26, od26, .func (PySem.W.fnOf "over_content" "over_content" (defArgs s_over_content) (defBody s_over_content) (defScope s_over_content) .none kV26 dc26 pm26 an26 cd26 ct26), sl26⟩)
    (c26 : PySem.W.codeIn K cd26 "over_content" = true) (k26 : PySem.W.keepIn K (.ref f26) = true)
    (a27 : PySem.W.nsIn K mainGlobals "whole_slope" = some (some (.ref f27)))
    (l27 : K.lookup f27 = some ⟨oc27, od27, .func (PySem.W.fnOf "whole_slope" "whole_slope" (defArgs s_whole_slope) (defBody s_whole_slope) (defScope s_whole_slope) .none kV27 dc27 pm27 an27 cd27 ct27), sl27⟩)
    (c27 : PySem.W.codeIn K cd27 "whole_slope" = true) (k27 : PySem.W.keepIn K (.ref f27) = true)
    (a28 : PySem.W.nsIn K mainGlobals "whole_common" = some (some (.ref f28)))
    (l28 : K.lookup f28 = some ⟨oc28, od28, .func (PySem.W.fnOf "whole_common" "whole_common" (defArgs s_whole_common) (defBody s_whole_common) (defScope s_whole_common) .none kV28 dc28 pm28 an28 cd28 ct28), sl28⟩)
    (c28 : PySem.W.codeIn K cd28 "whole_common" = true) (k28 : PySem.W.keepIn K (.ref f28) = true)
    (a29 : PySem.W.nsIn K mainGlobals "parted" = some (some (.ref f29)))
    (l29 : K.lookup f29 = some ⟨oc29, od29, .func (PySem.W.fnOf "parted" "parted" (defArgs s_parted) (defBody s_parted) (defScope s_parted) .none kV29 dc29 pm29 an29 cd29 ct29), sl29⟩)
    (c29 : PySem.W.codeIn K cd29 "parted" = true) (k29 : PySem.W.keepIn K (.ref f29) = true)
    (a30 : PySem.W.nsIn K mainGlobals "_law_drawn_factor" = some (some (.ref f30)))
    (l30 : K.lookup f30 = some ⟨oc30, od30, .func (PySem.W.fnOf "_law_drawn_factor" "_law_drawn_factor" (defArgs s__law_drawn_factor) (defBody s__law_drawn_factor) (defScope s__law_drawn_factor) .none kV30 dc30 pm30 an30 cd30 ct30), sl30⟩)
    (c30 : PySem.W.codeIn K cd30 "_law_drawn_factor" = true) (k30 : PySem.W.keepIn K (.ref f30) = true)
    (a31 : PySem.W.nsIn K mainGlobals "_law_drawn_factors" = some (some (.ref f31)))
    (l31 : K.lookup f31 = some ⟨oc31, od31, .func (PySem.W.fnOf "_law_drawn_factors" "_law_drawn_factors" (defArgs s__law_drawn_factors) (defBody s__law_drawn_factors) (defScope s__law_drawn_factors) .none kV31 dc31 pm31 an31 cd31 ct31), sl31⟩)
    (c31 : PySem.W.codeIn K cd31 "_law_drawn_factors" = true) (k31 : PySem.W.keepIn K (.ref f31) = true)
    (a32 : PySem.W.nsIn K mainGlobals "_law_due" = some (some (.ref f32)))
    (l32 : K.lookup f32 = some ⟨oc32, od32, .func (PySem.W.fnOf "_law_due" "_law_due" (defArgs s__law_due) (defBody s__law_due) (defScope s__law_due) .none kV32 dc32 pm32 an32 cd32 ct32), sl32⟩)
    (c32 : PySem.W.codeIn K cd32 "_law_due" = true) (k32 : PySem.W.keepIn K (.ref f32) = true)
    (a33 : PySem.W.nsIn K mainGlobals "_law_which" = some (some (.ref f33)))
    (l33 : K.lookup f33 = some ⟨oc33, od33, .func (PySem.W.fnOf "_law_which" "_law_which" (defArgs s__law_which) (defBody s__law_which) (defScope s__law_which) .none kV33 dc33 pm33 an33 cd33 ct33), sl33⟩)
    (c33 : PySem.W.codeIn K cd33 "_law_which" = true) (k33 : PySem.W.keepIn K (.ref f33) = true)
    (a34 : PySem.W.nsIn K mainGlobals "_law_are_parts" = some (some (.ref f34)))
    (l34 : K.lookup f34 = some ⟨oc34, od34, .func (PySem.W.fnOf "_law_are_parts" "_law_are_parts" (defArgs s__law_are_parts) (defBody s__law_are_parts) (defScope s__law_are_parts) .none kV34 dc34 pm34 an34 cd34 ct34), sl34⟩)
    (c34 : PySem.W.codeIn K cd34 "_law_are_parts" = true) (k34 : PySem.W.keepIn K (.ref f34) = true)
    (a35 : PySem.W.nsIn K mainGlobals "_law_said" = some (some (.ref f35)))
    (l35 : K.lookup f35 = some ⟨oc35, od35, .func (PySem.W.fnOf "_law_said" "_law_said" (defArgs s__law_said) (defBody s__law_said) (defScope s__law_said) .none kV35 dc35 pm35 an35 cd35 ct35), sl35⟩)
    (c35 : PySem.W.codeIn K cd35 "_law_said" = true) (k35 : PySem.W.keepIn K (.ref f35) = true)
    (a36 : PySem.W.nsIn K mainGlobals "law" = some (some (.ref f36)))
    (l36 : K.lookup f36 = some ⟨oc36, od36, .func (PySem.W.fnOf "law" "law" (defArgs s_law) (defBody s_law) (defScope s_law) .none kV36 dc36 pm36 an36 cd36 ct36), sl36⟩)
    (c36 : PySem.W.codeIn K cd36 "law" = true) (k36 : PySem.W.keepIn K (.ref f36) = true)
    (z_ValueError : PySem.W.nsIn K mainGlobals "ValueError" = some none)
    (z_abs : PySem.W.nsIn K mainGlobals "abs" = some none)
    (z_all : PySem.W.nsIn K mainGlobals "all" = some none)
    (z_bool : PySem.W.nsIn K mainGlobals "bool" = some none)
    (z_enumerate : PySem.W.nsIn K mainGlobals "enumerate" = some none)
    (z_int : PySem.W.nsIn K mainGlobals "int" = some none)
    (z_isinstance : PySem.W.nsIn K mainGlobals "isinstance" = some none)
    (z_len : PySem.W.nsIn K mainGlobals "len" = some none)
    (z_list : PySem.W.nsIn K mainGlobals "list" = some none)
    (z_max : PySem.W.nsIn K mainGlobals "max" = some none)
    (z_min : PySem.W.nsIn K mainGlobals "min" = some none)
    (z_range : PySem.W.nsIn K mainGlobals "range" = some none)
    (z_tuple : PySem.W.nsIn K mainGlobals "tuple" = some none)
    (y_SHORT : PySem.W.nsIn K mainGlobals "SHORT" = some (some (.int 6000 t_SHORT)))
    (y_LONG : PySem.W.nsIn K mainGlobals "LONG" = some (some (.int 1000 t_LONG)))
    (y_ONE : PySem.W.nsIn K mainGlobals "ONE" = some (some (.ref A_ONE)))
    (u_ONE : K.lookup A_ONE = some ⟨.type "tuple", td_ONE, .seq #[.int 1 tt0_ONE, .int 1 tt1_ONE] tn_ONE, ts_ONE⟩)
    (m_NoFraction : PySem.W.nsIn K mainGlobals "NoFraction" = some (some (.ref C_NoFraction)))
    (x_NoFraction : PySem.W.excIn K C_NoFraction [.type "ValueError", .type "Exception", .type "BaseException", .type "object"] "ValueError.__new__" = true)
    (e_NoFraction : ExcCls K C_NoFraction)
    (m_NoPolynomial : PySem.W.nsIn K mainGlobals "NoPolynomial" = some (some (.ref C_NoPolynomial)))
    (x_NoPolynomial : PySem.W.excIn K C_NoPolynomial [.type "ValueError", .type "Exception", .type "BaseException", .type "object"] "ValueError.__new__" = true)
    (e_NoPolynomial : ExcCls K C_NoPolynomial)
    (m_NoStretch : PySem.W.nsIn K mainGlobals "NoStretch" = some (some (.ref C_NoStretch)))
    (x_NoStretch : PySem.W.excIn K C_NoStretch [.type "ValueError", .type "Exception", .type "BaseException", .type "object"] "ValueError.__new__" = true)
    (e_NoStretch : ExcCls K C_NoStretch)
    (m_NoRow : PySem.W.nsIn K mainGlobals "NoRow" = some (some (.ref C_NoRow)))
    (x_NoRow : PySem.W.excIn K C_NoRow [.type "ValueError", .type "Exception", .type "BaseException", .type "object"] "ValueError.__new__" = true)
    (e_NoRow : ExcCls K C_NoRow)
    (m_NoPair : PySem.W.nsIn K mainGlobals "NoPair" = some (some (.ref C_NoPair)))
    (x_NoPair : PySem.W.excIn K C_NoPair [.type "ValueError", .type "Exception", .type "BaseException", .type "object"] "ValueError.__new__" = true)
    (e_NoPair : ExcCls K C_NoPair)
    (m_NoBack : PySem.W.nsIn K mainGlobals "NoBack" = some (some (.ref C_NoBack)))
    (x_NoBack : PySem.W.excIn K C_NoBack [.type "ValueError", .type "Exception", .type "BaseException", .type "object"] "ValueError.__new__" = true)
    (e_NoBack : ExcCls K C_NoBack)
    (m_NoForm : PySem.W.nsIn K mainGlobals "NoForm" = some (some (.ref C_NoForm)))
    (x_NoForm : PySem.W.excIn K C_NoForm [.type "ValueError", .type "Exception", .type "BaseException", .type "object"] "ValueError.__new__" = true)
    (e_NoForm : ExcCls K C_NoForm)
    (m_NoParts : PySem.W.nsIn K mainGlobals "NoParts" = some (some (.ref C_NoParts)))
    (x_NoParts : PySem.W.excIn K C_NoParts [.type "ValueError", .type "Exception", .type "BaseException", .type "object"] "ValueError.__new__" = true)
    (e_NoParts : ExcCls K C_NoParts)
    (m_NoDegree : PySem.W.nsIn K mainGlobals "NoDegree" = some (some (.ref C_NoDegree)))
    (x_NoDegree : PySem.W.excIn K C_NoDegree [.type "ValueError", .type "Exception", .type "BaseException", .type "object"] "ValueError.__new__" = true)
    (e_NoDegree : ExcCls K C_NoDegree)
    (m_NoSteps : PySem.W.nsIn K mainGlobals "NoSteps" = some (some (.ref C_NoSteps)))
    (x_NoSteps : PySem.W.excIn K C_NoSteps [.type "ValueError", .type "Exception", .type "BaseException", .type "object"] "ValueError.__new__" = true)
    (e_NoSteps : ExcCls K C_NoSteps)
    (m_NoBox : PySem.W.nsIn K mainGlobals "NoBox" = some (some (.ref C_NoBox)))
    (x_NoBox : PySem.W.excIn K C_NoBox [.type "ValueError", .type "Exception", .type "BaseException", .type "object"] "ValueError.__new__" = true)
    (e_NoBox : ExcCls K C_NoBox)
    (m_NoGain : PySem.W.nsIn K mainGlobals "NoGain" = some (some (.ref C_NoGain)))
    (x_NoGain : PySem.W.excIn K C_NoGain [.type "ValueError", .type "Exception", .type "BaseException", .type "object"] "ValueError.__new__" = true)
    (e_NoGain : ExcCls K C_NoGain)
    (m_NoText : PySem.W.nsIn K mainGlobals "NoText" = some (some (.ref C_NoText)))
    (x_NoText : PySem.W.excIn K C_NoText [.type "ValueError", .type "Exception", .type "BaseException", .type "object"] "ValueError.__new__" = true)
    (e_NoText : ExcCls K C_NoText)
    (m_NoLine : PySem.W.nsIn K mainGlobals "NoLine" = some (some (.ref C_NoLine)))
    (x_NoLine : PySem.W.excIn K C_NoLine [.type "ValueError", .type "Exception", .type "BaseException", .type "object"] "ValueError.__new__" = true)
    (e_NoLine : ExcCls K C_NoLine)
    (m_NoName : PySem.W.nsIn K mainGlobals "NoName" = some (some (.ref C_NoName)))
    (x_NoName : PySem.W.excIn K C_NoName [.type "ValueError", .type "Exception", .type "BaseException", .type "object"] "ValueError.__new__" = true)
    (e_NoName : ExcCls K C_NoName)
    (m_NoDeed : PySem.W.nsIn K mainGlobals "NoDeed" = some (some (.ref C_NoDeed)))
    (x_NoDeed : PySem.W.excIn K C_NoDeed [.type "ValueError", .type "Exception", .type "BaseException", .type "object"] "ValueError.__new__" = true)
    (e_NoDeed : ExcCls K C_NoDeed)
    (m_RestError : PySem.W.nsIn K mainGlobals "RestError" = some (some (.ref C_RestError)))
    (x_RestError : PySem.W.excIn K C_RestError [.type "ValueError", .type "Exception", .type "BaseException", .type "object"] "ValueError.__new__" = true)
    (e_RestError : ExcCls K C_RestError)
    (kt_NoPolynomial : Kits K (⟨C_NoFraction, C_NoPolynomial, C_NoStretch, C_NoRow, C_NoPair, C_NoBack, C_NoForm, C_NoParts, C_NoDegree, C_NoSteps, C_NoBox, C_NoGain, C_NoText, C_NoLine, C_NoName, C_NoDeed, C_RestError⟩ : CAd) C_NoPolynomial 1) :
    ∃ fd : FuncData, (∀ (s : Shared) (v : Value), BindsTo s fd ⟨[v], []⟩ [("_law_script", v)]) ∧ ∀ base : Heap, K.In base → base.Ns mainGlobals mg → FnOk l.prog w K mg base CX0 7 fa fd ["_law_script"] (spLaw K) := by
  have e := hfa.symm.trans (PySem.W.mg_of X G a36)
  cases e
  have F__law_low := fun_mk (st := s__law_low) l0 c0 k0
  have b__law_low := F__law_low.binds (ps := ["_law_top", "_law_bottom"]) fun _ _ _ _ _ _ us hl => match us, hl with | [_, _], _ => rfl
  have d__law_low : Df K mg "_law_low" s__law_low ["_law_top", "_law_bottom"] f0 := ⟨⟨_, F__law_low, b__law_low⟩, PySem.W.mg_of X G a0⟩
  have F__law_urn := fun_mk (st := s__law_urn) l1 c1 k1
  have b__law_urn := F__law_urn.binds (ps := ["_law_script", "_law_at"]) fun _ _ _ _ _ _ us hl => match us, hl with | [_, _], _ => rfl
  have d__law_urn : Df K mg "_law_urn" s__law_urn ["_law_script", "_law_at"] f1 := ⟨⟨_, F__law_urn, b__law_urn⟩, PySem.W.mg_of X G a1⟩
  have F__law_draw := fun_mk (st := s__law_draw) l2 c2 k2
  have b__law_draw := F__law_draw.binds (ps := ["_law_urn_here", "_law_many"]) fun _ _ _ _ _ _ us hl => match us, hl with | [_, _], _ => rfl
  have d__law_draw : Df K mg "_law_draw" s__law_draw ["_law_urn_here", "_law_many"] f2 := ⟨⟨_, F__law_draw, b__law_draw⟩, PySem.W.mg_of X G a2⟩
  have F__law_kind := fun_mk (st := s__law_kind) l3 c3 k3
  have b__law_kind := F__law_kind.binds (ps := ["_law_urn_here"]) fun _ _ _ _ _ _ us hl => match us, hl with | [_], _ => rfl
  have d__law_kind : Df K mg "_law_kind" s__law_kind ["_law_urn_here"] f3 := ⟨⟨_, F__law_kind, b__law_kind⟩, PySem.W.mg_of X G a3⟩
  have F__law_number := fun_mk (st := s__law_number) l4 c4 k4
  have b__law_number := F__law_number.binds (ps := ["_law_urn_here", "_law_kind_here"]) fun _ _ _ _ _ _ us hl => match us, hl with | [_, _], _ => rfl
  have d__law_number : Df K mg "_law_number" s__law_number ["_law_urn_here", "_law_kind_here"] f4 := ⟨⟨_, F__law_number, b__law_number⟩, PySem.W.mg_of X G a4⟩
  have F__law_whole := fun_mk (st := s__law_whole) l5 c5 k5
  have b__law_whole := F__law_whole.binds (ps := ["_law_thing"]) fun _ _ _ _ _ _ us hl => match us, hl with | [_], _ => rfl
  have d__law_whole : Df K mg "_law_whole" s__law_whole ["_law_thing"] f5 := ⟨⟨_, F__law_whole, b__law_whole⟩, PySem.W.mg_of X G a5⟩
  have F__law_is_number := fun_mk (st := s__law_is_number) l6 c6 k6
  have b__law_is_number := F__law_is_number.binds (ps := ["_law_thing"]) fun _ _ _ _ _ _ us hl => match us, hl with | [_], _ => rfl
  have d__law_is_number : Df K mg "_law_is_number" s__law_is_number ["_law_thing"] f6 := ⟨⟨_, F__law_is_number, b__law_is_number⟩, PySem.W.mg_of X G a6⟩
  have F__law_other := fun_mk (st := s__law_other) l7 c7 k7
  have b__law_other := F__law_other.binds (ps := ["_law_urn_here", "_law_kind_here"]) fun _ _ _ _ _ _ us hl => match us, hl with | [_, _], _ => rfl
  have d__law_other : Df K mg "_law_other" s__law_other ["_law_urn_here", "_law_kind_here"] f7 := ⟨⟨_, F__law_other, b__law_other⟩, PySem.W.mg_of X G a7⟩
  have F__law_trim := fun_mk (st := s__law_trim) l8 c8 k8
  have b__law_trim := F__law_trim.binds (ps := ["_law_numbers"]) fun _ _ _ _ _ _ us hl => match us, hl with | [_], _ => rfl
  have d__law_trim : Df K mg "_law_trim" s__law_trim ["_law_numbers"] f8 := ⟨⟨_, F__law_trim, b__law_trim⟩, PySem.W.mg_of X G a8⟩
  have F__law_is_poly := fun_mk (st := s__law_is_poly) l9 c9 k9
  have b__law_is_poly := F__law_is_poly.binds (ps := ["_law_thing"]) fun _ _ _ _ _ _ us hl => match us, hl with | [_], _ => rfl
  have d__law_is_poly : Df K mg "_law_is_poly" s__law_is_poly ["_law_thing"] f9 := ⟨⟨_, F__law_is_poly, b__law_is_poly⟩, PySem.W.mg_of X G a9⟩
  have F__law_above := fun_mk (st := s__law_above) l10 c10 k10
  have b__law_above := F__law_above.binds (ps := ["_law_urn_here", "_law_kind_here"]) fun _ _ _ _ _ _ us hl => match us, hl with | [_, _], _ => rfl
  have d__law_above : Df K mg "_law_above" s__law_above ["_law_urn_here", "_law_kind_here"] f10 := ⟨⟨_, F__law_above, b__law_above⟩, PySem.W.mg_of X G a10⟩
  have F__law_plus := fun_mk (st := s__law_plus) l11 c11 k11
  have b__law_plus := F__law_plus.binds (ps := ["_law_one", "_law_other_here"]) fun _ _ _ _ _ _ us hl => match us, hl with | [_, _], _ => rfl
  have d__law_plus : Df K mg "_law_plus" s__law_plus ["_law_one", "_law_other_here"] f11 := ⟨⟨_, F__law_plus, b__law_plus⟩, PySem.W.mg_of X G a11⟩
  have F__law_times := fun_mk (st := s__law_times) l12 c12 k12
  have b__law_times := F__law_times.binds (ps := ["_law_one", "_law_other_here"]) fun _ _ _ _ _ _ us hl => match us, hl with | [_, _], _ => rfl
  have d__law_times : Df K mg "_law_times" s__law_times ["_law_one", "_law_other_here"] f12 := ⟨⟨_, F__law_times, b__law_times⟩, PySem.W.mg_of X G a12⟩
  have F__law_poly_times := fun_mk (st := s__law_poly_times) l13 c13 k13
  have b__law_poly_times := F__law_poly_times.binds (ps := ["_law_p", "_law_q"]) fun _ _ _ _ _ _ us hl => match us, hl with | [_, _], _ => rfl
  have d__law_poly_times : Df K mg "_law_poly_times" s__law_poly_times ["_law_p", "_law_q"] f13 := ⟨⟨_, F__law_poly_times, b__law_poly_times⟩, PySem.W.mg_of X G a13⟩
  have F_common_divisor := fun_mk (st := s_common_divisor) l14 c14 k14
  have b_common_divisor := F_common_divisor.binds (ps := ["one", "other"]) fun _ _ _ _ _ _ us hl => match us, hl with | [_, _], _ => rfl
  have d_common_divisor : Df K mg "common_divisor" s_common_divisor ["one", "other"] f14 := ⟨⟨_, F_common_divisor, b_common_divisor⟩, PySem.W.mg_of X G a14⟩
  have F_content_of := fun_mk (st := s_content_of) l15 c15 k15
  have b_content_of := F_content_of.binds (ps := ["wholes"]) fun _ _ _ _ _ _ us hl => match us, hl with | [_], _ => rfl
  have d_content_of : Df K mg "content_of" s_content_of ["wholes"] f15 := ⟨⟨_, F_content_of, b_content_of⟩, PySem.W.mg_of X G a15⟩
  have F_cleared := fun_mk (st := s_cleared) l16 c16 k16
  have b_cleared := F_cleared.binds (ps := ["numbers"]) fun _ _ _ _ _ _ us hl => match us, hl with | [_], _ => rfl
  have d_cleared : Df K mg "cleared" s_cleared ["numbers"] f16 := ⟨⟨_, F_cleared, b_cleared⟩, PySem.W.mg_of X G a16⟩
  have F_lifted := fun_mk (st := s_lifted) l17 c17 k17
  have b_lifted := F_lifted.binds (ps := ["p"]) fun _ _ _ _ _ _ us hl => match us, hl with | [_], _ => rfl
  have d_lifted : Df K mg "lifted" s_lifted ["p"] f17 := ⟨⟨_, F_lifted, b_lifted⟩, PySem.W.mg_of X G a17⟩
  have F_divisor_for_all := fun_mk (st := s_divisor_for_all) l18 c18 k18
  have b_divisor_for_all := F_divisor_for_all.binds (ps := ["wholes", "bottom"]) fun _ _ _ _ _ _ us hl => match us, hl with | [_, _], _ => rfl
  have d_divisor_for_all : Df K mg "divisor_for_all" s_divisor_for_all ["wholes", "bottom"] f18 := ⟨⟨_, F_divisor_for_all, b_divisor_for_all⟩, PySem.W.mg_of X G a18⟩
  have F_lowered := fun_mk (st := s_lowered) l19 c19 k19
  have b_lowered := F_lowered.binds (ps := ["scale", "wholes"]) fun _ _ _ _ _ _ us hl => match us, hl with | [_, _], _ => rfl
  have d_lowered : Df K mg "lowered" s_lowered ["scale", "wholes"] f19 := ⟨⟨_, F_lowered, b_lowered⟩, PySem.W.mg_of X G a19⟩
  have F_trimmed := fun_mk (st := s_trimmed) l20 c20 k20
  have b_trimmed := F_trimmed.binds (ps := ["wholes"]) fun _ _ _ _ _ _ us hl => match us, hl with | [_], _ => rfl
  have d_trimmed : Df K mg "trimmed" s_trimmed ["wholes"] f20 := ⟨⟨_, F_trimmed, b_trimmed⟩, PySem.W.mg_of X G a20⟩
  have F_whole_divided := fun_mk (st := s_whole_divided) l21 c21 k21
  have b_whole_divided := F_whole_divided.binds (ps := ["one", "other"]) fun _ _ _ _ _ _ us hl => match us, hl with | [_, _], _ => rfl
  have d_whole_divided : Df K mg "whole_divided" s_whole_divided ["one", "other"] f21 := ⟨⟨_, F_whole_divided, b_whole_divided⟩, PySem.W.mg_of X G a21⟩
  have F_whole_scaled := fun_mk (st := s_whole_scaled) l22 c22 k22
  have b_whole_scaled := F_whole_scaled.binds (ps := ["factor", "wholes"]) fun _ _ _ _ _ _ us hl => match us, hl with | [_, _], _ => rfl
  have d_whole_scaled : Df K mg "whole_scaled" s_whole_scaled ["factor", "wholes"] f22 := ⟨⟨_, F_whole_scaled, b_whole_scaled⟩, PySem.W.mg_of X G a22⟩
  have F_whole_sum := fun_mk (st := s_whole_sum) l23 c23 k23
  have b_whole_sum := F_whole_sum.binds (ps := ["one", "other"]) fun _ _ _ _ _ _ us hl => match us, hl with | [_, _], _ => rfl
  have d_whole_sum : Df K mg "whole_sum" s_whole_sum ["one", "other"] f23 := ⟨⟨_, F_whole_sum, b_whole_sum⟩, PySem.W.mg_of X G a23⟩
  have F_whole_less := fun_mk (st := s_whole_less) l24 c24 k24
  have b_whole_less := F_whole_less.binds (ps := ["one", "other"]) fun _ _ _ _ _ _ us hl => match us, hl with | [_, _], _ => rfl
  have d_whole_less : Df K mg "whole_less" s_whole_less ["one", "other"] f24 := ⟨⟨_, F_whole_less, b_whole_less⟩, PySem.W.mg_of X G a24⟩
  have F_whole_over := fun_mk (st := s_whole_over) l25 c25 k25
  have b_whole_over := F_whole_over.binds (ps := ["one", "other"]) fun _ _ _ _ _ _ us hl => match us, hl with | [_, _], _ => rfl
  have d_whole_over : Df K mg "whole_over" s_whole_over ["one", "other"] f25 := ⟨⟨_, F_whole_over, b_whole_over⟩, PySem.W.mg_of X G a25⟩
  have F_over_content := fun_mk (st := s_over_content) l26 c26 k26
  have b_over_content := F_over_content.binds (ps := ["wholes"]) fun _ _ _ _ _ _ us hl => match us, hl with | [_], _ => rfl
  have d_over_content : Df K mg "over_content" s_over_content ["wholes"] f26 := ⟨⟨_, F_over_content, b_over_content⟩, PySem.W.mg_of X G a26⟩
  have F_whole_slope := fun_mk (st := s_whole_slope) l27 c27 k27
  have b_whole_slope := F_whole_slope.binds (ps := ["wholes"]) fun _ _ _ _ _ _ us hl => match us, hl with | [_], _ => rfl
  have d_whole_slope : Df K mg "whole_slope" s_whole_slope ["wholes"] f27 := ⟨⟨_, F_whole_slope, b_whole_slope⟩, PySem.W.mg_of X G a27⟩
  have F_whole_common := fun_mk (st := s_whole_common) l28 c28 k28
  have b_whole_common := F_whole_common.binds (ps := ["one", "other"]) fun _ _ _ _ _ _ us hl => match us, hl with | [_, _], _ => rfl
  have d_whole_common : Df K mg "whole_common" s_whole_common ["one", "other"] f28 := ⟨⟨_, F_whole_common, b_whole_common⟩, PySem.W.mg_of X G a28⟩
  have F_parted := fun_mk (st := s_parted) l29 c29 k29
  have b_parted := F_parted.binds (ps := ["p"]) fun _ _ _ _ _ _ us hl => match us, hl with | [_], _ => rfl
  have d_parted : Df K mg "parted" s_parted ["p"] f29 := ⟨⟨_, F_parted, b_parted⟩, PySem.W.mg_of X G a29⟩
  have F__law_drawn_factor := fun_mk (st := s__law_drawn_factor) l30 c30 k30
  have b__law_drawn_factor := F__law_drawn_factor.binds (ps := ["_law_urn_here", "_law_kind_here"]) fun _ _ _ _ _ _ us hl => match us, hl with | [_, _], _ => rfl
  have d__law_drawn_factor : Df K mg "_law_drawn_factor" s__law_drawn_factor ["_law_urn_here", "_law_kind_here"] f30 := ⟨⟨_, F__law_drawn_factor, b__law_drawn_factor⟩, PySem.W.mg_of X G a30⟩
  have F__law_drawn_factors := fun_mk (st := s__law_drawn_factors) l31 c31 k31
  have b__law_drawn_factors := F__law_drawn_factors.binds (ps := ["_law_urn_here", "_law_kind_here"]) fun _ _ _ _ _ _ us hl => match us, hl with | [_, _], _ => rfl
  have d__law_drawn_factors : Df K mg "_law_drawn_factors" s__law_drawn_factors ["_law_urn_here", "_law_kind_here"] f31 := ⟨⟨_, F__law_drawn_factors, b__law_drawn_factors⟩, PySem.W.mg_of X G a31⟩
  have F__law_due := fun_mk (st := s__law_due) l32 c32 k32
  have b__law_due := F__law_due.binds (ps := ["_law_factors"]) fun _ _ _ _ _ _ us hl => match us, hl with | [_], _ => rfl
  have d__law_due : Df K mg "_law_due" s__law_due ["_law_factors"] f32 := ⟨⟨_, F__law_due, b__law_due⟩, PySem.W.mg_of X G a32⟩
  have F__law_which := fun_mk (st := s__law_which) l33 c33 k33
  have b__law_which := F__law_which.binds (ps := ["_law_e"]) fun _ _ _ _ _ _ us hl => match us, hl with | [_], _ => rfl
  have d__law_which : Df K mg "_law_which" s__law_which ["_law_e"] f33 := ⟨⟨_, F__law_which, b__law_which⟩, PySem.W.mg_of X G a33⟩
  have F__law_are_parts := fun_mk (st := s__law_are_parts) l34 c34 k34
  have b__law_are_parts := F__law_are_parts.binds (ps := ["_law_found"]) fun _ _ _ _ _ _ us hl => match us, hl with | [_], _ => rfl
  have d__law_are_parts : Df K mg "_law_are_parts" s__law_are_parts ["_law_found"] f34 := ⟨⟨_, F__law_are_parts, b__law_are_parts⟩, PySem.W.mg_of X G a34⟩
  have F__law_said := fun_mk (st := s__law_said) l35 c35 k35
  have b__law_said := F__law_said.binds (ps := ["_law_p"]) fun _ _ _ _ _ _ us hl => match us, hl with | [_], _ => rfl
  have d__law_said : Df K mg "_law_said" s__law_said ["_law_p"] f35 := ⟨⟨_, F__law_said, b__law_said⟩, PySem.W.mg_of X G a35⟩
  have F_law := fun_mk (st := s_law) l36 c36 k36
  have b_law := F_law.binds (ps := ["_law_script"]) fun _ _ _ _ _ _ us hl => match us, hl with | [_], _ => rfl
  have d_law : Df K mg "law" s_law ["_law_script"] fa := ⟨⟨_, F_law, b_law⟩, PySem.W.mg_of X G a36⟩
  have n_ValueError := PySem.W.mg_none_of X G z_ValueError
  have n_abs := PySem.W.mg_none_of X G z_abs
  have n_all := PySem.W.mg_none_of X G z_all
  have n_bool := PySem.W.mg_none_of X G z_bool
  have n_enumerate := PySem.W.mg_none_of X G z_enumerate
  have n_int := PySem.W.mg_none_of X G z_int
  have n_isinstance := PySem.W.mg_none_of X G z_isinstance
  have n_len := PySem.W.mg_none_of X G z_len
  have n_list := PySem.W.mg_none_of X G z_list
  have n_max := PySem.W.mg_none_of X G z_max
  have n_min := PySem.W.mg_none_of X G z_min
  have n_range := PySem.W.mg_none_of X G z_range
  have n_tuple := PySem.W.mg_none_of X G z_tuple
  have c_SHORT := PySem.W.mg_of X G y_SHORT
  have c_LONG := PySem.W.mg_of X G y_LONG
  have c_ONE := PySem.W.mg_of X G y_ONE
  have t_ONE : ∀ H : Hp, SqT K H A_ONE [.int 1, .int 1] := fun H => .inr ⟨_, _, _, u_ONE, rfl, rfl, (show 2 ≤ sizeLine by decide), (.cons ⟨_, rfl⟩ (.cons ⟨_, rfl⟩ .nil))⟩
  have X_NoFraction : ExT K mg "NoFraction" C_NoFraction := ⟨PySem.W.mg_of X G m_NoFraction, ⟨x_NoFraction⟩, e_NoFraction⟩
  have X_NoPolynomial : ExT K mg "NoPolynomial" C_NoPolynomial := ⟨PySem.W.mg_of X G m_NoPolynomial, ⟨x_NoPolynomial⟩, e_NoPolynomial⟩
  have X_NoStretch : ExT K mg "NoStretch" C_NoStretch := ⟨PySem.W.mg_of X G m_NoStretch, ⟨x_NoStretch⟩, e_NoStretch⟩
  have X_NoRow : ExT K mg "NoRow" C_NoRow := ⟨PySem.W.mg_of X G m_NoRow, ⟨x_NoRow⟩, e_NoRow⟩
  have X_NoPair : ExT K mg "NoPair" C_NoPair := ⟨PySem.W.mg_of X G m_NoPair, ⟨x_NoPair⟩, e_NoPair⟩
  have X_NoBack : ExT K mg "NoBack" C_NoBack := ⟨PySem.W.mg_of X G m_NoBack, ⟨x_NoBack⟩, e_NoBack⟩
  have X_NoForm : ExT K mg "NoForm" C_NoForm := ⟨PySem.W.mg_of X G m_NoForm, ⟨x_NoForm⟩, e_NoForm⟩
  have X_NoParts : ExT K mg "NoParts" C_NoParts := ⟨PySem.W.mg_of X G m_NoParts, ⟨x_NoParts⟩, e_NoParts⟩
  have X_NoDegree : ExT K mg "NoDegree" C_NoDegree := ⟨PySem.W.mg_of X G m_NoDegree, ⟨x_NoDegree⟩, e_NoDegree⟩
  have X_NoSteps : ExT K mg "NoSteps" C_NoSteps := ⟨PySem.W.mg_of X G m_NoSteps, ⟨x_NoSteps⟩, e_NoSteps⟩
  have X_NoBox : ExT K mg "NoBox" C_NoBox := ⟨PySem.W.mg_of X G m_NoBox, ⟨x_NoBox⟩, e_NoBox⟩
  have X_NoGain : ExT K mg "NoGain" C_NoGain := ⟨PySem.W.mg_of X G m_NoGain, ⟨x_NoGain⟩, e_NoGain⟩
  have X_NoText : ExT K mg "NoText" C_NoText := ⟨PySem.W.mg_of X G m_NoText, ⟨x_NoText⟩, e_NoText⟩
  have X_NoLine : ExT K mg "NoLine" C_NoLine := ⟨PySem.W.mg_of X G m_NoLine, ⟨x_NoLine⟩, e_NoLine⟩
  have X_NoName : ExT K mg "NoName" C_NoName := ⟨PySem.W.mg_of X G m_NoName, ⟨x_NoName⟩, e_NoName⟩
  have X_NoDeed : ExT K mg "NoDeed" C_NoDeed := ⟨PySem.W.mg_of X G m_NoDeed, ⟨x_NoDeed⟩, e_NoDeed⟩
  have X_RestError : ExT K mg "RestError" C_RestError := ⟨PySem.W.mg_of X G m_RestError, ⟨x_RestError⟩, e_RestError⟩
  have XX : XTx K mg (⟨C_NoFraction, C_NoPolynomial, C_NoStretch, C_NoRow, C_NoPair, C_NoBack, C_NoForm, C_NoParts, C_NoDegree, C_NoSteps, C_NoBox, C_NoGain, C_NoText, C_NoLine, C_NoName, C_NoDeed, C_RestError⟩ : CAd) := ⟨X_NoFraction, X_NoPolynomial, X_NoStretch, X_NoRow, X_NoPair, X_NoBack, X_NoForm, X_NoParts, X_NoDegree, X_NoSteps, X_NoBox, X_NoGain, X_NoText, X_NoLine, X_NoName, X_NoDeed⟩
  refine ⟨PySem.W.fnOf "law" "law" (defArgs s_law) (defBody s_law) (defScope s_law) .none kV36 dc36 pm36 an36 cd36 ct36, fun s v => .of_eq rfl, fun base _ _ => ?_⟩
  have G__law_low := ok__law_low (P := l.prog) (w := w) (base := base) d__law_low n_abs
  have G__law_urn := ok__law_urn (P := l.prog) (w := w) (base := base) d__law_urn n_len n_abs
  have G__law_draw := ok__law_draw (P := l.prog) (w := w) (base := base) d__law_draw
  have G__law_kind := ok__law_kind (P := l.prog) (w := w) (base := base) d__law_kind G__law_draw
  have G__law_whole := ok__law_whole (P := l.prog) (w := w) (base := base) d__law_whole n_isinstance n_int n_bool
  have G__law_is_number := ok__law_is_number (P := l.prog) (w := w) (base := base) d__law_is_number G__law_whole G__law_low n_isinstance n_tuple n_len
  have G__law_trim := ok__law_trim (P := l.prog) (w := w) (base := base) d__law_trim n_list
  have G__law_is_poly := ok__law_is_poly (P := l.prog) (w := w) (base := base) d__law_is_poly G__law_is_number G__law_trim n_isinstance n_list n_all
  have GD__law_number := okD__law_number (P := l.prog) (w := w) (base := base) d__law_number G__law_draw G__law_low n_int
  have GD__law_other := okD__law_other (P := l.prog) (w := w) (base := base) d__law_other G__law_draw GD__law_number
  have G__law_above := ok__law_above (P := l.prog) (w := w) (base := base) d__law_above GD__law_other n_abs
  have G__law_plus := ok__law_plus (P := l.prog) (w := w) (base := base) d__law_plus G__law_low
  have G__law_times := ok__law_times (P := l.prog) (w := w) (base := base) d__law_times G__law_low
  have G__law_poly_times := ok__law_poly_times (P := l.prog) (w := w) (base := base) d__law_poly_times G__law_plus G__law_times G__law_trim n_len n_enumerate
  have G_common_divisor := ok_common_divisor (P := l.prog) (w := w) (base := base) d_common_divisor ⟨_, c_SHORT⟩ n_abs
  have G_content_of := ok_content_of (P := l.prog) (w := w) (base := base) d_content_of G_common_divisor
  have G_cleared := ok_cleared (P := l.prog) (w := w) (base := base) d_cleared G_common_divisor
  have GD_lifted := okD_lifted (P := l.prog) (w := w) (base := base) d_lifted G_cleared G_content_of c_ONE t_ONE
  have G_divisor_for_all := ok_divisor_for_all (P := l.prog) (w := w) (base := base) d_divisor_for_all G_common_divisor c_LONG n_max
  have G_lowered := ok_lowered (P := l.prog) (w := w) (base := base) d_lowered G_divisor_for_all G_common_divisor
  have G_trimmed := ok_trimmed (P := l.prog) (w := w) (base := base) d_trimmed n_len
  have GD_whole_divided := okD_whole_divided (P := l.prog) (w := w) (base := base) d_whole_divided G_trimmed n_len n_max n_list n_abs n_enumerate
  have G_whole_scaled := ok_whole_scaled (P := l.prog) (w := w) (base := base) d_whole_scaled G_trimmed
  have G_whole_sum := ok_whole_sum (P := l.prog) (w := w) (base := base) d_whole_sum G_trimmed n_len n_list n_enumerate
  have G_whole_less := ok_whole_less (P := l.prog) (w := w) (base := base) d_whole_less G_whole_sum G_whole_scaled
  have G_whole_over := ok_whole_over (P := l.prog) (w := w) (base := base) d_whole_over GD_whole_divided
  have G_over_content := ok_over_content (P := l.prog) (w := w) (base := base) d_over_content G_content_of n_list
  have G_whole_slope := ok_whole_slope (P := l.prog) (w := w) (base := base) d_whole_slope n_len n_range
  have G_whole_common := ok_whole_common (P := l.prog) (w := w) (base := base) d_whole_common GD_whole_divided G_over_content G_whole_scaled
  have G_parted := ok_parted (P := l.prog) (w := w) (base := base) d_parted GD_lifted G_whole_slope G_whole_common G_whole_over G_whole_less G_lowered X_NoPolynomial n_len
  have G__law_drawn_factor := ok__law_drawn_factor (P := l.prog) (w := w) (base := base) d__law_drawn_factor G__law_draw GD__law_number G__law_above G__law_plus G__law_times
  have G__law_drawn_factors := ok__law_drawn_factors (P := l.prog) (w := w) (base := base) d__law_drawn_factors G__law_draw G__law_drawn_factor n_range n_len
  have G__law_due := ok__law_due (P := l.prog) (w := w) (base := base) d__law_due G__law_poly_times n_range n_len
  have G__law_which := ok__law_which (P := l.prog) (w := w) (base := base) d__law_which XX n_isinstance n_ValueError
  have G__law_are_parts := ok__law_are_parts (P := l.prog) (w := w) (base := base) d__law_are_parts G__law_is_poly G__law_whole n_isinstance n_list n_tuple n_len
  have G__law_said := ok__law_said (P := l.prog) (w := w) (base := base) d__law_said G_parted G__law_which X_RestError kt_NoPolynomial
  exact ok_law (P := l.prog) (w := w) (base := base) F_law G__law_urn G__law_kind G__law_drawn_factors GD__law_other G__law_poly_times G__law_due G__law_said G__law_are_parts n_range n_max n_min n_len n_list
end
theorem walk {l : PySem.W.OpenLaw} {q : Program} {loose : List Str} {XP : (Str → Option Value) → Heap → Prop} {YP : World → Heap → Prop} {d : DefRec} {K : Params → PySem.W.Frag} (hn : l.most = some 63) (hdf : d.params.defaults = [])
    (hY : ∀ (w : World) (h : Heap), YP w h → (K w.params).In h)
    (F : ∀ (w : World) (mg : Str → Option Value) (fa : Addr) (h : Heap), (K w.params).In h → h.Ns mainGlobals mg → mg d.name = some (.ref fa) →
      ∃ fd : FuncData, (∀ (s : Shared) (u : Value), BindsTo s fd ⟨[u], []⟩ [("_law_script", u)]) ∧ ∀ base : Heap, (K w.params).In base → base.Ns mainGlobals mg → FnOk l.prog w (K w.params) mg base CX0 7 fa fd ["_law_script"] (spLaw (K w.params))) :
    PySem.W.WalkO q loose XP YP l.row.toRowW d [] (fun f vs => PySem.call f vs) :=
  L2.walk_of (n := 63) (k := 7) (x := "_law_script") (CX := fun _ => CX0) (sp := fun w => spLaw (K w.params)) hn (by decide) hdf ⟨rfl, by decide, by decide⟩ hY F (fun _ _ a ns hl _ hS => ⟨a, ns, rfl, hS, hl, fun _ => rfl⟩) fun _ _ _ _ _ z => z
end R
open PySem PySem.W PyProof.Rows
set_option maxRecDepth 100000 in
set_option maxHeartbeats 0 in
theorem PySem.Challenge.cw_restward_k06_parts_told_holds : PySem.Challenge.rw_restward_k06_parts_told.Holds := by
  w_on; o_law; k_head; (case hw => w_witness2)
  k_fill
  refine R.walk (l := PySem.Challenge.rw_restward_k06_parts_told) rfl rfl (fun w h Y => PySem.W.kIn_of Y) ?F
  case F =>
    intro w mg fa h KX G hmg
    refine' R.all_mk KX G hmg ?a0 ?l0 ?c0 ?k0 ?a1 ?l1 ?c1 ?k1 ?a2 ?l2 ?c2 ?k2 ?a3 ?l3 ?c3 ?k3 ?a4 ?l4 ?c4 ?k4 ?a5 ?l5 ?c5 ?k5 ?a6 ?l6 ?c6 ?k6 ?a7 ?l7 ?c7 ?k7 ?a8 ?l8 ?c8 ?k8 ?a9 ?l9 ?c9 ?k9 ?a10 ?l10 ?c10 ?k10 ?a11 ?l11 ?c11 ?k11 ?a12 ?l12 ?c12 ?k12 ?a13 ?l13 ?c13 ?k13 ?a14 ?l14 ?c14 ?k14 ?a15 ?l15 ?c15 ?k15 ?a16 ?l16 ?c16 ?k16 ?a17 ?l17 ?c17 ?k17 ?a18 ?l18 ?c18 ?k18 ?a19 ?l19 ?c19 ?k19 ?a20 ?l20 ?c20 ?k20 ?a21 ?l21 ?c21 ?k21 ?a22 ?l22 ?c22 ?k22 ?a23 ?l23 ?c23 ?k23 ?a24 ?l24 ?c24 ?k24 ?a25 ?l25 ?c25 ?k25 ?a26 ?l26 ?c26 ?k26 ?a27 ?l27 ?c27 ?k27 ?a28 ?l28 ?c28 ?k28 ?a29 ?l29 ?c29 ?k29 ?a30 ?l30 ?c30 ?k30 ?a31 ?l31 ?c31 ?k31 ?a32 ?l32 ?c32 ?k32 ?a33 ?l33 ?c33 ?k33 ?a34 ?l34 ?c34 ?k34 ?a35 ?l35 ?c35 ?k35 ?a36 ?l36 ?c36 ?k36 ?z_ValueError ?z_abs ?z_all ?z_bool ?z_enumerate ?z_int ?z_isinstance ?z_len ?z_list ?z_max ?z_min ?z_range ?z_tuple ?y_SHORT ?y_LONG ?y_ONE ?u_ONE ?m_NoFraction ?x_NoFraction ?e_NoFraction ?m_NoPolynomial ?x_NoPolynomial ?e_NoPolynomial ?m_NoStretch ?x_NoStretch ?e_NoStretch ?m_NoRow ?x_NoRow ?e_NoRow ?m_NoPair ?x_NoPair ?e_NoPair ?m_NoBack ?x_NoBack ?e_NoBack ?m_NoForm ?x_NoForm ?e_NoForm ?m_NoParts ?x_NoParts ?e_NoParts ?m_NoDegree ?x_NoDegree ?e_NoDegree ?m_NoSteps ?x_NoSteps ?e_NoSteps ?m_NoBox ?x_NoBox ?e_NoBox ?m_NoGain ?x_NoGain ?e_NoGain ?m_NoText ?x_NoText ?e_NoText ?m_NoLine ?x_NoLine ?e_NoLine ?m_NoName ?x_NoName ?e_NoName ?m_NoDeed ?x_NoDeed ?e_NoDeed ?m_RestError ?x_RestError ?e_RestError ?kt_NoPolynomial
    (case a0 => k_is); (case l0 => k_is); (case c0 => k_is); (case k0 => k_is)
    (case a1 => k_is); (case l1 => k_is); (case c1 => k_is); (case k1 => k_is)
    (case a2 => k_is); (case l2 => k_is); (case c2 => k_is); (case k2 => k_is)
    (case a3 => k_is); (case l3 => k_is); (case c3 => k_is); (case k3 => k_is)
    (case a4 => k_is); (case l4 => k_is); (case c4 => k_is); (case k4 => k_is)
    (case a5 => k_is); (case l5 => k_is); (case c5 => k_is); (case k5 => k_is)
    (case a6 => k_is); (case l6 => k_is); (case c6 => k_is); (case k6 => k_is)
    (case a7 => k_is); (case l7 => k_is); (case c7 => k_is); (case k7 => k_is)
    (case a8 => k_is); (case l8 => k_is); (case c8 => k_is); (case k8 => k_is)
    (case a9 => k_is); (case l9 => k_is); (case c9 => k_is); (case k9 => k_is)
    (case a10 => k_is); (case l10 => k_is); (case c10 => k_is); (case k10 => k_is)
    (case a11 => k_is); (case l11 => k_is); (case c11 => k_is); (case k11 => k_is)
    (case a12 => k_is); (case l12 => k_is); (case c12 => k_is); (case k12 => k_is)
    (case a13 => k_is); (case l13 => k_is); (case c13 => k_is); (case k13 => k_is)
    (case a14 => k_is); (case l14 => k_is); (case c14 => k_is); (case k14 => k_is)
    (case a15 => k_is); (case l15 => k_is); (case c15 => k_is); (case k15 => k_is)
    (case a16 => k_is); (case l16 => k_is); (case c16 => k_is); (case k16 => k_is)
    (case a17 => k_is); (case l17 => k_is); (case c17 => k_is); (case k17 => k_is)
    (case a18 => k_is); (case l18 => k_is); (case c18 => k_is); (case k18 => k_is)
    (case a19 => k_is); (case l19 => k_is); (case c19 => k_is); (case k19 => k_is)
    (case a20 => k_is); (case l20 => k_is); (case c20 => k_is); (case k20 => k_is)
    (case a21 => k_is); (case l21 => k_is); (case c21 => k_is); (case k21 => k_is)
    (case a22 => k_is); (case l22 => k_is); (case c22 => k_is); (case k22 => k_is)
    (case a23 => k_is); (case l23 => k_is); (case c23 => k_is); (case k23 => k_is)
    (case a24 => k_is); (case l24 => k_is); (case c24 => k_is); (case k24 => k_is)
    (case a25 => k_is); (case l25 => k_is); (case c25 => k_is); (case k25 => k_is)
    (case a26 => k_is); (case l26 => k_is); (case c26 => k_is); (case k26 => k_is)
    (case a27 => k_is); (case l27 => k_is); (case c27 => k_is); (case k27 => k_is)
    (case a28 => k_is); (case l28 => k_is); (case c28 => k_is); (case k28 => k_is)
    (case a29 => k_is); (case l29 => k_is); (case c29 => k_is); (case k29 => k_is)
    (case a30 => k_is); (case l30 => k_is); (case c30 => k_is); (case k30 => k_is)
    (case a31 => k_is); (case l31 => k_is); (case c31 => k_is); (case k31 => k_is)
    (case a32 => k_is); (case l32 => k_is); (case c32 => k_is); (case k32 => k_is)
    (case a33 => k_is); (case l33 => k_is); (case c33 => k_is); (case k33 => k_is)
    (case a34 => k_is); (case l34 => k_is); (case c34 => k_is); (case k34 => k_is)
    (case a35 => k_is); (case l35 => k_is); (case c35 => k_is); (case k35 => k_is)
    (case a36 => k_is); (case l36 => k_is); (case c36 => k_is); (case k36 => k_is)
    (case z_ValueError => k_is)
    (case z_abs => k_is)
    (case z_all => k_is)
    (case z_bool => k_is)
    (case z_enumerate => k_is)
    (case z_int => k_is)
    (case z_isinstance => k_is)
    (case z_len => k_is)
    (case z_list => k_is)
    (case z_max => k_is)
    (case z_min => k_is)
    (case z_range => k_is)
    (case z_tuple => k_is)
    (case y_SHORT => k_is)
    (case y_LONG => k_is)
    (case y_ONE => k_is); (case u_ONE => k_is)
    (case m_NoFraction => k_is); (case x_NoFraction => k_exc); (case e_NoFraction => (refine ⟨?_, ?_, ?_, ?_, ?_, ?_⟩ <;> first | k_is | kernel_rfl))
    (case m_NoPolynomial => k_is); (case x_NoPolynomial => k_exc); (case e_NoPolynomial => (refine ⟨?_, ?_, ?_, ?_, ?_, ?_⟩ <;> first | k_is | kernel_rfl))
    (case m_NoStretch => k_is); (case x_NoStretch => k_exc); (case e_NoStretch => (refine ⟨?_, ?_, ?_, ?_, ?_, ?_⟩ <;> first | k_is | kernel_rfl))
    (case m_NoRow => k_is); (case x_NoRow => k_exc); (case e_NoRow => (refine ⟨?_, ?_, ?_, ?_, ?_, ?_⟩ <;> first | k_is | kernel_rfl))
    (case m_NoPair => k_is); (case x_NoPair => k_exc); (case e_NoPair => (refine ⟨?_, ?_, ?_, ?_, ?_, ?_⟩ <;> first | k_is | kernel_rfl))
    (case m_NoBack => k_is); (case x_NoBack => k_exc); (case e_NoBack => (refine ⟨?_, ?_, ?_, ?_, ?_, ?_⟩ <;> first | k_is | kernel_rfl))
    (case m_NoForm => k_is); (case x_NoForm => k_exc); (case e_NoForm => (refine ⟨?_, ?_, ?_, ?_, ?_, ?_⟩ <;> first | k_is | kernel_rfl))
    (case m_NoParts => k_is); (case x_NoParts => k_exc); (case e_NoParts => (refine ⟨?_, ?_, ?_, ?_, ?_, ?_⟩ <;> first | k_is | kernel_rfl))
    (case m_NoDegree => k_is); (case x_NoDegree => k_exc); (case e_NoDegree => (refine ⟨?_, ?_, ?_, ?_, ?_, ?_⟩ <;> first | k_is | kernel_rfl))
    (case m_NoSteps => k_is); (case x_NoSteps => k_exc); (case e_NoSteps => (refine ⟨?_, ?_, ?_, ?_, ?_, ?_⟩ <;> first | k_is | kernel_rfl))
    (case m_NoBox => k_is); (case x_NoBox => k_exc); (case e_NoBox => (refine ⟨?_, ?_, ?_, ?_, ?_, ?_⟩ <;> first | k_is | kernel_rfl))
    (case m_NoGain => k_is); (case x_NoGain => k_exc); (case e_NoGain => (refine ⟨?_, ?_, ?_, ?_, ?_, ?_⟩ <;> first | k_is | kernel_rfl))
    (case m_NoText => k_is); (case x_NoText => k_exc); (case e_NoText => (refine ⟨?_, ?_, ?_, ?_, ?_, ?_⟩ <;> first | k_is | kernel_rfl))
    (case m_NoLine => k_is); (case x_NoLine => k_exc); (case e_NoLine => (refine ⟨?_, ?_, ?_, ?_, ?_, ?_⟩ <;> first | k_is | kernel_rfl))
    (case m_NoName => k_is); (case x_NoName => k_exc); (case e_NoName => (refine ⟨?_, ?_, ?_, ?_, ?_, ?_⟩ <;> first | k_is | kernel_rfl))
    (case m_NoDeed => k_is); (case x_NoDeed => k_exc); (case e_NoDeed => (refine ⟨?_, ?_, ?_, ?_, ?_, ?_⟩ <;> first | k_is | kernel_rfl))
    (case m_RestError => k_is); (case x_RestError => k_exc); (case e_RestError => (refine ⟨?_, ?_, ?_, ?_, ?_, ?_⟩ <;> first | k_is | kernel_rfl))
    (case kt_NoPolynomial => (refine ⟨?_, ?_, ?_, ?_, ?_, ?_, ?_, ?_, ?_, ?_, ?_, ?_, ?_, ?_, ?_, ?_, ?_, ?_, ?_⟩ <;> first | kernel_rfl | (refine ⟨?_, ?_, ?_, ?_, ?_, ?_⟩ <;> first | k_is | kernel_rfl)))
